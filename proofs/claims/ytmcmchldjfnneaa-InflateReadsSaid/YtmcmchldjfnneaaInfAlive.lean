/- The document's examples of layer 6. -/
import Derived.Test.YtmcmchldjfnneaaInfPure
namespace Go.Proofs.Ytmcmchldjfnneaa
open Go.RowKit

theorem lit8 (w : World) (C : Array Value) (l : List Nat) (hc : C.toList = l.map fun (x : Nat) => Value.int .u8 (x : Int)) (hl : l.length ≤ 1000) : SlI (w.alloc (.cells C 5)) .u8 (some ⟨w.heap.size, 0, none⟩) l :=
  SlI.new w C 5 (0, 0) .u8 l hc (by unfold maxLen; omega)
/-- a reading that is right -/
theorem read_yes {p : Option Addr} {d : Nat} {b T : List Nat} {lim k : Nat} {w : World} (hb : SlI w .u8 p b) (h8 : ∀ x ∈ b, x < 256) (hp : p = none → d = 0) (hL : b.length ≤ 140737488355328) (hl : lim ≤ 1048576) (hx : infl b lim = .ok T k) :
    Calls Try.prog 9 #[.slice p b.length d, .int .i64 (lim : Nat)] w fun e w' => ∃ q c, e = .returned (.tuple #[.slice q T.length c, .int .i64 (upN k / 8 : Nat), .int .i64 0]) ∧ Fr S0 w w' ∧ w'.ownsRow 0 5 1 (.slice q T.length c) T.length (u8s T) ∧ Fresh w (.slice q T.length c) := by
  refine (read_ok p d b lim w hb h8 hp hL hl).mono ?_
  rintro e w' ⟨hf, h⟩
  rw [hx] at h
  obtain ⟨v, rfl, hv⟩ := h
  obtain ⟨q, c, rfl, -, -, -⟩ := slForm hv.own
  exact ⟨q, c, rfl, hf, hv.own, hv.fresh⟩
theorem read_no {p : Option Addr} {d : Nat} {b : List Nat} {lim m : Nat} {w : World} (hb : SlI w .u8 p b) (h8 : ∀ x ∈ b, x < 256) (hp : p = none → d = 0) (hL : b.length ≤ 140737488355328) (hl : lim ≤ 1048576) (hx : infl b lim = .no m) :
    Calls Try.prog 9 #[.slice p b.length d, .int .i64 (lim : Nat)] w fun e w' => e = .returned (.tuple #[.slice none 0 0, .int .i64 0, .int .i64 (m : Nat)]) ∧ Fr S0 w w' := by
  refine (read_ok p d b lim w hb h8 hp hL hl).mono ?_
  rintro e w' ⟨hf, h⟩
  rw [hx] at h
  exact ⟨h, hf⟩
theorem str97 : strB [97] = ⟨#[97]⟩ := by decide

set_option maxRecDepth 100000 in
set_option maxHeartbeats 2000000 in
theorem alive_any (w : World) : Calls Try.prog 8 #[] w fun e w' => e = .returned (.bool true) ∧ Fr S0 w w' := by
  have R1 : Hid (∀ W, Calls Try.prog 9 #[.slice (some ⟨W.heap.size, 0, none⟩) 2 2, .int .i64 9] (W.alloc (.cells #[.int .u8 3, .int .u8 0] 5)) fun e w' => ∃ q c, e = .returned (.tuple #[.slice q 0 c, .int .i64 2, .int .i64 0]) ∧ Fr S0 W w') := Lib.hid (fun W =>
    (read_yes (d := 2) (lit8 W _ [3, 0] rfl (by decide)) (by decide) (fun h => by cases h) (by decide) (by decide) ex1).mono fun e w' ⟨q, c, h1, h2, _⟩ => ⟨q, c, h1, (Fr.alloc S0 W _).trans0 h2⟩)
  have R2 : Hid (∀ W, Calls Try.prog 9 #[.slice (some ⟨W.heap.size, 0, none⟩) 6 6, .int .i64 9] (W.alloc (.cells #[.int .u8 1, .int .u8 1, .int .u8 0, .int .u8 254, .int .u8 255, .int .u8 97] 5)) fun e w' => ∃ q c, e = .returned (.tuple #[.slice q 1 c, .int .i64 6, .int .i64 0]) ∧ Fr S0 W w' ∧ w'.ownsRow 0 5 1 (.slice q 1 c) 1 (u8s [97])) := Lib.hid (fun W =>
    (read_yes (d := 6) (lit8 W _ [1, 1, 0, 254, 255, 97] rfl (by decide)) (by decide) (fun h => by cases h) (by decide) (by decide) ex2).mono fun e w' ⟨q, c, h1, h2, h3, _⟩ => ⟨q, c, h1, (Fr.alloc S0 W _).trans0 h2, h3⟩)
  have R3 : Hid (∀ W, Calls Try.prog 9 #[.slice (some ⟨W.heap.size, 0, none⟩) 1 1, .int .i64 9] (W.alloc (.cells #[.int .u8 7] 5)) fun e w' => e = .returned (.tuple #[.slice none 0 0, .int .i64 0, .int .i64 60]) ∧ Fr S0 W w') := Lib.hid (fun W =>
    (read_no (d := 1) (lit8 W _ [7] rfl (by decide)) (by decide) (fun h => by cases h) (by decide) (by decide) ex3).mono fun e w' ⟨h1, h2⟩ => ⟨h1, (Fr.alloc S0 W _).trans0 h2⟩)
  have RB : Hid (∀ W, Calls Try.prog 11 #[.int .i64 265] W fun e w' => e = .returned (.tuple #[.int .i64 11, .int .i64 1]) ∧ W = w') := Lib.hid (fun W => base_any 265 W (by decide) (by decide))
  have RF : Hid (∀ W, Calls Try.prog 13 #[.int .i64 4] W fun e w' => e = .returned (.tuple #[.int .i64 5, .int .i64 1]) ∧ W = w') := Lib.hid (fun W => far_any 4 W (by decide))
  go_enter Try.func8, Try.ntmps8
  go_wp2_with fail
  refine (R1.out w).mono ?_
  rintro e w1 ⟨q1, c1, rfl, f1⟩
  go_wp2_with fail
  refine (R2.out w1).mono ?_
  rintro e w2 ⟨q2, c2, rfl, f2, own⟩
  go_wp2_with fail
  refine (R3.out w2).mono ?_
  rintro e w3 ⟨rfl, f3⟩
  have k1 := conv_own (bs := [97]) (f3.owns own (fun _ _ h => h))
  rw [str97] at k1
  have HF := Lib.hid ((f1.trans0 f2).trans0 f3)
  clear f1 f2 f3 own R1 R2 R3
  have k2 : (convert 22 9 (.slice q2 1 c2)).run Try.prog w3 = .ok (.string ⟨#[97]⟩) w3 := k1
  clear k1
  go_wp2_with fail
  refine (RB.out w3).mono ?_
  rintro e w' ⟨rfl, rfl⟩
  go_wp2_with fail
  refine (RF.out w3).mono ?_
  rintro e w' ⟨rfl, rfl⟩
  go_wp2_with fail
  go_ret
  exact ⟨rfl, HF.out⟩
theorem start (w : World) (R) (h : ∀ w1, Fr S0 w w1 → R (.returned (.bool true)) w1) : Calls Try.prog 8 #[] w R :=
  (alive_any w).mono fun e w1 he => by rw [he.1]; exact h w1 he.2
end Go.Proofs.Ytmcmchldjfnneaa
