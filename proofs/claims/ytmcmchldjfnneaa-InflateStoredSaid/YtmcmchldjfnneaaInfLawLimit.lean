/- InflateLimit. -/
import Derived.Test.YtmcmchldjfnneaaInfErr
namespace Go.Proofs.Ytmcmchldjfnneaa
open Go.RowKit

/-- Read, as it is called: right -/
theorem read_at {p : Option Addr} {d : Nat} {b T : List Nat} {lim k : Nat} {L U : Int} {w : World} (hb : SlI w .u8 p b) (h8 : ∀ x ∈ b, x < 256) (hp : p = none → d = 0) (hL : b.length ≤ 140737488355328) (hl : lim ≤ 1048576) (hx : infl b lim = .ok T k) (eL : (lim : Int) = L) (eU : ((upN k / 8 : Nat) : Int) = U) :
    ∀ W, Fr S0 w W → Calls Try.prog 9 #[.slice p b.length d, .int .i64 L] W fun e w' => ∃ q c, e = .returned (.tuple #[.slice q T.length c, .int .i64 U, .int .i64 0]) ∧ Fr S0 W w' ∧ w'.ownsRow 0 5 1 (.slice q T.length c) T.length (u8s T) := fun W f => by
  subst eL eU
  exact (read_yes (hb.fr0 f) h8 hp hL hl hx).mono fun e w' ⟨q, c, h1, h2, h3, _⟩ => ⟨q, c, h1, h2, h3⟩
theorem read_not {p : Option Addr} {d : Nat} {b : List Nat} {lim m : Nat} {L M : Int} {w : World} (hb : SlI w .u8 p b) (h8 : ∀ x ∈ b, x < 256) (hp : p = none → d = 0) (hL : b.length ≤ 140737488355328) (hl : lim ≤ 1048576) (hx : infl b lim = .no m) (eL : (lim : Int) = L) (eM : (m : Int) = M) :
    ∀ W, Fr S0 w W → Calls Try.prog 9 #[.slice p b.length d, .int .i64 L] W fun e w' => e = .returned (.tuple #[.slice none 0 0, .int .i64 0, .int .i64 M]) ∧ Fr S0 W w' := fun W f => by
  subst eL eM
  exact read_no (hb.fr0 f) h8 hp hL hl hx

set_option maxRecDepth 100000 in
set_option maxHeartbeats 1000000 in
theorem lim_far (p : Option Addr) (n d lim more : Nat) (w : World) (hn : ¬ n ≤ 2000) :
    Calls Try.prog 4 #[.slice p n d, .int .u16 (lim : Nat), .int .u16 (more : Nat)] w fun e w' => e = .returned (.bool true) ∧ Fr S0 w w' := by
  go_enter Try.func4, Try.ntmps4
  go_wp2_with fail
  refine start w _ fun w1 f1 => ?_
  go_wp2_with fail
  go_ret
  exact ⟨rfl, f1⟩
set_option maxRecDepth 100000 in
set_option maxHeartbeats 1000000 in
theorem lim_no (p : Option Addr) (d lim more m : Nat) (b : List Nat) (w : World) (hb : SlI w .u8 p b) (h8 : ∀ x ∈ b, x < 256) (hp : p = none → d = 0) (hL : b.length ≤ 2000) (hl : lim < 65536) (hx : infl b lim = .no m) :
    Calls Try.prog 4 #[.slice p b.length d, .int .u16 (lim : Nat), .int .u16 (more : Nat)] w fun e w' => e = .returned (.bool true) ∧ Fr S0 w w' := by
  have R := Lib.hid (read_not hb h8 hp (by omega) (by omega) hx rfl rfl)
  have hm := infl_nz b lim m hx
  clear hx hb h8
  have hm2 : ¬ (m : Int) = 0 := by omega
  go_enter Try.func4, Try.ntmps4
  go_wp2_with fail
  refine start w _ fun w1 f1 => ?_
  go_wp2_with fail
  refine (R.out w1 f1).mono ?_
  rintro e w2 ⟨rfl, f2⟩
  have HF := Lib.hid (f1.trans0 f2)
  clear f1 f2 R
  go_wp2_with fail
  go_ret
  exact ⟨rfl, HF.out⟩
set_option maxRecDepth 100000 in
set_option maxHeartbeats 2000000 in
theorem lim_nil (p : Option Addr) (d lim more k : Nat) (b T : List Nat) (n : Nat) (hT : T.length = n) (w : World) (hb : SlI w .u8 p b) (h8 : ∀ x ∈ b, x < 256) (hp : p = none → d = 0) (hL : b.length ≤ 2000) (hl : lim < 65536) (hm : more < 65536) (hx : infl b lim = .ok T k) (h0 : T = []) :
    Calls Try.prog 4 #[.slice p b.length d, .int .u16 (lim : Nat), .int .u16 (more : Nat)] w fun e w' => e = .returned (.bool true) ∧ Fr S0 w w' := by
  obtain ⟨q1, q2, q3⟩ := infl_lim hx
  obtain ⟨q4, -, -⟩ := infl_behind hx
  obtain ⟨U, hU⟩ : ∃ U : Nat, upN k / 8 = U := ⟨_, rfl⟩
  have hU2 : U ≤ b.length := by unfold upN at hU; omega
  have R1 := Lib.hid (read_at (U := U) hb h8 hp (by omega) (by omega) hx rfl (by rw [hU]))
  have R2 := Lib.hid (read_at (U := U) (L := (lim : Int) + (more : Int)) hb h8 hp (by omega) (by omega) (q2 (lim + more) (by omega)) (by omega) (by rw [hU]))
  have R3 := Lib.hid (read_at (U := U) (L := 0) hb h8 hp (by omega) (by omega) (q2 0 (by rw [h0]; exact Nat.le_refl _)) (by omega) (by rw [hU]))
  subst h0
  clear hx hb h8 q1 q2 q3 q4 hU hT
  go_enter Try.func4, Try.ntmps4
  go_wp2_with fail
  refine start w _ fun w1 f1 => ?_
  go_wp2_with fail
  refine (R1.out w1 f1).mono ?_
  rintro e w2 ⟨p2, c2, rfl, f2, o2⟩
  have g2 := f1.trans0 f2
  clear f1 f2 R1
  go_wp2_with fail
  refine (R2.out w2 g2).mono ?_
  rintro e w3 ⟨p3, c3, rfl, f3, o3⟩
  have g3 := g2.trans0 f3
  replace o2 := f3.owns o2 (fun _ _ h => h)
  clear g2 f3 R2
  go_wp2_with fail
  refine (R3.out w3 g3).mono ?_
  rintro e w4 ⟨p4, c4, rfl, f4, o4⟩
  have HF := Lib.hid (g3.trans0 f4)
  have k2 : (convert 22 9 (.slice p2 0 c2)).run Try.prog w4 = .ok (.string (strB [])) w4 := conv_own (bs := []) (f4.owns o2 (fun _ _ h => h))
  have k3 : (convert 22 9 (.slice p3 0 c3)).run Try.prog w4 = .ok (.string (strB [])) w4 := conv_own (bs := []) (f4.owns o3 (fun _ _ h => h))
  have k4 : (convert 22 9 (.slice p4 0 c4)).run Try.prog w4 = .ok (.string (strB [])) w4 := conv_own (bs := []) o4
  clear g3 f4 R3 o2 o3 o4
  go_wp2_with fail
  go_ret
  exact ⟨rfl, HF.out⟩
set_option maxRecDepth 100000 in
set_option maxHeartbeats 2000000 in
theorem lim_ok (p : Option Addr) (d lim more k : Nat) (b T : List Nat) (w : World) (hb : SlI w .u8 p b) (h8 : ∀ x ∈ b, x < 256) (hp : p = none → d = 0) (hL : b.length ≤ 2000) (hl : lim < 65536) (hm : more < 65536) (hx : infl b lim = .ok T k) (h0 : T ≠ []) :
    Calls Try.prog 4 #[.slice p b.length d, .int .u16 (lim : Nat), .int .u16 (more : Nat)] w fun e w' => e = .returned (.bool true) ∧ Fr S0 w w' := by
  obtain ⟨q1, q2, q3⟩ := infl_lim hx
  obtain ⟨q4, -, -⟩ := infl_behind hx
  obtain ⟨U, hU⟩ : ∃ U : Nat, upN k / 8 = U := ⟨_, rfl⟩
  have hU2 : U ≤ b.length := by unfold upN at hU; omega
  have hT : 0 < T.length := List.length_pos_iff.2 h0
  have R1 := Lib.hid (read_at (U := U) hb h8 hp (by omega) (by omega) hx rfl (by rw [hU]))
  have R2 := Lib.hid (read_at (U := U) (L := (lim : Int) + (more : Int)) hb h8 hp (by omega) (by omega) (q2 (lim + more) (by omega)) (by omega) (by rw [hU]))
  have R3 := Lib.hid (read_at (U := U) (L := (T.length : Int)) hb h8 hp (by omega) (by omega) (q2 T.length (by omega)) rfl (by rw [hU]))
  have R4 := Lib.hid (read_not (M := 64) (L := (T.length : Int) - 1) hb h8 hp (by omega) (by omega) (q3 (T.length - 1) (by omega)) (by omega) rfl)
  clear hx hb h8 q2 q3 q4 hU h0
  go_enter Try.func4, Try.ntmps4
  go_wp2_with fail
  refine start w _ fun w1 f1 => ?_
  go_wp2_with fail
  refine (R1.out w1 f1).mono ?_
  rintro e w2 ⟨p2, c2, rfl, f2, o2⟩
  have g2 := f1.trans0 f2
  clear f1 f2 R1
  go_wp2_with fail
  refine (R2.out w2 g2).mono ?_
  rintro e w3 ⟨p3, c3, rfl, f3, o3⟩
  have g3 := g2.trans0 f3
  replace o2 := f3.owns o2 (fun _ _ h => h)
  clear g2 f3 R2
  go_wp2_with fail
  refine (R3.out w3 g3).mono ?_
  rintro e w4 ⟨p4, c4, rfl, f4, o4⟩
  have g4 := g3.trans0 f4
  replace o2 := f4.owns o2 (fun _ _ h => h)
  replace o3 := f4.owns o3 (fun _ _ h => h)
  clear g3 f4 R3
  go_wp2_with fail
  refine (R4.out w4 g4).mono ?_
  rintro e w5 ⟨rfl, f5⟩
  have HF := Lib.hid (g4.trans0 f5)
  have k2 := conv_own (f5.owns o2 (fun _ _ h => h))
  have k3 := conv_own (f5.owns o3 (fun _ _ h => h))
  have k4 := conv_own (f5.owns o4 (fun _ _ h => h))
  clear g4 f5 R4 o2 o3 o4
  go_wp2_with fail
  go_ret
  exact ⟨rfl, HF.out⟩
theorem law_limit (p : Option Addr) (d lim more : Nat) (b : List Nat) (w : World) (hb : SlI w .u8 p b) (h8 : ∀ x ∈ b, x < 256) (hp : p = none → d = 0) (hl : lim < 65536) (hm : more < 65536) :
    Calls Try.prog 4 #[.slice p b.length d, .int .u16 (lim : Nat), .int .u16 (more : Nat)] w fun e w' => e = .returned (.bool true) ∧ Fr S0 w w' := by
  by_cases hL : b.length ≤ 2000
  · cases hx : infl b lim with
    | no m => exact lim_no p d lim more m b w hb h8 hp hL hl hx
    | ok T k =>
      by_cases h0 : T = []
      · exact lim_nil p d lim more k b T T.length rfl w hb h8 hp hL hl hm hx h0
      · exact lim_ok p d lim more k b T w hb h8 hp hL hl hm hx h0
  · exact lim_far p b.length d lim more w hL
end Go.Proofs.Ytmcmchldjfnneaa
