/- What each does: it gives all pairs to a function value, whatever that does. -/
import Derived.Test.YtocdjklgfmkbfaaDnSto
namespace Go.Proofs.Ytocdjklgfmkbfaa
open Go.RowKit

def Has (B : Nat) : Prop := ∀ (args : Array Value) (w : World), (callFunc B args).run Try.prog w = .ok (.enter B args) w
theorem has_put : Has 23 := fun _ _ => by kernel_rfl
theorem has_add : Has 38 := fun _ _ => by kernel_rfl
theorem has_pairs : Has 33 := fun _ _ => by kernel_rfl

/-- what each finds of a store, the pairs of done being given -/
structure Sees (W : World) (g h : Nat) (a b F : Int) (p : Option Addr) (m : Nat) (l done : List Pr) : Prop where
  c0 : W.cell? ⟨g, 0, none⟩ = some (.int .i64 a)
  c1 : W.cell? ⟨g, 1, none⟩ = some (.int .i64 b)
  c2 : W.cell? ⟨g, 2, none⟩ = some (.int .i64 F)
  c3 : W.cell? ⟨g, 3, none⟩ = some (.slice p m m)
  cel : ∃ f, Cel W h F p m f ∧ ∀ k, (∀ x ∈ done, x.1 < k) → tell F m f k = cnt l k
theorem Sto.sees {W : World} {g h : Nat} {a b F : Int} {p : Option Addr} {m : Nat} {l : List Pr} (s : Sto W g h a b F p m l) (done : List Pr) : Sees W g h a b F p m l done :=
  ⟨s.raw.c0, s.raw.c1, s.raw.c2, s.raw.c3, cnt l, s.cel, fun k _ => s.tell k⟩

set_option maxRecDepth 100000 in
set_option maxHeartbeats 400000 in
theorem each_none (g : Nat) (v : Value) (w : World) (hn : w.cell? ⟨g, 4, none⟩ = some (.int .i64 0)) :
    Calls Try.prog 27 #[.pointer (some ⟨g, 0, none⟩), v] w fun e w' => e = .returned (.tuple #[]) ∧ w = w' := by
  go_enter Try.func27, Try.ntmps27
  go_wp2_with fail
  refine bodyPost_ret (results_none rfl _ _ _) rfl ?_
  exact ⟨rfl, rfl⟩

set_option maxRecDepth 100000 in
set_option maxHeartbeats 1000000 in
theorem each_meth (B g h : Nat) (r : Value) (a b F : Int) (p : Option Addr) (m : Nat) (l : List Pr) (I : List Pr → World → Prop) (w : World) (hE : Has B)
    (ha : -1048576 ≤ a) (hb : b ≤ 1048576) (hab : a ≤ b) (hs : Srt l) (hp : Pos l) (hall : ∀ x ∈ l, a ≤ x.1 ∧ x.1 ≤ b) (h0 : I [] w) (hn : w.cell? ⟨g, 4, none⟩ = some (.int .i64 (l.length : Nat))) (hne : l ≠ [])
    (hsee : ∀ done W, I done W → Sees W g h a b F p m l done)
    (hst : ∀ done W W', I done W → Fr S0 W W' → I done W')
    (hgv : ∀ done k n rest W, l = done ++ (k, n) :: rest → I done W → Calls Try.prog B #[r, .int .i64 k, .int .u64 (n : Nat)] W fun e w' => e = .returned (.tuple #[]) ∧ I (done ++ [(k, n)]) w') :
    Calls Try.prog 27 #[.pointer (some ⟨g, 0, none⟩), .func (.func B) #[r] #[]] w fun e w' => e = .returned (.tuple #[]) ∧ I l w' := by
  have hz : ((l.length : Int) == 0) = false := by
    have := List.length_pos_iff.2 hne
    rw [beq_eq_false_iff_ne]; omega
  have HI : Hid (I (low l a) w) := Lib.hid (by rw [low_none fun x hx => (hall x hx).1]; exact h0)
  have HE : Hid (∀ wr, I (low l (b + 1)) wr → I l wr) := Lib.hid fun wr h => by rwa [low_all fun x hx => by have := (hall x hx).2; omega] at h
  have HSEE := Lib.hid hsee
  have HST := Lib.hid hst
  have HGV := Lib.hid hgv
  have HS := Lib.hid (And.intro hs hp)
  have HB := Lib.hid hE
  obtain ⟨q0, q1, q2, q3, -⟩ := hsee _ _ h0
  clear hsee hst hgv hs hp hall h0 hne hE
  go_enter Try.func27, Try.ntmps27
  go_wp2_with fail
  clear q0 q1 q2 q3 hn hz
  go_loopw [4, 5] (fun x _ wr => ∃ k : Int, a ≤ k ∧ k ≤ b + 1 ∧ x = .int .i64 k ∧ Hid (I (low l k) wr)) (fun x _ _ => (b + 1 - intOf x).toNat)
  case atStart => exact ⟨a, by omega, by omega, rfl, HI⟩
  case round =>
    clear HI
    obtain ⟨k, hk1, hk2, rfl, hi⟩ := hrel
    obtain ⟨c0, c1, c2, c3, f, hc, hf⟩ := HSEE.out _ _ hi.out
    have HA := Lib.hid (at_any h F k p m f wr hc)
    rw [hf k fun x hx => (low_mem hx).2] at HA
    have HK : Hid (∀ w', Fr S0 wr w' → I (low l k) w') := Lib.hid fun w' f => HST.out _ _ _ hi.out f
    clear hc hf hi
    by_cases hkb : k ≤ b
    · by_cases hz : cnt l k = 0
      · have HN : Hid (low l (k + 1) = low l k) := Lib.hid (low_zero HS.out.1 HS.out.2 hz)
        rw [hz] at HA
        go_wp2_with fail
        refine HA.out.mono ?_
        rintro e w1 ⟨rfl, f1⟩
        have HI1 := Lib.hid (HK.out w1 f1)
        clear HK HA f1 c0 c1 c2 c3
        go_wp2_with fail
        go_roundw
        case rel => exact ⟨k + 1, by omega, by omega, by go_num, by rw [HN.out]; exact HI1⟩
        case measure => simp [intOf]; omega
      · obtain ⟨rest, e1, e2⟩ := low_some HS.out.1 hz
        have HN := Lib.hid e2
        have HG := Lib.hid (fun W (h : I (low l k) W) => HGV.out _ _ _ rest W e1 h)
        clear e1 e2
        obtain ⟨V, hV⟩ : ∃ V, cnt l k = V := ⟨_, rfl⟩
        rw [hV] at HA HN HG hz
        have hv0 : (0 : Int) < (V : Int) := by omega
        clear hV hz
        go_wp2_with fail
        refine HA.out.mono ?_
        rintro e w1 ⟨rfl, f1⟩
        have HG1 := Lib.hid (HG.out w1 (HK.out w1 f1))
        have hEm : (callFunc B #[r, .int .i64 k, .int .u64 (V : Int)]).run Try.prog w1 = .ok (.enter B #[r, .int .i64 k, .int .u64 (V : Int)]) w1 := HB.out _ _
        clear HK HA HG f1 c0 c1 c2 c3
        go_wp2_with fail
        refine HG1.out.mono ?_
        rintro e w2 ⟨rfl, i2⟩
        have HI2 := Lib.hid i2
        clear i2 hEm HG1
        go_wp2_with fail
        go_roundw
        case rel => exact ⟨k + 1, by omega, by omega, by go_num, by rw [HN.out]; exact HI2⟩
        case measure => simp [intOf]; omega
    · obtain rfl : k = b + 1 := by omega
      have HL := Lib.hid (HE.out _ (HK.out wr (Fr.refl _ _)))
      clear HK HA
      go_wp2_with fail
      go_end0
      exact ⟨rfl, HL.out⟩
set_option maxRecDepth 100000 in
set_option maxHeartbeats 1000000 in
theorem each_clos (B g h : Nat) (r : Value) (a b F : Int) (p : Option Addr) (m : Nat) (l : List Pr) (I : List Pr → World → Prop) (w : World) (hE : Has B)
    (ha : -1048576 ≤ a) (hb : b ≤ 1048576) (hab : a ≤ b) (hs : Srt l) (hp : Pos l) (hall : ∀ x ∈ l, a ≤ x.1 ∧ x.1 ≤ b) (h0 : I [] w) (hn : w.cell? ⟨g, 4, none⟩ = some (.int .i64 (l.length : Nat))) (hne : l ≠ [])
    (hsee : ∀ done W, I done W → Sees W g h a b F p m l done)
    (hst : ∀ done W W', I done W → Fr S0 W W' → I done W')
    (hgv : ∀ done k n rest W, l = done ++ (k, n) :: rest → I done W → Calls Try.prog B #[.int .i64 k, .int .u64 (n : Nat), r] W fun e w' => e = .returned (.tuple #[]) ∧ I (done ++ [(k, n)]) w') :
    Calls Try.prog 27 #[.pointer (some ⟨g, 0, none⟩), .func (.func B) #[] #[r]] w fun e w' => e = .returned (.tuple #[]) ∧ I l w' := by
  have hz : ((l.length : Int) == 0) = false := by
    have := List.length_pos_iff.2 hne
    rw [beq_eq_false_iff_ne]; omega
  have HI : Hid (I (low l a) w) := Lib.hid (by rw [low_none fun x hx => (hall x hx).1]; exact h0)
  have HE : Hid (∀ wr, I (low l (b + 1)) wr → I l wr) := Lib.hid fun wr h => by rwa [low_all fun x hx => by have := (hall x hx).2; omega] at h
  have HSEE := Lib.hid hsee
  have HST := Lib.hid hst
  have HGV := Lib.hid hgv
  have HS := Lib.hid (And.intro hs hp)
  have HB := Lib.hid hE
  obtain ⟨q0, q1, q2, q3, -⟩ := hsee _ _ h0
  clear hsee hst hgv hs hp hall h0 hne hE
  go_enter Try.func27, Try.ntmps27
  go_wp2_with fail
  clear q0 q1 q2 q3 hn hz
  go_loopw [4, 5] (fun x _ wr => ∃ k : Int, a ≤ k ∧ k ≤ b + 1 ∧ x = .int .i64 k ∧ Hid (I (low l k) wr)) (fun x _ _ => (b + 1 - intOf x).toNat)
  case atStart => exact ⟨a, by omega, by omega, rfl, HI⟩
  case round =>
    clear HI
    obtain ⟨k, hk1, hk2, rfl, hi⟩ := hrel
    obtain ⟨c0, c1, c2, c3, f, hc, hf⟩ := HSEE.out _ _ hi.out
    have HA := Lib.hid (at_any h F k p m f wr hc)
    rw [hf k fun x hx => (low_mem hx).2] at HA
    have HK : Hid (∀ w', Fr S0 wr w' → I (low l k) w') := Lib.hid fun w' f => HST.out _ _ _ hi.out f
    clear hc hf hi
    by_cases hkb : k ≤ b
    · by_cases hz : cnt l k = 0
      · have HN : Hid (low l (k + 1) = low l k) := Lib.hid (low_zero HS.out.1 HS.out.2 hz)
        rw [hz] at HA
        go_wp2_with fail
        refine HA.out.mono ?_
        rintro e w1 ⟨rfl, f1⟩
        have HI1 := Lib.hid (HK.out w1 f1)
        clear HK HA f1 c0 c1 c2 c3
        go_wp2_with fail
        go_roundw
        case rel => exact ⟨k + 1, by omega, by omega, by go_num, by rw [HN.out]; exact HI1⟩
        case measure => simp [intOf]; omega
      · obtain ⟨rest, e1, e2⟩ := low_some HS.out.1 hz
        have HN := Lib.hid e2
        have HG := Lib.hid (fun W (h : I (low l k) W) => HGV.out _ _ _ rest W e1 h)
        clear e1 e2
        obtain ⟨V, hV⟩ : ∃ V, cnt l k = V := ⟨_, rfl⟩
        rw [hV] at HA HN HG hz
        have hv0 : (0 : Int) < (V : Int) := by omega
        clear hV hz
        go_wp2_with fail
        refine HA.out.mono ?_
        rintro e w1 ⟨rfl, f1⟩
        have HG1 := Lib.hid (HG.out w1 (HK.out w1 f1))
        have hEm : (callFunc B #[.int .i64 k, .int .u64 (V : Int), r]).run Try.prog w1 = .ok (.enter B #[.int .i64 k, .int .u64 (V : Int), r]) w1 := HB.out _ _
        clear HK HA HG f1 c0 c1 c2 c3
        go_wp2_with fail
        refine HG1.out.mono ?_
        rintro e w2 ⟨rfl, i2⟩
        have HI2 := Lib.hid i2
        clear i2 hEm HG1
        go_wp2_with fail
        go_roundw
        case rel => exact ⟨k + 1, by omega, by omega, by go_num, by rw [HN.out]; exact HI2⟩
        case measure => simp [intOf]; omega
    · obtain rfl : k = b + 1 := by omega
      have HL := Lib.hid (HE.out _ (HK.out wr (Fr.refl _ _)))
      clear HK HA
      go_wp2_with fail
      go_end0
      exact ⟨rfl, HL.out⟩
end Go.Proofs.Ytocdjklgfmkbfaa
