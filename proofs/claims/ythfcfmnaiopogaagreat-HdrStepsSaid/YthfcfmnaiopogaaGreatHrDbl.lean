/- The landed histograms: steps that are ever greater. -/
import Derived.Test.YthfcfmnaiopogaaGreatHrLin
namespace Go.Proofs.YthfcfmnaiopogaaGreat
open Go.RowKit Go.ChangeMaps

/-- the next end -/
def dbl (base e : Nat) : Nat := if e * base < 18446744073709551616 then e * base else 9223372036854775808
theorem dbl_up {base e : Nat} (hb : 2 ≤ base) (he : e ≤ 9223372036854775808) : e ≤ dbl base e := by
  unfold dbl
  split
  · exact Nat.le_mul_of_pos_right _ (by omega)
  · exact he
theorem dbl_two {base e : Nat} (hb : 2 ≤ base) (he : e ≤ 9223372036854775808) : min (e * 2) 9223372036854775808 ≤ dbl base e := by
  have := Nat.mul_le_mul_left e hb
  unfold dbl
  split <;> omega
theorem ends_dbl {first base : Nat} (h1 : 1 ≤ first) (h2 : first ≤ 9223372036854775808) (hb : 2 ≤ base) : ∀ j, min (2 ^ j) 9223372036854775808 ≤ ends first (dbl base) j ∧ ends first (dbl base) j ≤ 9223372036854775808
  | 0 => by simp only [ends]; omega
  | j + 1 => by
    have ih := ends_dbl h1 h2 hb j
    have h3 := dbl_two hb ih.2
    simp only [ends]
    rw [Nat.pow_succ]
    omega
theorem dbl_end {M : Hm} (hg : M.Good) {first base : Nat} (h1 : 1 ≤ first) (h2 : first ≤ 9223372036854775808) (hb : 2 ≤ base) : cumU M (tos first (dbl base)) 64 = ltot M.l := by
  have h3 := ends_dbl h1 h2 hb 63
  have h4 := least_lt hg
  rw [show (2 : Nat) ^ 63 = 9223372036854775808 from by decide] at h3
  have h5 : tos first (dbl base) 63 = 9223372036854775807 := by unfold tos; omega
  show upt M.l (M.cell (tos first (dbl base) 63)) = ltot M.l
  rw [h5]
  exact upt_last hg (by omega) (by omega)
theorem dbl_has : Has 86 := fun _ _ => by kernel_rfl
section
variable (b base E : Nat) (w : World)
set_option maxRecDepth 100000 in
set_option maxHeartbeats 400000 in
theorem dbl_next (h : w.cell? ⟨b, 0, none⟩ = some (.int .i64 (base : Nat))) (hw : base ≤ 2147483648) (hE : E ≤ 9223372036854775808) : Calls Tryz.prog 86 #[.int .u64 (E : Nat), .pointer (some ⟨b, 0, none⟩)] w fun e w' => e = .returned (.int .u64 (dbl base E : Nat)) ∧ Fr S0 w w' := by
  have w1 : IntKind.u64.wrap (base : Int) = (base : Int) := by rw [IntKind.wrap_u64]; omega
  by_cases hlt : E * base < 18446744073709551616
  · rw [show dbl base E = E * base from if_pos hlt]
    have HM := Lib.hid (fun W => muldiv_yes E base 1 W (by omega) (by omega) (by decide) (by decide) (by rw [Nat.div_one]; exact hlt))
    rw [Nat.div_one] at HM
    simp only [show ((1 : Nat) : Int) = 1 from rfl] at HM
    clear hlt
    go_enter Tryz.func86, Tryz.ntmps86
    go_wp2_with fail
    refine (HM.out _).mono ?_
    rintro e w1 ⟨rfl, f1⟩
    have F1 := Lib.hid f1
    clear f1
    go_wp2_with fail
    go_ret
    exact ⟨rfl, F1.out⟩
  · rw [show dbl base E = 9223372036854775808 from if_neg hlt]
    have HM := Lib.hid (fun W => muldiv_no E base 1 W (by omega) (by omega) (by decide) (.inr (by rw [Nat.div_one]; omega)))
    simp only [show ((1 : Nat) : Int) = 1 from rfl] at HM
    clear hlt
    go_enter Tryz.func86, Tryz.ntmps86
    go_wp2_with fail
    refine (HM.out _).mono ?_
    rintro e w1 ⟨rfl, f1⟩
    have F1 := Lib.hid f1
    clear f1
    go_wp2_with fail
    go_ret
    exact ⟨rfl, F1.out⟩
end
section
variable (g h : Nat) (M : Hm) (w : World)
set_option maxRecDepth 100000 in
set_option maxHeartbeats 400000 in
theorem xdoubling_no (v x : Int) (hv : v < 1 ∨ x < 2 ∨ 2147483648 < x) : Calls Tryz.prog 45 #[.pointer (some ⟨g, 0, none⟩), .int .i64 v, .int .i64 x] w fun e w' => e = .returned (.tuple #[.slice none 0 0, .int .i64 1]) ∧ Fr S0 w w' := by
  have k0 := new_cell w (.int .i64 x) 2
  by_cases h1 : v < 1
  · have hd : decide (v < 1) = true := decide_eq_true h1
    go_enter Tryz.func45, Tryz.ntmps45
    go_wp2_with fail
    go_ret2
    exact ⟨rfl, Fr.alloc _ _ _⟩
  · have hd : decide (v < 1) = false := decide_eq_false h1
    by_cases h2 : x < 2
    · have hd2 : decide (x < 2) = true := decide_eq_true h2
      go_enter Tryz.func45, Tryz.ntmps45
      go_wp2_with fail
      go_ret2
      exact ⟨rfl, Fr.alloc _ _ _⟩
    · have hd2 : decide (x < 2) = false := decide_eq_false h2
      have hd3 : decide (2147483648 < x) = true := decide_eq_true (by omega)
      go_enter Tryz.func45, Tryz.ntmps45
      go_wp2_with fail
      go_ret2
      exact ⟨rfl, Fr.alloc _ _ _⟩
set_option maxRecDepth 100000 in
set_option maxHeartbeats 1000000 in
theorem xdoubling_any (s : HistIs w g h M) (hl : M.l.length ≤ 100000) (first base : Nat) (h1 : 1 ≤ first) (h2 : first < 9223372036854775808) (hb : 2 ≤ base) (hb2 : base ≤ 2147483648) : Calls Tryz.prog 45 #[.pointer (some ⟨g, 0, none⟩), .int .i64 (first : Nat), .int .i64 (base : Nat)] w fun e w' => ∃ n p c, e = .returned (.tuple #[.slice p n c, .int .i64 0]) ∧ n ≤ 64 ∧ StI w' p (stL M (tos first (dbl base)) n) ∧ (∀ i, i < n → cumU M (tos first (dbl base)) i < ltot M.l) ∧ cumU M (tos first (dbl base)) n = ltot M.l ∧ Fr S0 w w' := by
  have k0 := new_cell w (.int .i64 (base : Nat)) 2
  have f0 := Fr.alloc S0 w (.cells #[.int .i64 (base : Nat)] 2)
  obtain ⟨b, eb⟩ : ∃ b, w.heap.size = b := ⟨_, rfl⟩
  obtain ⟨W0, eW⟩ : ∃ W, w.alloc (.cells #[.int .i64 (base : Nat)] 2) = W := ⟨_, rfl⟩
  have HW := Lib.hid (And.intro eb eW)
  rw [eb, eW] at k0
  rw [eW] at f0
  have HF0 := Lib.hid f0
  have HTA := Lib.hid (fun W (f : Fr S0 W0 W) => xtable_any g h M W (s.fr0 (f0.trans0 f)) hl)
  have HJ := Lib.hid (dbl_end s.good h1 (Nat.le_of_lt h2) hb)
  have HRI := Lib.hid (fun gt W (f : Fr S0 W0 W) (ht : TabIs W gt M.l) => xrising_any g h gt 64 86 first M W (.pointer (some ⟨b, 0, none⟩)) (dbl base) (s.fr0 (f0.trans0 f)) ht h1 h2 dbl_has
    (fun W2 e he1 he2 f2 => dbl_next b base e W2 ((f.trans0 f2).cell k0 fun h => h) hb2 he2) (fun e _ he => dbl_up hb he) (by decide) HJ.out)
  have hmf2 : ∀ W, (Instr.makeFunc (.func 86) #[.pointer (some ⟨b, 0, none⟩)] #[]).run Tryz.prog W = .ok (.func (.func 86) #[.pointer (some ⟨b, 0, none⟩)] #[]) W := fun _ => by rfl
  have hd : decide ((first : Int) < 1) = false := decide_eq_false (by omega)
  have hd2 : decide ((base : Int) < 2) = false := decide_eq_false (by omega)
  have hd3 : decide (2147483648 < (base : Int)) = false := decide_eq_false (by omega)
  clear s f0 HJ hl
  go_enter Tryz.func45, Tryz.ntmps45
  go_wp2_with (first | rw [HW.out.1] | rw [HW.out.2])
  refine (HTA.out _ (Fr.refl _ _)).mono ?_
  rintro e w2 ⟨gt, rfl, ht, f2⟩
  have H2 := Lib.hid (And.intro ht f2)
  clear ht f2 HTA k0
  go_wp2_with fail
  refine (HRI.out gt _ H2.out.2 H2.out.1).mono ?_
  rintro e w4 ⟨n, p, c, rfl, h4⟩
  have H4 := Lib.hid h4
  clear h4
  go_wp2_with fail
  go_ret2
  exact ⟨n, p, c, rfl, H4.out.1, H4.out.2.1, H4.out.2.2.1, H4.out.2.2.2.1, (HF0.out.trans0 H2.out.2).trans0 H4.out.2.2.2.2⟩
end
end Go.Proofs.YthfcfmnaiopogaaGreat
