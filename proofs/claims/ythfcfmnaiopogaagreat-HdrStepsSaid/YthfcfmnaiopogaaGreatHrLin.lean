/- The landed histograms: steps of one width, steps ever greater. -/
import Derived.Test.YthfcfmnaiopogaaGreatHrRise
import Derived.Test.YthfcfmnaiopogaaGreatHrReal
namespace Go.Proofs.YthfcfmnaiopogaaGreat
open Go.RowKit Go.ChangeMaps

theorem last_of {M : Hm} (hg : M.Good) (hp : 0 < ltot M.l) : ∃ r t, M.l = r ++ [t] ∧ rkE 1 1 (ltot M.l) = 0 ∧ keyW M.l (rkR 1 1 (ltot M.l)) = t.1 := by
  have hne : M.l ≠ [] := fun h => by rw [h] at hp; exact absurd hp (by decide)
  have e := (List.dropLast_concat_getLast hne).symm
  obtain ⟨e1, e2⟩ := rkE_some (a := 1) (d := 1) (by decide) (by decide) hp
  refine ⟨_, _, e, e1, ?_⟩
  have h1 : keyW (M.l.dropLast ++ [M.l.getLast hne]) (ltot (M.l.dropLast ++ [M.l.getLast hne])) = (M.l.getLast hne).1 := keyW_last (by rw [← e]; exact hg.pos)
  rw [← e] at h1
  rw [e2, rnk_full (by decide) hp]
  exact h1
/-- up to where the last cell begins, all is counted -/
theorem upt_last {M : Hm} (hg : M.Good) {v : Int} (hv : (endV M M.least 1 1 : Int) ≤ v) (hv2 : v < 9223372036854775808) : upt M.l (M.cell v) = ltot M.l := by
  by_cases hp : 0 < ltot M.l
  · obtain ⟨r, t, e, e1, e2⟩ := last_of hg hp
    unfold endV at hv
    rw [if_pos e1, e2] at hv
    have ht : t ∈ M.l := by rw [e]; simp
    obtain ⟨i, hi, h2, h3⟩ := hg.cell ht
    have h4 := idx_vof M.u M.m i hg.m1 (by have := hg.s; omega) h3
    unfold Hm.least at hv
    rw [hi, show ((i : Nat) : Int).toNat = i by omega] at hv
    have h5 := idx_mono M.u M.m (vof M.u M.m i) v.toNat hg.m1 (by omega) (by omega)
    rw [h4] at h5
    refine upt_all' fun x hx => ?_
    have h6 : x.1 ≤ t.1 := by
      have hs := hg.srt
      rw [e] at hx hs
      rcases List.mem_append.1 hx with h7 | h7
      · exact Int.le_of_lt ((List.pairwise_append.1 hs).2.2 x h7 t (by simp))
      · rw [List.mem_singleton.1 h7]
        exact Int.le_refl _
    unfold Hm.cell
    omega
  · have := upt_le M.l (M.cell v)
    omega
/-- as many steps as it takes -/
def manyJ (M : Hm) (width : Nat) : Nat := if ltot M.l = 0 then 0 else endV M M.least 1 1 / width + 1
/-- too many steps -/
def LinFar (M : Hm) (width : Nat) : Prop := rkE 1 1 (ltot M.l) = 0 ∧ 4096 ≤ endV M M.least 1 1 / width
theorem ends_lin {width : Nat} (hw : width < 9223372036854775808) : ∀ j, ends width (fun e => e + width) j = min ((j + 1) * width) 9223372036854775808
  | 0 => by simp only [ends]; omega
  | j + 1 => by
    have ih := ends_lin hw j
    simp only [ends]
    rw [ih, Nat.add_mul (j + 1) 1]
    omega
theorem many_end {M : Hm} (hg : M.Good) {width : Nat} (h1 : 1 ≤ width) (hw : width < 9223372036854775808) (hB : endV M M.least 1 1 < 9223372036854775808) : cumU M (tos width (fun e => e + width)) (manyJ M width) = ltot M.l := by
  unfold manyJ
  split
  · rename_i h
    rw [h]
    rfl
  · rw [cumU]
    have h2 := Nat.div_add_mod (endV M M.least 1 1) width
    have h3 := Nat.mod_lt (endV M M.least 1 1) (y := width) (by omega)
    have h4 : (endV M M.least 1 1 / width + 1) * width = width * (endV M M.least 1 1 / width) + width := by rw [Nat.add_mul, Nat.mul_comm, Nat.one_mul]
    refine upt_last hg ?_ ?_
    · unfold tos
      rw [ends_lin hw, h4]
      omega
    · unfold tos
      rw [ends_lin hw]
      omega
theorem least_lt {M : Hm} (hg : M.Good) : endV M M.least 1 1 < 9223372036854775808 := by
  unfold endV
  split
  · rename_i hE
    obtain ⟨h1, h2, h3, h4⟩ := rk_yes hE
    have h5 := rnk_all h2 h3
    obtain ⟨⟨x, hx, hxk⟩, -, -⟩ := keyW_rank hg.srt h5.1 h5.2
    rw [h4, ← hxk]
    obtain ⟨i, hi, -, h6⟩ := hg.cell hx
    have h7 := vof_lt M.u M.m i hg.m1 (by have := hg.s; omega) h6
    have h8 := two_pos (M.u + ibk M.m i)
    unfold Hm.least
    rw [hi, show ((i : Nat) : Int).toNat = i by omega]
    omega
  · decide
theorem lin_has : Has 85 := fun _ _ => by kernel_rfl
section
variable (b width E : Nat) (w : World)
set_option maxRecDepth 100000 in
set_option maxHeartbeats 400000 in
theorem lin_next (h : w.cell? ⟨b, 0, none⟩ = some (.int .i64 (width : Nat))) (hw : width < 9223372036854775808) (hE : E ≤ 9223372036854775808) : Calls Tryz.prog 85 #[.int .u64 (E : Nat), .pointer (some ⟨b, 0, none⟩)] w fun e w' => e = .returned (.int .u64 (E + width : Nat)) ∧ Fr S0 w w' := by
  have w1 : IntKind.u64.wrap (width : Int) = (width : Int) := by rw [IntKind.wrap_u64]; omega
  have w2 : IntKind.u64.wrap ((E : Int) + (width : Int)) = ((E + width : Nat) : Int) := by rw [IntKind.wrap_u64]; omega
  go_enter Tryz.func85, Tryz.ntmps85
  go_wp2_with fail
  go_ret
  exact ⟨by rw [Int.natCast_add]; rfl, Fr.refl _ _⟩
end
section
variable (g h : Nat) (M : Hm) (w : World)
set_option maxRecDepth 100000 in
set_option maxHeartbeats 400000 in
theorem xlinear_no (v : Int) (hv : v < 1) : Calls Tryz.prog 43 #[.pointer (some ⟨g, 0, none⟩), .int .i64 v] w fun e w' => e = .returned (.tuple #[.slice none 0 0, .int .i64 1]) ∧ Fr S0 w w' := by
  have hd : decide (v < 1) = true := decide_eq_true hv
  have k0 := new_cell w (.int .i64 v) 2
  go_enter Tryz.func43, Tryz.ntmps43
  go_wp2_with fail
  go_ret2
  exact ⟨rfl, Fr.alloc _ _ _⟩
set_option maxRecDepth 100000 in
set_option maxHeartbeats 1000000 in
theorem xlinear_any (s : HistIs w g h M) (hl : M.l.length ≤ 100000) (width : Nat) (h1 : 1 ≤ width) (hw : width < 9223372036854775808) : Calls Tryz.prog 43 #[.pointer (some ⟨g, 0, none⟩), .int .i64 (width : Nat)] w fun e w' => Fr S0 w w' ∧
    ((LinFar M width ∧ e = .returned (.tuple #[.slice none 0 0, .int .i64 1])) ∨
      (¬ LinFar M width ∧ ∃ n p c, e = .returned (.tuple #[.slice p n c, .int .i64 0]) ∧ n ≤ manyJ M width ∧ StI w' p (stL M (tos width (fun e => e + width)) n) ∧ (∀ i, i < n → cumU M (tos width (fun e => e + width)) i < ltot M.l) ∧ cumU M (tos width (fun e => e + width)) n = ltot M.l)) := by
  have k0 := new_cell w (.int .i64 (width : Nat)) 2
  have f0 := Fr.alloc S0 w (.cells #[.int .i64 (width : Nat)] 2)
  obtain ⟨b, eb⟩ : ∃ b, w.heap.size = b := ⟨_, rfl⟩
  obtain ⟨W0, eW⟩ : ∃ W, w.alloc (.cells #[.int .i64 (width : Nat)] 2) = W := ⟨_, rfl⟩
  have HW := Lib.hid (And.intro eb eW)
  rw [eb, eW] at k0
  rw [eW] at f0
  have HF0 := Lib.hid f0
  have HTA := Lib.hid (xtable_any g h M W0 (s.fr0 f0) hl)
  have HEN := Lib.hid (fun gt W (f : Fr S0 W0 W) (ht : TabIs W gt M.l) => xend_any g h M W (s.fr0 (f0.trans0 f)) 83 gt 1 1 M.least (by decide) ht low_has fun i W2 f2 hi _ => low_tells g h M W (s.fr0 (f0.trans0 f)) i W2 f2 hi)
  have hB := least_lt s.good
  have HJ := Lib.hid (many_end s.good h1 hw hB)
  have HRI := Lib.hid (fun gt W (f : Fr S0 W0 W) (ht : TabIs W gt M.l) (hJ : manyJ M width ≤ 100000) => xrising_any g h gt (manyJ M width) 85 width M W (.pointer (some ⟨b, 0, none⟩)) (fun e => e + width) (s.fr0 (f0.trans0 f)) ht h1 hw lin_has
    (fun W2 e he1 he2 f2 => lin_next b width e W2 ((f.trans0 f2).cell k0 fun h => h) hw he2) (fun e _ _ => Nat.le_add_right _ _) hJ HJ.out)
  have hmf : ∀ W, (Instr.makeFunc (.func 83) #[.pointer (some ⟨g, 0, none⟩)] #[]).run Tryz.prog W = .ok (.func (.func 83) #[.pointer (some ⟨g, 0, none⟩)] #[]) W := fun _ => by rfl
  have hmf2 : ∀ W, (Instr.makeFunc (.func 85) #[.pointer (some ⟨b, 0, none⟩)] #[]).run Tryz.prog W = .ok (.func (.func 85) #[.pointer (some ⟨b, 0, none⟩)] #[]) W := fun _ => by rfl
  obtain ⟨X, eX⟩ : ∃ X, endV M M.least 1 1 = X := ⟨_, rfl⟩
  obtain ⟨E, eE⟩ : ∃ E, rkE 1 1 (ltot M.l) = E := ⟨_, rfl⟩
  rw [eX, eE] at HEN
  rw [eX] at hB
  have HFAR : Hid (LinFar M width ↔ (E = 0 ∧ 4096 ≤ X / width)) := Lib.hid (by unfold LinFar; rw [eX, eE])
  have HJ2 : Hid (¬ (E = 0 ∧ 4096 ≤ X / width) → manyJ M width ≤ 100000) := Lib.hid fun h3 => by
    unfold manyJ
    split
    · omega
    · rename_i h4
      have h5 := rkE_some (a := 1) (d := 1) (by decide) (by decide) (Nat.pos_of_ne_zero h4)
      rw [eE] at h5
      rw [eX]
      omega
  have HM := Lib.hid (And.intro eX eE)
  simp only [show ((1 : Nat) : Int) = 1 from rfl] at HEN
  have hd : decide ((width : Int) < 1) = false := decide_eq_false (by omega)
  have hw0 : (width : Int) ≠ 0 := by omega
  clear s eX eE f0 HJ hl
  go_enter Tryz.func43, Tryz.ntmps43
  go_wp2_with (first | rw [HW.out.1] | rw [HW.out.2])
  refine HTA.out.mono ?_
  rintro e w2 ⟨gt, rfl, ht, f2⟩
  have H2 := Lib.hid (And.intro ht f2)
  have k2 := f2.cell k0 fun h => h
  clear ht f2 HTA k0
  go_wp2_with fail
  refine (HEN.out _ _ H2.out.2 H2.out.1).mono ?_
  rintro e w3 ⟨rfl, f3⟩
  have H3 := Lib.hid (And.intro (H2.out.1.fr0 f3) (H2.out.2.trans0 f3))
  have k3 := f3.cell k2 fun h => h
  clear f3 HEN k2
  obtain ⟨Q, eQ⟩ : ∃ Q, X / width = Q := ⟨_, rfl⟩
  have hq : (X : Int).tdiv (width : Int) = (Q : Int) := by rw [← eQ]; rfl
  have hQ : Q < 9223372036854775808 := by rw [← eQ]; exact Nat.lt_of_le_of_lt (Nat.div_le_self _ _) hB
  have hwq : IntKind.i64.wrap (Q : Int) = (Q : Int) := by rw [IntKind.wrap_i64]; omega
  rw [eQ] at HJ2
  have HQ := Lib.hid eQ
  clear eQ
  by_cases hE : E = 0
  · subst hE
    by_cases hX : 4096 ≤ Q
    · have hdq : decide ((4096 : Int) ≤ (Q : Int)) = true := decide_eq_true (by omega)
      go_wp2_with fail
      go_ret2
      exact ⟨HF0.out.trans0 H3.out.2, .inl ⟨HFAR.out.2 ⟨by trivial, by rw [HQ.out]; exact hX⟩, rfl⟩⟩
    · have hdq : decide ((4096 : Int) ≤ (Q : Int)) = false := decide_eq_false (by omega)
      go_wp2_with fail
      refine (HRI.out gt _ H3.out.2 H3.out.1 (HJ2.out fun h => hX h.2)).mono ?_
      rintro e w4 ⟨n, p, c, rfl, h4⟩
      have H4 := Lib.hid h4
      clear h4
      go_wp2_with fail
      go_ret2
      exact ⟨(HF0.out.trans0 H3.out.2).trans0 H4.out.2.2.2.2, .inr ⟨fun h => hX (by rw [← HQ.out]; exact (HFAR.out.1 h).2), n, p, c, rfl, H4.out.1, H4.out.2.1, H4.out.2.2.1, H4.out.2.2.2.1⟩⟩
  · have hE2 : ((E : Int) == 0) = false := by simp; omega
    go_wp2_with fail
    refine (HRI.out gt _ H3.out.2 H3.out.1 (HJ2.out fun h => hE h.1)).mono ?_
    rintro e w4 ⟨n, p, c, rfl, h4⟩
    have H4 := Lib.hid h4
    clear h4
    go_wp2_with fail
    go_ret2
    exact ⟨(HF0.out.trans0 H3.out.2).trans0 H4.out.2.2.2.2, .inr ⟨fun h => hE (HFAR.out.1 h).1, n, p, c, rfl, H4.out.1, H4.out.2.1, H4.out.2.2.1, H4.out.2.2.2.1⟩⟩
end
end Go.Proofs.YthfcfmnaiopogaaGreat
