/- The landed histograms: Take refuses another kind. -/
import Derived.Test.YthfcfmnaiopogaaGreatHrPairs
import Derived.Test.YthfcfmnaiopogaaGreatRegCalls
namespace Go.Proofs.YthfcfmnaiopogaaGreat
open Go.RowKit Go.ChangeMaps

section
variable (g h g2 h2 : Nat) (M G : Hm) (w0 : World) (s : HistIs w0 g h M) (t : HistIs w0 g2 h2 G)
include s t
set_option maxRecDepth 100000 in
set_option maxHeartbeats 1000000 in
theorem xtake_kind (hk : ¬ M.like G) : Calls Tryz.prog 17 #[.pointer (some ⟨g, 0, none⟩), .pointer (some ⟨g2, 0, none⟩)] w0 fun e w' => e = .returned (.int .i64 3) ∧ Fr S0 w0 w' := by
  have HX := Lib.hid (fun W (f : Fr S0 w0 W) => xshape_any g h M W (s.fr0 f))
  have HY := Lib.hid (fun W (f : Fr S0 w0 W) => xshape_any g2 h2 G W (t.fr0 f))
  have HC := Lib.hid (fun W (f : Fr S0 w0 W) => And.intro (s.fr0 f).c5 (t.fr0 f).c5)
  unfold Hm.like at hk
  obtain ⟨L, eL⟩ : ∃ L, M.L = L := ⟨_, rfl⟩
  obtain ⟨H, eH⟩ : ∃ H, M.H = H := ⟨_, rfl⟩
  obtain ⟨D, eD⟩ : ∃ D, M.D = D := ⟨_, rfl⟩
  obtain ⟨r, er⟩ : ∃ r, M.gr = r := ⟨_, rfl⟩
  obtain ⟨L', eL'⟩ : ∃ L, G.L = L := ⟨_, rfl⟩
  obtain ⟨H', eH'⟩ : ∃ H, G.H = H := ⟨_, rfl⟩
  obtain ⟨D', eD'⟩ : ∃ D, G.D = D := ⟨_, rfl⟩
  obtain ⟨r', er'⟩ : ∃ r, G.gr = r := ⟨_, rfl⟩
  rw [eL, eH, eD, er, eL', eH', eD', er'] at hk
  rw [eL, eH, eD] at HX
  rw [eL', eH', eD'] at HY
  rw [er, er'] at HC
  clear s t eL eH eD er eL' eH' eD' er'
  by_cases hL : L' = L
  · subst hL
    by_cases hH : H' = H
    · subst hH
      by_cases hD : D' = D
      · subst hD
        have hr : r' ≠ r := fun e => hk ⟨rfl, rfl, rfl, e⟩
        clear hk
        obtain ⟨c5, d5⟩ := HC.out w0 (Fr.refl _ _)
        cases r <;> cases r' <;> simp at hr
        · go_enter Tryz.func17, Tryz.ntmps17
          go_upto_region 17 with fail
          go_region_held3 (fun w' => w'.cell? ⟨g, 5, none⟩ = some (.bool false) ∧ w'.cell? ⟨g2, 5, none⟩ = some (.bool true) ∧ Fr S0 w0 w')
            (first | (go_split_ands; exact ⟨by assumption, by assumption, by assumption⟩) | exact ⟨c5, d5, Fr.drew _ _⟩ | (go_split_ands; exact ⟨f9.cell (by assumption) (fun h => h), f9.cell (by assumption) (fun h => h), Fr.trans0 (by assumption) f9⟩))
            (first
              | (go_at_call 56; ((with_reducible refine (HY.out _ (by go_split_ands; assumption)).mono ?_); rintro _ w2 ⟨rfl, f9⟩; have FY := Lib.hid f9))
              | (go_at_call 56; ((with_reducible refine (HX.out _ (by go_split_ands; assumption)).mono ?_); rintro _ w3 ⟨rfl, f9⟩; have FX := Lib.hid f9)))
          all_goals
            go_wp2_with fail
            go_ret
            exact ⟨rfl, ((Fr.drew S0 w0).trans0 FY.out).trans0 FX.out⟩
        · go_enter Tryz.func17, Tryz.ntmps17
          go_upto_region 17 with fail
          go_region_held3 (fun w' => w'.cell? ⟨g, 5, none⟩ = some (.bool true) ∧ w'.cell? ⟨g2, 5, none⟩ = some (.bool false) ∧ Fr S0 w0 w')
            (first | (go_split_ands; exact ⟨by assumption, by assumption, by assumption⟩) | exact ⟨c5, d5, Fr.drew _ _⟩ | (go_split_ands; exact ⟨f9.cell (by assumption) (fun h => h), f9.cell (by assumption) (fun h => h), Fr.trans0 (by assumption) f9⟩))
            (first
              | (go_at_call 56; ((with_reducible refine (HY.out _ (by go_split_ands; assumption)).mono ?_); rintro _ w2 ⟨rfl, f9⟩; have FY := Lib.hid f9))
              | (go_at_call 56; ((with_reducible refine (HX.out _ (by go_split_ands; assumption)).mono ?_); rintro _ w3 ⟨rfl, f9⟩; have FX := Lib.hid f9)))
          all_goals
            go_wp2_with fail
            go_ret
            exact ⟨rfl, ((Fr.drew S0 w0).trans0 FY.out).trans0 FX.out⟩
      · have hne : ((D' : Int) == (D : Int)) = false := by rw [beq_eq_false_iff_ne]; omega
        clear hk
        go_enter Tryz.func17, Tryz.ntmps17
        go_upto_region 17 with fail
        refine wp_region_held_drew (S := fun w' => Fr S0 w0 w') (by as_aux_lemma => kernel_rfl) (Fr.drew S0 _) (fun hHeld => ?_)
        refine held_of_any _ _ _ _ hHeld ?_
        clear hHeld
        refine anyS_take (i := 0) (oi := Oper.mk (some 11) _ _ _ _ _) (v := ?_) rfl (by as_aux_lemma => kernel_rfl) (by as_aux_lemma => kernel_rfl) (by as_aux_lemma => kernel_rfl) (fun _ _ _ h => h) (Or.inl ⟨by rfl, ?_⟩) ?_
        rotate_left
        · (intro w hSw; skip; go_simp <;> with_reducible rfl)
        simp only [Act.put, List.setIfInBounds_toArray, List.set_cons_zero, List.set_cons_succ]
        refine anyS_call 56 #[.pointer (some ⟨g2, 0, none⟩)] (i := 1) (oi := Oper.mk (some 12) _ _ _ _ _) (v := .agg #[.int .i64 (L' : Nat), .int .i64 (H' : Nat), .int .i64 (D' : Nat)]) rfl (by as_aux_lemma => kernel_rfl) (by as_aux_lemma => kernel_rfl) (by as_aux_lemma => kernel_rfl) (fun _ _ _ h => h) (by rfl) (fun w => ?_) (fun w hSw => ?_) ?_
        · first | rfl | (go_simp; done) | (go_simp; rfl)
        · exact (HY.out w hSw).mono fun e w2 he => ⟨he.1, Fr.trans0 hSw he.2⟩
        simp only [Act.put, List.setIfInBounds_toArray, List.set_cons_zero, List.set_cons_succ]
        refine anyS_take (i := 2) (oi := Oper.mk (some 13) _ _ _ _ _) (v := ?_) rfl (by as_aux_lemma => kernel_rfl) (by as_aux_lemma => kernel_rfl) (by as_aux_lemma => kernel_rfl) (fun _ _ _ h => h) (Or.inl ⟨by rfl, ?_⟩) ?_
        rotate_left
        · (intro w hSw; skip; go_simp <;> with_reducible rfl)
        simp only [Act.put, List.setIfInBounds_toArray, List.set_cons_zero, List.set_cons_succ]
        refine anyS_call 56 #[.pointer (some ⟨g, 0, none⟩)] (i := 3) (oi := Oper.mk (some 14) _ _ _ _ _) (v := .agg #[.int .i64 (L' : Nat), .int .i64 (H' : Nat), .int .i64 (D : Nat)]) rfl (by as_aux_lemma => kernel_rfl) (by as_aux_lemma => kernel_rfl) (by as_aux_lemma => kernel_rfl) (fun _ _ _ h => h) (by rfl) (fun w => ?_) (fun w hSw => ?_) ?_
        · first | rfl | (go_simp; done) | (go_simp; rfl)
        · exact (HX.out w hSw).mono fun e w2 he => ⟨he.1, Fr.trans0 hSw he.2⟩
        simp only [Act.put, List.setIfInBounds_toArray, List.set_cons_zero, List.set_cons_succ]
        refine anyS_take (i := 4) (oi := Oper.mk (some 15) _ _ _ _ _) (v := ?_) rfl (by as_aux_lemma => kernel_rfl) (by as_aux_lemma => kernel_rfl) (by as_aux_lemma => kernel_rfl) (fun _ _ _ h => h) (Or.inl ⟨by rfl, ?_⟩) ?_
        rotate_left
        · (intro w hSw; skip; go_simp <;> with_reducible rfl)
        simp only [Act.put, List.setIfInBounds_toArray, List.set_cons_zero, List.set_cons_succ]
        refine anyS_take (i := 5) (oi := Oper.mk (some 16) _ _ _ _ _) (v := ?_) rfl (by as_aux_lemma => kernel_rfl) (by as_aux_lemma => kernel_rfl) (by as_aux_lemma => kernel_rfl) (fun _ _ _ h => h) (Or.inl ⟨by rfl, ?_⟩) ?_
        rotate_left
        · (intro w hSw; skip; go_simp <;> with_reducible rfl)
        simp only [Act.put, List.setIfInBounds_toArray, List.set_cons_zero, List.set_cons_succ]
        refine anyS_take (i := 6) (oi := Oper.mk (some 17) _ _ _ _ _) (v := undef) rfl (by as_aux_lemma => kernel_rfl) (by as_aux_lemma => kernel_rfl) (by as_aux_lemma => kernel_rfl) (fun _ _ _ h => h) (Or.inr ⟨by rfl, rfl⟩) ?_
        simp only [Act.put, List.setIfInBounds_toArray, List.set_cons_zero, List.set_cons_succ]
        refine anyS_take (i := 7) (oi := Oper.mk (some 18) _ _ _ _ _) (v := undef) rfl (by as_aux_lemma => kernel_rfl) (by as_aux_lemma => kernel_rfl) (by as_aux_lemma => kernel_rfl) (fun _ _ _ h => h) (Or.inr ⟨by rfl, rfl⟩) ?_
        simp only [Act.put, List.setIfInBounds_toArray, List.set_cons_zero, List.set_cons_succ]
        refine anyS_take (i := 8) (oi := Oper.mk (some 19) _ _ _ _ _) (v := undef) rfl (by as_aux_lemma => kernel_rfl) (by as_aux_lemma => kernel_rfl) (by as_aux_lemma => kernel_rfl) (fun _ _ _ h => h) (Or.inr ⟨by rfl, rfl⟩) ?_
        simp only [Act.put, List.setIfInBounds_toArray, List.set_cons_zero, List.set_cons_succ]
        refine anyS_take (i := 9) (oi := Oper.mk (some 20) _ _ _ _ _) (v := undef) rfl (by as_aux_lemma => kernel_rfl) (by as_aux_lemma => kernel_rfl) (by as_aux_lemma => kernel_rfl) (fun _ _ _ h => h) (Or.inr ⟨by rfl, rfl⟩) ?_
        simp only [Act.put, List.setIfInBounds_toArray, List.set_cons_zero, List.set_cons_succ]
        refine anyS_take (i := 10) (oi := Oper.mk (some 21) _ _ _ _ _) (v := undef) rfl (by as_aux_lemma => kernel_rfl) (by as_aux_lemma => kernel_rfl) (by as_aux_lemma => kernel_rfl) (fun _ _ _ h => h) (Or.inr ⟨by rfl, rfl⟩) ?_
        simp only [Act.put, List.setIfInBounds_toArray, List.set_cons_zero, List.set_cons_succ]
        refine anyS_take (i := 11) (oi := Oper.mk (some 22) _ _ _ _ _) (v := undef) rfl (by as_aux_lemma => kernel_rfl) (by as_aux_lemma => kernel_rfl) (by as_aux_lemma => kernel_rfl) (fun _ _ _ h => h) (Or.inr ⟨by rfl, rfl⟩) ?_
        simp only [Act.put, List.setIfInBounds_toArray, List.set_cons_zero, List.set_cons_succ]
        refine anyS_take (i := 12) (oi := Oper.mk (some 23) _ _ _ _ _) (v := undef) rfl (by as_aux_lemma => kernel_rfl) (by as_aux_lemma => kernel_rfl) (by as_aux_lemma => kernel_rfl) (fun _ _ _ h => h) (Or.inr ⟨by rfl, rfl⟩) ?_
        simp only [Act.put, List.setIfInBounds_toArray, List.set_cons_zero, List.set_cons_succ]
        refine anyS_take (i := 13) (oi := Oper.mk (some 24) _ _ _ _ _) (v := undef) rfl (by as_aux_lemma => kernel_rfl) (by as_aux_lemma => kernel_rfl) (by as_aux_lemma => kernel_rfl) (fun _ _ _ h => h) (Or.inr ⟨by rfl, rfl⟩) ?_
        simp only [Act.put, List.setIfInBounds_toArray, List.set_cons_zero, List.set_cons_succ]
        refine anyS_take (i := 14) (oi := Oper.mk (some 25) _ _ _ _ _) (v := undef) rfl (by as_aux_lemma => kernel_rfl) (by as_aux_lemma => kernel_rfl) (by as_aux_lemma => kernel_rfl) (fun _ _ _ h => h) (Or.inr ⟨by rfl, rfl⟩) ?_
        simp only [Act.put, List.setIfInBounds_toArray, List.set_cons_zero, List.set_cons_succ]
        refine anyS_take (i := 15) (oi := Oper.mk (some 26) _ _ _ _ _) (v := ?_) rfl (by as_aux_lemma => kernel_rfl) (by as_aux_lemma => kernel_rfl) (by as_aux_lemma => kernel_rfl) (fun _ _ _ h => h) (Or.inl ⟨by rfl, ?_⟩) ?_
        rotate_left
        · (intro w hSw; skip; go_simp <;> with_reducible rfl)
        simp only [Act.put, List.setIfInBounds_toArray, List.set_cons_zero, List.set_cons_succ]
        refine anyS_take (i := 16) (oi := Oper.mk (some 10) _ _ _ _ _) (v := ?_) rfl (by as_aux_lemma => kernel_rfl) (by as_aux_lemma => kernel_rfl) (by as_aux_lemma => kernel_rfl) (fun _ _ _ h => h) (Or.inl ⟨by rfl, ?_⟩) ?_
        rotate_left
        · (intro w hSw; skip; go_simp <;> with_reducible rfl)
        simp only [Act.put, List.setIfInBounds_toArray, List.set_cons_zero, List.set_cons_succ]
        refine anyS_done (by as_aux_lemma => kernel_rfl) (fun w hSw => ?_) _
        have F2 := Lib.hid hSw
        clear hSw
        go_wp2_with fail
        go_ret
        exact ⟨rfl, F2.out⟩
    · have hne : ((H' : Int) == (H : Int)) = false := by rw [beq_eq_false_iff_ne]; omega
      clear hk
      go_enter Tryz.func17, Tryz.ntmps17
      go_upto_region 17 with fail
      refine wp_region_held_drew (S := fun w' => Fr S0 w0 w') (by as_aux_lemma => kernel_rfl) (Fr.drew S0 _) (fun hHeld => ?_)
      refine held_of_any _ _ _ _ hHeld ?_
      clear hHeld
      refine anyS_take (i := 0) (oi := Oper.mk (some 11) _ _ _ _ _) (v := ?_) rfl (by as_aux_lemma => kernel_rfl) (by as_aux_lemma => kernel_rfl) (by as_aux_lemma => kernel_rfl) (fun _ _ _ h => h) (Or.inl ⟨by rfl, ?_⟩) ?_
      rotate_left
      · (intro w hSw; skip; go_simp <;> with_reducible rfl)
      simp only [Act.put, List.setIfInBounds_toArray, List.set_cons_zero, List.set_cons_succ]
      refine anyS_call 56 #[.pointer (some ⟨g2, 0, none⟩)] (i := 1) (oi := Oper.mk (some 12) _ _ _ _ _) (v := .agg #[.int .i64 (L' : Nat), .int .i64 (H' : Nat), .int .i64 (D' : Nat)]) rfl (by as_aux_lemma => kernel_rfl) (by as_aux_lemma => kernel_rfl) (by as_aux_lemma => kernel_rfl) (fun _ _ _ h => h) (by rfl) (fun w => ?_) (fun w hSw => ?_) ?_
      · first | rfl | (go_simp; done) | (go_simp; rfl)
      · exact (HY.out w hSw).mono fun e w2 he => ⟨he.1, Fr.trans0 hSw he.2⟩
      simp only [Act.put, List.setIfInBounds_toArray, List.set_cons_zero, List.set_cons_succ]
      refine anyS_take (i := 2) (oi := Oper.mk (some 13) _ _ _ _ _) (v := ?_) rfl (by as_aux_lemma => kernel_rfl) (by as_aux_lemma => kernel_rfl) (by as_aux_lemma => kernel_rfl) (fun _ _ _ h => h) (Or.inl ⟨by rfl, ?_⟩) ?_
      rotate_left
      · (intro w hSw; skip; go_simp <;> with_reducible rfl)
      simp only [Act.put, List.setIfInBounds_toArray, List.set_cons_zero, List.set_cons_succ]
      refine anyS_call 56 #[.pointer (some ⟨g, 0, none⟩)] (i := 3) (oi := Oper.mk (some 14) _ _ _ _ _) (v := .agg #[.int .i64 (L' : Nat), .int .i64 (H : Nat), .int .i64 (D : Nat)]) rfl (by as_aux_lemma => kernel_rfl) (by as_aux_lemma => kernel_rfl) (by as_aux_lemma => kernel_rfl) (fun _ _ _ h => h) (by rfl) (fun w => ?_) (fun w hSw => ?_) ?_
      · first | rfl | (go_simp; done) | (go_simp; rfl)
      · exact (HX.out w hSw).mono fun e w2 he => ⟨he.1, Fr.trans0 hSw he.2⟩
      simp only [Act.put, List.setIfInBounds_toArray, List.set_cons_zero, List.set_cons_succ]
      refine anyS_take (i := 4) (oi := Oper.mk (some 15) _ _ _ _ _) (v := ?_) rfl (by as_aux_lemma => kernel_rfl) (by as_aux_lemma => kernel_rfl) (by as_aux_lemma => kernel_rfl) (fun _ _ _ h => h) (Or.inl ⟨by rfl, ?_⟩) ?_
      rotate_left
      · (intro w hSw; skip; go_simp <;> with_reducible rfl)
      simp only [Act.put, List.setIfInBounds_toArray, List.set_cons_zero, List.set_cons_succ]
      refine anyS_take (i := 5) (oi := Oper.mk (some 16) _ _ _ _ _) (v := ?_) rfl (by as_aux_lemma => kernel_rfl) (by as_aux_lemma => kernel_rfl) (by as_aux_lemma => kernel_rfl) (fun _ _ _ h => h) (Or.inl ⟨by rfl, ?_⟩) ?_
      rotate_left
      · (intro w hSw; skip; go_simp <;> with_reducible rfl)
      simp only [Act.put, List.setIfInBounds_toArray, List.set_cons_zero, List.set_cons_succ]
      refine anyS_take (i := 6) (oi := Oper.mk (some 17) _ _ _ _ _) (v := undef) rfl (by as_aux_lemma => kernel_rfl) (by as_aux_lemma => kernel_rfl) (by as_aux_lemma => kernel_rfl) (fun _ _ _ h => h) (Or.inr ⟨by rfl, rfl⟩) ?_
      simp only [Act.put, List.setIfInBounds_toArray, List.set_cons_zero, List.set_cons_succ]
      refine anyS_take (i := 7) (oi := Oper.mk (some 18) _ _ _ _ _) (v := undef) rfl (by as_aux_lemma => kernel_rfl) (by as_aux_lemma => kernel_rfl) (by as_aux_lemma => kernel_rfl) (fun _ _ _ h => h) (Or.inr ⟨by rfl, rfl⟩) ?_
      simp only [Act.put, List.setIfInBounds_toArray, List.set_cons_zero, List.set_cons_succ]
      refine anyS_take (i := 8) (oi := Oper.mk (some 19) _ _ _ _ _) (v := undef) rfl (by as_aux_lemma => kernel_rfl) (by as_aux_lemma => kernel_rfl) (by as_aux_lemma => kernel_rfl) (fun _ _ _ h => h) (Or.inr ⟨by rfl, rfl⟩) ?_
      simp only [Act.put, List.setIfInBounds_toArray, List.set_cons_zero, List.set_cons_succ]
      refine anyS_take (i := 9) (oi := Oper.mk (some 20) _ _ _ _ _) (v := undef) rfl (by as_aux_lemma => kernel_rfl) (by as_aux_lemma => kernel_rfl) (by as_aux_lemma => kernel_rfl) (fun _ _ _ h => h) (Or.inr ⟨by rfl, rfl⟩) ?_
      simp only [Act.put, List.setIfInBounds_toArray, List.set_cons_zero, List.set_cons_succ]
      refine anyS_take (i := 10) (oi := Oper.mk (some 21) _ _ _ _ _) (v := undef) rfl (by as_aux_lemma => kernel_rfl) (by as_aux_lemma => kernel_rfl) (by as_aux_lemma => kernel_rfl) (fun _ _ _ h => h) (Or.inr ⟨by rfl, rfl⟩) ?_
      simp only [Act.put, List.setIfInBounds_toArray, List.set_cons_zero, List.set_cons_succ]
      refine anyS_take (i := 11) (oi := Oper.mk (some 22) _ _ _ _ _) (v := undef) rfl (by as_aux_lemma => kernel_rfl) (by as_aux_lemma => kernel_rfl) (by as_aux_lemma => kernel_rfl) (fun _ _ _ h => h) (Or.inr ⟨by rfl, rfl⟩) ?_
      simp only [Act.put, List.setIfInBounds_toArray, List.set_cons_zero, List.set_cons_succ]
      refine anyS_take (i := 12) (oi := Oper.mk (some 23) _ _ _ _ _) (v := undef) rfl (by as_aux_lemma => kernel_rfl) (by as_aux_lemma => kernel_rfl) (by as_aux_lemma => kernel_rfl) (fun _ _ _ h => h) (Or.inr ⟨by rfl, rfl⟩) ?_
      simp only [Act.put, List.setIfInBounds_toArray, List.set_cons_zero, List.set_cons_succ]
      refine anyS_take (i := 13) (oi := Oper.mk (some 24) _ _ _ _ _) (v := undef) rfl (by as_aux_lemma => kernel_rfl) (by as_aux_lemma => kernel_rfl) (by as_aux_lemma => kernel_rfl) (fun _ _ _ h => h) (Or.inr ⟨by rfl, rfl⟩) ?_
      simp only [Act.put, List.setIfInBounds_toArray, List.set_cons_zero, List.set_cons_succ]
      refine anyS_take (i := 14) (oi := Oper.mk (some 25) _ _ _ _ _) (v := undef) rfl (by as_aux_lemma => kernel_rfl) (by as_aux_lemma => kernel_rfl) (by as_aux_lemma => kernel_rfl) (fun _ _ _ h => h) (Or.inr ⟨by rfl, rfl⟩) ?_
      simp only [Act.put, List.setIfInBounds_toArray, List.set_cons_zero, List.set_cons_succ]
      refine anyS_take (i := 15) (oi := Oper.mk (some 26) _ _ _ _ _) (v := ?_) rfl (by as_aux_lemma => kernel_rfl) (by as_aux_lemma => kernel_rfl) (by as_aux_lemma => kernel_rfl) (fun _ _ _ h => h) (Or.inl ⟨by rfl, ?_⟩) ?_
      rotate_left
      · (intro w hSw; skip; go_simp <;> with_reducible rfl)
      simp only [Act.put, List.setIfInBounds_toArray, List.set_cons_zero, List.set_cons_succ]
      refine anyS_take (i := 16) (oi := Oper.mk (some 10) _ _ _ _ _) (v := ?_) rfl (by as_aux_lemma => kernel_rfl) (by as_aux_lemma => kernel_rfl) (by as_aux_lemma => kernel_rfl) (fun _ _ _ h => h) (Or.inl ⟨by rfl, ?_⟩) ?_
      rotate_left
      · (intro w hSw; skip; go_simp <;> with_reducible rfl)
      simp only [Act.put, List.setIfInBounds_toArray, List.set_cons_zero, List.set_cons_succ]
      refine anyS_done (by as_aux_lemma => kernel_rfl) (fun w hSw => ?_) _
      have F2 := Lib.hid hSw
      clear hSw
      go_wp2_with fail
      go_ret
      exact ⟨rfl, F2.out⟩
  · have hne : ((L' : Int) == (L : Int)) = false := by rw [beq_eq_false_iff_ne]; omega
    clear hk
    go_enter Tryz.func17, Tryz.ntmps17
    go_upto_region 17 with fail
    refine wp_region_held_drew (S := fun w' => Fr S0 w0 w') (by as_aux_lemma => kernel_rfl) (Fr.drew S0 _) (fun hHeld => ?_)
    refine held_of_any _ _ _ _ hHeld ?_
    clear hHeld
    refine anyS_take (i := 0) (oi := Oper.mk (some 11) _ _ _ _ _) (v := ?_) rfl (by as_aux_lemma => kernel_rfl) (by as_aux_lemma => kernel_rfl) (by as_aux_lemma => kernel_rfl) (fun _ _ _ h => h) (Or.inl ⟨by rfl, ?_⟩) ?_
    rotate_left
    · (intro w hSw; skip; go_simp <;> with_reducible rfl)
    simp only [Act.put, List.setIfInBounds_toArray, List.set_cons_zero, List.set_cons_succ]
    refine anyS_call 56 #[.pointer (some ⟨g2, 0, none⟩)] (i := 1) (oi := Oper.mk (some 12) _ _ _ _ _) (v := .agg #[.int .i64 (L' : Nat), .int .i64 (H' : Nat), .int .i64 (D' : Nat)]) rfl (by as_aux_lemma => kernel_rfl) (by as_aux_lemma => kernel_rfl) (by as_aux_lemma => kernel_rfl) (fun _ _ _ h => h) (by rfl) (fun w => ?_) (fun w hSw => ?_) ?_
    · first | rfl | (go_simp; done) | (go_simp; rfl)
    · exact (HY.out w hSw).mono fun e w2 he => ⟨he.1, Fr.trans0 hSw he.2⟩
    simp only [Act.put, List.setIfInBounds_toArray, List.set_cons_zero, List.set_cons_succ]
    refine anyS_take (i := 2) (oi := Oper.mk (some 13) _ _ _ _ _) (v := ?_) rfl (by as_aux_lemma => kernel_rfl) (by as_aux_lemma => kernel_rfl) (by as_aux_lemma => kernel_rfl) (fun _ _ _ h => h) (Or.inl ⟨by rfl, ?_⟩) ?_
    rotate_left
    · (intro w hSw; skip; go_simp <;> with_reducible rfl)
    simp only [Act.put, List.setIfInBounds_toArray, List.set_cons_zero, List.set_cons_succ]
    refine anyS_call 56 #[.pointer (some ⟨g, 0, none⟩)] (i := 3) (oi := Oper.mk (some 14) _ _ _ _ _) (v := .agg #[.int .i64 (L : Nat), .int .i64 (H : Nat), .int .i64 (D : Nat)]) rfl (by as_aux_lemma => kernel_rfl) (by as_aux_lemma => kernel_rfl) (by as_aux_lemma => kernel_rfl) (fun _ _ _ h => h) (by rfl) (fun w => ?_) (fun w hSw => ?_) ?_
    · first | rfl | (go_simp; done) | (go_simp; rfl)
    · exact (HX.out w hSw).mono fun e w2 he => ⟨he.1, Fr.trans0 hSw he.2⟩
    simp only [Act.put, List.setIfInBounds_toArray, List.set_cons_zero, List.set_cons_succ]
    refine anyS_take (i := 4) (oi := Oper.mk (some 15) _ _ _ _ _) (v := ?_) rfl (by as_aux_lemma => kernel_rfl) (by as_aux_lemma => kernel_rfl) (by as_aux_lemma => kernel_rfl) (fun _ _ _ h => h) (Or.inl ⟨by rfl, ?_⟩) ?_
    rotate_left
    · (intro w hSw; skip; go_simp <;> with_reducible rfl)
    simp only [Act.put, List.setIfInBounds_toArray, List.set_cons_zero, List.set_cons_succ]
    refine anyS_take (i := 5) (oi := Oper.mk (some 16) _ _ _ _ _) (v := ?_) rfl (by as_aux_lemma => kernel_rfl) (by as_aux_lemma => kernel_rfl) (by as_aux_lemma => kernel_rfl) (fun _ _ _ h => h) (Or.inl ⟨by rfl, ?_⟩) ?_
    rotate_left
    · (intro w hSw; skip; go_simp <;> with_reducible rfl)
    simp only [Act.put, List.setIfInBounds_toArray, List.set_cons_zero, List.set_cons_succ]
    refine anyS_take (i := 6) (oi := Oper.mk (some 17) _ _ _ _ _) (v := undef) rfl (by as_aux_lemma => kernel_rfl) (by as_aux_lemma => kernel_rfl) (by as_aux_lemma => kernel_rfl) (fun _ _ _ h => h) (Or.inr ⟨by rfl, rfl⟩) ?_
    simp only [Act.put, List.setIfInBounds_toArray, List.set_cons_zero, List.set_cons_succ]
    refine anyS_take (i := 7) (oi := Oper.mk (some 18) _ _ _ _ _) (v := undef) rfl (by as_aux_lemma => kernel_rfl) (by as_aux_lemma => kernel_rfl) (by as_aux_lemma => kernel_rfl) (fun _ _ _ h => h) (Or.inr ⟨by rfl, rfl⟩) ?_
    simp only [Act.put, List.setIfInBounds_toArray, List.set_cons_zero, List.set_cons_succ]
    refine anyS_take (i := 8) (oi := Oper.mk (some 19) _ _ _ _ _) (v := undef) rfl (by as_aux_lemma => kernel_rfl) (by as_aux_lemma => kernel_rfl) (by as_aux_lemma => kernel_rfl) (fun _ _ _ h => h) (Or.inr ⟨by rfl, rfl⟩) ?_
    simp only [Act.put, List.setIfInBounds_toArray, List.set_cons_zero, List.set_cons_succ]
    refine anyS_take (i := 9) (oi := Oper.mk (some 20) _ _ _ _ _) (v := undef) rfl (by as_aux_lemma => kernel_rfl) (by as_aux_lemma => kernel_rfl) (by as_aux_lemma => kernel_rfl) (fun _ _ _ h => h) (Or.inr ⟨by rfl, rfl⟩) ?_
    simp only [Act.put, List.setIfInBounds_toArray, List.set_cons_zero, List.set_cons_succ]
    refine anyS_take (i := 10) (oi := Oper.mk (some 21) _ _ _ _ _) (v := undef) rfl (by as_aux_lemma => kernel_rfl) (by as_aux_lemma => kernel_rfl) (by as_aux_lemma => kernel_rfl) (fun _ _ _ h => h) (Or.inr ⟨by rfl, rfl⟩) ?_
    simp only [Act.put, List.setIfInBounds_toArray, List.set_cons_zero, List.set_cons_succ]
    refine anyS_take (i := 11) (oi := Oper.mk (some 22) _ _ _ _ _) (v := undef) rfl (by as_aux_lemma => kernel_rfl) (by as_aux_lemma => kernel_rfl) (by as_aux_lemma => kernel_rfl) (fun _ _ _ h => h) (Or.inr ⟨by rfl, rfl⟩) ?_
    simp only [Act.put, List.setIfInBounds_toArray, List.set_cons_zero, List.set_cons_succ]
    refine anyS_take (i := 12) (oi := Oper.mk (some 23) _ _ _ _ _) (v := undef) rfl (by as_aux_lemma => kernel_rfl) (by as_aux_lemma => kernel_rfl) (by as_aux_lemma => kernel_rfl) (fun _ _ _ h => h) (Or.inr ⟨by rfl, rfl⟩) ?_
    simp only [Act.put, List.setIfInBounds_toArray, List.set_cons_zero, List.set_cons_succ]
    refine anyS_take (i := 13) (oi := Oper.mk (some 24) _ _ _ _ _) (v := undef) rfl (by as_aux_lemma => kernel_rfl) (by as_aux_lemma => kernel_rfl) (by as_aux_lemma => kernel_rfl) (fun _ _ _ h => h) (Or.inr ⟨by rfl, rfl⟩) ?_
    simp only [Act.put, List.setIfInBounds_toArray, List.set_cons_zero, List.set_cons_succ]
    refine anyS_take (i := 14) (oi := Oper.mk (some 25) _ _ _ _ _) (v := undef) rfl (by as_aux_lemma => kernel_rfl) (by as_aux_lemma => kernel_rfl) (by as_aux_lemma => kernel_rfl) (fun _ _ _ h => h) (Or.inr ⟨by rfl, rfl⟩) ?_
    simp only [Act.put, List.setIfInBounds_toArray, List.set_cons_zero, List.set_cons_succ]
    refine anyS_take (i := 15) (oi := Oper.mk (some 26) _ _ _ _ _) (v := ?_) rfl (by as_aux_lemma => kernel_rfl) (by as_aux_lemma => kernel_rfl) (by as_aux_lemma => kernel_rfl) (fun _ _ _ h => h) (Or.inl ⟨by rfl, ?_⟩) ?_
    rotate_left
    · (intro w hSw; skip; go_simp <;> with_reducible rfl)
    simp only [Act.put, List.setIfInBounds_toArray, List.set_cons_zero, List.set_cons_succ]
    refine anyS_take (i := 16) (oi := Oper.mk (some 10) _ _ _ _ _) (v := ?_) rfl (by as_aux_lemma => kernel_rfl) (by as_aux_lemma => kernel_rfl) (by as_aux_lemma => kernel_rfl) (fun _ _ _ h => h) (Or.inl ⟨by rfl, ?_⟩) ?_
    rotate_left
    · (intro w hSw; skip; go_simp <;> with_reducible rfl)
    simp only [Act.put, List.setIfInBounds_toArray, List.set_cons_zero, List.set_cons_succ]
    refine anyS_done (by as_aux_lemma => kernel_rfl) (fun w hSw => ?_) _
    have F2 := Lib.hid hSw
    clear hSw
    go_wp2_with fail
    go_ret
    exact ⟨rfl, F2.out⟩
end
end Go.Proofs.YthfcfmnaiopogaaGreat
