/- The document's histograms: what is refused, and what is counted. -/
import Derived.Test.YthfcfmnaiopogaaGreatHrRef
namespace Go.Proofs.YthfcfmnaiopogaaGreat
open Go.RowKit

section
variable (g : Nat) (p : Option Addr) (k c : Nat) (M : Hm) (w : World) (s : RefIs w g p k c M)
include s
set_option maxRecDepth 100000 in
set_option maxHeartbeats 1000000 in
theorem hcheck_any (v : Int) (n : Nat) (hv : v ≤ 9223372036854775807) (hn : n < 18446744073709551616) :
    Calls Tryz.prog 81 #[.pointer (some ⟨g, 0, none⟩), .int .i64 v, .int .u64 (n : Nat)] w fun e w' => e = .returned (.int .i64 (M.check v n : Nat)) ∧ Fr S0 w w' := by
  have hd := s.good
  have ht := hd.tot
  have HTOT := Lib.hid (fun W (f : Fr S0 w W) => rtotal_any p k c M.l W (s.pri.fr0 f) s.len (by omega))
  have HC7 := Lib.hid (fun W (f : Fr S0 w W) => (s.fr0 f).c7)
  have HT := Lib.hid (fun W => rtop_any M.u M.m (M.b : Nat) W hd.m1 hd.s)
  rw [cntB_nat M.b hd.b2 (by have := hd.b1; omega)] at HT
  have c3 := s.c3
  have c4 := s.c4
  have c5 := s.c5
  have c6 := s.c6
  have c7 := s.c7
  have htl := top_lt M.u M.m M.b
  unfold Hm.check
  obtain ⟨T, eT⟩ : ∃ T, top M.u M.m M.b = T := ⟨_, rfl⟩
  rw [eT] at HT htl ⊢
  obtain ⟨t, et⟩ : ∃ t, ltot M.l = t := ⟨_, rfl⟩
  rw [et] at HTOT ht ⊢
  obtain ⟨R, eR⟩ : ∃ R, 4611686018427387904 - t = R := ⟨_, rfl⟩
  rw [eR]
  have e1 : (4611686018427387904 : Int) - (t : Int) = (R : Int) := by omega
  have hR : R ≤ 4611686018427387904 := by omega
  have ht2 : t ≤ 4611686018427387904 := ht
  obtain ⟨B, eB⟩ : ∃ B, M.b = B := ⟨_, rfl⟩
  obtain ⟨u, eu⟩ : ∃ u, M.u = u := ⟨_, rfl⟩
  obtain ⟨m, em⟩ : ∃ m, M.m = m := ⟨_, rfl⟩
  obtain ⟨gr, eg⟩ : ∃ gr, M.gr = gr := ⟨_, rfl⟩
  rw [eB] at HT c6
  rw [eu] at HT c3
  rw [em] at HT c4
  rw [eg] at c5 ⊢
  clear s hd eT et eR eB eu em eg ht
  by_cases h0 : n = 0
  · rw [if_pos h0]
    subst h0
    clear HTOT HC7 HT c3 c4 c5 c6 c7 e1
    go_enter Tryz.func81, Tryz.ntmps81
    go_wp2_with fail
    go_ret
    exact ⟨rfl, Fr.refl _ _⟩
  rw [if_neg h0]
  have hn0 : ((n : Int) == 0) = false := by rw [beq_eq_false_iff_ne]; omega
  by_cases hneg : v < 0
  · rw [if_pos (Or.inl hneg)]
    clear HTOT HC7 HT e1
    go_enter Tryz.func81, Tryz.ntmps81
    go_upto_region 26 with fail
    go_quiet (fail)
    go_wp2_with fail
    go_ret
    exact ⟨rfl, Fr.drewN _ _ _⟩
  have dneg : decide (v < 0) = false := decide_eq_false hneg
  by_cases hgr : gr = true
  · rw [if_neg (by rw [hgr]; simp; omega)]
    subst hgr
    by_cases hbig : R < n
    · rw [if_pos hbig]
      go_enter Tryz.func81, Tryz.ntmps81
      go_upto_region 26 with fail
      go_quiet (fail)
      have d7 := HC7.out _ (Fr.drewN _ _ nq)
      go_wp2_with fail
      refine (HTOT.out _ (Fr.drewN _ _ nq)).mono ?_
      rintro e w1 ⟨rfl, f1⟩
      have F1 := Lib.hid ((Fr.drewN S0 w nq).trans0 f1)
      clear f1
      go_wp2_with fail
      go_ret
      exact ⟨rfl, F1.out⟩
    · rw [if_neg hbig]
      go_enter Tryz.func81, Tryz.ntmps81
      go_upto_region 26 with fail
      go_quiet (fail)
      have d7 := HC7.out _ (Fr.drewN _ _ nq)
      go_wp2_with fail
      refine (HTOT.out _ (Fr.drewN _ _ nq)).mono ?_
      rintro e w1 ⟨rfl, f1⟩
      have F1 := Lib.hid ((Fr.drewN S0 w nq).trans0 f1)
      clear f1
      go_wp2_with fail
      go_ret
      exact ⟨rfl, F1.out⟩
  · have hgf : gr = false := by simpa using hgr
    subst hgf
    clear hgr
    obtain ⟨V, rfl⟩ : ∃ V : Nat, v = V := ⟨v.toNat, by omega⟩
    by_cases hTv : T < V
    · rw [if_pos (Or.inr ⟨rfl, by omega⟩)]
      clear HTOT HC7 e1
      go_enter Tryz.func81, Tryz.ntmps81
      go_upto_region 26 with fail
      go_region_held3 (fun w' => w'.cell? ⟨g, 3, none⟩ = some (.int .i64 (u : Nat)) ∧ w'.cell? ⟨g, 4, none⟩ = some (.int .i64 (m : Nat)) ∧ w'.cell? ⟨g, 5, none⟩ = some (.bool false) ∧ w'.cell? ⟨g, 6, none⟩ = some (.int .i64 (B : Nat)))
        (first | (go_split_ands; exact ⟨by assumption, by assumption, by assumption, by assumption⟩))
        (first | (go_at_call 42; ((with_reducible refine (HT.out _).mono ?_); rintro _ _ ⟨rfl, rfl⟩)))
      go_wp2_with fail
      go_ret
      exact ⟨rfl, Fr.drew _ _⟩
    · rw [if_neg (by simp; omega)]
      by_cases hbig : R < n
      · rw [if_pos hbig]
        go_enter Tryz.func81, Tryz.ntmps81
        go_upto_region 26 with fail
        go_region_held3 (fun w' => w'.cell? ⟨g, 3, none⟩ = some (.int .i64 (u : Nat)) ∧ w'.cell? ⟨g, 4, none⟩ = some (.int .i64 (m : Nat)) ∧ w'.cell? ⟨g, 5, none⟩ = some (.bool false) ∧ w'.cell? ⟨g, 6, none⟩ = some (.int .i64 (B : Nat)))
          (first | (go_split_ands; exact ⟨by assumption, by assumption, by assumption, by assumption⟩))
          (first | (go_at_call 42; ((with_reducible refine (HT.out _).mono ?_); rintro _ _ ⟨rfl, rfl⟩)))
        have d7 := HC7.out _ (Fr.drew _ _)
        go_wp2_with fail
        refine (HTOT.out _ (Fr.drew _ _)).mono ?_
        rintro e w1 ⟨rfl, f1⟩
        have F1 := Lib.hid ((Fr.drew S0 w).trans0 f1)
        clear f1
        go_wp2_with fail
        go_ret
        exact ⟨rfl, F1.out⟩
      · rw [if_neg hbig]
        go_enter Tryz.func81, Tryz.ntmps81
        go_upto_region 26 with fail
        go_region_held3 (fun w' => w'.cell? ⟨g, 3, none⟩ = some (.int .i64 (u : Nat)) ∧ w'.cell? ⟨g, 4, none⟩ = some (.int .i64 (m : Nat)) ∧ w'.cell? ⟨g, 5, none⟩ = some (.bool false) ∧ w'.cell? ⟨g, 6, none⟩ = some (.int .i64 (B : Nat)))
          (first | (go_split_ands; exact ⟨by assumption, by assumption, by assumption, by assumption⟩))
          (first | (go_at_call 42; ((with_reducible refine (HT.out _).mono ?_); rintro _ _ ⟨rfl, rfl⟩)))
        have d7 := HC7.out _ (Fr.drew _ _)
        go_wp2_with fail
        refine (HTOT.out _ (Fr.drew _ _)).mono ?_
        rintro e w1 ⟨rfl, f1⟩
        have F1 := Lib.hid ((Fr.drew S0 w).trans0 f1)
        clear f1
        go_wp2_with fail
        go_ret
        exact ⟨rfl, F1.out⟩
end
end Go.Proofs.YthfcfmnaiopogaaGreat
