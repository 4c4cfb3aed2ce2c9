/- The landed histograms: check, add, Record. -/
import Derived.Test.YthfcfmnaiopogaaGreatHrIs
import Derived.Test.YthfcfmnaiopogaaGreatHmAll
namespace Go.Proofs.YthfcfmnaiopogaaGreat
open Go.RowKit Go.ChangeMaps

section
variable (g h : Nat) (M : Hm) (w : World) (s : HistIs w g h M)
include s
set_option maxRecDepth 100000 in
set_option maxHeartbeats 1000000 in
theorem xcheck_any (v : Int) (n : Nat) (hv0 : -9223372036854775808 ≤ v) (hv : v ≤ 9223372036854775807) (hn : n < 18446744073709551616) :
    Calls Tryz.prog 79 #[.pointer (some ⟨g, 0, none⟩), .int .i64 v, .int .u64 (n : Nat)] w fun e w' => e = .returned (.int .i64 (M.check v n : Nat)) ∧ Fr S0 w w' := by
  have HR := Lib.hid (fun W (f : Fr S0 w W) => xroom_any g h M W (s.fr0 f))
  have HT := Lib.hid (fun n => top_quiet g (M.L : Nat) (M.H : Nat) (M.D : Nat) M.u M.m (w.drewN n) (s.map.drewN n) (M.b : Nat))
  have hbd := s.good.b1
  have hb2 := s.good.b2
  rw [show cntB (M.b : Nat) = M.b by unfold cntB; omega] at HT
  have HC := Lib.hid (fun W (f : Fr S0 w W) => And.intro (s.fr0 f).c5 (s.fr0 f).c6)
  have c5 := s.c5
  have c6 := s.c6
  unfold Hm.check
  obtain ⟨T, eT⟩ : ∃ T, top M.u M.m M.b = T := ⟨_, rfl⟩
  have hT : T < 9223372036854775808 := by rw [← eT]; exact top_lt _ _ _
  obtain ⟨B, eB⟩ : ∃ B, M.b = B := ⟨_, rfl⟩
  obtain ⟨r, er⟩ : ∃ r, M.gr = r := ⟨_, rfl⟩
  obtain ⟨R, eR⟩ : ∃ R, 4611686018427387904 - ltot M.l = R := ⟨_, rfl⟩
  rw [eT] at HT ⊢
  rw [eB] at HT HC c6
  rw [er] at HC c5 ⊢
  rw [eR] at HR ⊢
  have HW := Lib.hid s.lt
  clear s hbd hb2 eT eB er eR
  by_cases h0 : n = 0
  · rw [if_pos h0]
    subst h0
    go_enter Tryz.func79, Tryz.ntmps79
    go_wp2_with fail
    go_ret
    exact ⟨rfl, Fr.refl _ _⟩
  · rw [if_neg h0]
    have hn0 : ((n : Int) == 0) = false := by rw [beq_eq_false_iff_ne]; omega
    by_cases hv1 : v < 0
    · rw [if_pos (.inl hv1)]
      have hd : decide (v < 0) = true := decide_eq_true hv1
      go_enter Tryz.func79, Tryz.ntmps79
      go_upto_region 22 with fail
      go_quiet (fail)
      go_wp2_with fail
      go_ret
      exact ⟨rfl, Fr.drewN _ _ _⟩
    · have hd : decide (v < 0) = false := decide_eq_false hv1
      obtain ⟨V, rfl⟩ : ∃ V : Nat, v = V := ⟨v.toNat, by omega⟩
      by_cases hvt : T < V
      · have hd2 : decide (T < V) = true := decide_eq_true hvt
        have hd3 : decide ((T : Int) < (V : Int)) = true := decide_eq_true (by omega)
        cases r with
        | false =>
          rw [if_pos (.inr ⟨rfl, by omega⟩)]
          go_enter Tryz.func79, Tryz.ntmps79
          go_upto_region 22 with fail
          go_quiet (first | (exact (HT.out _).mono fun _ _ h => ⟨h.1, _ + 1, h.2⟩))
          go_wp2_with fail
          go_ret
          exact ⟨rfl, Fr.drewN _ _ _⟩
        | true =>
          rw [if_neg (by rintro (hx | ⟨hx, -⟩) <;> first | omega | cases hx)]
          by_cases hr : R < n
          · rw [if_pos hr]
            have hd4 : decide (R < n) = true := decide_eq_true hr
            go_enter Tryz.func79, Tryz.ntmps79
            go_upto_region 22 with fail
            go_quiet (first | (exact (HT.out _).mono fun _ _ h => ⟨h.1, _ + 1, h.2⟩))
            go_wp2_with fail
            refine (HR.out _ (Fr.drewN _ _ _)).mono ?_
            rintro e w3 ⟨rfl, rfl⟩
            go_wp2_with fail
            go_ret
            exact ⟨rfl, Fr.drewN _ _ _⟩
          · rw [if_neg hr]
            have hd4 : decide (R < n) = false := decide_eq_false hr
            go_enter Tryz.func79, Tryz.ntmps79
            go_upto_region 22 with fail
            go_quiet (first | (exact (HT.out _).mono fun _ _ h => ⟨h.1, _ + 1, h.2⟩))
            go_wp2_with fail
            refine (HR.out _ (Fr.drewN _ _ _)).mono ?_
            rintro e w3 ⟨rfl, rfl⟩
            go_wp2_with fail
            go_ret
            exact ⟨rfl, Fr.drewN _ _ _⟩
      · have hd2 : decide (T < V) = false := decide_eq_false hvt
        have hd3 : decide ((T : Int) < (V : Int)) = false := decide_eq_false (by omega)
        rw [if_neg (by rintro (hx | ⟨-, hx⟩) <;> omega)]
        by_cases hr : R < n
        · rw [if_pos hr]
          have hd4 : decide (R < n) = true := decide_eq_true hr
          go_enter Tryz.func79, Tryz.ntmps79
          go_upto_region 22 with fail
          go_quiet (first | (exact (HT.out _).mono fun _ _ h => ⟨h.1, _ + 1, h.2⟩))
          go_wp2_with fail
          refine (HR.out _ (Fr.drewN _ _ _)).mono ?_
          rintro e w3 ⟨rfl, rfl⟩
          go_wp2_with fail
          go_ret
          exact ⟨rfl, Fr.drewN _ _ _⟩
        · rw [if_neg hr]
          have hd4 : decide (R < n) = false := decide_eq_false hr
          go_enter Tryz.func79, Tryz.ntmps79
          go_upto_region 22 with fail
          go_quiet (first | (exact (HT.out _).mono fun _ _ h => ⟨h.1, _ + 1, h.2⟩))
          go_wp2_with fail
          refine (HR.out _ (Fr.drewN _ _ _)).mono ?_
          rintro e w3 ⟨rfl, rfl⟩
          go_wp2_with fail
          go_ret
          exact ⟨rfl, Fr.drewN _ _ _⟩
end
end Go.Proofs.YthfcfmnaiopogaaGreat
