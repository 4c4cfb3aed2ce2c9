/- The landed histograms: values that came late; Correct. -/
import Derived.Test.YthfcfmnaiopogaaGreatHrAdd
namespace Go.Proofs.YthfcfmnaiopogaaGreat
open Go.RowKit Go.ChangeMaps

set_option maxRecDepth 100000 in
set_option maxHeartbeats 400000 in
theorem hidden_any (v x : Int) (w : World) (hv : -9223372036854775808 ≤ v) (hv2 : v ≤ 9223372036854775807) (hx : -9223372036854775808 ≤ x) (hx2 : x ≤ 9223372036854775807) :
    Calls Tryz.prog 99 #[.int .i64 v, .int .i64 x] w fun e w' => e = .returned (.int .i64 (Hm.more v x : Nat)) ∧ w' = w := by
  by_cases h1 : x < 1
  · rw [show Hm.more v x = 0 from if_pos (.inl h1)]
    go_enter Tryz.func99, Tryz.ntmps99
    go_wp2_with fail
    go_ret
    exact ⟨rfl, rfl⟩
  · obtain ⟨Q, eQ⟩ : ∃ Q, v.tdiv x = Q := ⟨_, rfl⟩
    obtain ⟨P, eP⟩ : ∃ P : Int, max Q 1 = P := ⟨_, rfl⟩
    have hQ : Q ≤ 9223372036854775807 ∧ -9223372036854775808 ≤ Q ∧ P - 1 = (Hm.more v x : Nat) := by
      obtain ⟨X, rfl⟩ : ∃ X : Nat, x = X := ⟨x.toNat, by omega⟩
      unfold Hm.more
      by_cases h0 : 0 < v
      · obtain ⟨V, rfl⟩ : ∃ V : Nat, v = V := ⟨v.toNat, by omega⟩
        rw [Int.tdiv_eq_ediv_of_nonneg (by omega)] at eQ
        rw [if_neg (by omega), eQ]
        rw [← Int.natCast_ediv] at eQ
        have := Nat.div_le_self V X
        generalize V / X = Z at *
        omega
      · obtain ⟨V, rfl⟩ : ∃ V : Nat, v = -(V : Int) := ⟨v.natAbs, by omega⟩
        rw [Int.neg_tdiv, Int.tdiv_eq_ediv_of_nonneg (by omega), ← Int.natCast_ediv] at eQ
        rw [if_pos (.inr (by omega))]
        have := Nat.div_le_self V X
        generalize V / X = Z at *
        omega
    obtain ⟨hQ1, hQ2, hR⟩ := hQ
    obtain ⟨R, eR⟩ : ∃ R, Hm.more v x = R := ⟨_, rfl⟩
    rw [eR] at hR ⊢
    have e2 : (if Q < 1 then 1 else Q) = P := by split <;> omega
    have w1 : IntKind.i64.wrap (P - 1) = (R : Int) := by rw [IntKind.wrap_i64]; omega
    have hP : P ≤ 9223372036854775807 ∧ 1 ≤ P := by omega
    have hx1 : ¬ x = 0 := by omega
    have hxm : ¬ x = -1 := by omega
    clear eR
    go_enter Tryz.func99, Tryz.ntmps99
    go_wp2_with fail
    go_ret
    exact ⟨rfl, rfl⟩

/-- the histogram when k of the values have been counted -/
def csM (M : Hm) (v e n : Nat) : Nat → Hm
  | 0 => M
  | j + 1 => M.counts v e n j
theorem csM_next (M : Hm) (v e n : Nat) : ∀ k, csM M v e n (k + 1) = (csM M v e n k).count (v - k * e) n
  | 0 => by rw [csM, csM, Hm.counts, Nat.zero_mul, Nat.sub_zero]
  | j + 1 => rfl
theorem csM_ok {M : Hm} (g : M.Good) {v e n o : Nat} (hv : v < 9223372036854775808) (hn : 0 < n) (hg : M.gr = false → v ≤ top M.u M.m M.b) (ht : ltot M.l + n * (o + 1) ≤ 4611686018427387904) {k : Nat} (hk : k ≤ o) :
    ltot (csM M v e n k).l + n ≤ 4611686018427387904 ∧ ((csM M v e n k).gr = false → v - k * e ≤ top (csM M v e n k).u (csM M v e n k).m (csM M v e n k).b) := by
  cases k with
  | zero =>
    rw [Nat.mul_succ] at ht
    exact ⟨by rw [csM]; omega, fun h => by rw [csM] at h ⊢; have := hg h; omega⟩
  | succ j =>
    have h1 : n * (j + 1 + 1) ≤ n * (o + 1) := Nat.mul_le_mul_left n (by omega)
    rw [Nat.mul_succ n (j + 1)] at h1
    obtain ⟨g1, g2⟩ := Hm.Good.counts g (e := e) hv hn hg j (by omega)
    obtain ⟨-, -, -, s4, s5, s6⟩ := Hm.counts_same M v e n j
    refine ⟨by rw [csM, Hm.counts_tot]; omega, fun h => ?_⟩
    rw [csM] at h ⊢
    rw [s5, s6, g2 (by rw [← s4]; exact h)]
    have := hg (by rw [← s4]; exact h)
    omega

section
variable (g h : Nat) (M : Hm) (w : World) (s : HistIs w g h M)
include s
set_option maxRecDepth 100000 in
set_option maxHeartbeats 1000000 in
theorem again_any (V n o : Nat) (x : Int) (hV : V < 9223372036854775808) (hn : 0 < n) (hg : M.gr = false → V ≤ top M.u M.m M.b) (ht : ltot M.l + n * (o + 1) ≤ 4611686018427387904) (ho : o ≤ 4096) (hx : o ≠ 0 → 0 < x ∧ (o + 1) * x ≤ V) :
    Calls Tryz.prog 100 #[.func (.func 80) #[.pointer (some ⟨g, 0, none⟩)] #[], .int .i64 (V : Nat), .int .u64 (n : Nat), .int .i64 x, .int .i64 (o : Nat)] w fun e w' => e = .returned (.tuple #[]) ∧ HistIs w' g h (M.counts V x.toNat n o) ∧ Fr (fun k => k = g ∨ k = h) w w' := by
  have HA := Lib.hid (fun k W (hk : k ≤ o) (s2 : HistIs W g h (csM M V x.toNat n k)) => xadd_any g h (csM M V x.toNat n k) W s2 (V - k * x.toNat) n (by omega) hn (csM_ok s.good hV hn hg ht hk).1 (csM_ok s.good hV hn hg ht hk).2)
  have HN := Lib.hid (csM_next M V x.toNat n)
  have HS := Lib.hid s
  have hcf : ∀ args W, (callFunc 80 args).run Tryz.prog W = .ok (.enter 80 args) W := fun _ _ => by kernel_rfl
  obtain ⟨O, eO⟩ : ∃ O, o + 1 = O := ⟨_, rfl⟩
  have HO := Lib.hid eO
  have e1 : (o : Int) + 1 = (O : Int) := by omega
  have w1 : IntKind.i64.wrap (O : Int) = (O : Int) := by rw [IntKind.wrap_i64]; omega
  have hO : O ≤ 4097 := by omega
  have HX := Lib.hid hx
  have hox : o ≤ 4096 := ho
  clear s hg ht hx eO
  go_enter Tryz.func100, Tryz.ntmps100
  go_wp2_with fail
  go_loopw [13] (fun a wr => ∃ k : Nat, a = .int .i64 (k : Nat) ∧ k ≤ O ∧ Hid (HistIs wr g h (csM M V x.toNat n k) ∧ Fr (fun j => j = g ∨ j = h) w wr)) (fun a _ => O - (intOf a).toNat)
  case atStart => exact ⟨0, rfl, Nat.zero_le _, Lib.hid ⟨HS.out, Fr.refl _ _⟩⟩
  case round =>
    obtain ⟨k, rfl, hk, HK⟩ := hrel
    by_cases hlt : k < O
    · have hko : k ≤ o := by have := HO.out; omega
      obtain ⟨P, eP⟩ : ∃ P, k * x.toNat = P := ⟨_, rfl⟩
      have hP : (k : Int) * x = (P : Int) ∧ P ≤ V := by
        rcases Nat.eq_zero_or_pos k with h0 | h0
        · subst h0; rw [Nat.zero_mul] at eP; subst eP; simp
        · obtain ⟨h1, h2⟩ := HX.out (by omega)
          obtain ⟨X, rfl⟩ : ∃ X : Nat, x = X := ⟨x.toNat, by omega⟩
          rw [show ((X : Nat) : Int).toNat = X by omega] at eP
          refine ⟨by rw [← eP, Int.natCast_mul], ?_⟩
          have h3 : (o + 1) * X ≤ V := by
            have : (((o + 1) * X : Nat) : Int) ≤ (V : Int) := by rw [Int.natCast_mul]; exact h2
            omega
          have h4 : k * X ≤ (o + 1) * X := Nat.mul_le_mul_right X (by omega)
          omega
      obtain ⟨hP1, hP2⟩ := hP
      obtain ⟨Z, eZ⟩ : ∃ Z, V - P = Z := ⟨_, rfl⟩
      have e2 : (V : Int) - (P : Int) = (Z : Int) := by omega
      have w2 : IntKind.i64.wrap (P : Int) = (P : Int) := by rw [IntKind.wrap_i64]; omega
      have w3 : IntKind.i64.wrap (Z : Int) = (Z : Int) := by rw [IntKind.wrap_i64]; omega
      have HAK := Lib.hid (HA.out k wr hko HK.out.1)
      have hN := HN.out k
      rw [eP, eZ] at HAK hN
      rw [← hN] at HAK
      have hltI : (k : Int) < (O : Int) := by omega
      clear hN hP2 eP eZ
      go_wp2_with fail
      refine HAK.out.mono ?_
      rintro e w2 ⟨rfl, s2, f2⟩
      have HK2 := Lib.hid (And.intro s2 (HK.out.2.trans f2 fun _ _ h => h))
      clear s2 f2 HAK
      go_wp2_with fail
      go_roundw
      case rel => exact ⟨k + 1, by go_num, by omega, HK2⟩
      case measure => simp [intOf]; omega
    · have hkO : k = O := by omega
      subst hkO
      have hf : decide ((k : Int) < (k : Int)) = false := decide_eq_false (by omega)
      go_wp2_with fail
      go_end0
      have := HK.out
      rw [← HO.out] at this
      exact ⟨rfl, this⟩

set_option maxRecDepth 100000 in
set_option maxHeartbeats 1000000 in
theorem xcorrect_any (v x : Int) (n : Nat) (hv0 : -9223372036854775808 ≤ v) (hv : v ≤ 9223372036854775807) (hx : -9223372036854775808 ≤ x) (hx2 : x ≤ 9223372036854775807) (hn : n < 18446744073709551616) :
    Calls Tryz.prog 53 #[.pointer (some ⟨g, 0, none⟩), .int .i64 v, .int .u64 (n : Nat), .int .i64 x] w fun e w' => e = .returned (.int .i64 (M.corE v n x : Nat)) ∧ HistIs w' g h (M.correct v n x) ∧ Fr (fun k => k = g ∨ k = h) w w' := by
  have HH := Lib.hid (hidden_any v x w hv0 hv hx hx2)
  have HC := Lib.hid (xcheck_any g h M w s v n hv0 hv hn)
  have HR := Lib.hid (fun W (f : Fr S0 w W) => xroom_any g h M W (s.fr0 f))
  have HS := Lib.hid s
  unfold Hm.correct
  by_cases h1 : 4096 < Hm.more v x
  · rw [show M.corE v n x = 1 from if_pos h1, if_neg (by omega)]
    obtain ⟨O, eO⟩ : ∃ O, Hm.more v x = O := ⟨_, rfl⟩
    rw [eO] at HH h1
    clear s eO
    go_enter Tryz.func53, Tryz.ntmps53
    go_wp2_with fail
    refine HH.out.mono ?_
    rintro e w1 ⟨rfl, rfl⟩
    go_wp2_with fail
    go_ret
    exact ⟨rfl, HS.out, Fr.refl _ _⟩
  · by_cases h2 : M.check v n = 0
    · obtain ⟨k1, k2, k3, k4⟩ := s.good.of_check h2
      obtain ⟨V, rfl⟩ : ∃ V : Nat, v = V := ⟨v.toNat, by omega⟩
      have htot := s.good.tot
      rw [show ((V : Nat) : Int).toNat = V by omega]
      have hmx : Hm.more (V : Nat) x ≠ 0 → 0 < x ∧ (Hm.more (V : Nat) x + 1 : Nat) * x ≤ V := fun hne => by
        unfold Hm.more at hne ⊢
        by_cases hc : x < 1 ∨ (V : Int) ≤ 0
        · rw [if_pos hc] at hne; omega
        · rw [if_neg hc] at hne ⊢
          obtain ⟨X, rfl⟩ : ∃ X : Nat, x = X := ⟨x.toNat, by omega⟩
          rw [← Int.natCast_ediv] at hne ⊢
          have h5 := Nat.div_mul_le_self V X
          obtain ⟨Z, eZ⟩ : ∃ Z, V / X = Z := ⟨_, rfl⟩
          rw [eZ] at hne h5 ⊢
          rw [show (((Z : Nat) : Int) - 1).toNat + 1 = Z by omega, ← Int.natCast_mul]
          omega
      by_cases h3 : 4611686018427387904 - ltot M.l < n * (Hm.more (V : Nat) x + 1)
      · rw [show M.corE (V : Nat) n x = 6 by unfold Hm.corE; rw [if_neg h1, if_neg (by omega), if_pos h3], if_neg (by omega)]
        obtain ⟨O, eO⟩ : ∃ O, Hm.more (V : Nat) x = O := ⟨_, rfl⟩
        obtain ⟨R, eR⟩ : ∃ R, 4611686018427387904 - ltot M.l = R := ⟨_, rfl⟩
        rw [eO] at HH h1 h3
        rw [eR] at HR h3
        rw [h2] at HC
        obtain ⟨P, eP⟩ : ∃ P, O + 1 = P := ⟨_, rfl⟩
        obtain ⟨Q, eQ⟩ : ∃ Q, R / P = Q := ⟨_, rfl⟩
        have hQR : Q ≤ R := by rw [← eQ]; exact Nat.div_le_self _ _
        have wQ : IntKind.u64.wrap (Q : Int) = (Q : Int) := by rw [IntKind.wrap_u64]; omega
        have hQ : Q < n := by rw [← eQ]; exact (Nat.div_lt_iff_lt_mul (by omega)).2 (by rw [← eP]; exact h3)
        have e1 : (O : Int) + 1 = (P : Int) := by omega
        have w1 : IntKind.i64.wrap (P : Int) = (P : Int) := by rw [IntKind.wrap_i64]; omega
        have w2 : IntKind.u64.wrap (P : Int) = (P : Int) := by rw [IntKind.wrap_u64]; omega
        have e2 : (R : Int) / (P : Int) = (Q : Int) := by rw [← eQ, Int.natCast_ediv]
        have hP0 : ¬ (P : Int) = 0 := by omega
        have hP4 : P ≤ 4097 := by omega
        clear hQR s eO eR eQ h2 h3 hmx k1 k2 k3 k4 htot
        go_enter Tryz.func53, Tryz.ntmps53
        go_wp2_with fail
        refine HH.out.mono ?_
        rintro e w1 ⟨rfl, rfl⟩
        go_wp2_with fail
        refine HC.out.mono ?_
        rintro e w2 ⟨rfl, f2⟩
        have F2 := Lib.hid f2
        clear f2
        go_wp2_with fail
        refine (HR.out _ F2.out).mono ?_
        rintro e w3 ⟨rfl, rfl⟩
        go_wp2_with fail
        go_ret
        exact ⟨rfl, HS.out.fr0 F2.out, F2.out.mono fun _ _ h => h.elim⟩
      · rw [show M.corE (V : Nat) n x = 0 by unfold Hm.corE; rw [if_neg h1, if_neg (by omega), if_neg h3], if_pos rfl]
        have HG := Lib.hid (fun W (f : Fr S0 w W) => again_any g h M W (s.fr0 f) V n (Hm.more (V : Nat) x) x (by omega) k1 (fun hg => by have := k3 hg; omega) (by omega) (by omega) hmx)
        have hmf : ∀ W, (Instr.makeFunc (.func 80) #[.pointer (some ⟨g, 0, none⟩)] #[]).run Tryz.prog W = .ok (.func (.func 80) #[.pointer (some ⟨g, 0, none⟩)] #[]) W := fun _ => by rfl
        obtain ⟨O, eO⟩ : ∃ O, Hm.more (V : Nat) x = O := ⟨_, rfl⟩
        obtain ⟨R, eR⟩ : ∃ R, 4611686018427387904 - ltot M.l = R := ⟨_, rfl⟩
        rw [eO] at HH h1 h3 HG ⊢
        rw [eR] at HR h3
        rw [h2] at HC
        obtain ⟨P, eP⟩ : ∃ P, O + 1 = P := ⟨_, rfl⟩
        obtain ⟨Q, eQ⟩ : ∃ Q, R / P = Q := ⟨_, rfl⟩
        have hQR : Q ≤ R := by rw [← eQ]; exact Nat.div_le_self _ _
        have wQ : IntKind.u64.wrap (Q : Int) = (Q : Int) := by rw [IntKind.wrap_u64]; omega
        have hQ : ¬ Q < n := by rw [← eQ, Nat.div_lt_iff_lt_mul (by omega), ← eP]; exact h3
        have hQd : decide (Q < n) = false := decide_eq_false hQ
        have e1 : (O : Int) + 1 = (P : Int) := by omega
        have w1 : IntKind.i64.wrap (P : Int) = (P : Int) := by rw [IntKind.wrap_i64]; omega
        have w2 : IntKind.u64.wrap (P : Int) = (P : Int) := by rw [IntKind.wrap_u64]; omega
        have e2 : (R : Int) / (P : Int) = (Q : Int) := by rw [← eQ, Int.natCast_ediv]
        have hP0 : ¬ (P : Int) = 0 := by omega
        have hP4 : P ≤ 4097 := by omega
        clear hQR s eO eR eQ h2 h3 hmx k1 k2 k3 k4 htot hQ
        go_enter Tryz.func53, Tryz.ntmps53
        go_wp2_with fail
        refine HH.out.mono ?_
        rintro e w1 ⟨rfl, rfl⟩
        go_wp2_with fail
        refine HC.out.mono ?_
        rintro e w2 ⟨rfl, f2⟩
        have F2 := Lib.hid f2
        clear f2
        go_wp2_with fail
        refine (HR.out _ F2.out).mono ?_
        rintro e w3 ⟨rfl, rfl⟩
        go_wp2_with fail
        refine (HG.out _ F2.out).mono ?_
        rintro e w4 ⟨rfl, s4, f4⟩
        have H4 := Lib.hid (And.intro s4 ((F2.out.mono fun _ _ h => h.elim).trans f4 fun _ _ h => h))
        clear s4 f4
        go_wp2_with fail
        go_ret
        exact ⟨rfl, H4.out⟩
    · rw [show M.corE v n x = M.check v n by unfold Hm.corE; rw [if_neg h1, if_pos h2], if_neg h2]
      obtain ⟨O, eO⟩ : ∃ O, Hm.more v x = O := ⟨_, rfl⟩
      obtain ⟨E, eE⟩ : ∃ E, M.check v n = E := ⟨_, rfl⟩
      rw [eO] at HH h1
      rw [eE] at HC h2 ⊢
      have hne : ((E : Int) == 0) = false := by rw [beq_eq_false_iff_ne]; omega
      clear s eO eE
      go_enter Tryz.func53, Tryz.ntmps53
      go_wp2_with fail
      refine HH.out.mono ?_
      rintro e w1 ⟨rfl, rfl⟩
      go_wp2_with fail
      refine HC.out.mono ?_
      rintro e w2 ⟨rfl, f2⟩
      have F2 := Lib.hid f2
      clear f2
      go_wp2_with fail
      go_ret
      exact ⟨rfl, HS.out.fr0 F2.out, F2.out.mono fun _ _ h => h.elim⟩
end
end Go.Proofs.YthfcfmnaiopogaaGreat
