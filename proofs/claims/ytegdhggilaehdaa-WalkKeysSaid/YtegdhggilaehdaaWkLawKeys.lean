/- The law on keys of ranks and parts. -/
import Derived.Test.YtegdhggilaehdaaWkAlive
import Derived.Test.YtegdhggilaehdaaWkRising
import Derived.Test.YtegdhggilaehdaaWkAsk
namespace Go.Proofs.Ytegdhggilaehdaa
open Go.RowKit

theorem keyE_one {l : List Pr} {r : Nat} (hl : 0 < ltot l) (h : r = 0 ∨ ltot l < r) : keyE l r = 1 ∧ keyV l r = 0 := by
  have h0 : l ≠ [] := by rintro rfl; simp [ltot] at hl
  have e : keyE l r = 1 := by unfold keyE; rw [if_neg h0, if_pos h]
  exact ⟨e, by unfold keyV; rw [e, if_neg (by decide)]⟩
theorem keyE_eight (r : Nat) : keyE [] r = 8 ∧ keyV [] r = 0 := ⟨rfl, rfl⟩
theorem keyE_zero {l : List Pr} {r : Nat} (h1 : 1 ≤ r) (h2 : r ≤ ltot l) : keyE l r = 0 ∧ keyV l r = keyW l r := by
  have hl : l ≠ [] := by rintro rfl; simp only [ltot] at h2; omega
  have e : keyE l r = 0 := by unfold keyE; rw [if_neg hl, if_neg (by omega)]
  exact ⟨e, by unfold keyV; rw [if_pos e]⟩

set_option maxRecDepth 100000 in
set_option maxHeartbeats 4000000 in
theorem law_keys (p : Option Addr) (n c : Nat) (l : List Pr) (r a b : Nat) (ask : Int) (w : World) (h : PrI w p l) (hn : l.length = n) (h64 : ∀ x ∈ l, x.2 < 18446744073709551616) (hr : r < 18446744073709551616) (hb : b < 18446744073709551616) :
    Calls Try.prog 4 #[.slice p n c, .int .u64 (r : Nat), .int .u64 (a : Nat), .int .u64 (b : Nat), .int .i64 ask] w fun e w' => e = .returned (.bool true) ∧ Fr S0 w w' := by
  have HA := Lib.hid (alive_any w)
  have HRI := Lib.hid (fun W (f : Fr S0 w W) => rising_any p n c l W (h.fr0 f) hn h64)
  clear h hn h64
  go_enter Try.func4, Try.ntmps4
  go_wp2_with fail
  refine HA.out.mono ?_
  rintro e w1 ⟨rfl, f1⟩
  have HF1 := Lib.hid f1
  clear f1 HA
  go_wp2_with fail
  refine (HRI.out _ HF1.out).mono ?_
  rintro e w2 ⟨q, d, m, rfl, L, hr2⟩
  have HR2 := Lib.hid hr2
  have hm := hr2.small
  clear hr2 HRI
  have HN := Lib.hid (new_any q m d L w2 HR2.out.pri HR2.out.len (by omega) HR2.out.h64)
  go_wp2_with fail
  refine HN.out.mono ?_
  rintro e w3 ⟨f3, ⟨-, g, rfl, ht, -⟩ | ⟨hno, -⟩⟩
  case inr => exact absurd HR2.out.ok hno
  have HAS : Hid (Asked w3 g q m d L) := Lib.hid ⟨ht, HR2.out.pri.fr0 f3, HR2.out.len⟩
  have HF3 := Lib.hid ((HF1.out.trans0 HR2.out.fr).trans0 f3)
  have HT := Lib.hid (HAS.out.rtot w3 (Fr.refl _ _))
  clear f3 ht HN HF1
  have HK := Lib.hid (fun R (hR : R < 18446744073709551616) W (f : Fr S0 w3 W) => key_any g R L W (HAS.out.tab.fr0 f) hR)
  have HPA := Lib.hid (fun W (f : Fr S0 w3 W) => part_any g L W a b (HAS.out.tab.fr0 f) hb)
  have HRR := Lib.hid (fun W => rrank_any a b (ltot L) W HAS.out.h64 hb)
  have HB1 := Lib.hid (fun k W (f : Fr S0 w3 W) => below_any g k L W (HAS.out.tab.fr0 f))
  have HU1 := Lib.hid (fun k W (f : Fr S0 w3 W) => upto_any g k L W (HAS.out.tab.fr0 f))
  have HE0 : Hid (rkE a b (ltot L) = 0 → partV L a b = keyW L (rkR a b (ltot L)) ∧ 1 ≤ rkR a b (ltot L) ∧ rkR a b (ltot L) ≤ ltot L) := Lib.hid fun h => by
    obtain ⟨h1, h2, h3, h4⟩ := rk_yes h
    refine ⟨by unfold partV; rw [if_pos h], ?_⟩
    rw [h4]
    exact rnk_all h2 h3
  have HE1 : Hid (rkE a b (ltot L) ≠ 0 → partV L a b = 0) := Lib.hid fun h => by unfold partV; rw [if_neg h]
  have HLE : Hid (ltot L = 0 → rkE a b (ltot L) ≠ 0) := Lib.hid fun h h2 => by have := (rk_yes h2).2.2.1; omega
  obtain ⟨E, hE⟩ : ∃ E, rkE a b (ltot L) = E := ⟨_, rfl⟩
  obtain ⟨S, hS⟩ : ∃ S, rkR a b (ltot L) = S := ⟨_, rfl⟩
  obtain ⟨V, hV⟩ : ∃ V, partV L a b = V := ⟨_, rfl⟩
  rw [hE, hS] at HRR HE0
  rw [hE] at HPA HE1 HLE
  rw [hV] at HPA HE0 HE1
  have HBA := Lib.hid (HB1.out ask)
  have HUA := Lib.hid (HU1.out ask)
  have HRB := Lib.hid (HAS.out.rbel ask)
  have HRU := Lib.hid (HAS.out.rupt ask)
  obtain ⟨BA, hBA⟩ : ∃ x, bel L ask = x := ⟨_, rfl⟩
  obtain ⟨UA, hUA⟩ : ∃ x, upt L ask = x := ⟨_, rfl⟩
  rw [hBA] at HBA HRB
  rw [hUA] at HUA HRU
  clear hE hS hV hBA hUA
  by_cases hL : L = []
  · subst hL
    have HK0 := Lib.hid (HK.out r hr)
    rw [(keyE_eight r).1, (keyE_eight r).2] at HK0
    rw [show ltot [] = 0 from rfl] at HT HLE HRR
    clear HK hr
    go_wp2_with fail
    refine (HT.out).mono ?_
    rintro e u5 ⟨rfl, f5⟩
    have G5 := Lib.hid (f5)
    clear f5
    go_wp2_with fail
    refine (HK0.out _ G5.out).mono ?_
    rintro e u6 ⟨rfl, f6⟩
    have G6 := Lib.hid (G5.out.trans0 f6)
    clear f6 G5
    go_wp2_with fail
    refine (HPA.out _ G6.out).mono ?_
    rintro e u7 ⟨rfl, f7⟩
    have G7 := Lib.hid (G6.out.trans0 f7)
    clear f7 G6
    go_wp2_with fail
    refine (HRR.out _).mono ?_
    rintro e u8 ⟨rfl, f8⟩
    have G8 := Lib.hid (G7.out.trans0 f8)
    clear f8 G7
    have hE0 := HLE.out (by trivial)
    have hv := HE1.out hE0
    have e0 : ((E : Int) == 0) = false := by rw [beq_eq_false_iff_ne]; omega
    have e1 : ((E : Int) != 0) = true := by rw [bne_iff_ne]; omega
    subst hv
    clear hE0 HE0 HE1 HLE
    go_wp2_with fail
    refine (HBA.out _ G8.out).mono ?_
    rintro e u9 ⟨rfl, f9⟩
    have G9 := Lib.hid (G8.out.trans0 f9)
    clear f9 G8
    go_wp2_with fail
    refine (HRB.out _ G9.out).mono ?_
    rintro e u10 ⟨rfl, f10⟩
    have G10 := Lib.hid (G9.out.trans0 f10)
    clear f10 G9
    go_wp2_with fail
    refine (HUA.out _ G10.out).mono ?_
    rintro e u11 ⟨rfl, f11⟩
    have G11 := Lib.hid (G10.out.trans0 f11)
    clear f11 G10
    go_wp2_with fail
    refine (HRU.out _ G11.out).mono ?_
    rintro e u12 ⟨rfl, f12⟩
    have G12 := Lib.hid (G11.out.trans0 f12)
    clear f12 G11
    go_wp2_with fail
    go_ret
    exact ⟨by simp, HF3.out.trans0 G12.out⟩
  have htp : 0 < ltot L := by
    rcases Nat.eq_zero_or_pos (ltot L) with h | h
    · exact absurd ((tot_zero HAS.out.tab.ok.pos).1 h) hL
    · exact h
  have h62 := HAS.out.tab.ok.tot
  have HKO : Hid (∀ R, R < 18446744073709551616 → R = 0 ∨ ltot L < R → keyE L R = 1 ∧ keyV L R = 0) := Lib.hid fun R _ h => keyE_one htp h
  have HKI : Hid (∀ R, 1 ≤ R → R ≤ ltot L → keyE L R = 0 ∧ keyV L R = keyW L R ∧ bel L (keyW L R) < R ∧ R ≤ upt L (keyW L R)) := Lib.hid fun R h1 h2 => ⟨(keyE_zero h1 h2).1, (keyE_zero h1 h2).2, (keyW_rank HAS.out.tab.ok.srt h1 h2).2⟩
  have HRK0 := Lib.hid (fun R h1 h2 => HAS.out.rkey R h1 h2)
  obtain ⟨T, hT⟩ : ∃ T, ltot L = T := ⟨_, rfl⟩
  have HTT := Lib.hid hT
  rw [hT] at HT HRR HE0 HLE htp h62 HKO HKI HRK0
  have t0 : ((T : Int) == 0) = false := by rw [beq_eq_false_iff_ne]; omega
  have t1 : decide (0 < T) = true := decide_eq_true htp
  clear hL hT
  obtain ⟨Q, hQ⟩ : ∃ Q, r % 4 = Q := ⟨_, rfl⟩
  have eQ : (r : Int) % 4 = (Q : Int) := by omega
  by_cases hq : 0 < Q
  · have dq : decide (0 < Q) = true := decide_eq_true hq
    obtain ⟨R, hR⟩ : ∃ R, 1 + r % T = R := ⟨_, rfl⟩
    have hmod := Nat.mod_lt r htp
    have eR2 : IntKind.u64.wrap (1 + (r : Int) % (T : Int)) = (R : Int) := wrap_nat (by omega) (by omega)
    have r1 : 1 ≤ R := by omega
    have r2 : R ≤ T := by omega
    have hTne : (T : Int) ≠ 0 := by omega
    clear hR hmod
    obtain ⟨z1, z2, z3, z4⟩ := HKI.out R r1 r2
    have HK0 := Lib.hid (HK.out R (by omega))
    rw [z1, z2] at HK0
    have HRK := Lib.hid (HRK0.out R r1 r2)
    have HBK := Lib.hid (HB1.out (keyW L R))
    have HUK := Lib.hid (HU1.out (keyW L R))
    obtain ⟨K, hK⟩ : ∃ K, keyW L R = K := ⟨_, rfl⟩
    rw [hK] at HK0 HRK HBK HUK z3 z4
    obtain ⟨BK, hBK⟩ : ∃ x, bel L K = x := ⟨_, rfl⟩
    obtain ⟨UK, hUK⟩ : ∃ x, upt L K = x := ⟨_, rfl⟩
    rw [hBK] at HBK z3
    rw [hUK] at HUK z4
    have x1 : decide ((R : Int) < 1) = false := decide_eq_false (by omega)
    have x2 : decide (T < R) = false := decide_eq_false (by omega)
    have x3 : decide (1 ≤ (R : Int)) = true := decide_eq_true (by omega)
    have x4 : decide (R ≤ T) = true := decide_eq_true r2
    have x5 : decide (R ≤ BK) = false := decide_eq_false (by omega)
    have x6 : decide (UK < R) = false := decide_eq_false (by omega)
    clear hK hBK hUK z1 z2 z3 z4 HK HKI HKO HB1 HU1 r1 r2 htp h62 hr hq hQ
    go_wp2_with fail
    refine (HT.out).mono ?_
    rintro e u5 ⟨rfl, f5⟩
    have G5 := Lib.hid (f5)
    clear f5
    go_wp2_with fail
    refine (HK0.out _ G5.out).mono ?_
    rintro e u6 ⟨rfl, f6⟩
    have G6 := Lib.hid (G5.out.trans0 f6)
    clear f6 G5
    go_wp2_with fail
    refine (HRK.out _ G6.out).mono ?_
    rintro e u7 ⟨rfl, f7⟩
    have G7 := Lib.hid (G6.out.trans0 f7)
    clear f7 G6
    go_wp2_with fail
    refine (HBK.out _ G7.out).mono ?_
    rintro e u8 ⟨rfl, f8⟩
    have G8 := Lib.hid (G7.out.trans0 f8)
    clear f8 G7
    go_wp2_with fail
    refine (HUK.out _ G8.out).mono ?_
    rintro e u9 ⟨rfl, f9⟩
    have G9 := Lib.hid (G8.out.trans0 f9)
    clear f9 G8
    go_wp2_with fail
    refine (HPA.out _ G9.out).mono ?_
    rintro e u10 ⟨rfl, f10⟩
    have G10 := Lib.hid (G9.out.trans0 f10)
    clear f10 G9
    go_wp2_with fail
    refine (HRR.out _).mono ?_
    rintro e u11 ⟨rfl, f11⟩
    have G11 := Lib.hid (G10.out.trans0 f11)
    clear f11 G10
    by_cases hE0 : E = 0
    · obtain ⟨hv, hs1, hs2⟩ := HE0.out hE0
      have HRKS := Lib.hid (HRK0.out S hs1 hs2)
      rw [← hv] at HRKS
      subst hE0
      clear hv hs1 hs2 HE0 HE1 HLE
      go_wp2_with fail
      refine (HRKS.out _ G11.out).mono ?_
      rintro e u12 ⟨rfl, f12⟩
      have G12 := Lib.hid (G11.out.trans0 f12)
      clear f12 G11
      go_wp2_with fail
      refine (HBA.out _ G12.out).mono ?_
      rintro e u13 ⟨rfl, f13⟩
      have G13 := Lib.hid (G12.out.trans0 f13)
      clear f13 G12
      go_wp2_with fail
      refine (HRB.out _ G13.out).mono ?_
      rintro e u14 ⟨rfl, f14⟩
      have G14 := Lib.hid (G13.out.trans0 f14)
      clear f14 G13
      go_wp2_with fail
      refine (HUA.out _ G14.out).mono ?_
      rintro e u15 ⟨rfl, f15⟩
      have G15 := Lib.hid (G14.out.trans0 f15)
      clear f15 G14
      go_wp2_with fail
      refine (HRU.out _ G15.out).mono ?_
      rintro e u16 ⟨rfl, f16⟩
      have G16 := Lib.hid (G15.out.trans0 f16)
      clear f16 G15
      go_wp2_with fail
      go_ret
      exact ⟨by simp, HF3.out.trans0 G16.out⟩
    · have hv := HE1.out hE0
      have e0 : ((E : Int) == 0) = false := by rw [beq_eq_false_iff_ne]; omega
      have e1 : ((E : Int) != 0) = true := by rw [bne_iff_ne]; omega
      subst hv
      clear hE0 HE0 HE1 HLE
      go_wp2_with fail
      refine (HBA.out _ G11.out).mono ?_
      rintro e u12 ⟨rfl, f12⟩
      have G12 := Lib.hid (G11.out.trans0 f12)
      clear f12 G11
      go_wp2_with fail
      refine (HRB.out _ G12.out).mono ?_
      rintro e u13 ⟨rfl, f13⟩
      have G13 := Lib.hid (G12.out.trans0 f13)
      clear f13 G12
      go_wp2_with fail
      refine (HUA.out _ G13.out).mono ?_
      rintro e u14 ⟨rfl, f14⟩
      have G14 := Lib.hid (G13.out.trans0 f14)
      clear f14 G13
      go_wp2_with fail
      refine (HRU.out _ G14.out).mono ?_
      rintro e u15 ⟨rfl, f15⟩
      have G15 := Lib.hid (G14.out.trans0 f15)
      clear f15 G14
      go_wp2_with fail
      go_ret
      exact ⟨by simp, HF3.out.trans0 G15.out⟩
  have dq : decide (0 < Q) = false := decide_eq_false hq
  by_cases hin : 1 ≤ r ∧ r ≤ T
  · obtain ⟨r1, r2⟩ := hin
    obtain ⟨R, hR⟩ : ∃ R, r = R := ⟨_, rfl⟩
    subst hR
    obtain ⟨z1, z2, z3, z4⟩ := HKI.out r r1 r2
    have HK0 := Lib.hid (HK.out r (by omega))
    rw [z1, z2] at HK0
    have HRK := Lib.hid (HRK0.out r r1 r2)
    have HBK := Lib.hid (HB1.out (keyW L r))
    have HUK := Lib.hid (HU1.out (keyW L r))
    obtain ⟨K, hK⟩ : ∃ K, keyW L r = K := ⟨_, rfl⟩
    rw [hK] at HK0 HRK HBK HUK z3 z4
    obtain ⟨BK, hBK⟩ : ∃ x, bel L K = x := ⟨_, rfl⟩
    obtain ⟨UK, hUK⟩ : ∃ x, upt L K = x := ⟨_, rfl⟩
    rw [hBK] at HBK z3
    rw [hUK] at HUK z4
    have x1 : decide ((r : Int) < 1) = false := decide_eq_false (by omega)
    have x2 : decide (T < r) = false := decide_eq_false (by omega)
    have x3 : decide (1 ≤ (r : Int)) = true := decide_eq_true (by omega)
    have x4 : decide (r ≤ T) = true := decide_eq_true r2
    have x5 : decide (r ≤ BK) = false := decide_eq_false (by omega)
    have x6 : decide (UK < r) = false := decide_eq_false (by omega)
    clear hK hBK hUK z1 z2 z3 z4 HK HKI HKO HB1 HU1 r1 r2 htp h62 hr hq hQ
    go_wp2_with fail
    refine (HT.out).mono ?_
    rintro e u5 ⟨rfl, f5⟩
    have G5 := Lib.hid (f5)
    clear f5
    go_wp2_with fail
    refine (HK0.out _ G5.out).mono ?_
    rintro e u6 ⟨rfl, f6⟩
    have G6 := Lib.hid (G5.out.trans0 f6)
    clear f6 G5
    go_wp2_with fail
    refine (HRK.out _ G6.out).mono ?_
    rintro e u7 ⟨rfl, f7⟩
    have G7 := Lib.hid (G6.out.trans0 f7)
    clear f7 G6
    go_wp2_with fail
    refine (HBK.out _ G7.out).mono ?_
    rintro e u8 ⟨rfl, f8⟩
    have G8 := Lib.hid (G7.out.trans0 f8)
    clear f8 G7
    go_wp2_with fail
    refine (HUK.out _ G8.out).mono ?_
    rintro e u9 ⟨rfl, f9⟩
    have G9 := Lib.hid (G8.out.trans0 f9)
    clear f9 G8
    go_wp2_with fail
    refine (HPA.out _ G9.out).mono ?_
    rintro e u10 ⟨rfl, f10⟩
    have G10 := Lib.hid (G9.out.trans0 f10)
    clear f10 G9
    go_wp2_with fail
    refine (HRR.out _).mono ?_
    rintro e u11 ⟨rfl, f11⟩
    have G11 := Lib.hid (G10.out.trans0 f11)
    clear f11 G10
    by_cases hE0 : E = 0
    · obtain ⟨hv, hs1, hs2⟩ := HE0.out hE0
      have HRKS := Lib.hid (HRK0.out S hs1 hs2)
      rw [← hv] at HRKS
      subst hE0
      clear hv hs1 hs2 HE0 HE1 HLE
      go_wp2_with fail
      refine (HRKS.out _ G11.out).mono ?_
      rintro e u12 ⟨rfl, f12⟩
      have G12 := Lib.hid (G11.out.trans0 f12)
      clear f12 G11
      go_wp2_with fail
      refine (HBA.out _ G12.out).mono ?_
      rintro e u13 ⟨rfl, f13⟩
      have G13 := Lib.hid (G12.out.trans0 f13)
      clear f13 G12
      go_wp2_with fail
      refine (HRB.out _ G13.out).mono ?_
      rintro e u14 ⟨rfl, f14⟩
      have G14 := Lib.hid (G13.out.trans0 f14)
      clear f14 G13
      go_wp2_with fail
      refine (HUA.out _ G14.out).mono ?_
      rintro e u15 ⟨rfl, f15⟩
      have G15 := Lib.hid (G14.out.trans0 f15)
      clear f15 G14
      go_wp2_with fail
      refine (HRU.out _ G15.out).mono ?_
      rintro e u16 ⟨rfl, f16⟩
      have G16 := Lib.hid (G15.out.trans0 f16)
      clear f16 G15
      go_wp2_with fail
      go_ret
      exact ⟨by simp, HF3.out.trans0 G16.out⟩
    · have hv := HE1.out hE0
      have e0 : ((E : Int) == 0) = false := by rw [beq_eq_false_iff_ne]; omega
      have e1 : ((E : Int) != 0) = true := by rw [bne_iff_ne]; omega
      subst hv
      clear hE0 HE0 HE1 HLE
      go_wp2_with fail
      refine (HBA.out _ G11.out).mono ?_
      rintro e u12 ⟨rfl, f12⟩
      have G12 := Lib.hid (G11.out.trans0 f12)
      clear f12 G11
      go_wp2_with fail
      refine (HRB.out _ G12.out).mono ?_
      rintro e u13 ⟨rfl, f13⟩
      have G13 := Lib.hid (G12.out.trans0 f13)
      clear f13 G12
      go_wp2_with fail
      refine (HUA.out _ G13.out).mono ?_
      rintro e u14 ⟨rfl, f14⟩
      have G14 := Lib.hid (G13.out.trans0 f14)
      clear f14 G13
      go_wp2_with fail
      refine (HRU.out _ G14.out).mono ?_
      rintro e u15 ⟨rfl, f15⟩
      have G15 := Lib.hid (G14.out.trans0 f15)
      clear f15 G14
      go_wp2_with fail
      go_ret
      exact ⟨by simp, HF3.out.trans0 G15.out⟩
  have hout : r = 0 ∨ T < r := by omega
  obtain ⟨z1, z2⟩ := HKO.out r hr hout
  have HK0 := Lib.hid (HK.out r hr)
  rw [z1, z2] at HK0
  by_cases hr0 : r = 0
  · have x1 : decide ((r : Int) < 1) = true := decide_eq_true (by omega)
    have x3 : decide (1 ≤ (r : Int)) = false := decide_eq_false (by omega)
    clear z1 z2 HK HKI HKO HB1 HU1 hout hin htp h62 hr hq hr0 hQ
    go_wp2_with fail
    refine (HT.out).mono ?_
    rintro e u5 ⟨rfl, f5⟩
    have G5 := Lib.hid (f5)
    clear f5
    go_wp2_with fail
    refine (HK0.out _ G5.out).mono ?_
    rintro e u6 ⟨rfl, f6⟩
    have G6 := Lib.hid (G5.out.trans0 f6)
    clear f6 G5
    go_wp2_with fail
    refine (HPA.out _ G6.out).mono ?_
    rintro e u7 ⟨rfl, f7⟩
    have G7 := Lib.hid (G6.out.trans0 f7)
    clear f7 G6
    go_wp2_with fail
    refine (HRR.out _).mono ?_
    rintro e u8 ⟨rfl, f8⟩
    have G8 := Lib.hid (G7.out.trans0 f8)
    clear f8 G7
    by_cases hE0 : E = 0
    · obtain ⟨hv, hs1, hs2⟩ := HE0.out hE0
      have HRKS := Lib.hid (HRK0.out S hs1 hs2)
      rw [← hv] at HRKS
      subst hE0
      clear hv hs1 hs2 HE0 HE1 HLE
      go_wp2_with fail
      refine (HRKS.out _ G8.out).mono ?_
      rintro e u9 ⟨rfl, f9⟩
      have G9 := Lib.hid (G8.out.trans0 f9)
      clear f9 G8
      go_wp2_with fail
      refine (HBA.out _ G9.out).mono ?_
      rintro e u10 ⟨rfl, f10⟩
      have G10 := Lib.hid (G9.out.trans0 f10)
      clear f10 G9
      go_wp2_with fail
      refine (HRB.out _ G10.out).mono ?_
      rintro e u11 ⟨rfl, f11⟩
      have G11 := Lib.hid (G10.out.trans0 f11)
      clear f11 G10
      go_wp2_with fail
      refine (HUA.out _ G11.out).mono ?_
      rintro e u12 ⟨rfl, f12⟩
      have G12 := Lib.hid (G11.out.trans0 f12)
      clear f12 G11
      go_wp2_with fail
      refine (HRU.out _ G12.out).mono ?_
      rintro e u13 ⟨rfl, f13⟩
      have G13 := Lib.hid (G12.out.trans0 f13)
      clear f13 G12
      go_wp2_with fail
      go_ret
      exact ⟨by simp, HF3.out.trans0 G13.out⟩
    · have hv := HE1.out hE0
      have e0 : ((E : Int) == 0) = false := by rw [beq_eq_false_iff_ne]; omega
      have e1 : ((E : Int) != 0) = true := by rw [bne_iff_ne]; omega
      subst hv
      clear hE0 HE0 HE1 HLE
      go_wp2_with fail
      refine (HBA.out _ G8.out).mono ?_
      rintro e u9 ⟨rfl, f9⟩
      have G9 := Lib.hid (G8.out.trans0 f9)
      clear f9 G8
      go_wp2_with fail
      refine (HRB.out _ G9.out).mono ?_
      rintro e u10 ⟨rfl, f10⟩
      have G10 := Lib.hid (G9.out.trans0 f10)
      clear f10 G9
      go_wp2_with fail
      refine (HUA.out _ G10.out).mono ?_
      rintro e u11 ⟨rfl, f11⟩
      have G11 := Lib.hid (G10.out.trans0 f11)
      clear f11 G10
      go_wp2_with fail
      refine (HRU.out _ G11.out).mono ?_
      rintro e u12 ⟨rfl, f12⟩
      have G12 := Lib.hid (G11.out.trans0 f12)
      clear f12 G11
      go_wp2_with fail
      go_ret
      exact ⟨by simp, HF3.out.trans0 G12.out⟩
  · have x1 : decide ((r : Int) < 1) = false := decide_eq_false (by omega)
    have x2 : decide (T < r) = true := decide_eq_true (by omega)
    have x3 : decide (1 ≤ (r : Int)) = true := decide_eq_true (by omega)
    have x4 : decide (r ≤ T) = false := decide_eq_false (by omega)
    clear z1 z2 HK HKI HKO HB1 HU1 hout hin htp h62 hr hq hr0 hQ
    go_wp2_with fail
    refine (HT.out).mono ?_
    rintro e u5 ⟨rfl, f5⟩
    have G5 := Lib.hid (f5)
    clear f5
    go_wp2_with fail
    refine (HK0.out _ G5.out).mono ?_
    rintro e u6 ⟨rfl, f6⟩
    have G6 := Lib.hid (G5.out.trans0 f6)
    clear f6 G5
    go_wp2_with fail
    refine (HPA.out _ G6.out).mono ?_
    rintro e u7 ⟨rfl, f7⟩
    have G7 := Lib.hid (G6.out.trans0 f7)
    clear f7 G6
    go_wp2_with fail
    refine (HRR.out _).mono ?_
    rintro e u8 ⟨rfl, f8⟩
    have G8 := Lib.hid (G7.out.trans0 f8)
    clear f8 G7
    by_cases hE0 : E = 0
    · obtain ⟨hv, hs1, hs2⟩ := HE0.out hE0
      have HRKS := Lib.hid (HRK0.out S hs1 hs2)
      rw [← hv] at HRKS
      subst hE0
      clear hv hs1 hs2 HE0 HE1 HLE
      go_wp2_with fail
      refine (HRKS.out _ G8.out).mono ?_
      rintro e u9 ⟨rfl, f9⟩
      have G9 := Lib.hid (G8.out.trans0 f9)
      clear f9 G8
      go_wp2_with fail
      refine (HBA.out _ G9.out).mono ?_
      rintro e u10 ⟨rfl, f10⟩
      have G10 := Lib.hid (G9.out.trans0 f10)
      clear f10 G9
      go_wp2_with fail
      refine (HRB.out _ G10.out).mono ?_
      rintro e u11 ⟨rfl, f11⟩
      have G11 := Lib.hid (G10.out.trans0 f11)
      clear f11 G10
      go_wp2_with fail
      refine (HUA.out _ G11.out).mono ?_
      rintro e u12 ⟨rfl, f12⟩
      have G12 := Lib.hid (G11.out.trans0 f12)
      clear f12 G11
      go_wp2_with fail
      refine (HRU.out _ G12.out).mono ?_
      rintro e u13 ⟨rfl, f13⟩
      have G13 := Lib.hid (G12.out.trans0 f13)
      clear f13 G12
      go_wp2_with fail
      go_ret
      exact ⟨by simp, HF3.out.trans0 G13.out⟩
    · have hv := HE1.out hE0
      have e0 : ((E : Int) == 0) = false := by rw [beq_eq_false_iff_ne]; omega
      have e1 : ((E : Int) != 0) = true := by rw [bne_iff_ne]; omega
      subst hv
      clear hE0 HE0 HE1 HLE
      go_wp2_with fail
      refine (HBA.out _ G8.out).mono ?_
      rintro e u9 ⟨rfl, f9⟩
      have G9 := Lib.hid (G8.out.trans0 f9)
      clear f9 G8
      go_wp2_with fail
      refine (HRB.out _ G9.out).mono ?_
      rintro e u10 ⟨rfl, f10⟩
      have G10 := Lib.hid (G9.out.trans0 f10)
      clear f10 G9
      go_wp2_with fail
      refine (HUA.out _ G10.out).mono ?_
      rintro e u11 ⟨rfl, f11⟩
      have G11 := Lib.hid (G10.out.trans0 f11)
      clear f11 G10
      go_wp2_with fail
      refine (HRU.out _ G11.out).mono ?_
      rintro e u12 ⟨rfl, f12⟩
      have G12 := Lib.hid (G11.out.trans0 f12)
      clear f12 G11
      go_wp2_with fail
      go_ret
      exact ⟨by simp, HF3.out.trans0 G12.out⟩
end Go.Proofs.Ytegdhggilaehdaa
