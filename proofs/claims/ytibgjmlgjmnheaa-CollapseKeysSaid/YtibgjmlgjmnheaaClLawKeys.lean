/- The key of any rank is the document's, vague or not. -/
import Derived.Test.YtibgjmlgjmnheaaClCounted
namespace Go.Proofs.Ytibgjmlgjmnheaa
open Go.RowKit

theorem keyE_none {L : List Pr} {r : Nat} (hne : L ≠ []) (h : r = 0 ∨ ltot L < r) : keyE L r = 1 ∧ keyV L r = 0 := by
  have e : keyE L r = 1 := by unfold keyE; rw [if_neg hne, if_pos h]
  exact ⟨e, by unfold keyV; rw [e, if_neg (by decide)]⟩
theorem keyE_some {L : List Pr} {r : Nat} (hne : L ≠ []) (h1 : 1 ≤ r) (h2 : r ≤ ltot L) : keyE L r = 0 ∧ keyV L r = keyW L r := by
  have e : keyE L r = 0 := by unfold keyE; rw [if_neg hne, if_neg (by omega)]
  exact ⟨e, by unfold keyV; rw [e, if_pos rfl]⟩
theorem vag_none {L : List Pr} {b r : Nat} (h : keyE (cutN L b) r ≠ 0) : vag L b r = false := by unfold vag; simp [h]
theorem vag_some {L : List Pr} {b r : Nat} (h : keyE (cutN L b) r = 0) : vag L b r = decide (cutA L b ≠ 0 ∧ keyW (cutN L b) r = hk (cutN L b)) := by unfold vag; simp [h]
theorem ltot_ne {L : List Pr} (h : 0 < ltot L) : L ≠ [] := by rintro rfl; simp [ltot] at h

set_option maxRecDepth 100000 in
set_option maxHeartbeats 8000000 in
theorem law_keys (p : Option Addr) (c m r M : Nat) (l : List Pr) (w : World) (hm : l.length = m) (h : PrI w p l) (h64 : ∀ x ∈ l, x.2 < 18446744073709551616) (hr : r < 18446744073709551616) :
    Calls Try.prog 4 #[.int .u16 (M : Nat), .slice p m c, .int .u64 (r : Nat)] w fun e w' => e = .returned (.bool true) ∧ Fr S0 w w' := by
  obtain ⟨B0, hB0⟩ : ∃ B0, M % 30 = B0 := ⟨_, rfl⟩
  obtain ⟨b, hb⟩ : ∃ b, 2 + B0 = b := ⟨_, rfl⟩
  have eB0 : (M : Int) % 30 = (B0 : Int) := by omega
  have eB1 : (M : Int).tmod 30 = (B0 : Int) := by rw [Int.tmod_eq_emod_of_nonneg (by omega)]; omega
  have eb : (2 : Int) + (B0 : Int) = (b : Int) := by omega
  have hB0l : B0 < 30 := by omega
  have hb2 : 2 ≤ b := by omega
  have hb3 : b ≤ 31 := by omega
  have hw := start w
  have HCT := Lib.hid (fun W (f : Fr S0 w W) => counted_any p c m b l W hb2 (by omega) hm (h.fr0 f) h64)
  clear h h64 hm hB0 hb
  go_enter Try.func4, Try.ntmps4
  go_wp2_with fail
  refine hw _ ?_
  intro w1 f1
  have HF1 := Lib.hid f1
  have HC1 := Lib.hid (HCT.out w1 f1)
  clear hw f1 HCT
  go_wp2_with fail
  refine HC1.out.mono ?_
  rintro e w2 ⟨g, gh, q, n, d, rfl, hc⟩
  have HC := Lib.hid hc
  have HF2 := Lib.hid (HF1.out.trans0 hc.fr)
  have hgood := cntd_good l
  have htot := cntd_tot l
  have HLN := Lib.hid (cntd_len l)
  clear hc HC1 HF1
  have HTO := ctotal_any g gh b _ w2 HC.out.is
  obtain ⟨L, hL⟩ : ∃ L, cntd l = L := ⟨_, rfl⟩
  rw [hL] at HTO hgood htot HLN HC
  clear hL
  obtain ⟨T, hT⟩ : ∃ T, ltot L = T := ⟨_, rfl⟩
  rw [hT] at HTO
  have HTOT := Lib.hid HTO
  have HT := Lib.hid hT
  have HGD := Lib.hid hgood
  rw [hT] at htot
  clear hgood HTO
  go_wp2_with fail
  refine HTOT.out.mono ?_
  rintro e w3 ⟨rfl, f3⟩
  have HS3 := Lib.hid (And.intro (HC.out.is.fr0 f3) (And.intro (HC.out.pri.fr0 f3) (And.intro HC.out.len (HF2.out.trans0 f3))))
  clear f3 HC HF2 HTOT
  by_cases hT0 : T = 0
  · subst hT0
    have hLn : L = [] := by
      cases L with
      | nil => rfl
      | cons x t => have := (pos_cons.1 HGD.out.pos).1; rw [ltot] at hT; omega
    subst hLn
    have e0 : cutN [] b = [] := (cut_nil b).1
    have e1 : keyV [] r = 0 := by unfold keyV keyE; rw [if_pos rfl, if_neg (by decide)]
    have e2 : keyE [] r = 8 := by unfold keyE; rw [if_pos rfl]
    have e3 : vag [] b r = false := vag_none (by rw [e0, e2]; decide)
    have HK := ckey_any g gh b r [] w3 HS3.out.1 hr
    rw [e0, e1, e2, e3] at HK
    have HKK := Lib.hid HK
    clear HK e0 e1 e2 e3 hT
    go_wp2_with fail
    refine HKK.out.mono ?_
    rintro e w4 ⟨rfl, f4⟩
    have HF4 := Lib.hid (HS3.out.2.2.2.trans0 f4)
    clear HKK f4
    go_wp2_with fail
    go_ret
    exact ⟨rfl, HF4.out⟩
  have hTp : 0 < T := by omega
  have hTp1 : (0 : Int) < (T : Int) := by omega
  have hTp2 : decide (0 < T) = true := decide_eq_true hTp
  have hTz : ((T : Int) == 0) = false := by rw [beq_eq_false_iff_ne]; omega
  have HNE : Hid (L ≠ [] ∧ cutN L b ≠ [] ∧ ltot (cutN L b) = T) := Lib.hid ⟨ltot_ne (by omega), ltot_ne (by rw [cut_tot HGD.out.srt HGD.out.pos (by omega)]; omega), by rw [cut_tot HGD.out.srt HGD.out.pos (by omega)]; exact HT.out⟩
  clear hT hT0
  obtain ⟨R4, hR4⟩ : ∃ R4, r % 4 = R4 := ⟨_, rfl⟩
  have e4 : (r : Int) % 4 = (R4 : Int) := by omega
  by_cases h3 : R4 = 0
  · subst h3
    clear hR4
    by_cases hx1 : 1 ≤ r
    · by_cases hx2 : r ≤ T
      · obtain ⟨hE, hV⟩ := keyE_some (r := r) HNE.out.2.1 hx1 (by rw [HNE.out.2.2]; exact hx2)
        have hG := vag_some (L := L) (b := b) (r := r) hE
        have HK := ckey_any g gh b r L w3 HS3.out.1 (by omega)
        have HRK := fun W (f : Fr S0 w3 W) => rkey15_any q n d b L W r (by omega) (HS3.out.2.1.fr0 f) HS3.out.2.2.1 (by have := HLN.out; have := HS3.out.2.2.1; omega) HGD.out.srt HGD.out.pos hx1 (by rw [HT.out]; exact hx2) (by rw [HT.out]; omega)
        have HRW := fun W (f : Fr S0 w3 W) => rkey_any q n d L W r (HS3.out.2.1.fr0 f) HS3.out.2.2.1 HGD.out.srt hx1 (by rw [HT.out]; exact hx2) (by rw [HT.out]; omega)
        obtain ⟨-, hnot⟩ := kept_key (m := b) (r := r) HGD.out.srt HGD.out.pos (by omega) hx1 (by rw [HT.out]; exact hx2)
        have hge := cut_key_mono (m := b) (r := r) HGD.out.srt HGD.out.pos (by omega) hx1 (by rw [HT.out]; exact hx2)
        rw [hE, hV, hG] at HK
        have hxx1 : decide ((r : Int) < 1) = false := decide_eq_false (by omega)
        have hxx2 : decide (T < r) = false := decide_eq_false (by omega)
        have hxx3 : decide ((T : Int) < (r : Int)) = false := decide_eq_false (by omega)
        by_cases hv : cutA L b ≠ 0 ∧ keyW (cutN L b) r = hk (cutN L b)
        · rw [decide_eq_true hv] at HK
          simp only [decide_eq_true hv] at HRK
          obtain ⟨V, hVV⟩ : ∃ V, keyW (cutN L b) r = V := ⟨_, rfl⟩
          obtain ⟨Y, hYY⟩ : ∃ Y, keyW L r = Y := ⟨_, rfl⟩
          simp only [hVV] at HK HRK hge
          simp only [hYY] at HRW hge
          have hge2 : decide (Y ≤ V) = true := decide_eq_true hge
          have HKK := Lib.hid HK
          have HRKK := Lib.hid HRK
          have HRWW := Lib.hid HRW
          clear hE hV hG HK HRK HRW hnot hv hVV hYY
          go_wp2_with fail
          refine HKK.out.mono ?_
          rintro e w4 ⟨rfl, f4⟩
          have HF4 := Lib.hid f4
          have HR4 := Lib.hid (HRKK.out w4 f4)
          clear HKK f4 HRKK
          go_wp2_with fail
          refine HR4.out.mono ?_
          rintro e w5 ⟨rfl, f5⟩
          have HF5 := Lib.hid (HF4.out.trans0 f5)
          have HR5 := Lib.hid (HRWW.out w5 HF5.out)
          clear HR4 f5 HRWW HF4
          go_wp2_with fail
          refine HR5.out.mono ?_
          rintro e w6 ⟨rfl, f6⟩
          have HF6 := Lib.hid (HS3.out.2.2.2.trans0 (HF5.out.trans0 f6))
          clear HR5 f6 HF5 HS3
          go_wp2_with fail
          go_ret
          exact ⟨rfl, HF6.out⟩
        · rw [decide_eq_false hv] at HK
          simp only [decide_eq_false hv] at HRK
          have heq := hnot hv
          obtain ⟨V, hVV⟩ : ∃ V, keyW (cutN L b) r = V := ⟨_, rfl⟩
          have hYY : keyW L r = V := by rw [← heq, hVV]
          simp only [hVV] at HK HRK
          simp only [hYY] at HRW
          have HKK := Lib.hid HK
          have HRKK := Lib.hid HRK
          have HRWW := Lib.hid HRW
          clear hE hV hG HK HRK HRW hnot hv hVV hYY hge heq
          go_wp2_with fail
          refine HKK.out.mono ?_
          rintro e w4 ⟨rfl, f4⟩
          have HF4 := Lib.hid f4
          have HR4 := Lib.hid (HRKK.out w4 f4)
          clear HKK f4 HRKK
          go_wp2_with fail
          refine HR4.out.mono ?_
          rintro e w5 ⟨rfl, f5⟩
          have HF5 := Lib.hid (HF4.out.trans0 f5)
          have HR5 := Lib.hid (HRWW.out w5 HF5.out)
          clear HR4 f5 HRWW HF4
          go_wp2_with fail
          refine HR5.out.mono ?_
          rintro e w6 ⟨rfl, f6⟩
          have HF6 := Lib.hid (HS3.out.2.2.2.trans0 (HF5.out.trans0 f6))
          clear HR5 f6 HF5 HS3
          go_wp2_with fail
          go_ret
          exact ⟨rfl, HF6.out⟩
      · have hx3 : (T : Int) < (r : Int) := by omega
        have hx5 : decide (T < r) = true := decide_eq_true (by omega)
        have hx4 : decide ((r : Int) < 1) = false := decide_eq_false (by omega)
        obtain ⟨hE, hV⟩ := keyE_none (r := r) HNE.out.2.1 (.inr (by rw [HNE.out.2.2]; omega))
        have hG := vag_none (L := L) (b := b) (r := r) (by rw [hE]; decide)
        have HK := ckey_any g gh b r L w3 HS3.out.1 hr
        rw [hE, hV, hG] at HK
        have HKK := Lib.hid HK
        clear hE hV hG HK
        go_wp2_with fail
        refine HKK.out.mono ?_
        rintro e w4 ⟨rfl, f4⟩
        have HF4 := Lib.hid (HS3.out.2.2.2.trans0 f4)
        clear HKK f4
        go_wp2_with fail
        go_ret
        exact ⟨rfl, HF4.out⟩
    · obtain rfl : r = 0 := by omega
      obtain ⟨hE, hV⟩ := keyE_none (r := 0) HNE.out.2.1 (.inl rfl)
      have hG := vag_none (L := L) (b := b) (r := 0) (by rw [hE]; decide)
      have HK := ckey_any g gh b 0 L w3 HS3.out.1 hr
      rw [hE, hV, hG] at HK
      have HKK := Lib.hid HK
      clear hE hV hG HK
      go_wp2_with fail
      refine HKK.out.mono ?_
      rintro e w4 ⟨rfl, f4⟩
      have HF4 := Lib.hid (HS3.out.2.2.2.trans0 f4)
      clear HKK f4
      go_wp2_with fail
      go_ret
      exact ⟨rfl, HF4.out⟩
  · have h4p : 0 < R4 := by omega
    have h4q : decide (0 < R4) = true := decide_eq_true h4p
    have h4i : (0 : Int) < (R4 : Int) := by omega
    obtain ⟨Q, hQ⟩ : ∃ Q, r % T = Q := ⟨_, rfl⟩
    have eQ : (r : Int) % (T : Int) = (Q : Int) := by rw [← hQ]; exact (Int.natCast_emod r T).symm
    obtain ⟨R, hR⟩ : ∃ R, 1 + Q = R := ⟨_, rfl⟩
    have eR : (1 : Int) + (Q : Int) = (R : Int) := by omega
    have hQT : Q < T := by rw [← hQ]; exact Nat.mod_lt _ hTp
    have hx1 : 1 ≤ R := by omega
    have hx2 : R ≤ T := by omega
    have hRb : (R : Int) < 18446744073709551616 := by omega
    clear hQ hR hR4 h3
    · obtain ⟨hE, hV⟩ := keyE_some (r := R) HNE.out.2.1 hx1 (by rw [HNE.out.2.2]; exact hx2)
      have hG := vag_some (L := L) (b := b) (r := R) hE
      have HK := ckey_any g gh b R L w3 HS3.out.1 (by omega)
      have HRK := fun W (f : Fr S0 w3 W) => rkey15_any q n d b L W R (by omega) (HS3.out.2.1.fr0 f) HS3.out.2.2.1 (by have := HLN.out; have := HS3.out.2.2.1; omega) HGD.out.srt HGD.out.pos hx1 (by rw [HT.out]; exact hx2) (by rw [HT.out]; omega)
      have HRW := fun W (f : Fr S0 w3 W) => rkey_any q n d L W R (HS3.out.2.1.fr0 f) HS3.out.2.2.1 HGD.out.srt hx1 (by rw [HT.out]; exact hx2) (by rw [HT.out]; omega)
      obtain ⟨-, hnot⟩ := kept_key (m := b) (r := R) HGD.out.srt HGD.out.pos (by omega) hx1 (by rw [HT.out]; exact hx2)
      have hge := cut_key_mono (m := b) (r := R) HGD.out.srt HGD.out.pos (by omega) hx1 (by rw [HT.out]; exact hx2)
      rw [hE, hV, hG] at HK
      have hxx1 : decide ((R : Int) < 1) = false := decide_eq_false (by omega)
      have hxx2 : decide (T < R) = false := decide_eq_false (by omega)
      have hxx3 : decide ((T : Int) < (R : Int)) = false := decide_eq_false (by omega)
      by_cases hv : cutA L b ≠ 0 ∧ keyW (cutN L b) R = hk (cutN L b)
      · rw [decide_eq_true hv] at HK
        simp only [decide_eq_true hv] at HRK
        obtain ⟨V, hVV⟩ : ∃ V, keyW (cutN L b) R = V := ⟨_, rfl⟩
        obtain ⟨Y, hYY⟩ : ∃ Y, keyW L R = Y := ⟨_, rfl⟩
        simp only [hVV] at HK HRK hge
        simp only [hYY] at HRW hge
        have hge2 : decide (Y ≤ V) = true := decide_eq_true hge
        have HKK := Lib.hid HK
        have HRKK := Lib.hid HRK
        have HRWW := Lib.hid HRW
        clear hE hV hG HK HRK HRW hnot hv hVV hYY
        go_wp2_with fail
        refine HKK.out.mono ?_
        rintro e w4 ⟨rfl, f4⟩
        have HF4 := Lib.hid f4
        have HR4 := Lib.hid (HRKK.out w4 f4)
        clear HKK f4 HRKK
        go_wp2_with fail
        refine HR4.out.mono ?_
        rintro e w5 ⟨rfl, f5⟩
        have HF5 := Lib.hid (HF4.out.trans0 f5)
        have HR5 := Lib.hid (HRWW.out w5 HF5.out)
        clear HR4 f5 HRWW HF4
        go_wp2_with fail
        refine HR5.out.mono ?_
        rintro e w6 ⟨rfl, f6⟩
        have HF6 := Lib.hid (HS3.out.2.2.2.trans0 (HF5.out.trans0 f6))
        clear HR5 f6 HF5 HS3
        go_wp2_with fail
        go_ret
        exact ⟨rfl, HF6.out⟩
      · rw [decide_eq_false hv] at HK
        simp only [decide_eq_false hv] at HRK
        have heq := hnot hv
        obtain ⟨V, hVV⟩ : ∃ V, keyW (cutN L b) R = V := ⟨_, rfl⟩
        have hYY : keyW L R = V := by rw [← heq, hVV]
        simp only [hVV] at HK HRK
        simp only [hYY] at HRW
        have HKK := Lib.hid HK
        have HRKK := Lib.hid HRK
        have HRWW := Lib.hid HRW
        clear hE hV hG HK HRK HRW hnot hv hVV hYY hge heq
        go_wp2_with fail
        refine HKK.out.mono ?_
        rintro e w4 ⟨rfl, f4⟩
        have HF4 := Lib.hid f4
        have HR4 := Lib.hid (HRKK.out w4 f4)
        clear HKK f4 HRKK
        go_wp2_with fail
        refine HR4.out.mono ?_
        rintro e w5 ⟨rfl, f5⟩
        have HF5 := Lib.hid (HF4.out.trans0 f5)
        have HR5 := Lib.hid (HRWW.out w5 HF5.out)
        clear HR4 f5 HRWW HF4
        go_wp2_with fail
        refine HR5.out.mono ?_
        rintro e w6 ⟨rfl, f6⟩
        have HF6 := Lib.hid (HS3.out.2.2.2.trans0 (HF5.out.trans0 f6))
        clear HR5 f6 HF5 HS3
        go_wp2_with fail
        go_ret
        exact ⟨rfl, HF6.out⟩
end Go.Proofs.Ytibgjmlgjmnheaa
