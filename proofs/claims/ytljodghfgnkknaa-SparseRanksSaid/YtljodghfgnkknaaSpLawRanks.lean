/- The key of any rank is the document's. -/
import Derived.Test.YtljodghfgnkknaaSpCounted
namespace Go.Proofs.Ytljodghfgnkknaa
open Go.RowKit

set_option maxRecDepth 100000 in
set_option maxHeartbeats 4000000 in
theorem law_ranks (p : Option Addr) (c m r : Nat) (l : List Pr) (w : World) (hm : l.length = m) (h : PrI w p l) (h64 : ∀ x ∈ l, x.2 < 18446744073709551616) (hr : r < 18446744073709551616) :
    Calls Try.prog 4 #[.slice p m c, .int .u64 (r : Nat)] w fun e w' => e = .returned (.bool true) ∧ Fr S0 w w' := by
  have hw := start w
  have HCT := Lib.hid (fun W (f : Fr S0 w W) => counted_any p c m l W hm (h.fr0 f) h64)
  clear h h64 hm
  go_enter Try.func4, Try.ntmps4
  go_wp2_with fail
  refine hw _ ?_
  intro w1 f1
  have HF1 := Lib.hid f1
  have HC1 := Lib.hid (HCT.out w1 f1)
  clear hw f1 HCT
  go_wp2_with fail
  refine HC1.out.mono ?_
  rintro e w2 ⟨g, gh, q, n, d, rfl, hc⟩
  have HC := Lib.hid hc
  have HF2 := Lib.hid (HF1.out.trans0 hc.fr)
  have hgood := cntd_good l
  have htot := cntd_tot l
  have HLN := Lib.hid (cntd_len l)
  clear hc HC1
  go_wp2_with fail
  refine (total_any g gh _ w2 HC.out.is).mono ?_
  rintro e w3 ⟨rfl, f3⟩
  have HS3 := Lib.hid (And.intro (HC.out.is.fr0 f3) (And.intro (HC.out.pri.fr0 f3) (And.intro HC.out.len (HF2.out.trans0 f3))))
  clear f3 HC HF2
  obtain ⟨L, hL⟩ : ∃ L, cntd l = L := ⟨_, rfl⟩
  rw [hL] at HS3 hgood htot HLN ⊢
  clear hL
  obtain ⟨T, hT⟩ : ∃ T, ltot L = T := ⟨_, rfl⟩
  have HT := Lib.hid hT
  have HGD := Lib.hid hgood
  rw [hT] at htot ⊢
  clear hgood
  by_cases hT0 : T = 0
  · subst hT0
    have hLn : L = [] := by
      cases L with
      | nil => rfl
      | cons x t => have := (pos_cons.1 HGD.out.pos).1; rw [ltot] at hT; omega
    subst hLn
    have e1 : keyV [] r = 0 := by unfold keyV keyE; rw [if_pos rfl, if_neg (by decide)]
    have e2 : keyE [] r = 8 := by unfold keyE; rw [if_pos rfl]
    have HK := Lib.hid (key_any g gh r [] w3 HS3.out.1 hr)
    rw [e1, e2] at HK
    clear e1 e2 hT
    go_wp2_with fail
    refine HK.out.mono ?_
    rintro e w4 ⟨rfl, f4⟩
    have HF4 := Lib.hid (HS3.out.2.2.2.trans0 f4)
    clear HK f4
    go_wp2_with fail
    go_ret
    exact ⟨rfl, HF4.out⟩
  have hTp : (0 : Int) < (T : Int) := by omega
  have hTz : ((T : Int) == 0) = false := by rw [beq_eq_false_iff_ne]; omega
  have HNE : Hid (L ≠ []) := Lib.hid (by rintro rfl; rw [← hT] at hTp; simp [ltot] at hTp)
  clear hT
  obtain ⟨R3, hR3⟩ : ∃ R3, r % 3 = R3 := ⟨_, rfl⟩
  have e3 : (r : Int) % 3 = (R3 : Int) := by omega
  by_cases h3 : R3 = 0
  · subst h3
    clear hR3
    by_cases hx1 : 1 ≤ r
    · by_cases hx2 : r ≤ T
      · have hE : keyE L r = 0 := by unfold keyE; rw [if_neg HNE.out, if_neg (by rw [HT.out]; omega)]
        have hV : keyV L r = keyW L r := by unfold keyV; rw [hE, if_pos rfl]
        obtain ⟨-, hb, hu⟩ := keyW_rank (r := r) HGD.out.srt hx1 (by rw [HT.out]; exact hx2)
        have HK := Lib.hid (key_any g gh r L w3 HS3.out.1 (by omega))
        rw [hE, hV] at HK
        have HRK := Lib.hid (fun W f => rkey_any q n d L W r (HS3.out.2.1.fr0 f) HS3.out.2.2.1 HGD.out.srt hx1 (by rw [HT.out]; exact hx2) (by rw [HT.out]; omega))
        obtain ⟨K, hK⟩ : ∃ K, keyW L r = K := ⟨_, rfl⟩
        rw [hK] at HK HRK hb hu
        obtain ⟨B, hB⟩ : ∃ B, bel L K = B := ⟨_, rfl⟩
        obtain ⟨U, hU⟩ : ∃ U, upt L K = U := ⟨_, rfl⟩
        rw [hB] at hb
        rw [hU] at hu
        have HBB := Lib.hid hB
        have HUU := Lib.hid hU
        have hxx1 : decide ((r : Int) < 1) = false := decide_eq_false (by omega)
        have hxx2 : decide (T < r) = false := decide_eq_false (by omega)
        clear hE hV hK hB hU
        go_wp2_with fail
        refine HK.out.mono ?_
        rintro e w4 ⟨rfl, f4⟩
        have HS4 := Lib.hid (And.intro (HS3.out.1.fr0 f4) (HS3.out.2.2.2.trans0 f4))
        have HR4 := Lib.hid (HRK.out w4 f4)
        clear HK f4 HRK HS3
        go_wp2_with fail
        refine HR4.out.mono ?_
        rintro e w5 ⟨rfl, f5⟩
        have HS5 := Lib.hid (And.intro (HS4.out.1.fr0 f5) (HS4.out.2.trans0 f5))
        have HBE := Lib.hid (below_any g K L w5 gh HS5.out.1)
        rw [HBB.out] at HBE
        clear HR4 f5 HS4
        go_wp2_with fail
        refine HBE.out.mono ?_
        rintro e w6 ⟨rfl, f6⟩
        have HS6 := Lib.hid (And.intro (HS5.out.1.fr0 f6) (HS5.out.2.trans0 f6))
        have HUE := Lib.hid (upto_any g K L w6 gh HS6.out.1)
        rw [HUU.out] at HUE
        clear HBE f6 HS5
        go_wp2_with fail
        refine HUE.out.mono ?_
        rintro e w7 ⟨rfl, f7⟩
        have HF7 := Lib.hid (HS6.out.2.trans0 f7)
        clear HUE f7 HS6
        go_wp2_with fail
        go_ret
        exact ⟨rfl, HF7.out⟩
      · have hx3 : (T : Int) < (r : Int) := by omega
        have hx4 : decide ((r : Int) < 1) = false := decide_eq_false (by omega)
        have hE : keyE L r = 1 := by unfold keyE; rw [if_neg HNE.out, if_pos (by rw [HT.out]; omega)]
        have hV : keyV L r = 0 := by unfold keyV; rw [hE, if_neg (by decide)]
        have HK := Lib.hid (key_any g gh r L w3 HS3.out.1 hr)
        rw [hE, hV] at HK
        clear hE hV
        go_wp2_with fail
        refine HK.out.mono ?_
        rintro e w4 ⟨rfl, f4⟩
        have HF4 := Lib.hid (HS3.out.2.2.2.trans0 f4)
        clear HK f4
        go_wp2_with fail
        go_ret
        exact ⟨rfl, HF4.out⟩
    · obtain rfl : r = 0 := by omega
      have hE : keyE L 0 = 1 := by unfold keyE; rw [if_neg HNE.out, if_pos (by rw [HT.out]; omega)]
      have hV : keyV L 0 = 0 := by unfold keyV; rw [hE, if_neg (by decide)]
      have HK := Lib.hid (key_any g gh 0 L w3 HS3.out.1 hr)
      rw [hE, hV] at HK
      clear hE hV
      go_wp2_with fail
      refine HK.out.mono ?_
      rintro e w4 ⟨rfl, f4⟩
      have HF4 := Lib.hid (HS3.out.2.2.2.trans0 f4)
      clear HK f4
      go_wp2_with fail
      go_ret
      exact ⟨rfl, HF4.out⟩
  · obtain ⟨M, hM⟩ : ∃ M, r % T = M := ⟨_, rfl⟩
    obtain ⟨X, hX⟩ : ∃ X, 1 + M = X := ⟨_, rfl⟩
    have hMT : M < T := by rw [← hM]; exact Nat.mod_lt _ (by omega)
    have eM : (r : Int) % (T : Int) = (M : Int) := by rw [← hM]; exact (Int.natCast_emod r T).symm
    have eX : (1 : Int) + (M : Int) = (X : Int) := by omega
    have h3p : (0 : Int) < (R3 : Int) := by omega
    have hx1 : 1 ≤ X := by omega
    have hx2 : X ≤ T := by omega
    clear hR3 hM hX
    have hE : keyE L X = 0 := by unfold keyE; rw [if_neg HNE.out, if_neg (by rw [HT.out]; omega)]
    have hV : keyV L X = keyW L X := by unfold keyV; rw [hE, if_pos rfl]
    obtain ⟨-, hb, hu⟩ := keyW_rank (r := X) HGD.out.srt hx1 (by rw [HT.out]; exact hx2)
    have HK := Lib.hid (key_any g gh X L w3 HS3.out.1 (by omega))
    rw [hE, hV] at HK
    have HRK := Lib.hid (fun W f => rkey_any q n d L W X (HS3.out.2.1.fr0 f) HS3.out.2.2.1 HGD.out.srt hx1 (by rw [HT.out]; exact hx2) (by rw [HT.out]; omega))
    obtain ⟨K, hK⟩ : ∃ K, keyW L X = K := ⟨_, rfl⟩
    rw [hK] at HK HRK hb hu
    obtain ⟨B, hB⟩ : ∃ B, bel L K = B := ⟨_, rfl⟩
    obtain ⟨U, hU⟩ : ∃ U, upt L K = U := ⟨_, rfl⟩
    rw [hB] at hb
    rw [hU] at hu
    have HBB := Lib.hid hB
    have HUU := Lib.hid hU
    have hxx1 : decide ((X : Int) < 1) = false := decide_eq_false (by omega)
    have hxx2 : decide (T < X) = false := decide_eq_false (by omega)
    clear hE hV hK hB hU
    go_wp2_with fail
    refine HK.out.mono ?_
    rintro e w4 ⟨rfl, f4⟩
    have HS4 := Lib.hid (And.intro (HS3.out.1.fr0 f4) (HS3.out.2.2.2.trans0 f4))
    have HR4 := Lib.hid (HRK.out w4 f4)
    clear HK f4 HRK HS3
    go_wp2_with fail
    refine HR4.out.mono ?_
    rintro e w5 ⟨rfl, f5⟩
    have HS5 := Lib.hid (And.intro (HS4.out.1.fr0 f5) (HS4.out.2.trans0 f5))
    have HBE := Lib.hid (below_any g K L w5 gh HS5.out.1)
    rw [HBB.out] at HBE
    clear HR4 f5 HS4
    go_wp2_with fail
    refine HBE.out.mono ?_
    rintro e w6 ⟨rfl, f6⟩
    have HS6 := Lib.hid (And.intro (HS5.out.1.fr0 f6) (HS5.out.2.trans0 f6))
    have HUE := Lib.hid (upto_any g K L w6 gh HS6.out.1)
    rw [HUU.out] at HUE
    clear HBE f6 HS5
    go_wp2_with fail
    refine HUE.out.mono ?_
    rintro e w7 ⟨rfl, f7⟩
    have HF7 := Lib.hid (HS6.out.2.trans0 f7)
    clear HUE f7 HS6
    go_wp2_with fail
    go_ret
    exact ⟨rfl, HF7.out⟩
end Go.Proofs.Ytljodghfgnkknaa
