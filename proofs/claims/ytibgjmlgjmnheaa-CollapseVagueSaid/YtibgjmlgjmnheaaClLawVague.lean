/- When a rank is vague. -/
import Derived.Test.YtibgjmlgjmnheaaClLawKeys
namespace Go.Proofs.Ytibgjmlgjmnheaa
open Go.RowKit

theorem above_take {L : List Pr} {k : Int} {j : Nat} (h : j < L.length) : (above (L.take (j + 1)) k).length = (above (L.take j) k).length + if k < L[j].1 then 1 else 0 := by
  rw [List.take_succ_eq_append_getElem h]
  unfold above
  rw [List.filter_append, List.length_append, List.filter_cons]
  by_cases e : k < L[j].1
  · rw [if_pos (c := decide (k < L[j].1) = true) (by simpa using e), if_pos e]; rfl
  · rw [if_neg (c := decide (k < L[j].1) = true) (by simpa using e), if_neg e]; rfl
theorem above_le (L : List Pr) (k : Int) : (above L k).length ≤ L.length := by unfold above; exact List.length_filter_le _ _

set_option maxRecDepth 100000 in
set_option maxHeartbeats 8000000 in
theorem law_vague (p : Option Addr) (c m r M : Nat) (l : List Pr) (w : World) (hm : l.length = m) (h : PrI w p l) (h64 : ∀ x ∈ l, x.2 < 18446744073709551616) (hr : r < 18446744073709551616) :
    Calls Try.prog 5 #[.int .u16 (M : Nat), .slice p m c, .int .u64 (r : Nat)] w fun e w' => e = .returned (.bool true) ∧ Fr S0 w w' := by
  obtain ⟨B0, hB0⟩ : ∃ B0, M % 30 = B0 := ⟨_, rfl⟩
  obtain ⟨b, hb⟩ : ∃ b, 2 + B0 = b := ⟨_, rfl⟩
  have eB0 : (M : Int) % 30 = (B0 : Int) := by omega
  have eB1 : (M : Int).tmod 30 = (B0 : Int) := by rw [Int.tmod_eq_emod_of_nonneg (by omega)]; omega
  have eb : (2 : Int) + (B0 : Int) = (b : Int) := by omega
  have hB0l : B0 < 30 := by omega
  have hb2 : 2 ≤ b := by omega
  have hb3 : b ≤ 31 := by omega
  have hw := start w
  have HCT := Lib.hid (fun W (f : Fr S0 w W) => counted_any p c m b l W hb2 (by omega) hm (h.fr0 f) h64)
  clear h h64 hm hB0 hb
  go_enter Try.func5, Try.ntmps5
  go_wp2_with fail
  refine hw _ ?_
  intro w1 f1
  have HF1 := Lib.hid f1
  have HC1 := Lib.hid (HCT.out w1 f1)
  clear hw f1 HCT
  go_wp2_with fail
  refine HC1.out.mono ?_
  rintro e w2 ⟨g, gh, q, n, d, rfl, hc⟩
  have HC := Lib.hid hc
  have HF2 := Lib.hid (HF1.out.trans0 hc.fr)
  have hgood := cntd_good l
  have htot := cntd_tot l
  have hln := cntd_len l
  clear hc HC1 HF1
  have HTO := ctotal_any g gh b _ w2 HC.out.is
  obtain ⟨L, hL⟩ : ∃ L, cntd l = L := ⟨_, rfl⟩
  rw [hL] at HTO hgood htot hln HC
  clear hL
  obtain ⟨T, hT⟩ : ∃ T, ltot L = T := ⟨_, rfl⟩
  rw [hT] at HTO
  have HTOT := Lib.hid HTO
  have HT := Lib.hid hT
  have HGD := Lib.hid hgood
  rw [hT] at htot
  have hn := HC.out.len
  rw [hn] at hln
  have HN := Lib.hid hn
  clear hgood HTO
  by_cases hT0 : T = 0
  · subst hT0
    have hLn : L = [] := by
      cases L with
      | nil => rfl
      | cons x t => have := (pos_cons.1 HGD.out.pos).1; rw [ltot] at hT; omega
    subst hLn
    obtain rfl : 0 = n := hn
    clear hT
    go_wp2_with fail
    refine HTOT.out.mono ?_
    rintro e w3 ⟨rfl, f3⟩
    have HF3 := Lib.hid (HF2.out.trans0 f3)
    clear HTOT f3
    go_wp2_with fail
    go_ret
    exact ⟨rfl, HF3.out⟩
  have hTp : 0 < T := by omega
  have hTp1 : (0 : Int) < (T : Int) := by omega
  have hne : L ≠ [] := ltot_ne (by omega)
  have hn0 : 0 < n := by
    cases L with
    | nil => exact absurd rfl hne
    | cons x t => rw [List.length_cons] at hn; omega
  have hnz : ((n : Int) == 0) = false := by rw [beq_eq_false_iff_ne]; omega
  have HNE : Hid (L ≠ [] ∧ cutN L b ≠ [] ∧ ltot (cutN L b) = T) := Lib.hid ⟨hne, ltot_ne (by rw [cut_tot HGD.out.srt HGD.out.pos (by omega)]; omega), by rw [cut_tot HGD.out.srt HGD.out.pos (by omega)]; exact HT.out⟩
  obtain ⟨Q, hQ⟩ : ∃ Q, r % T = Q := ⟨_, rfl⟩
  have eQ : (r : Int) % (T : Int) = (Q : Int) := by rw [← hQ]; exact (Int.natCast_emod r T).symm
  obtain ⟨R, hR⟩ : ∃ R, 1 + Q = R := ⟨_, rfl⟩
  have eR : (1 : Int) + (Q : Int) = (R : Int) := by omega
  have hQT : Q < T := by rw [← hQ]; exact Nat.mod_lt _ hTp
  have hx1 : 1 ≤ R := by omega
  have hx2 : R ≤ T := by omega
  have hRb : (R : Int) < 18446744073709551616 := by omega
  obtain ⟨hE, hV⟩ := keyE_some (r := R) HNE.out.2.1 hx1 (by rw [HNE.out.2.2]; exact hx2)
  have hG := vag_some (L := L) (b := b) (r := R) hE
  have HK := fun W (s : Col W g gh b L) => ckey_any g gh b R L W s (by omega)
  simp only [hE, hV, hG] at HK
  have HRW := fun W (hp : PrI W q L) => rkey_any q n d L W R hp hn HGD.out.srt hx1 (by rw [HT.out]; exact hx2) (by rw [HT.out]; omega)
  obtain ⟨hiff, -⟩ := kept_key (m := b) (r := R) HGD.out.srt HGD.out.pos (by omega) hx1 (by rw [HT.out]; exact hx2)
  obtain ⟨V, hVV⟩ : ∃ V, keyW (cutN L b) R = V := ⟨_, rfl⟩
  obtain ⟨Y, hYY⟩ : ∃ Y, keyW L R = Y := ⟨_, rfl⟩
  obtain ⟨A, hA⟩ : ∃ A, (above L Y).length = A := ⟨_, rfl⟩
  simp only [hVV] at HK hiff
  simp only [hYY] at HRW hiff
  rw [hA, hn] at hiff
  have hAn : A ≤ n := by rw [← hA, ← hn]; exact above_le _ _
  have HA := Lib.hid hA
  have HIFF := Lib.hid hiff
  obtain ⟨b1, hb1⟩ : ∃ b1, b - 1 = b1 := ⟨_, rfl⟩
  have eb1 : (b : Int) - 1 = (b1 : Int) := by omega
  clear hQ hR hE hV hG hVV hYY hA hiff hT hn hne
  by_cases hbn : b < n
  · have hbn2 : decide (b < n) = true := decide_eq_true hbn
    by_cases hba : b1 ≤ A
    · have hba2 : decide (b1 ≤ A) = true := decide_eq_true hba
      have hv : decide (cutA L b ≠ 0 ∧ V = hk (cutN L b)) = true := decide_eq_true (HIFF.out.2 (by omega))
      simp only [hv] at HK
      have HKK := Lib.hid HK
      have HRWW := Lib.hid HRW
      clear HK HRW hv hb1
      go_wp2_with fail
      refine HTOT.out.mono ?_
      rintro e w3 ⟨rfl, f3⟩
      have HS3 := Lib.hid (And.intro (HC.out.is.fr0 f3) (And.intro (HC.out.pri.fr0 f3) (HF2.out.trans0 f3)))
      have HK3 := Lib.hid (HKK.out w3 HS3.out.1)
      clear f3 HC HF2 HTOT HKK
      go_wp2_with fail
      refine HK3.out.mono ?_
      rintro e w4 ⟨rfl, f4⟩
      have HS4 := Lib.hid (And.intro (HS3.out.2.1.fr0 f4) (HS3.out.2.2.trans0 f4))
      have HR4 := Lib.hid (HRWW.out w4 HS4.out.1)
      clear HK3 f4 HRWW HS3
      go_wp2_with fail
      refine HR4.out.mono ?_
      rintro e w5 ⟨rfl, f5⟩
      have HP5 := Lib.hid (HS4.out.1.fr0 f5)
      have HF5 := Lib.hid (HS4.out.2.trans0 f5)
      clear HR4 f5 HS4
      go_wp2_with fail
      go_loopw [14, 15] (fun x i wr => ∃ j X : Nat, j ≤ n ∧ X ≤ j ∧ i = .int .i64 j ∧ x = .int .i64 X ∧ Hid ((above (L.take j) Y).length = X) ∧ Hid (Fr S0 w5 wr)) (fun _ i _ => n - (intOf i).toNat)
      case atStart => exact ⟨0, 0, by omega, by omega, rfl, rfl, Lib.hid rfl, Lib.hid (Fr.refl _ _)⟩
      case round =>
        obtain ⟨j, X, hj, hXj, rfl, rfl, hX, hfr⟩ := hrel
        by_cases hjn : (j : Int) < (n : Int)
        · have hjl : j < L.length := by rw [HN.out]; omega
          obtain ⟨pb, po, rfl, d0, -⟩ := (HP5.out.fr0 hfr.out).at j hjl
          have e1 := above_take (k := Y) hjl
          obtain ⟨K, hK⟩ : ∃ K, L[j].1 = K := ⟨_, rfl⟩
          rw [hK] at d0 e1
          by_cases hky : Y < K
          · rw [if_pos hky] at e1
            have HX2 : Hid ((above (L.take (j + 1)) Y).length = X + 1) := Lib.hid (by rw [e1, hX.out])
            clear e1 hX hK
            go_wp2_with fail
            go_roundw
            case rel => exact ⟨j + 1, X + 1, by omega, by omega, by go_num, by go_num, HX2, hfr⟩
            case measure => simp [intOf]; omega
          · rw [if_neg hky] at e1
            have HX2 : Hid ((above (L.take (j + 1)) Y).length = X) := Lib.hid (by rw [e1, hX.out]; rfl)
            have hky2 : decide (Y < K) = false := decide_eq_false hky
            clear e1 hX hK hky
            go_wp2_with fail
            go_roundw
            case rel => exact ⟨j + 1, X, by omega, by omega, by go_num, by go_num, HX2, hfr⟩
            case measure => simp [intOf]; omega
        · obtain rfl : j = n := by omega
          obtain rfl : X = A := by rw [← hX.out, ← HA.out, ← HN.out, List.take_length]
          clear hX
          go_wp2_with fail
          go_ret
          exact ⟨rfl, HF5.out.trans0 hfr.out⟩
    · have hba2 : decide (b1 ≤ A) = false := decide_eq_false hba
      have hv : decide (cutA L b ≠ 0 ∧ V = hk (cutN L b)) = false := decide_eq_false (fun hh => by have := HIFF.out.1 hh; omega)
      simp only [hv] at HK
      have HKK := Lib.hid HK
      have HRWW := Lib.hid HRW
      clear HK HRW hv hb1
      go_wp2_with fail
      refine HTOT.out.mono ?_
      rintro e w3 ⟨rfl, f3⟩
      have HS3 := Lib.hid (And.intro (HC.out.is.fr0 f3) (And.intro (HC.out.pri.fr0 f3) (HF2.out.trans0 f3)))
      have HK3 := Lib.hid (HKK.out w3 HS3.out.1)
      clear f3 HC HF2 HTOT HKK
      go_wp2_with fail
      refine HK3.out.mono ?_
      rintro e w4 ⟨rfl, f4⟩
      have HS4 := Lib.hid (And.intro (HS3.out.2.1.fr0 f4) (HS3.out.2.2.trans0 f4))
      have HR4 := Lib.hid (HRWW.out w4 HS4.out.1)
      clear HK3 f4 HRWW HS3
      go_wp2_with fail
      refine HR4.out.mono ?_
      rintro e w5 ⟨rfl, f5⟩
      have HP5 := Lib.hid (HS4.out.1.fr0 f5)
      have HF5 := Lib.hid (HS4.out.2.trans0 f5)
      clear HR4 f5 HS4
      go_wp2_with fail
      go_loopw [14, 15] (fun x i wr => ∃ j X : Nat, j ≤ n ∧ X ≤ j ∧ i = .int .i64 j ∧ x = .int .i64 X ∧ Hid ((above (L.take j) Y).length = X) ∧ Hid (Fr S0 w5 wr)) (fun _ i _ => n - (intOf i).toNat)
      case atStart => exact ⟨0, 0, by omega, by omega, rfl, rfl, Lib.hid rfl, Lib.hid (Fr.refl _ _)⟩
      case round =>
        obtain ⟨j, X, hj, hXj, rfl, rfl, hX, hfr⟩ := hrel
        by_cases hjn : (j : Int) < (n : Int)
        · have hjl : j < L.length := by rw [HN.out]; omega
          obtain ⟨pb, po, rfl, d0, -⟩ := (HP5.out.fr0 hfr.out).at j hjl
          have e1 := above_take (k := Y) hjl
          obtain ⟨K, hK⟩ : ∃ K, L[j].1 = K := ⟨_, rfl⟩
          rw [hK] at d0 e1
          by_cases hky : Y < K
          · rw [if_pos hky] at e1
            have HX2 : Hid ((above (L.take (j + 1)) Y).length = X + 1) := Lib.hid (by rw [e1, hX.out])
            clear e1 hX hK
            go_wp2_with fail
            go_roundw
            case rel => exact ⟨j + 1, X + 1, by omega, by omega, by go_num, by go_num, HX2, hfr⟩
            case measure => simp [intOf]; omega
          · rw [if_neg hky] at e1
            have HX2 : Hid ((above (L.take (j + 1)) Y).length = X) := Lib.hid (by rw [e1, hX.out]; rfl)
            have hky2 : decide (Y < K) = false := decide_eq_false hky
            clear e1 hX hK hky
            go_wp2_with fail
            go_roundw
            case rel => exact ⟨j + 1, X, by omega, by omega, by go_num, by go_num, HX2, hfr⟩
            case measure => simp [intOf]; omega
        · obtain rfl : j = n := by omega
          obtain rfl : X = A := by rw [← hX.out, ← HA.out, ← HN.out, List.take_length]
          clear hX
          go_wp2_with fail
          go_ret
          exact ⟨rfl, HF5.out.trans0 hfr.out⟩
  · have hbn2 : decide (b < n) = false := decide_eq_false hbn
    have hv : decide (cutA L b ≠ 0 ∧ V = hk (cutN L b)) = false := decide_eq_false (fun hh => by have := HIFF.out.1 hh; omega)
    simp only [hv] at HK
    have HKK := Lib.hid HK
    have HRWW := Lib.hid HRW
    clear HK HRW hv hb1
    go_wp2_with fail
    refine HTOT.out.mono ?_
    rintro e w3 ⟨rfl, f3⟩
    have HS3 := Lib.hid (And.intro (HC.out.is.fr0 f3) (And.intro (HC.out.pri.fr0 f3) (HF2.out.trans0 f3)))
    have HK3 := Lib.hid (HKK.out w3 HS3.out.1)
    clear f3 HC HF2 HTOT HKK
    go_wp2_with fail
    refine HK3.out.mono ?_
    rintro e w4 ⟨rfl, f4⟩
    have HS4 := Lib.hid (And.intro (HS3.out.2.1.fr0 f4) (HS3.out.2.2.trans0 f4))
    have HR4 := Lib.hid (HRWW.out w4 HS4.out.1)
    clear HK3 f4 HRWW HS3
    go_wp2_with fail
    refine HR4.out.mono ?_
    rintro e w5 ⟨rfl, f5⟩
    have HP5 := Lib.hid (HS4.out.1.fr0 f5)
    have HF5 := Lib.hid (HS4.out.2.trans0 f5)
    clear HR4 f5 HS4
    go_wp2_with fail
    go_loopw [14, 15] (fun x i wr => ∃ j X : Nat, j ≤ n ∧ X ≤ j ∧ i = .int .i64 j ∧ x = .int .i64 X ∧ Hid ((above (L.take j) Y).length = X) ∧ Hid (Fr S0 w5 wr)) (fun _ i _ => n - (intOf i).toNat)
    case atStart => exact ⟨0, 0, by omega, by omega, rfl, rfl, Lib.hid rfl, Lib.hid (Fr.refl _ _)⟩
    case round =>
      obtain ⟨j, X, hj, hXj, rfl, rfl, hX, hfr⟩ := hrel
      by_cases hjn : (j : Int) < (n : Int)
      · have hjl : j < L.length := by rw [HN.out]; omega
        obtain ⟨pb, po, rfl, d0, -⟩ := (HP5.out.fr0 hfr.out).at j hjl
        have e1 := above_take (k := Y) hjl
        obtain ⟨K, hK⟩ : ∃ K, L[j].1 = K := ⟨_, rfl⟩
        rw [hK] at d0 e1
        by_cases hky : Y < K
        · rw [if_pos hky] at e1
          have HX2 : Hid ((above (L.take (j + 1)) Y).length = X + 1) := Lib.hid (by rw [e1, hX.out])
          clear e1 hX hK
          go_wp2_with fail
          go_roundw
          case rel => exact ⟨j + 1, X + 1, by omega, by omega, by go_num, by go_num, HX2, hfr⟩
          case measure => simp [intOf]; omega
        · rw [if_neg hky] at e1
          have HX2 : Hid ((above (L.take (j + 1)) Y).length = X) := Lib.hid (by rw [e1, hX.out]; rfl)
          have hky2 : decide (Y < K) = false := decide_eq_false hky
          clear e1 hX hK hky
          go_wp2_with fail
          go_roundw
          case rel => exact ⟨j + 1, X, by omega, by omega, by go_num, by go_num, HX2, hfr⟩
          case measure => simp [intOf]; omega
      · obtain rfl : j = n := by omega
        obtain rfl : X = A := by rw [← hX.out, ← HA.out, ← HN.out, List.take_length]
        clear hX
        go_wp2_with fail
        go_ret
        exact ⟨rfl, HF5.out.trans0 hfr.out⟩
end Go.Proofs.Ytibgjmlgjmnheaa
