/- A list of pairs, however they stand, counts them; the first that may not be refuses all. -/
import Derived.Test.YtljodghfgnkknaaSpAlive
import Derived.Deep.CutBlock
import Derived.Deep.DeepCutAuto
import Derived.Deep.CutRange
namespace Go.Proofs.Ytljodghfgnkknaa
open Go.RowKit

theorem ofE_step {l : List Pr} {j : Nat} (hj : j < l.length) (h : ofE [] l = ofE (lputs [] (l.take j)) (l.drop j)) :
    (addE0 (lputs [] (l.take j)) l[j].1 l[j].2 = 0 → ofE [] l = ofE (lputs [] (l.take (j + 1))) (l.drop (j + 1))) ∧ (addE0 (lputs [] (l.take j)) l[j].1 l[j].2 ≠ 0 → ofE [] l = addE0 (lputs [] (l.take j)) l[j].1 l[j].2) := by
  rw [h, ofE_drop hj, lputs_take [] l j hj]
  exact ⟨fun h => by rw [if_pos h], fun h => by rw [if_neg h]⟩
theorem addL0_step {l : List Pr} {j : Nat} (hj : j < l.length) (h : addE0 (lputs [] (l.take j)) l[j].1 l[j].2 = 0) : addL0 (lputs [] (l.take j)) l[j].1 l[j].2 = lputs [] (l.take (j + 1)) := by
  unfold addL0
  rw [h, if_pos rfl, lputs_take [] l j hj]

set_option maxRecDepth 100000 in
set_option maxHeartbeats 4000000 in
theorem law_of (p : Option Addr) (c m : Nat) (l : List Pr) (w : World) (hm : l.length = m) (h : PrI w p l) (hc : p = none → c = 0) (h64 : ∀ x ∈ l, x.2 < 18446744073709551616) :
    Calls Try.prog 6 #[.slice p m c] w fun e w' => e = .returned (.bool true) ∧ Fr S0 w w' := by
  have hw := start w
  have H := Lib.hid h
  have H64 := Lib.hid h64
  have HM := Lib.hid hm
  have HC := Lib.hid hc
  have hlen := h.len
  rw [hm] at hlen
  unfold maxLen at hlen
  clear h h64 hm hc
  by_cases hbig : (100 : Int) < (m : Int)
  · go_enter Try.func6, Try.ntmps6
    go_wp2_with fail
    refine hw _ ?_
    intro w1 f1
    have HF1 := Lib.hid f1
    clear hw f1
    go_wp2_with fail
    go_ret
    exact ⟨rfl, HF1.out⟩
  have hbg : decide ((100 : Int) < (m : Int)) = false := decide_eq_false hbig
  have hm100 : m ≤ 100 := by omega
  go_enter Try.func6, Try.ntmps6
  go_wp2_with fail
  refine hw _ ?_
  intro w1 f1
  have HF1 := Lib.hid f1
  have HOF := Lib.hid (of_any p m c l w1 (H.out.fr0 f1) HM.out (by omega) HC.out H64.out)
  clear hw f1
  go_wp2_with fail
  refine HOF.out.mono ?_
  rintro e w2 ⟨f2, hcase⟩
  have HF2 := Lib.hid (HF1.out.trans0 f2)
  clear HOF f2
  rcases hcase with ⟨hne, rfl⟩ | ⟨hz, g, rfl, hnew⟩
  · obtain ⟨X, hX⟩ : ∃ X, ofE [] l = X := ⟨_, rfl⟩
    have HNE := Lib.hid hne
    have HX := Lib.hid hX
    rw [hX]
    clear hne hX
    go_wp2_with fail
    go_loopw [2, 5, 6, 7, 8] (fun _ wv i _ _ wr => ∃ (j N d : Nat) (q : Option Addr), j ≤ m ∧ i = .int .i64 j ∧ wv = .slice q N d ∧ Hid ((lputs [] (l.take j)).length = N ∧ PrI wr q (lputs [] (l.take j)) ∧ ltot (lputs [] (l.take j)) ≤ 4611686018427387904) ∧ Hid (ofE [] l = ofE (lputs [] (l.take j)) (l.drop j)) ∧ Hid (Fr S0 w2 wr)) (fun _ _ i _ _ _ => m - (intOf i).toNat)
    case atStart => exact ⟨0, 0, 0, none, by omega, rfl, rfl, Lib.hid ⟨rfl, PrI.nil _ _, show (0 : Nat) ≤ 4611686018427387904 from Nat.zero_le _⟩, (by first | exact Lib.hid rfl | exact Lib.hid trivial), Lib.hid (Fr.refl _ _)⟩
    case round =>
      obtain ⟨j, N, d, q, hj, rfl, rfl, hq, hE, hfr⟩ := hrel
      by_cases hjm : (j : Int) < (m : Int)
      · have hjl : j < l.length := by rw [HM.out]; omega
        have hx64 := H64.out _ (List.getElem_mem hjl)
        obtain ⟨b, o, hpe, c0, c1⟩ := (H.out.fr0 (HF2.out.trans0 hfr.out)).at j hjl
        have HSTEP := Lib.hid (ofE_step hjl hE.out)
        have HAD := Lib.hid (fun h => addL0_step hjl h)
        have HRA := Lib.hid (fun W (f : Fr S0 wr W) => radd0_any q N d l[j].2 l[j].1 (lputs [] (l.take j)) W (hq.out.2.1.fr0 f) hq.out.1 (by have := len_puts_le (l.take j) []; have := hq.out.1; rw [List.length_take] at *; simp only [List.length_nil] at *; omega) hq.out.2.2 hx64)
        have HTB : Hid (addE0 (lputs [] (l.take j)) l[j].1 l[j].2 = 0 → ltot (lputs [] (l.take (j + 1))) ≤ 4611686018427387904 ∧ (lputs [] (l.take (j + 1))).length ≤ 200) := Lib.hid fun h => by
          obtain ⟨-, -, h3⟩ := addE0_zero h
          refine ⟨by rw [lputs_take [] l j hjl, tot_put]; exact h3 hq.out.2.2, ?_⟩
          have := len_puts_le (l.take (j + 1)) []
          rw [List.length_take] at this
          simp only [List.length_nil] at this
          omega
        obtain ⟨⟨tk, tn⟩, hk⟩ : ∃ x, l[j]'hjl = x := ⟨_, rfl⟩
        rw [hk] at c0 c1 HSTEP HAD HRA HTB
        simp only at c0 c1 HSTEP HAD HRA HTB
        obtain ⟨E, hEE⟩ : ∃ E, addE0 (lputs [] (l.take j)) tk tn = E := ⟨_, rfl⟩
        obtain ⟨L', hL'⟩ : ∃ L', addL0 (lputs [] (l.take j)) tk tn = L' := ⟨_, rfl⟩
        rw [hEE] at HSTEP HAD HRA HTB
        rw [hL'] at HAD HRA
        subst hpe
        have HLE : Hid (E ≤ 6) := Lib.hid (by rw [← hEE]; unfold addE0; split; omega; split; omega; split <;> omega)
        clear hk hEE hL' hx64 hq hE
        go_upto_region 10 with fail
        go_cut [7, 8] from 19 to 49 (fun x7 x8 wx => x8 = .int .i64 (E : Int) ∧ Got wr wx q x7 L')
        case first =>
          go_region_law (go_simp; go_at_call 10; refine (HRA.out _ (Fr.drew _ _)).mono ?_; rintro e w5 ⟨v5, rfl, g5⟩; have HG5 := Lib.hid (g5.from (Fr.drew S0 wr)); clear g5; dsimp only)
          all_goals
            go_wp2_with fail
            go_meet
            exact ⟨rfl, HG5.out⟩
        case rest =>
          obtain ⟨rfl, hgot⟩ := hcut
          obtain ⟨⟨q', N', d', rfl, hN', hq', -⟩, fg⟩ := hgot
          have HQ := Lib.hid (And.intro hN' hq')
          have HF3 := Lib.hid (hfr.out.trans0 fg)
          clear hN' hq' fg HRA c0 c1
          by_cases h0 : E = 0
          · subst h0
            have HL := Lib.hid (HAD.out rfl)
            have HT2 := Lib.hid (HTB.out rfl)
            have HE2 := Lib.hid (HSTEP.out.1 rfl)
            clear HAD HTB HSTEP hfr HLE
            go_wp2_with fail
            go_roundw
            case rel => exact ⟨j + 1, N', d', q', by omega, by go_num, rfl, Lib.hid ⟨by rw [← HL.out]; exact HQ.out.1, by rw [← HL.out]; exact HQ.out.2, HT2.out.1⟩, HE2, HF3⟩
            case measure => simp [intOf]; omega
          · have hX := HSTEP.out.2 h0
            obtain rfl : X = E := HX.out.symm.trans hX
            have hEb : ((X : Int) == 0) = false := by rw [beq_eq_false_iff_ne]; omega
            have hEn : ((X : Int) != 0) = true := by simp; omega
            have hle := HLE.out
            clear HAD HTB HSTEP hfr HLE hX
            go_wp2_with fail
            go_ret
            exact ⟨rfl, HF2.out.trans0 HF3.out⟩
      · exfalso
        obtain rfl : j = m := by omega
        have := hE.out
        rw [← HM.out, List.drop_length, ofE] at this
        exact HNE.out this
  · have HZ := Lib.hid hz
    have HNEW := Lib.hid hnew
    clear hz hnew
    go_wp2_with fail
    go_loopw [2, 5, 6, 7, 8] (fun _ wv i _ _ wr => ∃ (j N d : Nat) (q : Option Addr), j ≤ m ∧ i = .int .i64 j ∧ wv = .slice q N d ∧ Hid ((lputs [] (l.take j)).length = N ∧ PrI wr q (lputs [] (l.take j)) ∧ ltot (lputs [] (l.take j)) ≤ 4611686018427387904) ∧ Hid (ofE [] l = ofE (lputs [] (l.take j)) (l.drop j)) ∧ Hid (Fr S0 w2 wr)) (fun _ _ i _ _ _ => m - (intOf i).toNat)
    case atStart => exact ⟨0, 0, 0, none, by omega, rfl, rfl, Lib.hid ⟨rfl, PrI.nil _ _, show (0 : Nat) ≤ 4611686018427387904 from Nat.zero_le _⟩, (by first | exact Lib.hid rfl | exact Lib.hid trivial), Lib.hid (Fr.refl _ _)⟩
    case round =>
      obtain ⟨j, N, d, q, hj, rfl, rfl, hq, hE, hfr⟩ := hrel
      by_cases hjm : (j : Int) < (m : Int)
      · have hjl : j < l.length := by rw [HM.out]; omega
        have hx64 := H64.out _ (List.getElem_mem hjl)
        obtain ⟨b, o, hpe, c0, c1⟩ := (H.out.fr0 (HF2.out.trans0 hfr.out)).at j hjl
        have HSTEP := Lib.hid (ofE_step hjl hE.out)
        have HAD := Lib.hid (fun h => addL0_step hjl h)
        have HRA := Lib.hid (fun W (f : Fr S0 wr W) => radd0_any q N d l[j].2 l[j].1 (lputs [] (l.take j)) W (hq.out.2.1.fr0 f) hq.out.1 (by have := len_puts_le (l.take j) []; have := hq.out.1; rw [List.length_take] at *; simp only [List.length_nil] at *; omega) hq.out.2.2 hx64)
        have HTB : Hid (addE0 (lputs [] (l.take j)) l[j].1 l[j].2 = 0 → ltot (lputs [] (l.take (j + 1))) ≤ 4611686018427387904 ∧ (lputs [] (l.take (j + 1))).length ≤ 200) := Lib.hid fun h => by
          obtain ⟨-, -, h3⟩ := addE0_zero h
          refine ⟨by rw [lputs_take [] l j hjl, tot_put]; exact h3 hq.out.2.2, ?_⟩
          have := len_puts_le (l.take (j + 1)) []
          rw [List.length_take] at this
          simp only [List.length_nil] at this
          omega
        obtain ⟨⟨tk, tn⟩, hk⟩ : ∃ x, l[j]'hjl = x := ⟨_, rfl⟩
        rw [hk] at c0 c1 HSTEP HAD HRA HTB
        simp only at c0 c1 HSTEP HAD HRA HTB
        obtain ⟨E, hEE⟩ : ∃ E, addE0 (lputs [] (l.take j)) tk tn = E := ⟨_, rfl⟩
        obtain ⟨L', hL'⟩ : ∃ L', addL0 (lputs [] (l.take j)) tk tn = L' := ⟨_, rfl⟩
        rw [hEE] at HSTEP HAD HRA HTB
        rw [hL'] at HAD HRA
        subst hpe
        have HLE : Hid (E ≤ 6) := Lib.hid (by rw [← hEE]; unfold addE0; split; omega; split; omega; split <;> omega)
        clear hk hEE hL' hx64 hq hE
        go_upto_region 10 with fail
        go_cut [7, 8] from 19 to 49 (fun x7 x8 wx => x8 = .int .i64 (E : Int) ∧ Got wr wx q x7 L')
        case first =>
          go_region_law (go_simp; go_at_call 10; refine (HRA.out _ (Fr.drew _ _)).mono ?_; rintro e w5 ⟨v5, rfl, g5⟩; have HG5 := Lib.hid (g5.from (Fr.drew S0 wr)); clear g5; dsimp only)
          all_goals
            go_wp2_with fail
            go_meet
            exact ⟨rfl, HG5.out⟩
        case rest =>
          obtain ⟨rfl, hgot⟩ := hcut
          obtain ⟨⟨q', N', d', rfl, hN', hq', -⟩, fg⟩ := hgot
          have HQ := Lib.hid (And.intro hN' hq')
          have HF3 := Lib.hid (hfr.out.trans0 fg)
          clear hN' hq' fg HRA c0 c1
          by_cases h0 : E = 0
          · subst h0
            have HL := Lib.hid (HAD.out rfl)
            have HT2 := Lib.hid (HTB.out rfl)
            have HE2 := Lib.hid (HSTEP.out.1 rfl)
            clear HAD HTB HSTEP hfr HLE
            go_wp2_with fail
            go_roundw
            case rel => exact ⟨j + 1, N', d', q', by omega, by go_num, rfl, Lib.hid ⟨by rw [← HL.out]; exact HQ.out.1, by rw [← HL.out]; exact HQ.out.2, HT2.out.1⟩, HE2, HF3⟩
            case measure => simp [intOf]; omega
          · exact absurd (HSTEP.out.2 h0).symm (by rw [HZ.out]; exact h0)
      · obtain rfl : j = m := by omega
        have htk : l.take j = l := by rw [← HM.out, List.take_length]
        have hq2 := hq.out
        rw [htk] at hq2
        have HQ := Lib.hid hq2
        obtain ⟨h, hst, -, -, -⟩ := HNEW.out
        have HPA := Lib.hid (pairs_any g h _ wr (hst.fr0 hfr.out))
        clear hq2 hq hE hst htk
        go_wp2_with fail
        refine HPA.out.mono ?_
        rintro e w4 ⟨p4, d4, n4, rfl, hp4⟩
        obtain rfl : N = n4 := HQ.out.1.symm.trans hp4.len
        have HS := Lib.hid (rsame_yes p4 q N d4 d _ w4 (hp4.pri (by have := len_puts_le l []; have := HQ.out.1; have := HM.out; simp only [List.length_nil] at *; omega)) (HQ.out.2.1.fr0 hp4.fr) HQ.out.1)
        have HF4 := Lib.hid ((HF2.out.trans0 hfr.out).trans0 hp4.fr)
        clear HPA hp4 hfr
        go_wp2_with fail
        refine HS.out.mono ?_
        rintro e w5 ⟨rfl, f5⟩
        have HF5 := Lib.hid (HF4.out.trans0 f5)
        clear HS f5
        go_wp2_with fail
        go_ret
        exact ⟨rfl, HF5.out⟩
end Go.Proofs.Ytljodghfgnkknaa
