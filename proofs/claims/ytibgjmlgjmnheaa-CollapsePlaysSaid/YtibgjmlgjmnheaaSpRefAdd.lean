/- The document's Add and Take of layer 13, where there is no window. -/
import Derived.Test.YtibgjmlgjmnheaaDnRefTake
namespace Go.Proofs.Ytibgjmlgjmnheaa
open Go.RowKit

/-- the number of Add's error, where there is no window -/
def addE0 (l : List Pr) (k : Int) (n : Nat) : Nat := if n = 0 then 4 else if k < -1048576 ∨ 1048576 < k then 5 else if 4611686018427387904 - ltot l < n then 6 else 0
def addL0 (l : List Pr) (k : Int) (n : Nat) : List Pr := if addE0 l k n = 0 then lput l k n else l
def takeE0 (l m : List Pr) : Nat := if m = [] then 0 else if 4611686018427387904 - ltot l < ltot m then 6 else 0
def takeL0 (l m : List Pr) : List Pr := if takeE0 l m = 0 then lputs l m else l
theorem takeL0_nil (l : List Pr) : takeL0 l [] = l := by unfold takeL0; rw [if_pos (by simp [takeE0])]; rfl

section
variable (p p2 : Option Addr) (m m2 c c2 n : Nat) (k : Int) (l q : List Pr) (w : World)
set_option maxRecDepth 100000 in
set_option maxHeartbeats 1000000 in
theorem radd0_any (h : PrI w p l) (hm : l.length = m) (hlen : m ≤ 50000) (htot : ltot l ≤ 4611686018427387904) (hn : n < 18446744073709551616) :
    Calls Try.prog 12 #[.slice p m c, .int .i64 k, .int .u64 (n : Nat), .int .i64 0] w fun e w' => ∃ v, e = .returned (.tuple #[v, .int .i64 (addE0 l k n : Nat)]) ∧ Got w w' p v (addL0 l k n) := by
  have HG : Hid (∀ W, Fr S0 w W → Got w W p (.slice p m c) l) := Lib.hid fun W f => Got.same h hm f
  by_cases h0 : n = 0
  · subst h0
    have e : addE0 l k 0 = 4 := by unfold addE0; rw [if_pos rfl]
    have e2 : addL0 l k 0 = l := by unfold addL0; rw [e, if_neg (by decide)]
    rw [e, e2]
    clear e e2 h hm hn htot hlen
    go_enter Try.func12, Try.ntmps12
    go_wp2_with fail
    go_ret2
    exact ⟨_, rfl, HG.out _ (Fr.refl _ _)⟩
  have hn0 : ((n : Int) == 0) = false := by rw [beq_eq_false_iff_ne]; omega
  by_cases hk : k < -1048576 ∨ 1048576 < k
  · have e : addE0 l k n = 5 := by unfold addE0; rw [if_neg h0, if_pos hk]
    have e2 : addL0 l k n = l := by unfold addL0; rw [e, if_neg (by decide)]
    rw [e, e2]
    by_cases h1 : k < -1048576
    · clear e e2 h hm hn hk h0 htot hlen
      go_enter Try.func12, Try.ntmps12
      go_wp2_with fail
      go_ret2
      exact ⟨_, rfl, HG.out _ (Fr.refl _ _)⟩
    · have h2 : (1048576 : Int) < k := by omega
      have h3 : decide (k < -1048576) = false := decide_eq_false h1
      clear e e2 h hm hn hk h0 h1 htot hlen
      go_enter Try.func12, Try.ntmps12
      go_wp2_with fail
      go_ret2
      exact ⟨_, rfl, HG.out _ (Fr.refl _ _)⟩
  have h3 : decide (k < -1048576) = false := decide_eq_false (by omega)
  have h4 : decide (1048576 < k) = false := decide_eq_false (by omega)
  have HT := Lib.hid (rtotal_any p m c l w h hm (by omega))
  obtain ⟨T, hT⟩ : ∃ T, ltot l = T := ⟨_, rfl⟩
  obtain ⟨K, hK⟩ : ∃ K, 4611686018427387904 - T = K := ⟨_, rfl⟩
  have eE : addE0 l k n = if K < n then 6 else 0 := by unfold addE0; rw [if_neg h0, if_neg hk, hT, hK]
  rw [hT] at HT htot
  have eK : (4611686018427387904 : Int) - (T : Int) = (K : Int) := by omega
  have hkm : (K : Int) ≤ 4611686018427387904 := by omega
  by_cases hc : K < n
  · rw [if_pos hc] at eE
    have e2 : addL0 l k n = l := by unfold addL0; rw [eE, if_neg (by decide)]
    rw [eE, e2]
    have hc2 : (K : Int) < (n : Int) := by omega
    clear eE e2 h hm hn hk h0 htot hc hT hK hlen
    go_enter Try.func12, Try.ntmps12
    go_wp2_with fail
    refine HT.out.mono ?_
    rintro e w2 ⟨rfl, f2⟩
    clear HT
    go_wp2_with fail
    go_ret2
    exact ⟨_, rfl, HG.out _ f2⟩
  · rw [if_neg hc] at eE
    have e2 : addL0 l k n = lput l k n := by unfold addL0; rw [eE, if_pos rfl]
    have hlen2 := len_put_le l k n
    rw [eE, e2]
    have hc2 : decide (K < n) = false := decide_eq_false hc
    have HP := Lib.hid (fun W (f : Fr S0 w W) => rput_any p m c n k l W (h.fr0 f) hm (by omega) (by omega))
    have HL : Hid ((lput l k n).length ≤ 100000) := Lib.hid (by omega)
    clear eE e2 h hm hn hk h0 htot hc hT hK hlen2 HG hlen
    go_enter Try.func12, Try.ntmps12
    go_wp2_with fail
    refine HT.out.mono ?_
    rintro e w2 ⟨rfl, f2⟩
    have HF2 := Lib.hid f2
    have HP2 := Lib.hid (HP.out w2 f2)
    clear HT f2 HP
    go_wp2_with fail
    refine HP2.out.mono ?_
    rintro e w3 ⟨v, N, rfl, hacc⟩
    have HE := Lib.hid (hacc.got p HL.out HF2.out)
    clear HP2 hacc
    go_wp2_with fail
    go_ret2
    exact ⟨_, rfl, HE.out⟩

set_option maxRecDepth 100000 in
set_option maxHeartbeats 2000000 in
theorem rtake0_any (h : PrI w p l) (hm : l.length = m) (hl1 : m ≤ 50000) (t1 : ltot l ≤ 4611686018427387904) (h2 : PrI w p2 q) (hm2 : q.length = m2) (hl2 : m2 ≤ 50000) (t2 : ltot q ≤ 4611686018427387904) :
    Calls Try.prog 14 #[.slice p m c, .slice p2 m2 c2, .int .i64 0] w fun e w' => ∃ v, e = .returned (.tuple #[v, .int .i64 (takeE0 l q : Nat)]) ∧ Got w w' p v (takeL0 l q) := by
  have HG : Hid (∀ W, Fr S0 w W → Got w W p (.slice p m c) l) := Lib.hid fun W f => Got.same h hm f
  by_cases hq : m2 = 0
  · subst hq
    have : q = [] := List.eq_nil_of_length_eq_zero hm2
    subst this
    rw [takeL0_nil]
    have e : takeE0 l [] = 0 := by simp [takeE0]
    rw [e]
    clear e h hm h2 hm2 hl1 hl2 t1 t2
    go_enter Try.func14, Try.ntmps14
    go_wp2_with fail
    go_ret2
    exact ⟨_, rfl, HG.out _ (Fr.refl _ _)⟩
  have hq0 : ((m2 : Int) == 0) = false := by rw [beq_eq_false_iff_ne]; omega
  have hqn : q ≠ [] := fun e => hq (by rw [← hm2, e]; rfl)
  have HT := Lib.hid (fun W (f : Fr S0 w W) => rtotal_any p m c l W (h.fr0 f) hm (by omega))
  have HT2 := Lib.hid (rtotal_any p2 m2 c2 q w h2 hm2 (by omega))
  have HQ := Lib.hid (fun W (f : Fr S0 w W) => h2.fr0 f)
  have HM2 := Lib.hid hm2
  obtain ⟨T, hT⟩ : ∃ T, ltot l = T := ⟨_, rfl⟩
  obtain ⟨T2, hT2⟩ : ∃ T, ltot q = T := ⟨_, rfl⟩
  obtain ⟨K, hK⟩ : ∃ K, 4611686018427387904 - T = K := ⟨_, rfl⟩
  have eE : takeE0 l q = if K < T2 then 6 else 0 := by unfold takeE0; rw [if_neg hqn, hT, hT2, hK]
  rw [hT] at HT t1
  rw [hT2] at HT2 t2
  have eK : (4611686018427387904 : Int) - (T : Int) = (K : Int) := by omega
  have hkm : (K : Int) ≤ 4611686018427387904 := by omega
  have hq0' : (0 : Int) < (m2 : Int) := by omega
  by_cases hc : K < T2
  · rw [if_pos hc] at eE
    have e2 : takeL0 l q = l := by unfold takeL0; rw [eE, if_neg (by decide)]
    rw [eE, e2]
    have hk2 : (K : Int) < (T2 : Int) := by omega
    clear eE e2 HQ hc h hm h2 hm2 hq hqn hT hT2 hK hl1 hl2
    go_enter Try.func14, Try.ntmps14
    go_wp2_with fail
    refine HT2.out.mono ?_
    rintro e w1 ⟨rfl, f1⟩
    have HF1 := Lib.hid f1
    have HT1 := Lib.hid (HT.out w1 f1)
    clear f1 HT HT2
    go_wp2_with fail
    refine HT1.out.mono ?_
    rintro e w2 ⟨rfl, f2⟩
    clear HT1
    go_wp2_with fail
    go_ret2
    exact ⟨_, rfl, HG.out _ (HF1.out.trans0 f2)⟩
  · rw [if_neg hc] at eE
    have e2 : takeL0 l q = lputs l q := by unfold takeL0; rw [eE, if_pos rfl]
    rw [eE, e2]
    have HPUT : Hid (∀ i : Nat, (hi : i < q.length) → ∀ W v, Got w W p v (lputs l (q.take i)) → ∃ pv N cv, v = .slice pv N cv ∧ Calls Try.prog 30 #[.slice pv N cv, .int .i64 q[i].1, .int .u64 (q[i].2 : Nat)] W fun e w' => ∃ v2, e = .returned v2 ∧ Got w w' p v2 (lputs l (q.take (i + 1)))) := Lib.hid fun i hi W v g => by
      obtain ⟨pv, N, cv, rfl, hN, hpv, -⟩ := g.ex
      refine ⟨pv, N, cv, rfl, ?_⟩
      have hlen := len_puts_le (q.take i) l
      have htot := tot_putAll (q.take i) l
      have hti := tot_take_le q (i + 1)
      rw [tot_take hi] at hti
      have hle : (q.take i).length ≤ q.length := by rw [List.length_take]; omega
      refine (rput_any pv N cv q[i].2 q[i].1 _ W hpv hN (by omega) (by omega)).mono fun e w' he => ?_
      obtain ⟨v2, N2, e2, hacc⟩ := he
      refine ⟨v2, e2, ?_⟩
      have hle2 : (q.take (i + 1)).length ≤ q.length := by rw [List.length_take]; omega
      have hlen2 := len_puts_le (q.take (i + 1)) l
      rw [lputs_take l q i hi] at hlen2 ⊢
      exact g.step hacc (by omega)
    have hk2 : decide (K < T2) = false := decide_eq_false hc
    clear eE e2 hc h hm h2 hm2 hq hqn hT hT2 hK hl1
    go_enter Try.func14, Try.ntmps14
    go_wp2_with fail
    refine HT2.out.mono ?_
    rintro e w1 ⟨rfl, f1⟩
    have HF1 := Lib.hid f1
    have HT1 := Lib.hid (HT.out w1 f1)
    clear f1 HT HT2
    go_wp2_with fail
    refine HT1.out.mono ?_
    rintro e w2 ⟨rfl, f2⟩
    have G2 : Hid (Got w w2 p (.slice p m c) (lputs l (q.take 0))) := Lib.hid (HG.out _ (HF1.out.trans0 f2))
    clear HT1 HF1 f2
    go_wp2_with fail
    go_loopw [10, 11] (fun v x wr => ∃ i : Nat, i ≤ m2 ∧ x = .int .i64 i ∧ Hid (Got w wr p v (lputs l (q.take i)))) (fun _ x _ => m2 - (intOf x).toNat)
    case atStart => exact ⟨0, by omega, rfl, G2⟩
    case round =>
      clear G2
      obtain ⟨j, hj, rfl, hg⟩ := hrel
      by_cases hjm : (j : Int) < (m2 : Int)
      · have hjl : j < q.length := by rw [HM2.out]; omega
        obtain ⟨bb, oo, rfl, y0, y1⟩ := (HQ.out wr hg.out.fr).at j hjl
        obtain ⟨pv, N, cv, rfl, hcall⟩ := HPUT.out j hjl (wr.drew) _ ⟨by obtain ⟨pv, N, cv, e, h1, h2, h3⟩ := hg.out.ex; exact ⟨pv, N, cv, e, h1, h2.fr0 (Fr.drew _ _), h3.imp id fun h a ha => ⟨(h a ha).1, (h a ha).2⟩⟩, hg.out.fr.trans0 (Fr.drew _ _)⟩
        obtain ⟨⟨tk, tn⟩, ht⟩ : ∃ t, q[j] = t := ⟨_, rfl⟩
        rw [ht] at y0 y1 hcall
        simp only at y0 y1 hcall
        have HCALL := Lib.hid hcall
        clear ht hcall hg
        go_wp2_with fail
        go_still_tail 11, (by kernel_rfl)
        change wpList _ _ _ _ _ wr.drew
        go_wp2_with fail
        refine HCALL.out.mono ?_
        rintro e w3 ⟨v3, rfl, g3⟩
        have G3 := Lib.hid g3
        clear g3 HCALL y0 y1
        go_wp2_with fail
        go_roundw
        case rel => exact ⟨j + 1, by omega, by go_num, G3⟩
        case measure => simp [intOf]; omega
      · obtain rfl : j = m2 := by omega
        have HE : Hid (Got w wr p _ (lputs l q)) := Lib.hid (by
          have := hg.out
          rwa [List.take_of_length_le (by rw [HM2.out]; exact Nat.le_refl _)] at this)
        clear hg
        go_wp2_with fail
        go_ret2
        exact ⟨_, rfl, HE.out⟩
end
end Go.Proofs.Ytibgjmlgjmnheaa
