/- The document's Take. -/
import Derived.Test.YtibgjmlgjmnheaaDnRefAdd
namespace Go.Proofs.Ytibgjmlgjmnheaa
open Go.RowKit

theorem len_put_le : ∀ (l : List Pr) (k : Int) (n : Nat), (lput l k n).length ≤ l.length + 1
  | [], _, _ => by simp [lput]
  | x :: r, k, n => by
    have := len_put_le r k n
    rw [lput]
    split
    · rw [List.length_cons, List.length_cons]; omega
    · split <;> simp
theorem len_puts_le : ∀ (m l : List Pr), (lputs l m).length ≤ l.length + m.length
  | [], l => by simp [lputs]
  | x :: m, l => by
    have h1 := len_puts_le m (lput l x.1 x.2)
    have h2 := len_put_le l x.1 x.2
    rw [show lputs l (x :: m) = lputs (lput l x.1 x.2) m from rfl, List.length_cons]
    omega
theorem lputs_take (l q : List Pr) (i : Nat) (h : i < q.length) : lputs l (q.take (i + 1)) = lput (lputs l (q.take i)) q[i].1 q[i].2 := by
  rw [List.take_succ_eq_append_getElem h, putAll_snoc]
theorem Got.step {w W w' : World} {p : Option Addr} {v v2 : Value} {N : Nat} {l l2 : List Pr} (h : Got w W p v l) (a : Acc W w' v2 N l2) (hN : l2.length ≤ 100000) : Got w w' p v2 l2 := a.got p hN h.fr

section
variable (p p2 : Option Addr) (m m2 c c2 : Nat) (l q : List Pr) (w : World)
set_option maxRecDepth 100000 in
set_option maxHeartbeats 2000000 in
theorem rtake_any (h : PrI w p l) (hm : l.length = m) (ho : Ok l) (h2 : PrI w p2 q) (hm2 : q.length = m2) (ho2 : Ok q) :
    Calls Try.prog 14 #[.slice p m c, .slice p2 m2 c2, .int .i64 8192] w fun e w' => ∃ v, e = .returned (.tuple #[v, .int .i64 (takeE l q : Nat)]) ∧ Got w w' p v (takeL l q) := by
  have HG : Hid (∀ W, Fr S0 w W → Got w W p (.slice p m c) l) := Lib.hid fun W f => Got.same h hm f
  have hl1 := ho.len
  have hl2 := ho2.len
  rw [hm] at hl1
  rw [hm2] at hl2
  by_cases hq : m2 = 0
  · subst hq
    have : q = [] := List.eq_nil_of_length_eq_zero hm2
    subst this
    rw [takeL_nil]
    have e : takeE l [] = 0 := by simp [takeE]
    rw [e]
    clear e h hm ho h2 hm2 ho2 hl1 hl2
    go_enter Try.func14, Try.ntmps14
    go_wp2_with fail
    go_ret2
    exact ⟨_, rfl, HG.out _ (Fr.refl _ _)⟩
  have hq0 : ((m2 : Int) == 0) = false := by rw [beq_eq_false_iff_ne]; omega
  have hqn : q ≠ [] := fun e => hq (by rw [← hm2, e]; rfl)
  have t1 := ho.tot
  have t2 := ho2.tot
  have HT := Lib.hid (fun W (f : Fr S0 w W) => rtotal_any p m c l W (h.fr0 f) hm (by omega))
  have HT2 := Lib.hid (fun W (f : Fr S0 w W) => rtotal_any p2 m2 c2 q W (h2.fr0 f) hm2 (by omega))
  have HQ := Lib.hid (fun W (f : Fr S0 w W) => h2.fr0 f)
  have HM2 := Lib.hid hm2
  have HPUT : Hid (∀ i : Nat, (hi : i < q.length) → ∀ W v, Got w W p v (lputs l (q.take i)) → ∃ pv N cv, v = .slice pv N cv ∧ Calls Try.prog 30 #[.slice pv N cv, .int .i64 q[i].1, .int .u64 (q[i].2 : Nat)] W fun e w' => ∃ v2, e = .returned v2 ∧ Got w w' p v2 (lputs l (q.take (i + 1)))) := Lib.hid fun i hi W v g => by
    obtain ⟨pv, N, cv, rfl, hN, hpv, -⟩ := g.ex
    refine ⟨pv, N, cv, rfl, ?_⟩
    have hlen := len_puts_le (q.take i) l
    have htot := tot_putAll (q.take i) l
    have hti := tot_take_le q (i + 1)
    rw [tot_take hi] at hti
    have hle : (q.take i).length ≤ q.length := by rw [List.length_take]; omega
    refine (rput_any pv N cv q[i].2 q[i].1 _ W hpv hN (by omega) (by omega)).mono fun e w' he => ?_
    obtain ⟨v2, N2, e2, hacc⟩ := he
    refine ⟨v2, e2, ?_⟩
    rw [lputs_take l q i hi]
    exact g.step hacc (by have := len_put_le (lputs l (q.take i)) q[i].1 q[i].2; omega)
  obtain ⟨T, hT⟩ : ∃ T, ltot l = T := ⟨_, rfl⟩
  obtain ⟨T2, hT2⟩ : ∃ T, ltot q = T := ⟨_, rfl⟩
  obtain ⟨K, hK⟩ : ∃ K, 4611686018427387904 - T = K := ⟨_, rfl⟩
  rw [hT] at HT t1
  rw [hT2] at HT2 t2
  have eK : (4611686018427387904 : Int) - (T : Int) = (K : Int) := by omega
  have hkm : (K : Int) ≤ 4611686018427387904 := by omega
  by_cases hl0 : m = 0
  · have hln : l = [] := List.eq_nil_of_length_eq_zero (hm.trans hl0)
    have eE : takeE l q = 0 := by
      have hT0 : T = 0 := by rw [← hT, hln]; rfl
      unfold takeE
      rw [if_neg hqn, show wids l q = 0 by rw [hln]; exact wids_nil q, if_neg (by decide), hT, hT2, hK, if_neg (by omega)]
    have e2 : takeL l q = lputs l q := by unfold takeL; rw [eE, if_pos rfl]
    rw [eE, e2]
    have hk2 : decide (K < T2) = false := decide_eq_false (by have : T = 0 := (by rw [← hT, hln]; rfl); omega)
    have hm0 : decide (0 < m) = false := decide_eq_false (by omega)
    clear eE e2 h hm ho h2 hm2 ho2 hq hqn hT hT2 hK hl0 hln
    go_enter Try.func14, Try.ntmps14
    go_wp2_with fail
    refine (HT2.out _ (Fr.refl _ _)).mono ?_
    rintro e w1 ⟨rfl, f1⟩
    have HF1 := Lib.hid ((Fr.refl S0 w).trans0 f1)
    have HT1 := Lib.hid (HT.out w1 HF1.out)
    clear f1 HT HT2
    go_wp2_with fail
    refine HT1.out.mono ?_
    rintro e w2 ⟨rfl, f2⟩
    have G2 : Hid (Got w w2 p (.slice p m c) (lputs l (q.take 0))) := Lib.hid (HG.out _ (HF1.out.trans0 f2))
    clear HT1 HF1 f2
    go_wp2_with fail
    go_loopw [10, 11] (fun v x wr => ∃ i : Nat, i ≤ m2 ∧ x = .int .i64 i ∧ Hid (Got w wr p v (lputs l (q.take i)))) (fun _ x _ => m2 - (intOf x).toNat)
    case atStart => exact ⟨0, by omega, rfl, G2⟩
    case round =>
      clear G2
      obtain ⟨j, hj, rfl, hg⟩ := hrel
      by_cases hjm : (j : Int) < (m2 : Int)
      · have hjl : j < q.length := by rw [HM2.out]; omega
        obtain ⟨bb, oo, rfl, y0, y1⟩ := (HQ.out wr hg.out.fr).at j hjl
        obtain ⟨pv, N, cv, rfl, hcall⟩ := HPUT.out j hjl (wr.drew) _ ⟨by obtain ⟨pv, N, cv, e, h1, h2, h3⟩ := hg.out.ex; exact ⟨pv, N, cv, e, h1, h2.fr0 (Fr.drew _ _), h3.imp id fun h a ha => ⟨(h a ha).1, (h a ha).2⟩⟩, hg.out.fr.trans0 (Fr.drew _ _)⟩
        obtain ⟨⟨tk, tn⟩, ht⟩ : ∃ t, q[j] = t := ⟨_, rfl⟩
        rw [ht] at y0 y1 hcall
        simp only at y0 y1 hcall
        have HCALL := Lib.hid hcall
        clear ht hcall hg
        go_wp2_with fail
        go_still_tail 11, (by kernel_rfl)
        change wpList _ _ _ _ _ wr.drew
        go_wp2_with fail
        refine HCALL.out.mono ?_
        rintro e w3 ⟨v3, rfl, g3⟩
        have G3 := Lib.hid g3
        clear g3 HCALL y0 y1
        go_wp2_with fail
        go_roundw
        case rel => exact ⟨j + 1, by omega, by go_num, G3⟩
        case measure => simp [intOf]; omega
      · obtain rfl : j = m2 := by omega
        have HE : Hid (Got w wr p _ (lputs l q)) := Lib.hid (by
          have := hg.out
          rwa [List.take_of_length_le (by rw [HM2.out]; exact Nat.le_refl _)] at this)
        clear hg
        go_wp2_with fail
        go_ret2
        exact ⟨_, rfl, HE.out⟩
  have hm0 : (0 : Int) < (m : Int) := by omega
  have h0l : 0 < l.length := by omega
  have h0q : 0 < q.length := by omega
  obtain ⟨b, o, rfl, c0, -⟩ := h.at 0 h0l
  obtain ⟨b', o', hp, c1, -⟩ := h.at (l.length - 1) (by omega)
  simp only [Option.some.injEq, Addr.mk.injEq] at hp
  obtain ⟨rfl, rfl, -⟩ := hp
  obtain ⟨bq, oq, rfl, d0, -⟩ := h2.at 0 h0q
  obtain ⟨b', o', hp, d1, -⟩ := h2.at (q.length - 1) (by omega)
  simp only [Option.some.injEq, Addr.mk.injEq] at hp
  obtain ⟨rfl, rfl, -⟩ := hp
  have k0 := ho.key _ (List.getElem_mem h0l)
  have k1 := ho.key _ (List.getElem_mem (show l.length - 1 < l.length by omega))
  have k2 := ho2.key _ (List.getElem_mem h0q)
  have k3 := ho2.key _ (List.getElem_mem (show q.length - 1 < q.length by omega))
  have ew : wids l q = max (l[l.length - 1]'(by omega)).1 (q[q.length - 1]'(by omega)).1 - min (l[0]'h0l).1 (q[0]'h0q).1 + 1 := by unfold wids; rw [dif_pos ⟨h0l, h0q⟩]
  obtain ⟨i, hi⟩ : ∃ i, l.length - 1 = i := ⟨_, rfl⟩
  obtain ⟨iq, hiq⟩ : ∃ i, q.length - 1 = i := ⟨_, rfl⟩
  obtain ⟨A, hA⟩ : ∃ A, (l[0]'h0l).1 = A := ⟨_, rfl⟩
  obtain ⟨B, hB⟩ : ∃ B, (l[l.length - 1]'(by omega)).1 = B := ⟨_, rfl⟩
  obtain ⟨C, hC⟩ : ∃ A, (q[0]'h0q).1 = A := ⟨_, rfl⟩
  obtain ⟨D, hD⟩ : ∃ B, (q[q.length - 1]'(by omega)).1 = B := ⟨_, rfl⟩
  rw [hA] at c0 k0 ew
  rw [hB] at c1 k1 ew
  rw [hC] at d0 k2 ew
  rw [hD] at d1 k3 ew
  rw [hi] at c1
  rw [hiq] at d1
  rw [Nat.zero_mul, Nat.add_zero] at c0 d0
  obtain ⟨X, hX⟩ : ∃ X, max B D = X := ⟨_, rfl⟩
  obtain ⟨Y, hY⟩ : ∃ Y, min A C = Y := ⟨_, rfl⟩
  rw [hX, hY] at ew
  have emin : (if C < A then C else A) = Y := by split <;> omega
  have emax : (if B < D then D else B) = X := by split <;> omega
  have e1 : (m : Int) - 1 = (i : Int) := by omega
  have e2 : (m2 : Int) - 1 = (iq : Int) := by omega
  have w1 : IntKind.i64.wrap ((m : Int) - 1) = (i : Int) := by rw [IntKind.wrap_i64]; omega
  have w2 : IntKind.i64.wrap ((m2 : Int) - 1) = (iq : Int) := by rw [IntKind.wrap_i64]; omega
  have him : (i : Int) < (m : Int) := by omega
  have hiqm : (iq : Int) < (m2 : Int) := by omega
  have hq0' : (0 : Int) < (m2 : Int) := by omega
  have kX : -1048576 ≤ X ∧ X ≤ 1048576 := by omega
  have kY : -1048576 ≤ Y ∧ Y ≤ 1048576 := by omega
  have eE : takeE l q = if 8192 < X - Y + 1 then 130 else if K < T2 then 6 else 0 := by unfold takeE; rw [if_neg hqn, ew, hT, hT2, hK]
  clear h hm ho h2 hm2 ho2 hq hqn hT hT2 hK hl0 h0l h0q hi hiq hA hB hC hD hX hY k0 k1 k2 k3 ew
  by_cases hx : 8192 < X - Y + 1
  · rw [if_pos hx] at eE
    have e2 : takeL l q = l := by unfold takeL; rw [eE, if_neg (by decide)]
    rw [eE, e2]
    clear eE e2 HT HT2 HQ HPUT eK hkm
    go_enter Try.func14, Try.ntmps14
    go_wp2_with fail
    go_region
    go_wp2_with fail
    go_region
    go_wp2_with fail
    go_ret2
    exact ⟨_, rfl, HG.out _ (Fr.drewN _ _ 2)⟩
  rw [if_neg hx] at eE
  have hx2 : decide (8192 < X - Y + 1) = false := decide_eq_false hx
  by_cases hc : K < T2
  · rw [if_pos hc] at eE
    have e2 : takeL l q = l := by unfold takeL; rw [eE, if_neg (by decide)]
    rw [eE, e2]
    have hk2 : (K : Int) < (T2 : Int) := by omega
    clear eE e2 HQ HPUT hx hc
    go_enter Try.func14, Try.ntmps14
    go_wp2_with fail
    go_region
    go_wp2_with fail
    go_region
    go_wp2_with fail
    refine (HT2.out _ (Fr.drewN _ _ 2)).mono ?_
    rintro e w1 ⟨rfl, f1⟩
    have HF1 := Lib.hid ((Fr.drewN S0 w 2).trans0 f1)
    have HT1 := Lib.hid (HT.out w1 HF1.out)
    clear f1 HT HT2 c0 c1 d0 d1
    go_wp2_with fail
    refine HT1.out.mono ?_
    rintro e w2 ⟨rfl, f2⟩
    clear HT1
    go_wp2_with fail
    go_ret2
    exact ⟨_, rfl, HG.out _ (HF1.out.trans0 f2)⟩
  · rw [if_neg hc] at eE
    have e2 : takeL l q = lputs l q := by unfold takeL; rw [eE, if_pos rfl]
    rw [eE, e2]
    have hk2 : decide (K < T2) = false := decide_eq_false hc
    clear eE e2 hx hc
    go_enter Try.func14, Try.ntmps14
    go_wp2_with fail
    go_region
    go_wp2_with fail
    go_region
    go_wp2_with fail
    refine (HT2.out _ (Fr.drewN _ _ 2)).mono ?_
    rintro e w1 ⟨rfl, f1⟩
    have HF1 := Lib.hid ((Fr.drewN S0 w 2).trans0 f1)
    have HT1 := Lib.hid (HT.out w1 HF1.out)
    clear f1 HT HT2 c0 c1 d0 d1
    go_wp2_with fail
    refine HT1.out.mono ?_
    rintro e w2 ⟨rfl, f2⟩
    have G2 : Hid (Got w w2 (some ⟨b, o, none⟩) (.slice (some ⟨b, o, none⟩) m c) (lputs l (q.take 0))) := Lib.hid (HG.out _ (HF1.out.trans0 f2))
    clear HT1 HF1 f2
    go_wp2_with fail
    go_loopw [10, 11] (fun v x wr => ∃ i : Nat, i ≤ m2 ∧ x = .int .i64 i ∧ Hid (Got w wr (some ⟨b, o, none⟩) v (lputs l (q.take i)))) (fun _ x _ => m2 - (intOf x).toNat)
    case atStart => exact ⟨0, by omega, rfl, G2⟩
    case round =>
      clear G2
      obtain ⟨j, hj, rfl, hg⟩ := hrel
      by_cases hjm : (j : Int) < (m2 : Int)
      · have hjl : j < q.length := by rw [HM2.out]; omega
        obtain ⟨b', o', hp, y0, y1⟩ := (HQ.out wr hg.out.fr).at j hjl
        simp only [Option.some.injEq, Addr.mk.injEq] at hp
        obtain ⟨rfl, rfl, -⟩ := hp
        obtain ⟨pv, N, cv, rfl, hcall⟩ := HPUT.out j hjl (wr.drew) _ ⟨by obtain ⟨pv, N, cv, e, h1, h2, h3⟩ := hg.out.ex; exact ⟨pv, N, cv, e, h1, h2.fr0 (Fr.drew _ _), h3.imp id fun h a ha => ⟨(h a ha).1, (h a ha).2⟩⟩, hg.out.fr.trans0 (Fr.drew _ _)⟩
        obtain ⟨⟨tk, tn⟩, ht⟩ : ∃ t, q[j] = t := ⟨_, rfl⟩
        rw [ht] at y0 y1 hcall
        simp only at y0 y1 hcall
        have HCALL := Lib.hid hcall
        clear ht hcall hg
        go_wp2_with fail
        go_still_tail 11, (by kernel_rfl)
        change wpList _ _ _ _ _ wr.drew
        go_wp2_with fail
        refine HCALL.out.mono ?_
        rintro e w3 ⟨v3, rfl, g3⟩
        have G3 := Lib.hid g3
        clear g3 HCALL y0 y1
        go_wp2_with fail
        go_roundw
        case rel => exact ⟨j + 1, by omega, by go_num, G3⟩
        case measure => simp [intOf]; omega
      · obtain rfl : j = m2 := by omega
        have HE : Hid (Got w wr (some ⟨b, o, none⟩) _ (lputs l q)) := Lib.hid (by
          have := hg.out
          rwa [List.take_of_length_le (by rw [HM2.out]; exact Nat.le_refl _)] at this)
        clear hg
        go_wp2_with fail
        go_ret2
        exact ⟨_, rfl, HE.out⟩
end
end Go.Proofs.Ytibgjmlgjmnheaa
