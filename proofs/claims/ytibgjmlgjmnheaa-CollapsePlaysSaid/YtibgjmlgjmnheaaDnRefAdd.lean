/- The document's Add and Take. -/
import Derived.Test.YtibgjmlgjmnheaaDnRefPut
namespace Go.Proofs.Ytibgjmlgjmnheaa
open Go.RowKit

/-- a slice of pairs that an answer is: the one at p, or one that is new to w -/
structure Got (w w' : World) (p : Option Addr) (v : Value) (l : List Pr) : Prop where
  ex : ∃ q n c, v = .slice q n c ∧ l.length = n ∧ PrI w' q l ∧ (q = p ∨ ∀ a, q = some a → w.heap.size ≤ a.block ∧ a.block < w'.heap.size)
  fr : Fr S0 w w'
theorem Got.same {w w' : World} {p : Option Addr} {n c : Nat} {l : List Pr} (h : PrI w p l) (hn : l.length = n) (f : Fr S0 w w') : Got w w' p (.slice p n c) l := ⟨⟨p, n, c, rfl, hn, h.fr0 f, .inl rfl⟩, f⟩
theorem Acc.got {w w0 w' : World} {v : Value} {N : Nat} {l : List Pr} (p : Option Addr) (h : Acc w0 w' v N l) (hN : l.length ≤ 100000) (f : Fr S0 w w0) : Got w w' p v l := by
  have hl := h.len
  obtain ⟨own, fv, r⟩ := h
  obtain ⟨q, c, rfl⟩ := slFormN own
  refine ⟨⟨q, _, c, rfl, hl, PrI.ofOwns own (by unfold maxLen; omega), .inr fun a ha => ?_⟩, f.trans0 r⟩
  subst ha
  rcases own.2 with ⟨h1, -⟩ | ⟨g', cap, cur, h1, -⟩
  · cases h1
  · obtain ⟨h2, -, -⟩ := Value.slice.inj h1
    obtain rfl := Option.some.inj h2
    have h3 := fv g' rfl
    have h4 := f.size
    exact ⟨Nat.le_trans h4 h3, (own.lt g' rfl).2⟩

section
variable (p : Option Addr) (m c n : Nat) (k : Int) (l : List Pr) (w : World)
set_option maxRecDepth 100000 in
set_option maxHeartbeats 1000000 in
theorem radd_any (h : PrI w p l) (hm : l.length = m) (ho : Ok l) (hn : n < 18446744073709551616) :
    Calls Try.prog 12 #[.slice p m c, .int .i64 k, .int .u64 (n : Nat), .int .i64 8192] w fun e w' => ∃ v, e = .returned (.tuple #[v, .int .i64 (addE l k n : Nat)]) ∧ Got w w' p v (addL l k n) := by
  have HG : Hid (∀ W, Fr S0 w W → Got w W p (.slice p m c) l) := Lib.hid fun W f => Got.same h hm f
  have htot := ho.tot
  by_cases h0 : n = 0
  · subst h0
    have e : addE l k 0 = 4 := by unfold addE; rw [if_pos rfl]
    have e2 : addL l k 0 = l := by unfold addL; rw [e, if_neg (by decide)]
    rw [e, e2]
    clear e e2 h ho hm hn htot
    go_enter Try.func12, Try.ntmps12
    go_wp2_with fail
    go_ret2
    exact ⟨_, rfl, HG.out _ (Fr.refl _ _)⟩
  have hn0 : ((n : Int) == 0) = false := by rw [beq_eq_false_iff_ne]; omega
  by_cases hk : k < -1048576 ∨ 1048576 < k
  · have e : addE l k n = 5 := by unfold addE; rw [if_neg h0, if_pos hk]
    have e2 : addL l k n = l := by unfold addL; rw [e, if_neg (by decide)]
    rw [e, e2]
    by_cases h1 : k < -1048576
    · clear e e2 h ho hm hn hk h0 htot
      go_enter Try.func12, Try.ntmps12
      go_wp2_with fail
      go_ret2
      exact ⟨_, rfl, HG.out _ (Fr.refl _ _)⟩
    · have h2 : (1048576 : Int) < k := by omega
      have h3 : decide (k < -1048576) = false := decide_eq_false h1
      clear e e2 h ho hm hn hk h0 h1 htot
      go_enter Try.func12, Try.ntmps12
      go_wp2_with fail
      go_ret2
      exact ⟨_, rfl, HG.out _ (Fr.refl _ _)⟩
  have h3 : decide (k < -1048576) = false := decide_eq_false (by omega)
  have h4 : decide (1048576 < k) = false := decide_eq_false (by omega)
  have HW := Lib.hid (rwide_any p m c k l w h hm ho.key (by omega) (by omega))
  obtain ⟨X, hX⟩ : ∃ X, wid l k = X := ⟨_, rfl⟩
  have eE : addE l k n = if 8192 < X then 130 else if 4611686018427387904 - ltot l < n then 6 else 0 := by unfold addE; rw [if_neg h0, if_neg hk, hX]
  rw [hX] at HW
  by_cases hx : 8192 < X
  · rw [if_pos hx] at eE
    have e2 : addL l k n = l := by unfold addL; rw [eE, if_neg (by decide)]
    rw [eE, e2]
    clear eE e2 h ho hm hn hk h0 hX htot
    go_enter Try.func12, Try.ntmps12
    go_wp2_with fail
    refine HW.out.mono ?_
    rintro e w1 ⟨rfl, f1⟩
    clear HW
    go_wp2_with fail
    go_ret2
    exact ⟨_, rfl, HG.out _ f1⟩
  rw [if_neg hx] at eE
  have hx2 : decide (8192 < X) = false := decide_eq_false hx
  have HT := Lib.hid (fun W (f : Fr S0 w W) => rtotal_any p m c l W (h.fr0 f) hm (by omega))
  obtain ⟨T, hT⟩ : ∃ T, ltot l = T := ⟨_, rfl⟩
  obtain ⟨K, hK⟩ : ∃ K, 4611686018427387904 - T = K := ⟨_, rfl⟩
  rw [hT] at HT htot
  rw [hT, hK] at eE
  have eK : (4611686018427387904 : Int) - (T : Int) = (K : Int) := by omega
  have hkm : (K : Int) ≤ 4611686018427387904 := by omega
  by_cases hc : K < n
  · rw [if_pos hc] at eE
    have e2 : addL l k n = l := by unfold addL; rw [eE, if_neg (by decide)]
    rw [eE, e2]
    have hc2 : (K : Int) < (n : Int) := by omega
    clear eE e2 h ho hm hn hk h0 hX htot hx hc hT hK
    go_enter Try.func12, Try.ntmps12
    go_wp2_with fail
    refine HW.out.mono ?_
    rintro e w1 ⟨rfl, f1⟩
    have HT1 := Lib.hid (HT.out w1 f1)
    have HF1 := Lib.hid f1
    clear HW HT f1
    go_wp2_with fail
    refine HT1.out.mono ?_
    rintro e w2 ⟨rfl, f2⟩
    clear HT1
    go_wp2_with fail
    go_ret2
    exact ⟨_, rfl, HG.out _ (HF1.out.trans0 f2)⟩
  · rw [if_neg hc] at eE
    have e2 : addL l k n = lput l k n := by unfold addL; rw [eE, if_pos rfl]
    have hlen2 := (ho.put eE).len
    rw [eE, e2]
    have hc2 : decide (K < n) = false := decide_eq_false hc
    have HP := Lib.hid (fun W (f : Fr S0 w W) => rput_any p m c n k l W (h.fr0 f) hm (by have := ho.len; omega) (by omega))
    have HL := Lib.hid hlen2
    clear eE e2 h ho hm hn hk h0 hX htot hx hc hT hK hlen2 HG
    go_enter Try.func12, Try.ntmps12
    go_wp2_with fail
    refine HW.out.mono ?_
    rintro e w1 ⟨rfl, f1⟩
    have HT1 := Lib.hid (HT.out w1 f1)
    have HF1 := Lib.hid f1
    clear HW HT f1
    go_wp2_with fail
    refine HT1.out.mono ?_
    rintro e w2 ⟨rfl, f2⟩
    have HF2 := Lib.hid (HF1.out.trans0 f2)
    have HP2 := Lib.hid (HP.out w2 HF2.out)
    clear HT1 HF1 f2 HP
    go_wp2_with fail
    refine HP2.out.mono ?_
    rintro e w3 ⟨v, N, rfl, hacc⟩
    have HE := Lib.hid (hacc.got p (by have := HL.out; omega) HF2.out)
    clear HP2 hacc
    go_wp2_with fail
    go_ret2
    exact ⟨_, rfl, HE.out⟩
end
end Go.Proofs.Ytibgjmlgjmnheaa
