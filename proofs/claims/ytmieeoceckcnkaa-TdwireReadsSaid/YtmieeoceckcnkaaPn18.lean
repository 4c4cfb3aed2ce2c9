/- DgAdded, DgSame -/
import Derived.Test.YtmieeoceckcnkaaPn1
import Derived.Test.YtmieeoceckcnkaaPn2
import Derived.Test.YtmieeoceckcnkaaPn4
import Derived.Test.YtmieeoceckcnkaaPn5
import Derived.Test.YtmieeoceckcnkaaPn6
import Derived.Test.YtmieeoceckcnkaaPn7
import Derived.Test.YtmieeoceckcnkaaPn8
import Derived.Test.YtmieeoceckcnkaaPn9
import Derived.Test.YtmieeoceckcnkaaPn10
import Derived.Test.YtmieeoceckcnkaaPn15
import Derived.Test.YtmieeoceckcnkaaPn16
import Derived.Test.YtmieeoceckcnkaaPn17
import Derived.BigQuiet
import Derived.Lib.AppendZerosOnto
import Derived.Lib.SliceRun
import Derived.Lib.Walk
import Derived.StillTailTactics
import Derived.Deep.RegionLaw
import Derived.Deep.RegionHeld3
import Derived.BigRegion
import Derived.Maps.AppendAt
import Derived.Laws.AppendOwnNone
import Derived.Laws.OwnMore
import Derived.Laws.Externs
import Derived.Shelf.Spec.BitsCarry
import Derived.Deep.CutBlock
import Derived.Deep.CutRange
import Derived.Deep.DeepCutAuto
import Derived.Lib.BitFns
import Derived.Shelf.Small.Bits
import Derived.Shelf.Strconv.Itoa0
import Derived.Shelf.Bits.Mul64
import Derived.Test.YtmieeoceckcnkaaRows
import Derived.WalkKit
import Derived.WalkSpells
import Derived.WalkLawsBesides
import Derived.Deep.QuietTactic
import Derived.RegionTactic
import Derived.Deep.AppendLies
import Derived.Laws.ResultCell
import Derived.Laws.EntriesVeiled
import Derived.Lib.Hide
import Derived.Laws.BytesArg
import Derived.Lib.SlBytesConst
set_option maxRecDepth 100000
set_option maxHeartbeats 8000000
namespace Go.Proofs.Ytmieeoceckcnkaa
open Go.RowKit
def ZI (w : World) (p : Option Addr) (vs : List Int) : Prop := ∀ i, (h : i < vs.length) → ∃ b o, p = some ⟨b, o, none⟩ ∧ w.cell? ⟨b, o + i, none⟩ = some (.int .i64 vs[i])
theorem ZI.fr0 {w w' : World} {p : Option Addr} {vs : List Int} (h : ZI w p vs) (f : Fr S0 w w') : ZI w' p vs := fun i hi => let ⟨b, o, e, hc⟩ := h i hi; ⟨b, o, e, f.cell hc (fun h => h)⟩
theorem Dg.ref_of {x : Dg} {u : Nat} (h : x.ref u = 0) : 0 < u ∧ x.tot + u ≤ 281474976710656 := by
  unfold Dg.ref at h
  split at h
  · cases h
  · split at h
    · cases h
    · omega
theorem Dg.come_good {x : Dg} {v : Int} {u : Nat} (h : x.Good) (hr : x.ref u = 0) (h1 : -9223372036854775808 ≤ v) (h2 : v ≤ 9223372036854775807) : (x.come [(v, u)] v v).Good := by
  obtain ⟨hu0, hut⟩ := Dg.ref_of hr
  exact h.come (by intro t ht; rw [List.mem_singleton.1 ht]; exact ⟨Int.le_refl _, Int.le_refl _, hu0⟩) (by simp) h1 h2 h1 h2 (by simp [wts]; omega)
theorem Dg.Good.add {x : Dg} {v : Int} {u : Nat} (h : x.Good) (h1 : -9223372036854775808 ≤ v) (h2 : v ≤ 9223372036854775807) : (x.add v u).Good := by
  unfold Dg.add
  split
  · rename_i hr
    exact (Dg.come_good h hr h1 h2).full
  · exact h
structure Both (w W : World) (g r : Nat) (x y : Dg) : Prop where
  ex : ∃ C R, DIs W g C x ∧ RIs W r R y ∧ (∀ b, C b → ¬ R b) ∧ (∀ b, C b → w.heap.size ≤ b) ∧ ∀ b, R b → w.heap.size ≤ b
  fr : Fr S0 w W
section
variable {w W W' : World} {g r : Nat} {x y : Dg}
theorem RIs.below {C : Nat → Prop} (s : RIs W r C y) : ∀ b, C b → b < W.heap.size := let ⟨_, _, _, _, _, _, s⟩ := s; s.below
theorem DIs.below {C : Nat → Prop} (s : DIs W g C x) : ∀ b, C b → b < W.heap.size := let ⟨_, _, _, _, _, _, s⟩ := s; s.below
theorem Both.fr0 (k : Both w W g r x y) (f : Fr S0 W W') : Both w W' g r x y := let ⟨C, R, h1, h2, h3, h4, h5⟩ := k.ex; ⟨⟨C, R, h1.fr0 f, h2.fr0 f, h3, h4, h5⟩, k.fr.trans0 f⟩
theorem Both.nd (k : Both w W g r x y) : NewD w W g x := let ⟨C, _, h1, _, _, h4, _⟩ := k.ex; ⟨⟨C, h1, h4⟩, k.fr⟩
theorem Both.good (k : Both w W g r x y) : x.Good := k.nd.good
theorem Both.right {y2 : Dg} (k : Both w W g r x y) : ∃ R, RIs W r R y ∧ ∀ W' , RTurn W W' r R y2 → Both w W' g r x y2 := by
  obtain ⟨C, R, h1, h2, h3, h4, h5⟩ := k.ex
  refine ⟨R, h2, fun W' t => ?_⟩
  obtain ⟨R', t1, t2, t3⟩ := t
  refine ⟨⟨C, R', h1.fr t2 fun b hb hc => h3 b hb hc, t1, fun b hb hr => ?_, h4, fun b hb => ?_⟩, k.fr.trans t2 fun j hj hc => by have := h5 j hc; omega⟩
  · rcases t3 b hr with h | h
    · exact h3 b hb h
    · have := h1.below b hb; omega
  · rcases t3 b hb with h | h
    · exact h5 b h
    · exact Nat.le_trans k.fr.size h
end
section
variable (d : Nat) (p : Option Addr) (n c : Nat) (vs : List Int) (q : Option Addr) (k c2 : Nat) (ns : List Nat) (w : World)
end
end Go.Proofs.Ytmieeoceckcnkaa

namespace Go.Proofs.Ytmieeoceckcnkaa
open Go.RowKit
theorem rsame_any (p q : Option Addr) (n c m d : Nat) (l : List Tm) (w : World) (h : Sl w p n c l) (h' : Sl w q m d l) :
    Calls Try.prog 26 #[.slice p n c, .slice q m d] w fun e w' => e = .returned (.bool true) ∧ Fr S0 w w' := by
  obtain rfl : n = m := h.len.symm.trans h'.len
  have H := Lib.hid h
  have H' := Lib.hid h'
  have hc1 := h.cap
  have hc2 := h.max
  unfold maxLen at hc2
  clear h h'
  go_enter Try.func26, Try.ntmps26
  go_wp2_with fail
  go_loopw [5] (fun i wr => ∃ j : Nat, j ≤ n ∧ i = .int .i64 j ∧ Hid (Fr S0 w wr)) (fun i _ => n - (intOf i).toNat)
  case atStart => exact ⟨0, by omega, rfl, Lib.hid (Fr.refl _ _)⟩
  case round =>
    obtain ⟨j, hj, rfl, HFR⟩ := hrel
    by_cases hjn : (j : Int) < (n : Int)
    · obtain ⟨b, o, rfl, c0, c1⟩ := (H.out.fr0 HFR.out).at j (by rw [H.out.len]; omega)
      obtain ⟨b', o', rfl, e0, e1⟩ := (H'.out.fr0 HFR.out).at j (by rw [H'.out.len]; omega)
      obtain ⟨⟨tk, tn⟩, ht⟩ : ∃ t, l[j]'(by rw [H.out.len]; omega) = t := ⟨_, rfl⟩
      rw [ht] at c0 c1 e0 e1
      clear ht
      go_wp2_with fail
      go_quiet (fail)
      go_wp2_with fail
      go_roundw
      case rel => exact ⟨j + 1, by omega, by go_num, Lib.hid (HFR.out.trans0 (Fr.drewN _ _ _))⟩
      case measure => simp [intOf]; omega
    · go_wp2_with fail
      go_ret
      exact ⟨rfl, HFR.out⟩
section
variable (g r : Nat) (C R : Nat → Prop) (x : Dg) (w : World)
theorem same_any (k : DIs w g C x) (y : RIs w r R x) (hN : x.all.length ≤ 400000000000) :
    Calls Try.prog 15 #[.pointer (some ⟨g, 0, none⟩), .pointer (some ⟨r, 0, none⟩)] w fun e w' => e = .returned (.bool true) ∧ Fr S0 w w' := by
  obtain ⟨p, n, c, q, m, e, s⟩ := k
  obtain ⟨pL, nL, cL, pW, nW, cW, t⟩ := y
  have htot := s.good.tot
  have HEN := Lib.hid (ends_any g C p n c q m e x w s)
  have HFI : Hid (∀ W, Fr S0 w W → Calls Try.prog 9 #[.pointer (some ⟨g, 0, none⟩)] W fun e w' => e = .returned (.int .i64 (x.d : Nat)) ∧ Fr S0 W w') := Lib.hid fun W f => (fineness_any g C p n c q m e x W (s.fr0 f)).mono fun e w' ⟨y, z⟩ => ⟨y, z ▸ Fr.refl _ _⟩
  have HTO : Hid (∀ W, Fr S0 w W → Calls Try.prog 12 #[.pointer (some ⟨g, 0, none⟩)] W fun e w' => e = .returned (.int .u64 (x.tot : Nat)) ∧ Fr S0 W w') := Lib.hid fun W f => (total_any g C p n c q m e x W (s.fr0 f)).mono fun e w' ⟨y, z⟩ => ⟨y, z ▸ Fr.refl _ _⟩
  have HAL := Lib.hid (fun W (f : Fr S0 w W) => rall_any r R pL nL cL pW nW cW x W (t.fr0 f) (by omega))
  have HRT : Hid (∀ W v, ∀ {W0}, Acc 44 W0 W v x.all.length x.all → Calls Try.prog 24 #[v] W fun e w' => e = .returned (.int .u64 (x.tot : Nat)) ∧ Fr S0 W w') := Lib.hid fun W v {W0} a => by
    obtain ⟨pv, cv, rfl⟩ := slFormN a.own
    exact (rtotal_any pv _ cv x.all W (Sl.ofOwns a.own) (by have : wts x.all = x.tot := rfl; omega)).mono fun e w' ⟨y, z⟩ => ⟨y, z ▸ Fr.refl _ _⟩
  have HLI := Lib.hid (fun W (f : Fr S0 w W) => list_any g C p n c q m e x W (s.fr0 f) (by omega))
  have HWI := Lib.hid (fun W (f : Fr S0 w W) => waits_any g C p n c q m e x W (s.fr0 f) (by omega))
  have HSL : Hid (∀ W v, ∀ {W0}, Acc 44 W0 W v x.L.length x.L → Fr S0 w W → Calls Try.prog 26 #[v, .slice pL nL cL] W fun e w' => e = .returned (.bool true) ∧ Fr S0 W w') := Lib.hid fun W v {W0} a f => by
    obtain ⟨pv, cv, rfl⟩ := slFormN a.own
    exact rsame_any pv pL _ cv nL cL x.L W (Sl.ofOwns a.own) (t.fr0 f).slL
  have HSW : Hid (∀ W v, ∀ {W0}, Acc 44 W0 W v x.W.length x.W → Fr S0 w W → Calls Try.prog 26 #[v, .slice pW nW cW] W fun e w' => e = .returned (.bool true) ∧ Fr S0 W w') := Lib.hid fun W v {W0} a f => by
    obtain ⟨pv, cv, rfl⟩ := slFormN a.own
    exact rsame_any pv pW _ cv nW cW x.W W (Sl.ofOwns a.own) (t.fr0 f).slW
  have HC0 := Lib.hid (fun W (f : Fr S0 w W) => And.intro (t.fr0 f).c0 (And.intro (t.fr0 f).c1 (t.fr0 f).c2))
  have HC34 := Lib.hid (fun W (f : Fr S0 w W) => And.intro (t.fr0 f).c3 (t.fr0 f).c4)
  have hnl := t.slL.len
  have hnw := t.slW.len
  have hall : x.all.length = nL + nW := by unfold Dg.all; rw [List.length_append, hnl, hnw]
  have hemp : nL + nW = 0 → x.lo = 0 ∧ x.hi = 0 ∧ x.endE = 8 := fun h => by
    have h1 : x.all = [] := List.eq_nil_of_length_eq_zero (by omega)
    obtain ⟨a1, a2⟩ := s.good.emp h1
    exact ⟨a1, a2, by unfold Dg.endE; rw [if_pos (s.good.allNil.1 h1)]⟩
  have hnon : nL + nW ≠ 0 → x.endE = 0 := fun h => by
    unfold Dg.endE
    rw [if_neg]
    intro h2
    have := s.good.allNil.2 h2
    rw [this] at hall
    exact h hall.symm
  obtain ⟨D, eD⟩ : ∃ D, x.d = D := ⟨_, rfl⟩
  rw [eD] at HFI HC0
  obtain ⟨T, eT⟩ : ∃ T, x.tot = T := ⟨_, rfl⟩
  rw [eT] at HTO HRT
  obtain ⟨LO, eLO⟩ : ∃ LO, x.lo = LO := ⟨_, rfl⟩
  obtain ⟨HI, eHI⟩ : ∃ HI, x.hi = HI := ⟨_, rfl⟩
  obtain ⟨E, eE⟩ : ∃ E, x.endE = E := ⟨_, rfl⟩
  rw [eLO, eHI, eE] at HEN hemp
  rw [eE] at hnon
  rw [eLO, eHI] at HC34
  have HC : Hid (∀ W, Fr S0 w W → W.cell? ⟨r, 0, none⟩ = some (.int .i64 (D : Nat)) ∧ W.cell? ⟨r, 1, none⟩ = some (.slice pL nL cL) ∧ W.cell? ⟨r, 2, none⟩ = some (.slice pW nW cW)) := HC0
  have hDD : ((D : Int) != (D : Int)) = false := by simp
  have hTT : ((T : Int) != (T : Int)) = false := by simp
  have hsm : nL + nW ≤ 400000000000 := by omega
  clear s t htot HC0 hall hnl hnw hN eD eT eLO eHI eE
  go_enter Try.func15, Try.ntmps15
  go_wp2_with fail
  refine HEN.out.mono ?_
  rintro e1 w1 ⟨rfl, f1⟩
  have F1 := Lib.hid f1
  clear f1 HEN
  go_wp2_with fail
  refine wp_region_noPanic ?_
  refine wp_region_held_drew (S := fun w' => Fr S0 w w' ∧ w'.cell? ⟨r, 0, none⟩ = some (.int .i64 (D : Nat)) ∧ w'.cell? ⟨r, 1, none⟩ = some (.slice pL nL cL) ∧ w'.cell? ⟨r, 2, none⟩ = some (.slice pW nW cW)) (by kernel_rfl) ⟨F1.out.trans0 (Fr.drew S0 _), HC.out _ (F1.out.trans0 (Fr.drew S0 _))⟩ (fun hHeld0 => ?_)
  refine wpAnyH_take (i := 0) (oi := Oper.mk (some 14) _ _ _ _ _) (v := ?_) rfl (by as_aux_lemma => kernel_rfl) (by as_aux_lemma => kernel_rfl) (by as_aux_lemma => kernel_rfl) (fun _ _ _ h => h) (Or.inl ⟨by rfl, ?_⟩) (by assumption) ?_
  rotate_left
  · (intro w hSw; obtain ⟨hf, h0, h1, h2⟩ := hSw; go_simp <;> with_reducible rfl)
  simp only [Act.put, List.setIfInBounds_toArray, List.set_cons_zero, List.set_cons_succ]
  refine wpAnyH_take (i := 2) (oi := Oper.mk (some 16) _ _ _ _ _) (v := ?_) rfl (by as_aux_lemma => kernel_rfl) (by as_aux_lemma => kernel_rfl) (by as_aux_lemma => kernel_rfl) (fun _ _ _ h => h) (Or.inl ⟨by rfl, ?_⟩) (by assumption) ?_
  rotate_left
  · (intro w hSw; obtain ⟨hf, h0, h1, h2⟩ := hSw; go_simp <;> with_reducible rfl)
  simp only [Act.put, List.setIfInBounds_toArray, List.set_cons_zero, List.set_cons_succ]
  refine wpAnyH_take (i := 3) (oi := Oper.mk (some 17) _ _ _ _ _) (v := ?_) rfl (by as_aux_lemma => kernel_rfl) (by as_aux_lemma => kernel_rfl) (by as_aux_lemma => kernel_rfl) (fun _ _ _ h => h) (Or.inl ⟨by rfl, ?_⟩) (by assumption) ?_
  rotate_left
  · (intro w hSw; obtain ⟨hf, h0, h1, h2⟩ := hSw; go_simp <;> with_reducible rfl)
  simp only [Act.put, List.setIfInBounds_toArray, List.set_cons_zero, List.set_cons_succ]
  refine wpAnyH_take (i := 4) (oi := Oper.mk (some 18) _ _ _ _ _) (v := ?_) rfl (by as_aux_lemma => kernel_rfl) (by as_aux_lemma => kernel_rfl) (by as_aux_lemma => kernel_rfl) (fun _ _ _ h => h) (Or.inl ⟨by rfl, ?_⟩) (by assumption) ?_
  rotate_left
  · (intro w hSw; obtain ⟨hf, h0, h1, h2⟩ := hSw; go_simp <;> with_reducible rfl)
  simp only [Act.put, List.setIfInBounds_toArray, List.set_cons_zero, List.set_cons_succ]
  refine wpAnyH_take (i := 5) (oi := Oper.mk (some 19) _ _ _ _ _) (v := ?_) rfl (by as_aux_lemma => kernel_rfl) (by as_aux_lemma => kernel_rfl) (by as_aux_lemma => kernel_rfl) (fun _ _ _ h => h) (Or.inl ⟨by rfl, ?_⟩) (by assumption) ?_
  rotate_left
  · (intro w hSw; obtain ⟨hf, h0, h1, h2⟩ := hSw; go_simp <;> with_reducible rfl)
  simp only [Act.put, List.setIfInBounds_toArray, List.set_cons_zero, List.set_cons_succ]
  refine wpAnyH_ready (rs := [1]) (by kernel_rfl) (by simp) (AllReadyH.cons (o := Oper.mk (some 15) _ _ _ _ _) rfl (fun K hK => ?_) AllReadyH.nil)
  go_simp
  go_at_call 9
  refine (HFI.out _ hHeld0.1).mono ?_
  rintro _ v1 ⟨rfl, f⟩
  refine hK.out _ _ ⟨hHeld0.1.trans0 f, HC.out _ (hHeld0.1.trans0 f)⟩ (fun hHeld1 => ?_)
  clear hK K hHeld0 f
  try simp only [Act.put, List.setIfInBounds_toArray, List.set_cons_zero, List.set_cons_succ]
  refine wpAnyH_take (i := 6) (oi := Oper.mk (some 20) _ _ _ _ _) (v := ?_) rfl (by as_aux_lemma => kernel_rfl) (by as_aux_lemma => kernel_rfl) (by as_aux_lemma => kernel_rfl) (fun _ _ _ h => h) (Or.inl ⟨by rfl, ?_⟩) (by assumption) ?_
  rotate_left
  · (intro w hSw; obtain ⟨hf, h0, h1, h2⟩ := hSw; go_simp <;> with_reducible rfl)
  simp only [Act.put, List.setIfInBounds_toArray, List.set_cons_zero, List.set_cons_succ]
  refine wpAnyH_take (i := 7) (oi := Oper.mk (some 21) _ _ _ _ _) (v := ?_) rfl (by as_aux_lemma => kernel_rfl) (by as_aux_lemma => kernel_rfl) (by as_aux_lemma => kernel_rfl) (fun _ _ _ h => h) (Or.inl ⟨by rfl, ?_⟩) (by assumption) ?_
  rotate_left
  · (intro w hSw; obtain ⟨hf, h0, h1, h2⟩ := hSw; go_simp <;> with_reducible rfl)
  simp only [Act.put, List.setIfInBounds_toArray, List.set_cons_zero, List.set_cons_succ]
  refine wpAnyH_take (i := 8) (oi := Oper.mk (some 22) _ _ _ _ _) (v := ?_) rfl (by as_aux_lemma => kernel_rfl) (by as_aux_lemma => kernel_rfl) (by as_aux_lemma => kernel_rfl) (fun _ _ _ h => h) (Or.inl ⟨by rfl, ?_⟩) (by assumption) ?_
  rotate_left
  · (intro w hSw; obtain ⟨hf, h0, h1, h2⟩ := hSw; go_simp <;> with_reducible rfl)
  simp only [Act.put, List.setIfInBounds_toArray, List.set_cons_zero, List.set_cons_succ]
  refine wpAnyH_take (i := 10) (oi := Oper.mk (some 24) _ _ _ _ _) (v := ?_) rfl (by as_aux_lemma => kernel_rfl) (by as_aux_lemma => kernel_rfl) (by as_aux_lemma => kernel_rfl) (fun _ _ _ h => h) (Or.inl ⟨by rfl, ?_⟩) (by assumption) ?_
  rotate_left
  · (intro w hSw; obtain ⟨hf, h0, h1, h2⟩ := hSw; go_simp <;> with_reducible rfl)
  simp only [Act.put, List.setIfInBounds_toArray, List.set_cons_zero, List.set_cons_succ]
  refine wpAnyH_ready (rs := [9]) (by kernel_rfl) (by simp) (AllReadyH.cons (o := Oper.mk (some 23) _ _ _ _ _) rfl (fun K hK => ?_) AllReadyH.nil)
  go_simp
  go_at_call 12
  refine (HTO.out _ hHeld1.1).mono ?_
  rintro _ v9 ⟨rfl, f⟩
  refine hK.out _ _ ⟨hHeld1.1.trans0 f, HC.out _ (hHeld1.1.trans0 f)⟩ (fun hHeld2 => ?_)
  clear hK K hHeld1 f
  try simp only [Act.put, List.setIfInBounds_toArray, List.set_cons_zero, List.set_cons_succ]
  refine wpAnyH_ready (rs := [11]) (by kernel_rfl) (by simp) (AllReadyH.cons (o := Oper.mk (some 25) _ _ _ _ _) rfl (fun K hK => ?_) AllReadyH.nil)
  go_simp
  go_at_call 25
  refine (HAL.out _ hHeld2.1).mono ?_
  rintro _ v11 ⟨va, rfl, aa⟩
  have HAA := Lib.hid aa
  refine hK.out _ _ ⟨hHeld2.1.trans0 aa.fr, HC.out _ (hHeld2.1.trans0 aa.fr)⟩ (fun hHeld3 => ?_)
  clear hK K hHeld2 aa
  try simp only [Act.put, List.setIfInBounds_toArray, List.set_cons_zero, List.set_cons_succ]
  refine wpAnyH_ready (rs := [12]) (by kernel_rfl) (by simp) (AllReadyH.cons (o := Oper.mk (some 26) _ _ _ _ _) rfl (fun K hK => ?_) AllReadyH.nil)
  go_simp
  go_at_call 24
  refine (HRT.out _ va HAA.out).mono ?_
  rintro _ v12 ⟨rfl, f⟩
  refine hK.out _ _ ⟨hHeld3.1.trans0 f, HC.out _ (hHeld3.1.trans0 f)⟩ (fun hHeld4 => ?_)
  clear hK K hHeld3 f HAA
  try simp only [Act.put, List.setIfInBounds_toArray, List.set_cons_zero, List.set_cons_succ]
  refine wpAnyH_take (i := 13) (oi := Oper.mk (some 27) _ _ _ _ _) (v := ?_) rfl (by as_aux_lemma => kernel_rfl) (by as_aux_lemma => kernel_rfl) (by as_aux_lemma => kernel_rfl) (fun _ _ _ h => h) (Or.inl ⟨by rfl, ?_⟩) (by assumption) ?_
  rotate_left
  · (intro w hSw; obtain ⟨hf, h0, h1, h2⟩ := hSw; go_simp <;> with_reducible rfl)
  simp only [Act.put, List.setIfInBounds_toArray, List.set_cons_zero, List.set_cons_succ]
  refine wpAnyH_take (i := 14) (oi := Oper.mk (some 28) _ _ _ _ _) (v := ?_) rfl (by as_aux_lemma => kernel_rfl) (by as_aux_lemma => kernel_rfl) (by as_aux_lemma => kernel_rfl) (fun _ _ _ h => h) (Or.inl ⟨by rfl, ?_⟩) (by assumption) ?_
  rotate_left
  · (intro w hSw; obtain ⟨hf, h0, h1, h2⟩ := hSw; go_simp <;> with_reducible rfl)
  simp only [Act.put, List.setIfInBounds_toArray, List.set_cons_zero, List.set_cons_succ]
  refine wpAnyH_take (i := 15) (oi := Oper.mk (some 29) _ _ _ _ _) (v := ?_) rfl (by as_aux_lemma => kernel_rfl) (by as_aux_lemma => kernel_rfl) (by as_aux_lemma => kernel_rfl) (fun _ _ _ h => h) (Or.inl ⟨by rfl, ?_⟩) (by assumption) ?_
  rotate_left
  · (intro w hSw; obtain ⟨hf, h0, h1, h2⟩ := hSw; go_simp <;> with_reducible rfl)
  simp only [Act.put, List.setIfInBounds_toArray, List.set_cons_zero, List.set_cons_succ]
  refine wpAnyH_take (i := 16) (oi := Oper.mk (some 30) _ _ _ _ _) (v := ?_) rfl (by as_aux_lemma => kernel_rfl) (by as_aux_lemma => kernel_rfl) (by as_aux_lemma => kernel_rfl) (fun _ _ _ h => h) (Or.inl ⟨by rfl, ?_⟩) (by assumption) ?_
  rotate_left
  · (intro w hSw; obtain ⟨hf, h0, h1, h2⟩ := hSw; go_simp <;> with_reducible rfl)
  simp only [Act.put, List.setIfInBounds_toArray, List.set_cons_zero, List.set_cons_succ]
  refine wpAnyH_take (i := 18) (oi := Oper.mk (some 32) _ _ _ _ _) (v := ?_) rfl (by as_aux_lemma => kernel_rfl) (by as_aux_lemma => kernel_rfl) (by as_aux_lemma => kernel_rfl) (fun _ _ _ h => h) (Or.inl ⟨by rfl, ?_⟩) (by assumption) ?_
  rotate_left
  · (intro w hSw; obtain ⟨hf, h0, h1, h2⟩ := hSw; go_simp <;> with_reducible rfl)
  simp only [Act.put, List.setIfInBounds_toArray, List.set_cons_zero, List.set_cons_succ]
  refine wpAnyH_take (i := 19) (oi := Oper.mk (some 33) _ _ _ _ _) (v := ?_) rfl (by as_aux_lemma => kernel_rfl) (by as_aux_lemma => kernel_rfl) (by as_aux_lemma => kernel_rfl) (fun _ _ _ h => h) (Or.inl ⟨by rfl, ?_⟩) (by assumption) ?_
  rotate_left
  · (intro w hSw; obtain ⟨hf, h0, h1, h2⟩ := hSw; go_simp <;> with_reducible rfl)
  simp only [Act.put, List.setIfInBounds_toArray, List.set_cons_zero, List.set_cons_succ]
  refine wpAnyH_take (i := 20) (oi := Oper.mk (some 34) _ _ _ _ _) (v := ?_) rfl (by as_aux_lemma => kernel_rfl) (by as_aux_lemma => kernel_rfl) (by as_aux_lemma => kernel_rfl) (fun _ _ _ h => h) (Or.inl ⟨by rfl, ?_⟩) (by assumption) ?_
  rotate_left
  · (intro w hSw; obtain ⟨hf, h0, h1, h2⟩ := hSw; go_simp <;> with_reducible rfl)
  simp only [Act.put, List.setIfInBounds_toArray, List.set_cons_zero, List.set_cons_succ]
  refine wpAnyH_take (i := 21) (oi := Oper.mk (some 35) _ _ _ _ _) (v := ?_) rfl (by as_aux_lemma => kernel_rfl) (by as_aux_lemma => kernel_rfl) (by as_aux_lemma => kernel_rfl) (fun _ _ _ h => h) (Or.inl ⟨by rfl, ?_⟩) (by assumption) ?_
  rotate_left
  · (intro w hSw; obtain ⟨hf, h0, h1, h2⟩ := hSw; go_simp <;> with_reducible rfl)
  simp only [Act.put, List.setIfInBounds_toArray, List.set_cons_zero, List.set_cons_succ]
  refine wpAnyH_ready (rs := [17]) (by kernel_rfl) (by simp) (AllReadyH.cons (o := Oper.mk (some 31) _ _ _ _ _) rfl (fun K hK => ?_) AllReadyH.nil)
  go_simp
  go_at_call 10
  refine (HLI.out _ hHeld4.1).mono ?_
  rintro _ v17 ⟨vl, rfl, al⟩
  have HAA := Lib.hid al
  refine hK.out _ _ ⟨hHeld4.1.trans0 al.fr, HC.out _ (hHeld4.1.trans0 al.fr)⟩ (fun hHeld5 => ?_)
  clear hK K hHeld4 al
  try simp only [Act.put, List.setIfInBounds_toArray, List.set_cons_zero, List.set_cons_succ]
  refine wpAnyH_ready (rs := [22]) (by kernel_rfl) (by simp) (AllReadyH.cons (o := Oper.mk (some 36) _ _ _ _ _) rfl (fun K hK => ?_) AllReadyH.nil)
  go_simp
  go_at_call 26
  refine (HSL.out _ vl HAA.out hHeld5.1).mono ?_
  rintro _ v22 ⟨rfl, f⟩
  refine hK.out _ _ ⟨hHeld5.1.trans0 f, HC.out _ (hHeld5.1.trans0 f)⟩ (fun hHeld6 => ?_)
  clear hK K hHeld5 f HAA
  try simp only [Act.put, List.setIfInBounds_toArray, List.set_cons_zero, List.set_cons_succ]
  refine wpAnyH_take (i := 23) (oi := Oper.mk (some 37) _ _ _ _ _) (v := ?_) rfl (by as_aux_lemma => kernel_rfl) (by as_aux_lemma => kernel_rfl) (by as_aux_lemma => kernel_rfl) (fun _ _ _ h => h) (Or.inl ⟨by rfl, ?_⟩) (by assumption) ?_
  rotate_left
  · (intro w hSw; obtain ⟨hf, h0, h1, h2⟩ := hSw; go_simp <;> with_reducible rfl)
  simp only [Act.put, List.setIfInBounds_toArray, List.set_cons_zero, List.set_cons_succ]
  refine wpAnyH_take (i := 24) (oi := Oper.mk (some 38) _ _ _ _ _) (v := ?_) rfl (by as_aux_lemma => kernel_rfl) (by as_aux_lemma => kernel_rfl) (by as_aux_lemma => kernel_rfl) (fun _ _ _ h => h) (Or.inl ⟨by rfl, ?_⟩) (by assumption) ?_
  rotate_left
  · (intro w hSw; obtain ⟨hf, h0, h1, h2⟩ := hSw; go_simp <;> with_reducible rfl)
  simp only [Act.put, List.setIfInBounds_toArray, List.set_cons_zero, List.set_cons_succ]
  refine wpAnyH_take (i := 25) (oi := Oper.mk (some 39) _ _ _ _ _) (v := ?_) rfl (by as_aux_lemma => kernel_rfl) (by as_aux_lemma => kernel_rfl) (by as_aux_lemma => kernel_rfl) (fun _ _ _ h => h) (Or.inl ⟨by rfl, ?_⟩) (by assumption) ?_
  rotate_left
  · (intro w hSw; obtain ⟨hf, h0, h1, h2⟩ := hSw; go_simp <;> with_reducible rfl)
  simp only [Act.put, List.setIfInBounds_toArray, List.set_cons_zero, List.set_cons_succ]
  refine wpAnyH_take (i := 26) (oi := Oper.mk (some 40) _ _ _ _ _) (v := ?_) rfl (by as_aux_lemma => kernel_rfl) (by as_aux_lemma => kernel_rfl) (by as_aux_lemma => kernel_rfl) (fun _ _ _ h => h) (Or.inl ⟨by rfl, ?_⟩) (by assumption) ?_
  rotate_left
  · (intro w hSw; obtain ⟨hf, h0, h1, h2⟩ := hSw; go_simp <;> with_reducible rfl)
  simp only [Act.put, List.setIfInBounds_toArray, List.set_cons_zero, List.set_cons_succ]
  refine wpAnyH_take (i := 28) (oi := Oper.mk (some 42) _ _ _ _ _) (v := ?_) rfl (by as_aux_lemma => kernel_rfl) (by as_aux_lemma => kernel_rfl) (by as_aux_lemma => kernel_rfl) (fun _ _ _ h => h) (Or.inl ⟨by rfl, ?_⟩) (by assumption) ?_
  rotate_left
  · (intro w hSw; obtain ⟨hf, h0, h1, h2⟩ := hSw; go_simp <;> with_reducible rfl)
  simp only [Act.put, List.setIfInBounds_toArray, List.set_cons_zero, List.set_cons_succ]
  refine wpAnyH_take (i := 29) (oi := Oper.mk (some 43) _ _ _ _ _) (v := ?_) rfl (by as_aux_lemma => kernel_rfl) (by as_aux_lemma => kernel_rfl) (by as_aux_lemma => kernel_rfl) (fun _ _ _ h => h) (Or.inl ⟨by rfl, ?_⟩) (by assumption) ?_
  rotate_left
  · (intro w hSw; obtain ⟨hf, h0, h1, h2⟩ := hSw; go_simp <;> with_reducible rfl)
  simp only [Act.put, List.setIfInBounds_toArray, List.set_cons_zero, List.set_cons_succ]
  refine wpAnyH_take (i := 30) (oi := Oper.mk (some 44) _ _ _ _ _) (v := ?_) rfl (by as_aux_lemma => kernel_rfl) (by as_aux_lemma => kernel_rfl) (by as_aux_lemma => kernel_rfl) (fun _ _ _ h => h) (Or.inl ⟨by rfl, ?_⟩) (by assumption) ?_
  rotate_left
  · (intro w hSw; obtain ⟨hf, h0, h1, h2⟩ := hSw; go_simp <;> with_reducible rfl)
  simp only [Act.put, List.setIfInBounds_toArray, List.set_cons_zero, List.set_cons_succ]
  refine wpAnyH_take (i := 31) (oi := Oper.mk (some 45) _ _ _ _ _) (v := ?_) rfl (by as_aux_lemma => kernel_rfl) (by as_aux_lemma => kernel_rfl) (by as_aux_lemma => kernel_rfl) (fun _ _ _ h => h) (Or.inl ⟨by rfl, ?_⟩) (by assumption) ?_
  rotate_left
  · (intro w hSw; obtain ⟨hf, h0, h1, h2⟩ := hSw; go_simp <;> with_reducible rfl)
  simp only [Act.put, List.setIfInBounds_toArray, List.set_cons_zero, List.set_cons_succ]
  refine wpAnyH_ready (rs := [27]) (by kernel_rfl) (by simp) (AllReadyH.cons (o := Oper.mk (some 41) _ _ _ _ _) rfl (fun K hK => ?_) AllReadyH.nil)
  go_simp
  go_at_call 11
  refine (HWI.out _ hHeld6.1).mono ?_
  rintro _ v27 ⟨vw, rfl, aw⟩
  have HAA := Lib.hid aw
  refine hK.out _ _ ⟨hHeld6.1.trans0 aw.fr, HC.out _ (hHeld6.1.trans0 aw.fr)⟩ (fun hHeld7 => ?_)
  clear hK K hHeld6 aw
  try simp only [Act.put, List.setIfInBounds_toArray, List.set_cons_zero, List.set_cons_succ]
  refine wpAnyH_ready (rs := [32]) (by kernel_rfl) (by simp) (AllReadyH.cons (o := Oper.mk (some 46) _ _ _ _ _) rfl (fun K hK => ?_) AllReadyH.nil)
  go_simp
  go_at_call 26
  refine (HSW.out _ vw HAA.out hHeld7.1).mono ?_
  rintro _ v32 ⟨rfl, f⟩
  refine hK.out _ _ ⟨hHeld7.1.trans0 f, HC.out _ (hHeld7.1.trans0 f)⟩ (fun hHeld8 => ?_)
  clear hK K hHeld7 f HAA
  try simp only [Act.put, List.setIfInBounds_toArray, List.set_cons_zero, List.set_cons_succ]
  refine wpAnyH_take (i := 33) (oi := Oper.mk (some 47) _ _ _ _ _) (v := ?_) rfl (by as_aux_lemma => kernel_rfl) (by as_aux_lemma => kernel_rfl) (by as_aux_lemma => kernel_rfl) (fun _ _ _ h => h) (Or.inl ⟨by rfl, ?_⟩) (by assumption) ?_
  rotate_left
  · (intro w hSw; obtain ⟨hf, h0, h1, h2⟩ := hSw; go_simp <;> with_reducible rfl)
  simp only [Act.put, List.setIfInBounds_toArray, List.set_cons_zero, List.set_cons_succ]
  refine wpAnyH_take (i := 34) (oi := Oper.mk (some 48) _ _ _ _ _) (v := ?_) rfl (by as_aux_lemma => kernel_rfl) (by as_aux_lemma => kernel_rfl) (by as_aux_lemma => kernel_rfl) (fun _ _ _ h => h) (Or.inl ⟨by rfl, ?_⟩) (by assumption) ?_
  rotate_left
  · (intro w hSw; obtain ⟨hf, h0, h1, h2⟩ := hSw; go_simp <;> with_reducible rfl)
  simp only [Act.put, List.setIfInBounds_toArray, List.set_cons_zero, List.set_cons_succ]
  have F3 := Lib.hid hHeld8.1
  clear hHeld8
  refine wpAnyH_done (by kernel_rfl) ?_ _
  refine NoPanic.normal ?_
  obtain ⟨-, k1, k2⟩ := HC.out _ F3.out
  obtain ⟨k3, k4⟩ := HC34.out _ F3.out
  by_cases hz : nL + nW = 0
  · obtain ⟨rfl, rfl, rfl⟩ := hemp hz
    obtain rfl : nL = 0 := by omega
    obtain rfl : nW = 0 := by omega
    clear hemp hnon k3 k4 HC34
    go_wp2_with fail
    go_quiet (fail)
    go_wp2_with fail
    go_ret
    exact ⟨rfl, F3.out.trans0 (Fr.drewN _ _ _)⟩
  · obtain rfl := hnon hz
    have hzi : ((nL : Int) + (nW : Int) == 0) = false := by rw [beq_eq_false_iff_ne]; omega
    clear hemp hnon
    go_wp2_with fail
    go_quiet (fail)
    have F4 := Lib.hid (F3.out.trans0 (Fr.drewN S0 _ nq))
    go_wp2_with fail
    go_ret
    exact ⟨rfl, F4.out⟩
end
end Go.Proofs.Ytmieeoceckcnkaa
