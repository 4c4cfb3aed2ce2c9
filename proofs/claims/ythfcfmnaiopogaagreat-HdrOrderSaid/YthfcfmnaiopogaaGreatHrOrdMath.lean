/- Values of weight one, in whatever order and cut up anyhow, are counted the same. -/
import Derived.Test.YthfcfmnaiopogaaGreatHrRecorded
namespace Go.Proofs.YthfcfmnaiopogaaGreat

/-- how many of the values lie in a cell -/
def numK (u m : Nat) : List Int → Int → Nat
  | [], _ => 0
  | v :: r, k => (if 0 ≤ v ∧ (idx u m v.toNat : Int) = k then 1 else 0) + numK u m r k
/-- how many buckets they need -/
def mxB (s : Nat) : List Int → Nat
  | [] => 0
  | v :: r => max (if 0 ≤ v then 1 + bkt s v.toNat else 0) (mxB s r)
theorem numK_app (u m : Nat) (a b : List Int) (k : Int) : numK u m (a ++ b) k = numK u m a k + numK u m b k := by
  induction a with
  | nil => simp [numK]
  | cons v a ih => simp only [List.cons_append, numK, ih]; omega
theorem mxB_app (s : Nat) (a b : List Int) : mxB s (a ++ b) = max (mxB s a) (mxB s b) := by
  induction a with
  | nil => simp [mxB]
  | cons v a ih => simp only [List.cons_append, mxB, ih]; omega
theorem numK_rev (u m : Nat) (a : List Int) (k : Int) : numK u m a.reverse k = numK u m a k := by
  induction a with
  | nil => rfl
  | cons v a ih => rw [List.reverse_cons, numK_app, ih]; simp only [numK]; omega
theorem mxB_rev (s : Nat) (a : List Int) : mxB s a.reverse = mxB s a := by
  induction a with
  | nil => rfl
  | cons v a ih => rw [List.reverse_cons, mxB_app, ih]; simp only [mxB]; omega
def recL (N : Hm) (vs : List Int) : Hm := vs.foldl (fun M v => M.record v 1) N
theorem recs_recL (N : Hm) (vs : List Int) : ∀ i, i ≤ vs.length → recs N vs [] i = recL N (vs.take i)
  | 0, _ => rfl
  | i + 1, h => by
    rw [recs, recs_recL N vs i (by omega), List.take_succ_eq_append_getElem (by omega), recL, recL, List.foldl_append]
    simp [wt, List.getD, List.getElem?_eq_getElem (show i < vs.length by omega)]
/-- what is behind the values -/
structure Beh (N M : Hm) (vs : List Int) : Prop where
  good : M.Good
  s1 : M.L = N.L
  s2 : M.H = N.H
  s3 : M.D = N.D
  s4 : M.gr = true
  s5 : M.u = N.u
  s6 : M.m = N.m
  tot : ltot M.l ≤ ltot N.l + vs.length
  num : ∀ k, cnt M.l k = cnt N.l k + numK N.u N.m vs k
  b : M.b = max N.b (mxB (N.u + N.m) vs)
theorem recL_beh : ∀ (vs : List Int) (N : Hm), N.Good → N.gr = true → (∀ v ∈ vs, v ≤ 9223372036854775807) → ltot N.l + vs.length ≤ 4611686018427387904 → Beh N (recL N vs) vs
  | [], N, g, hg, _, _ => ⟨g, rfl, rfl, rfl, hg, rfl, rfl, Nat.le_refl _, fun _ => rfl, by simp [recL, mxB]⟩
  | v :: r, N, g, hg, hv, ht => by
    have hv1 := hv v List.mem_cons_self
    rw [List.length_cons] at ht
    have ih := fun M => recL_beh r M
    show Beh N (recL (N.record v 1) r) (v :: r)
    by_cases h0 : 0 ≤ v
    · have hc : N.check v 1 = 0 := by
        unfold Hm.check
        rw [if_neg (by omega), if_neg (by rw [hg]; simp; omega), if_neg (by omega)]
      have hr : N.record v 1 = N.count v.toNat 1 := by unfold Hm.record; rw [if_pos hc]
      have hl : (N.count v.toNat 1).l = lput N.l (idx N.u N.m v.toNat : Nat) 1 := rfl
      have g2 : (N.count v.toNat 1).Good := by rw [← hr]; exact g.record v 1 (by omega)
      have h := ih (N.count v.toNat 1) g2 hg (fun x hx => hv x (List.mem_cons_of_mem _ hx)) (by rw [Hm.count_tot]; omega)
      rw [hr]
      refine ⟨h.good, h.s1, h.s2, h.s3, h.s4, h.s5, h.s6, ?_, fun k => ?_, ?_⟩
      · have := h.tot
        rw [Hm.count_tot] at this
        rw [List.length_cons]
        omega
      · rw [h.num k, hl, cnt_put _ 1 k g.srt, numK]
        show cnt N.l k + (if k = (idx N.u N.m v.toNat : Nat) then 1 else 0) + numK N.u N.m r k = _
        by_cases e : k = (idx N.u N.m v.toNat : Nat)
        · rw [if_pos e, if_pos ⟨h0, e.symm⟩]; omega
        · rw [if_neg e, if_neg fun h => e h.2.symm]; omega
      · rw [h.b, mxB, if_pos h0]
        show max (max N.b (1 + bkt (N.u + N.m) v.toNat)) (mxB (N.u + N.m) r) = _
        omega
    · have hc : N.check v 1 ≠ 0 := by
        unfold Hm.check
        rw [if_neg (by omega), if_pos (.inl (by omega))]
        omega
      have hr : N.record v 1 = N := by unfold Hm.record; rw [if_neg hc]
      have h := ih N g hg (fun x hx => hv x (List.mem_cons_of_mem _ hx)) (by omega)
      rw [hr]
      refine ⟨h.good, h.s1, h.s2, h.s3, h.s4, h.s5, h.s6, by have := h.tot; rw [List.length_cons]; omega, fun k => ?_, ?_⟩
      · rw [h.num k, numK, if_neg fun h => h0 h.1]; omega
      · rw [h.b, mxB, if_neg h0]; omega
theorem hm_ext {A B : Hm} (g : A.Good) (k : B.Good) (h1 : A.L = B.L) (h2 : A.H = B.H) (h3 : A.D = B.D) (h4 : A.gr = B.gr) (h5 : A.u = B.u) (h6 : A.m = B.m) (h7 : A.b = B.b) (h : ∀ j, cnt A.l j = cnt B.l j) : A = B := by
  have e := ext_cnt g.srt k.srt g.pos k.pos h
  cases A
  cases B
  simp only at h1 h2 h3 h4 h5 h6 h7 e
  subst h1 h2 h3 h4 h5 h6 h7 e
  rfl
section
variable (N : Hm) (g : N.Good) (hg : N.gr = true) (hn : N.l = []) (a b : List Int) (ha : ∀ v ∈ a, v ≤ 9223372036854775807) (hb : ∀ v ∈ b, v ≤ 9223372036854775807) (la : a.length ≤ 20) (lb : b.length ≤ 20)
include g hg hn ha hb la lb
theorem order_take : (recL N a).takeE (recL N b) = 0 ∧ (recL N a).take (recL N b) = recL N (a ++ b) := by
  have t0 : ltot N.l = 0 := by rw [hn]; rfl
  have A := recL_beh a N g hg ha (by omega)
  have B := recL_beh b N g hg hb (by omega)
  have C := recL_beh (a ++ b) N g hg (fun v hv => (List.mem_append.1 hv).elim (ha v) (hb v)) (by rw [List.length_append]; omega)
  have hE : (recL N a).takeE (recL N b) = 0 := by
    unfold Hm.takeE
    have h1 := A.tot
    have h2 := B.tot
    rw [if_neg (fun h => h ⟨by rw [B.s1, A.s1], by rw [B.s2, A.s2], by rw [B.s3, A.s3], by rw [B.s4, A.s4]⟩), if_neg (by omega)]
  have hG := A.good.take B.good
  refine ⟨hE, ?_⟩
  unfold Hm.take at hG ⊢
  rw [if_pos hE] at hG ⊢
  refine hm_ext hG C.good (A.s1.trans C.s1.symm) (A.s2.trans C.s2.symm) (A.s3.trans C.s3.symm) (A.s4.trans C.s4.symm) (A.s5.trans C.s5.symm) (A.s6.trans C.s6.symm) ?_ fun j => ?_
  · show max (recL N a).b (recL N b).b = _
    rw [A.b, B.b, C.b, mxB_app]
    omega
  · show cnt (lputs (recL N a).l (recL N b).l) j = _
    rw [cnt_putAll _ _ j A.good.srt B.good.srt, A.num, B.num, C.num, numK_app, hn]
    simp only [cnt]
    omega
theorem order_back : recL N (b.reverse ++ a.reverse) = recL N (a ++ b) := by
  have t0 : ltot N.l = 0 := by rw [hn]; rfl
  have B := recL_beh (b.reverse ++ a.reverse) N g hg (fun v hv => (List.mem_append.1 hv).elim (fun h => hb v (List.mem_reverse.1 h)) fun h => ha v (List.mem_reverse.1 h)) (by simp; omega)
  have C := recL_beh (a ++ b) N g hg (fun v hv => (List.mem_append.1 hv).elim (ha v) (hb v)) (by rw [List.length_append]; omega)
  refine hm_ext B.good C.good (B.s1.trans C.s1.symm) (B.s2.trans C.s2.symm) (B.s3.trans C.s3.symm) (B.s4.trans C.s4.symm) (B.s5.trans C.s5.symm) (B.s6.trans C.s6.symm) ?_ fun j => ?_
  · rw [B.b, C.b, mxB_app, mxB_app, mxB_rev, mxB_rev]
    omega
  · rw [B.num, C.num, numK_app, numK_app, numK_rev, numK_rev]
    omega
end
end Go.Proofs.YthfcfmnaiopogaaGreat
