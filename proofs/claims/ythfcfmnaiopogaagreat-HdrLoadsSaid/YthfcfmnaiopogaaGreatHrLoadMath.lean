/- A histogram's own pairs, one behind the other, give it back. -/
import Derived.Test.YthfcfmnaiopogaaGreatHrLoad
import Derived.Test.YthfcfmnaiopogaaGreatHrRankMath
import Derived.Test.YthfcfmnaiopogaaGreatHrGot
namespace Go.Proofs.YthfcfmnaiopogaaGreat
open Go.RowKit

/-- how many buckets these keys need -/
def kb (m : Nat) : List Pr → Nat
  | [] => 0
  | x :: r => max (1 + ibk m x.1.toNat) (kb m r)
theorem kb_app (m : Nat) (a b : List Pr) : kb m (a ++ b) = max (kb m a) (kb m b) := by
  induction a with
  | nil => simp [kb]
  | cons x r ih => rw [List.cons_append, kb, kb, ih]; omega
theorem kb_put (m : Nat) (l : List Pr) (k : Int) (n : Nat) : kb m (lput l k n) = max (kb m l) (1 + ibk m k.toNat) := by
  induction l with
  | nil => simp [lput, kb]
  | cons x r ih =>
    rw [lput]
    split
    · rw [kb, kb, ih]; omega
    · split
      · rename_i h
        rw [kb, kb, h]
        simp only
        omega
      · simp only [kb]
        omega
theorem put_end : ∀ (l : List Pr) (k : Int) (n : Nat), (∀ x ∈ l, x.1 < k) → lput l k n = l ++ [(k, n)]
  | [], _, _, _ => rfl
  | x :: r, k, n, h => by
    rw [lput, if_pos (h x List.mem_cons_self), put_end r k n fun y hy => h y (List.mem_cons_of_mem _ hy)]
    rfl
/-- its buckets are what its keys need, and at least its first ones -/
def Bq (M : Hm) : Prop := M.b = max M.first (kb M.m M.l)
theorem Bq.record {M : Hm} (hg : M.Good) (h : Bq M) (v : Int) (n : Nat) (hv : v < 9223372036854775808) : Bq (M.record v n) := by
  unfold Hm.record
  split
  · rename_i hc
    have h0 := (hg.of_check hc).2.1
    unfold Bq at h ⊢
    have e := ibk_idx M.u M.m v.toNat hg.m1 (by omega)
    show max M.b (1 + bkt (M.u + M.m) v.toNat) = max M.first (kb M.m (lput M.l (idx M.u M.m v.toNat : Nat) n))
    rw [kb_put, h, show ((idx M.u M.m v.toNat : Nat) : Int).toNat = idx M.u M.m v.toNat by omega, e]
    omega
  · exact h
theorem Bq.all {N : Hm} (hg : N.Good) (h : Bq N) (vs : List Int) (ns : List Nat) (hv : ∀ v ∈ vs, v ≤ 9223372036854775807) : ∀ i, i ≤ vs.length → Bq (recs N vs ns i) ∧ (recs N vs ns i).Good
  | 0, _ => ⟨h, hg⟩
  | i + 1, hi => by
    have ih := Bq.all hg h vs ns hv i (by omega)
    have hvi : vs.getD i 0 ≤ 9223372036854775807 := by
      rw [List.getD_eq_getElem?_getD, List.getElem?_eq_getElem (by omega)]
      exact hv _ (List.getElem_mem _)
    rw [recs]
    exact ⟨ih.1.record ih.2 _ _ (by omega), ih.2.record _ _ (by omega)⟩
/-- the histogram of its first pairs -/
def part (M : Hm) (i : Nat) : Hm := { M with b := max M.first (kb M.m (M.l.take i)), l := M.l.take i }
theorem part_zero {L H D : Nat} {gr : Bool} {M : Hm} (h1 : M.L = L) (h2 : M.H = H) (h3 : M.D = D) (h4 : M.gr = gr) (h5 : M.u = unt L) (h6 : M.m = mag D) : part M 0 = Hm.new L H D gr := by
  unfold part Hm.new
  rw [List.take_zero]
  simp [kb, Hm.first, h1, h2, h3, h4, h5, h6]
theorem part_all {M : Hm} (h : Bq M) : part M M.l.length = M := by
  unfold Bq at h
  unfold part
  rw [List.take_length, ← h]
theorem part_chain {M : Hm} (hg : M.Good) : Chain (part M) M.l := fun i hi => by
  have hmem : M.l[i] ∈ M.l := List.getElem_mem hi
  obtain ⟨K, hK, hK2, hK3⟩ := hg.cell hmem
  have e1 : M.l.take (i + 1) = M.l.take i ++ [M.l[i]] := List.take_succ_eq_append_getElem hi
  have hlt : ∀ x ∈ M.l.take i, x.1 < M.l[i].1 := fun x hx => by
    obtain ⟨j, hj, rfl⟩ := List.getElem_of_mem hx
    rw [List.getElem_take]
    rw [List.length_take] at hj
    exact List.pairwise_iff_getElem.1 hg.srt j i (by omega) hi (by omega)
  have hn := hg.pos _ hmem
  have hvl := vof_lt M.u M.m K hg.m1 (by have := hg.s; omega) hK3
  have hp2 := two_pos (M.u + ibk M.m K)
  have hix := idx_vof M.u M.m K hg.m1 (by have := hg.s; omega) hK3
  have hbk := bkt_vof M.u M.m K hg.m1 (by have := hg.s; omega) hK3
  have htot : ltot (M.l.take i) + M.l[i].2 ≤ 4611686018427387904 := by
    have h1 := hg.tot
    have h2 : ltot (M.l.take (i + 1)) ≤ ltot M.l := by
      conv => rhs; rw [← List.take_append_drop (i + 1) M.l, tot_app]
      omega
    rw [e1, tot_app] at h2
    simp only [ltot] at h2
    omega
  have hck : (part M i).check (vof M.u M.m K : Nat) M.l[i].2 = 0 := by
    unfold Hm.check part
    simp only
    rw [if_neg (by omega), if_neg, if_neg (by omega)]
    rintro (h | ⟨h, h2⟩)
    · omega
    · have hb := hg.fix h
      have hkb := (hg.keys _ hmem).2
      rw [hK, show ((K : Nat) : Int).toNat = K by omega, hb] at hkb
      have h3 := top_ge M.u M.m (vof M.u M.m K) hg.s (by omega)
      have h4 : top M.u M.m (1 + bkt (M.u + M.m) (vof M.u M.m K)) ≤ top M.u M.m (max M.first (kb M.m (M.l.take i))) := by
        have h5 : 2 ^ min (M.u + M.m + (1 + bkt (M.u + M.m) (vof M.u M.m K)) - 1) 63 ≤ 2 ^ min (M.u + M.m + (max M.first (kb M.m (M.l.take i))) - 1) 63 := Nat.pow_le_pow_right (by decide) (by rw [hbk]; omega)
        unfold top
        omega
      omega
  refine ⟨K, hK, hK2, hK3, hck, ?_⟩
  show part M (i + 1) = (part M i).record (vof M.u M.m K : Nat) M.l[i].2
  unfold Hm.record
  rw [if_pos hck]
  unfold Hm.count part
  simp only
  rw [show ((vof M.u M.m K : Nat) : Int).toNat = vof M.u M.m K by omega, hix, hbk, e1, put_end _ _ _ (by rw [← hK]; exact hlt), kb_app]
  simp only [kb]
  rw [hK, show ((K : Nat) : Int).toNat = K by omega]
  congr 1
  · omega
  · rw [show M.l[i] = (((K : Nat) : Int), M.l[i].2) from Prod.ext hK rfl]
theorem bq_new (L H D : Nat) (gr : Bool) : Bq (Hm.new L H D gr) := by
  unfold Bq Hm.new
  simp [kb, Hm.first]
/-- a histogram that was recorded, of its own pairs -/
structure Own (M : Hm) (L H D : Nat) (gr : Bool) : Prop where
  bq : Bq M
  l : M.L = L
  h : M.H = H
  d : M.D = D
  gr : M.gr = gr
section
variable {M : Hm} {L H D : Nat} {gr : Bool} (o : Own M L H D gr) (hg : M.Good) (hlen : M.l.length ≤ 100000)
include o hg hlen
theorem load_own (p : Option Addr) (n c : Nat) (hn : M.l.length = n) (w : World) (hl : PrI w p M.l) (bk : Int) :
    Calls Tryz.prog 35 #[.agg #[.int .i64 (L : Nat), .int .i64 (H : Nat), .int .i64 (D : Nat)], .bool gr, .int .i64 bk, .slice p n c] w fun e w' => Fr S0 w w' ∧ ((bk = M.b ∧ ∃ g hm, e = .returned (.tuple #[.pointer (some ⟨g, 0, none⟩), .int .i64 0]) ∧ HistIs w' g hm M ∧ w.heap.size ≤ g ∧ w.heap.size ≤ hm) ∨ (bk ≠ M.b ∧ e = .returned (.tuple #[.pointer none, .int .i64 1]))) := by
  have eu : M.u = unt L := by rw [hg.eu, o.l]
  have em : M.m = mag D := by rw [hg.em, o.d]
  have h1 := xload_any L H D gr w (o.d ▸ hg.d.1) (o.d ▸ hg.d.2) (o.l ▸ hg.l0) (by rw [← o.l, ← o.h]; exact hg.lh) (o.h ▸ hg.hh) (by rw [← eu, ← em]; exact hg.s) p n c M.l hl hn (by omega) hg.tb (part M) (part_zero o.l o.h o.d o.gr eu em) (part_chain hg) bk
  rw [← hn, part_all o.bq, hn] at h1
  exact h1
theorem load_yes (p : Option Addr) (n c : Nat) (hn : M.l.length = n) (w : World) (hl : PrI w p M.l) :
    Calls Tryz.prog 35 #[.agg #[.int .i64 (L : Nat), .int .i64 (H : Nat), .int .i64 (D : Nat)], .bool gr, .int .i64 (M.b : Nat), .slice p n c] w fun e w' => ∃ g hm, e = .returned (.tuple #[.pointer (some ⟨g, 0, none⟩), .int .i64 0]) ∧ HistIs w' g hm M ∧ w.heap.size ≤ g ∧ w.heap.size ≤ hm ∧ Fr S0 w w' :=
  (load_own o hg hlen p n c hn w hl (M.b : Nat)).mono fun e w' he => by
    obtain ⟨f, ⟨-, g, hm, h1, h2, h3, h4⟩ | ⟨hne, -⟩⟩ := he
    · exact ⟨g, hm, h1, h2, h3, h4, f⟩
    · exact absurd rfl hne
theorem load_bad (p : Option Addr) (n c : Nat) (hn : M.l.length = n) (w : World) (hl : PrI w p M.l) (bk : Int) (hb : bk ≠ M.b) :
    Calls Tryz.prog 35 #[.agg #[.int .i64 (L : Nat), .int .i64 (H : Nat), .int .i64 (D : Nat)], .bool gr, .int .i64 bk, .slice p n c] w fun e w' => e = .returned (.tuple #[.pointer none, .int .i64 1]) ∧ Fr S0 w w' :=
  (load_own o hg hlen p n c hn w hl bk).mono fun e w' he => by
    obtain ⟨f, ⟨h1, -⟩ | ⟨-, h1⟩⟩ := he
    · exact absurd h1 hb
    · exact ⟨h1, f⟩
end
end Go.Proofs.YthfcfmnaiopogaaGreat
