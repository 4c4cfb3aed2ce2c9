/- slices.Insert of one pair, where there is no room; all three ways in one. -/
import Derived.Test.YtibgjmlgjmnheaaSpIns
import Derived.Lib.AppendZeros
namespace Go.Proofs.Ytibgjmlgjmnheaa
open Go.RowKit

theorem zeros_len (z : Array Value) (n : Nat) : (Builtin.zeroCells z n).toList.length = n * z.size := by rw [Array.length_toList, size_zeroCells]
set_option maxRecDepth 100000 in
set_option maxHeartbeats 2000000 in
theorem ins_grow_any (g n i vb : Nat) (k : Int) (m : Nat) (l : List Pr) (w : World) (own : w.ownsRow 0 53 2 (.slice (some ⟨g, 0, none⟩) n n) n (prs l)) (hn : n ≤ 2097153) (hin : i < n)
    (hv : w.heap[vb]? = some (.cells #[.int .i64 k, .int .u64 (m : Int)] 53 (0, 0))) :
    Calls Try.prog 49 #[.slice (some ⟨g, 0, none⟩) n n, .int .i64 (i : Nat), .slice (some ⟨vb, 0, none⟩) 1 1] w fun e w' => Grew w w' (.slice (some ⟨g, 0, none⟩) n n) n (l.take i ++ (k, m) :: l.drop i) e := by
  obtain ⟨i0, hi0, hz0, hzs, hzb⟩ := info_parts info_pr
  have hsz : (Try.prog.info? 53).map (·.size) = some 2 := by rw [hi0]; simp [hzs]
  have hll : l.length = n := by have := own.1; rw [prs_len] at this; omega
  have hgl : g < w.heap.size := (own.lt g rfl).2
  have hpl : (prs (l.take i)).length = i * 2 := by rw [prs_len, List.length_take, hll]; omega
  have hold : (Builtin.firstCells i0.size i (.slice (some ⟨g, 0, none⟩) i n)).run Try.prog w.drew = .ok (prs (l.take i)).toArray w.drew := by
    rw [hzs]
    exact run_firstCells_some w.drew 2 i ⟨g, 0, none⟩ i n (prs (l.take i)) hpl (fun j v hj => by
      rw [prs_take, List.getElem?_take] at hj
      split at hj
      · exact own.cells (g := g) rfl j v hj
      · cases hj)
  obtain ⟨N, hN⟩ : ∃ N, w.heap.size = N := ⟨_, rfl⟩
  obtain ⟨G, hG, hG2⟩ : ∃ G, grownCap w (n + 1) n 53 = G ∧ n + 1 ≤ G ∧ G ≤ maxLen := ⟨_, rfl, grownCap_ge _ _ _ _, grownCap_le_maxLen _ _ _ _ (by unfold maxLen; omega)⟩
  obtain ⟨Z, hZ, hZl, hZt⟩ : ∃ Z : List Value, (prs (l.take i)).toArray ++ Builtin.zeroCells (Value.agg #[.int .i64 0, .int .u64 0]).cells (n + 1 - i) ++ Builtin.zeroCells (Value.agg #[.int .i64 0, .int .u64 0]).cells (G - (n + 1)) = Z.toArray ∧ Z.length = G * 2 ∧ Z.take (i * 2) = prs (l.take i) := by
    refine ⟨((prs (l.take i)).toArray ++ Builtin.zeroCells (Value.agg #[.int .i64 0, .int .u64 0]).cells (n + 1 - i) ++ Builtin.zeroCells (Value.agg #[.int .i64 0, .int .u64 0]).cells (G - (n + 1))).toList, by simp, ?_, ?_⟩
    · rw [Array.toList_append, Array.toList_append, List.length_append, List.length_append, zeros_len, zeros_len, hpl]
      have hc2 : (Value.agg #[.int .i64 0, .int .u64 0]).cells.size = 2 := rfl
      rw [hc2]
      omega
    · rw [Array.toList_append, Array.toList_append, List.append_assoc, List.take_left' hpl]
  have hrz : ∀ ty, (Builtin.append_ #[36, 3] ty #[.slice (some ⟨g, 0, none⟩) i n, .int .i64 ((n : Int) + 1 - (i : Int))]).run Try.prog w = .ok (.slice (some ⟨N, 0, none⟩) (n + 1) G) (w.drew.alloc (.cells Z.toArray 53)) := fun ty => by
    have h := Lib.run_append_grow_zeros w 36 3 ty 53 i0 _ .i64 .i64 Try.underlying36 Try.underlying3 hi0 hz0 (some ⟨g, 0, none⟩) i n (prs (l.take i)) hold (n + 1 - i) (by omega) (by omega) (by omega) (by omega) (by rw [hzb]; omega) (by rw [hzb, show i + (n + 1 - i) = n + 1 by omega]; exact growslice_fits (by omega) (by omega))
    rw [show i + (n + 1 - i) = n + 1 by omega, hG, hN, hZ, show ((n + 1 - i : Nat) : Int) = (n : Int) + 1 - (i : Int) by omega] at h
    exact h
  obtain ⟨W1, hW1⟩ : ∃ W1, w.drew.alloc (.cells Z.toArray 53) = W1 := ⟨_, rfl⟩
  have f1 : Fr S0 w W1 := by rw [← hW1]; exact (Fr.drew S0 w).trans0 (Fr.alloc _ _ _)
  have hB1 : W1.heap[N]? = some (.cells Z.toArray 53 (0, 0)) := by rw [← hW1, ← hN]; exact heap_alloc_new w.drew _
  rw [hW1] at hrz
  obtain ⟨w4, hr4, hg4, f4⟩ := copyK_ex (P := Try.prog) W1 36 3 53 N (i * 2) (n + 1 - i) (G - i) ⟨vb, 0, none⟩ 1 1 2 Z 53 (prs [(k, m)]) 1 Try.underlying36 hsz hB1 (by simp only [Nat.min_def]; split <;> omega) rfl (at_one (f1.row hv (fun h => h))) (by rw [hZl, prs_len, List.length_singleton]; omega) (prs_one _)
  have HYL : Hid ((prs (l.drop i)).length = (n - i) * 2) := Lib.hid (by rw [prs_len, List.length_drop, hll])
  have HY : Hid (∀ j u, (prs (l.drop i))[j]? = some u → w4.drew.cell? ((⟨g, i * 2, none⟩ : Addr).add j) = some u) := Lib.hid fun j u hu => by
    rw [prs_drop, List.getElem?_drop] at hu
    have := own.cells (g := g) rfl _ u hu
    have a1 : (⟨g, i * 2, none⟩ : Addr).add j = ⟨g, i * 2 + j, none⟩ := by unfold Addr.add; split <;> simp_all
    have a2 : (⟨g, 0, none⟩ : Addr).add (i * 2 + j) = ⟨g, i * 2 + j, none⟩ := by unfold Addr.add; split <;> simp_all
    rw [a1, ← a2]
    exact f4.cell (f1.cell this (fun h => h)) (by rw [a2]; show ¬ g = N; omega)
  have HG4 := Lib.hid hg4
  have HSP : Hid ((splice Z (i * 2) (prs [(k, m)])).length = G * 2) := Lib.hid (by rw [length_splice _ _ _ (by rw [hZl, prs_len, List.length_singleton]; omega), hZl])
  have HF4 : Hid (Fr S0 w w4) := Lib.hid (f1.trans f4 fun j hj e => by omega)
  have HEND : Hid (∀ W : World, W.heap[N]? = some (.cells (splice (splice Z (i * 2) (prs [(k, m)])) ((i + 1) * 2) (prs (l.drop i))).toArray 53 (0, 0)) → W.ownsRow 0 53 2 (.slice (some ⟨N, 0, none⟩) (n + 1) G) (n + 1) (prs (l.take i ++ (k, m) :: l.drop i))) := Lib.hid fun W hb => by
    obtain ⟨h1, h2⟩ := ins_grow (prs (l.take i)) (prs (l.drop i)) (prs [(k, m)]) Z (i * 2) ((n - i) * 2) hpl HYL.out rfl (by rw [hZl]; omega) hZt
    refine ⟨by rw [prs_len]; simp [hll]; omega, .inr ⟨N, G, _, rfl, Nat.zero_le _, hb, hG2.1, hG2.2, ?_, ?_⟩⟩
    · rw [List.size_toArray, show (i + 1) * 2 = i * 2 + 2 by omega, h2, hZl]
    · rw [show (i + 1) * 2 = i * 2 + 2 by omega, show (n + 1) * 2 = i * 2 + 2 + (n - i) * 2 by omega, h1, prs_app, prs_cons]
      simp [prs]
  have HN := Lib.hid hN
  have hG63 : G ≤ 9223372036854775807 := by have := hG2.2; unfold maxLen at this; omega
  have hGn := hG2.1
  have e1 : (i : Int) < (n : Int) := by omega
  have e2 : ((i : Int) == (n : Int)) = false := by rw [beq_eq_false_iff_ne]; omega
  have e3 : (n : Int) < (n : Int) + 1 := by omega
  have e4 : ¬ n = i := by omega
  have e6 : ¬ G = i := by omega
  have e7 : ¬ G = i + 1 := by omega
  have hw1 : IntKind.i64.wrap ((i : Int) + 1) = (i : Int) + 1 := by rw [IntKind.wrap_i64]; omega
  have hb1 : (0 : Int) ≤ (i : Int) + 1 := by omega
  have hb2 : i ≤ n := by omega
  have hb3 : i ≤ n + 1 := by omega
  have hb4 : (i : Int) ≤ (n : Int) + 1 := by omega
  clear own hv hll hold hZ hZl hZt hW1 f1 hB1 hg4 f4 hG hG2 hgl hpl hN hz0 hzs hzb hi0
  go_enter Try.func49, Try.ntmps49
  go_wp2_with (at_builtin; refine Lib.wpList_append_run _ rfl _ _ _ _ rfl _ _ rfl rfl _ _ (hrz _) ?_)
  go_region_law (first
    | (refine step_copyK (g := N) (off := (i + 1) * 2) (dLen := n - i) (dCap := G - (i + 1)) (ad := ⟨g, i * 2, none⟩) (sLen := n - i) (sCap := n - i) rfl (.tmp 50) (.tmp 53) 36 36 rfl 53 2 Try.underlying36 hsz (by simp [Act.eval, Act.put]) (by simp [Act.eval, Act.put]) (splice Z (i * 2) (prs [(k, m)])) (t := 53) HG4.out (prs (l.drop i)) (by rw [HYL.out]; simp only [Nat.min_def]; split <;> omega) HY.out (by rw [HYL.out, HSP.out]; omega) (prs_one _) ?_; intro w6 hg6 f6; have HG6 := Lib.hid hg6; have HF6 := Lib.hid f6; clear hg6 f6))
  all_goals
    go_wp2_with fail
    go_ret
    have f := (HF4.out.trans0 (Fr.drew S0 w4)).trans HF6.out fun j hj e => by have := HN.out; omega
    exact ⟨some ⟨N, 0, none⟩, G, rfl, HEND.out _ HG6.out, ⟨f.os, f.tape, f.output, f.size, fun b hb _ => f.block b hb (fun h => h)⟩, .inr (by rw [HN.out]; rfl)⟩

/-- slices.Insert of one pair at any place -/
theorem ins_any (p : Option Addr) (n c i vb : Nat) (k : Int) (m : Nat) (l : List Pr) (w : World) (own : w.ownsRow 0 53 2 (.slice p n c) n (prs l)) (hn : n ≤ 2097153) (hin : i ≤ n)
    (hvg : ∀ a, p = some a → vb ≠ a.block) (hv : w.heap[vb]? = some (.cells #[.int .i64 k, .int .u64 (m : Int)] 53 (0, 0))) :
    Calls Try.prog 49 #[.slice p n c, .int .i64 (i : Nat), .slice (some ⟨vb, 0, none⟩) 1 1] w fun e w' => Grew w w' (.slice p n c) n (l.take i ++ (k, m) :: l.drop i) e := by
  have hll : l.length = n := by have := own.1; rw [prs_len] at this; omega
  by_cases h : i = n
  · subst h
    rw [← hll, List.take_length, List.drop_length, hll]
    exact ins_end p i c vb k m l w own hn hv
  · rcases own.2 with ⟨h1, h2⟩ | ⟨g, cap, cur, h1, -, -, h3, h4, -⟩
    · omega
    · obtain ⟨rfl, -, rfl⟩ := Value.slice.inj h1
      by_cases hc : c = n
      · subst hc
        exact ins_grow_any g c i vb k m l w own hn (by omega) hv
      · exact ins_shift_any g n c i vb k m l w own hn (by omega) (by omega) (by unfold maxLen at h4; omega) (hvg _ rfl) hv
end Go.Proofs.Ytibgjmlgjmnheaa
