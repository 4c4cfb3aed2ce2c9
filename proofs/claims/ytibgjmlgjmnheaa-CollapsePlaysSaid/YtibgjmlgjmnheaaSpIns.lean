/- slices.Insert of one pair. -/
import Derived.Test.YtibgjmlgjmnheaaSpCopy
import Derived.BigRegion
namespace Go.Proofs.Ytibgjmlgjmnheaa
open Go.RowKit

/-- a row of pairs that has grown by one -/
def Grew (w w' : World) (v : Value) (n : Nat) (L : List Pr) (e : Ending) : Prop := ∃ q d, e = .returned (.slice q (n + 1) d) ∧ w'.ownsRow 0 53 2 (.slice q (n + 1) d) (n + 1) (prs L) ∧ w.grownBy w' v.ownBlock ∧
  (Value.ownBlock (.slice q (n + 1) d) = v.ownBlock ∨ Value.ownBlock (.slice q (n + 1) d) = some w.heap.size)

theorem at_one {w : World} {vb : Nat} {k : Int} {m : Nat} (hv : w.heap[vb]? = some (.cells #[.int .i64 k, .int .u64 (m : Int)] 53 (0, 0))) : ∀ j u, (prs [(k, m)])[j]? = some u → w.cell? ((⟨vb, 0, none⟩ : Addr).add j) = some u := by
  intro j u hu
  have hadd : (⟨vb, 0, none⟩ : Addr).add j = ⟨vb, j, none⟩ := by unfold Addr.add; split <;> simp_all
  rw [hadd]
  have hj := (List.getElem?_eq_some_iff.1 hu).1
  rw [prs_len] at hj
  have hj2 : j < 2 := hj
  simp only [World.cell?, hv]
  rcases (by omega : j = 0 ∨ j = 1) with rfl | rfl
  · exact hu
  · exact hu

set_option maxRecDepth 100000 in
set_option maxHeartbeats 1000000 in
theorem ins_end (p : Option Addr) (n c vb : Nat) (k : Int) (m : Nat) (l : List Pr) (w : World) (own : w.ownsRow 0 53 2 (.slice p n c) n (prs l)) (hn : n ≤ 2097153)
    (hv : w.heap[vb]? = some (.cells #[.int .i64 k, .int .u64 (m : Int)] 53 (0, 0))) :
    Calls Try.prog 49 #[.slice p n c, .int .i64 (n : Nat), .slice (some ⟨vb, 0, none⟩) 1 1] w fun e w' => Grew w w' (.slice p n c) n (l ++ [(k, m)]) e := by
  obtain ⟨i, hi, hz, hsz, hb⟩ := info_parts info_pr
  have HI := Lib.hid hi
  have HZ := Lib.hid hz
  have HO := Lib.hid own
  have HX := Lib.hid (at_one hv)
  have HM : Hid (n + 1 ≤ maxLen ∧ (n + 1) * 16 ≤ 140737488355328) := Lib.hid ⟨by unfold maxLen; omega, by omega⟩
  have hbase : (p = none ∧ n = 0 ∧ c = 0) ∨ (∃ g, p = some ⟨g, 0, none⟩) ∧ n ≤ c ∧ c ≤ maxLen := by
    rcases own.2 with ⟨h1, h2⟩ | ⟨g, cap, cur, h1, -, -, h3, h4, -⟩
    · obtain ⟨h3, -, h4⟩ := Value.slice.inj h1
      exact .inl ⟨h3, h2, h4⟩
    · obtain ⟨h5, -, h6⟩ := Value.slice.inj h1
      subst h6
      exact .inr ⟨⟨g, h5⟩, h3, h4⟩
  clear own hv hi hz
  rcases hbase with ⟨rfl, rfl, rfl⟩ | ⟨⟨g, rfl⟩, hnc, hcm⟩
  · go_enter Try.func49, Try.ntmps49
    go_wp2_with (at_builtin; refine wpList_append_own_at _ rfl (.tmp 23) (.tmp 24) 36 rfl 0 53 i _ 2 16 Try.underlying36 HI.out HZ.out hsz hb rfl (by decide) _ 0 (prs l) rfl HO.out ⟨vb, 0, none⟩ 1 1 (prs [(k, m)]) rfl rfl HX.out (prs_one _) HM.out.1 HM.out.2 (Nat.zero_le _) ?_; intro v' w1 hown hgrow hnil hat; have H1 := Lib.hid (And.intro hown (And.intro hgrow hat)); clear hown hgrow hnil hat)
    go_ret
    obtain ⟨hown, hgrow, hat⟩ := H1.out
    obtain ⟨q, d, rfl⟩ := slFormN hown
    exact ⟨q, d, rfl, by rw [prs_app]; exact hown, hgrow, hat⟩
  · by_cases hc : c = n
    · subst hc
      unfold maxLen at hcm
      go_enter Try.func49, Try.ntmps49
      go_wp2_with (at_builtin; refine wpList_append_own_at _ rfl (.tmp 23) (.tmp 24) 36 rfl 0 53 i _ 2 16 Try.underlying36 HI.out HZ.out hsz hb rfl (by decide) _ c (prs l) rfl HO.out ⟨vb, 0, none⟩ 1 1 (prs [(k, m)]) rfl rfl HX.out (prs_one _) HM.out.1 HM.out.2 (Nat.zero_le _) ?_; intro v' w1 hown hgrow hnil hat; have H1 := Lib.hid (And.intro hown (And.intro hgrow hat)); clear hown hgrow hnil hat)
      go_ret
      obtain ⟨hown, hgrow, hat⟩ := H1.out
      obtain ⟨q, d, rfl⟩ := slFormN hown
      exact ⟨q, d, rfl, by rw [prs_app]; exact hown, hgrow, hat⟩
    · unfold maxLen at hcm
      go_enter Try.func49, Try.ntmps49
      go_wp2_with (at_builtin; refine wpList_append_own_at _ rfl (.tmp 23) (.tmp 24) 36 rfl 0 53 i _ 2 16 Try.underlying36 HI.out HZ.out hsz hb rfl (by decide) _ n (prs l) rfl HO.out ⟨vb, 0, none⟩ 1 1 (prs [(k, m)]) rfl rfl HX.out (prs_one _) HM.out.1 HM.out.2 (Nat.zero_le _) ?_; intro v' w1 hown hgrow hnil hat; have H1 := Lib.hid (And.intro hown (And.intro hgrow hat)); clear hown hgrow hnil hat)
      go_ret
      obtain ⟨hown, hgrow, hat⟩ := H1.out
      obtain ⟨q, d, rfl⟩ := slFormN hown
      exact ⟨q, d, rfl, by rw [prs_app]; exact hown, hgrow, hat⟩

set_option maxRecDepth 100000 in
set_option maxHeartbeats 1000000 in
theorem ins_shift_any (g n c i vb : Nat) (k : Int) (m : Nat) (l : List Pr) (w : World) (own : w.ownsRow 0 53 2 (.slice (some ⟨g, 0, none⟩) n c) n (prs l)) (hn : n ≤ 2097153) (hin : i < n) (hroom : n + 1 ≤ c) (hcm : c ≤ 9223372036854775807)
    (hvg : vb ≠ g) (hv : w.heap[vb]? = some (.cells #[.int .i64 k, .int .u64 (m : Int)] 53 (0, 0))) :
    Calls Try.prog 49 #[.slice (some ⟨g, 0, none⟩) n c, .int .i64 (i : Nat), .slice (some ⟨vb, 0, none⟩) 1 1] w fun e w' => Grew w w' (.slice (some ⟨g, 0, none⟩) n c) n (l.take i ++ (k, m) :: l.drop i) e := by
  have hsz : (Try.prog.info? 53).map (·.size) = some 2 := by
    obtain ⟨i0, hi, hz, hsz, hb⟩ := info_parts info_pr
    rw [hi]; simp [hsz]
  obtain ⟨cur, hg, hcs, htk⟩ : ∃ cur : List Value, w.heap[g]? = some (.cells cur.toArray 53 (0, 0)) ∧ cur.length = c * 2 ∧ cur.take (n * 2) = prs l := by
    rcases own.2 with ⟨h1, h2⟩ | ⟨g', cap, cur, h1, -, h2, h3, h4, h5, h6⟩
    · cases h1
    · obtain ⟨h7, -, h8⟩ := Value.slice.inj h1
      subst h8
      obtain rfl : g = g' := congrArg Addr.block (Option.some.inj h7)
      exact ⟨cur.toList, by simpa using h2, by simpa using h5, h6⟩
  have hll : l.length = n := by have := own.1; rw [prs_len] at this; omega
  have hov : ∀ lb cb, (callFunc 62 #[.slice (some ⟨vb, 0, none⟩) 1 1, .slice (some ⟨g, (i + 1) * 2, none⟩) lb cb]).run Try.prog w = .ok (.value (.bool false)) w := fun lb cb => by
    rw [run_callFunc_extern Try.func62 (by kernel_rfl) (by kernel_rfl) (by kernel_rfl) (e := Extern.SlicesOverlaps.overlaps #[36, 36] #[4]) (by kernel_rfl),
      Lib.run_overlaps_apart w 36 4 53 Try.underlying36 2 Try.sizeOf53 ⟨vb, 0, none⟩ ⟨g, (i + 1) * 2, none⟩ 1 1 lb cb hvg 53 53 2 cur.length (by simp [World.shape?, hv]) (by simp [World.shape?, hg]) (by omega) (by simp [World.frozen?, hv]) (by simp [World.frozen?, hv])]
    rfl
  have HG := Lib.hid hg
  have HTK := Lib.hid htk
  have HV := Lib.hid hv
  have HX := Lib.hid (at_one hv)
  have HO := Lib.hid own
  have HLL := Lib.hid hll
  have HCS := Lib.hid hcs
  have e1 : (i : Int) < (n : Int) := by omega
  have e2 : ((i : Int) == (n : Int)) = false := by rw [beq_eq_false_iff_ne]; omega
  have e3 : (n : Int) + 1 ≤ (c : Int) := by omega
  have e4 : ¬ c = i := by omega
  have e5 : ¬ c = i + 1 := by omega
  clear hg htk hv own hll hcs
  go_enter Try.func49, Try.ntmps49
  go_wp2_with (simp only [hov])
  clear hov
  have hw1 : IntKind.i64.wrap ((i : Int) + 1) = (i : Int) + 1 := by rw [IntKind.wrap_i64]; omega
  have hb1 : (0 : Int) ≤ (i : Int) + 1 := by omega
  have hb2 : i ≤ n := by omega
  have hb3 : i ≤ n + 1 := by omega
  have hb4 : (i : Int) ≤ (n : Int) + 1 := by omega
  have HY : Hid (∀ j u, (prs (l.drop i))[j]? = some u → w.drew.cell? ((⟨g, i * 2, none⟩ : Addr).add j) = some u) := Lib.hid fun j u hu => by
    rw [prs_drop, List.getElem?_drop] at hu
    have := HO.out.cells (g := g) rfl _ u hu
    have a1 : (⟨g, i * 2, none⟩ : Addr).add j = ⟨g, i * 2 + j, none⟩ := by unfold Addr.add; split <;> simp_all
    have a2 : (⟨g, 0, none⟩ : Addr).add (i * 2 + j) = ⟨g, i * 2 + j, none⟩ := by unfold Addr.add; split <;> simp_all
    rw [a1, ← a2]
    exact this
  have HYL : Hid ((prs (l.drop i)).length = (n - i) * 2) := Lib.hid (by rw [prs_len, List.length_drop, HLL.out])
  go_region_law (first
    | (refine step_copyK (g := g) (off := (i + 1) * 2) (dLen := n - i) (dCap := c - (i + 1)) (ad := ⟨g, i * 2, none⟩) (sLen := n + 1 - i) (sCap := c - i) rfl (.tmp 73) (.tmp 76) 36 36 rfl 53 2 Try.underlying36 hsz (by simp [Act.eval, Act.put]) (by simp [Act.eval, Act.put]) cur (t := 53) HG.out (prs (l.drop i)) (by rw [HYL.out]; simp only [Nat.min_def]; split <;> omega) HY.out (by rw [HYL.out, HCS.out]; omega) (prs_one _) ?_; intro w4 hg4 f4; have HG4 := Lib.hid hg4; have HF4 := Lib.hid ((Fr.drew (· = g) w).trans f4 fun _ _ h => h); clear hg4 f4))
  all_goals
    obtain ⟨w5, hrun, hg5, f5⟩ := copyK_ex (P := Try.prog) w4 36 3 53 g (i * 2) (n + 1 - i) (c - i) ⟨vb, 0, none⟩ 1 1 2 _ 53 (prs [(k, m)]) 1 Try.underlying36 hsz HG4.out (by simp only [Nat.min_def]; split <;> omega) rfl (at_one (HF4.out.row HV.out hvg)) (by rw [length_splice _ _ _ (by rw [HYL.out, HCS.out]; omega), HCS.out, prs_len, List.length_singleton]; omega) (prs_one _)
    have HG5 := Lib.hid hg5
    have HF5 := Lib.hid (HF4.out.trans f5 fun _ _ h => h)
    clear hg5 f5
    go_wp2_with fail
    go_ret
    have hR : prs l = prs (l.take i) ++ prs (l.drop i) := by rw [← prs_app, List.take_append_drop]
    have hcur : cur = prs (l.take i) ++ prs (l.drop i) ++ cur.drop (n * 2) := by rw [← hR, ← HTK.out, List.take_append_drop]
    have hlt : (prs (l.take i)).length = i * 2 := by rw [prs_len, List.length_take, HLL.out]; omega
    obtain ⟨h1, h2⟩ := ins_shift (prs (l.take i)) (prs (l.drop i)) (prs [(k, m)]) (cur.drop (n * 2)) (i * 2) ((n - i) * 2) hlt HYL.out rfl (by rw [List.length_drop, HCS.out]; omega)
    rw [← hcur] at h1 h2
    refine ⟨some ⟨g, 0, none⟩, c, rfl, ⟨by rw [prs_len]; simp [HLL.out]; omega, .inr ⟨g, c, _, rfl, Nat.zero_le _, HG5.out, by omega, by unfold maxLen; omega, ?_, ?_⟩⟩, ?_, .inl rfl⟩
    · rw [List.size_toArray, show (i + 1) * 2 = i * 2 + 2 by omega, h2, HCS.out]
    · rw [show (i + 1) * 2 = i * 2 + 2 by omega, show (n + 1) * 2 = i * 2 + 2 + (n - i) * 2 by omega, h1, prs_app, prs_cons]
      simp [prs]
    · exact ⟨HF5.out.os, HF5.out.tape, HF5.out.output, HF5.out.size, fun b hb hne => HF5.out.block b hb fun e => hne (by rw [e]; rfl)⟩
end Go.Proofs.Ytibgjmlgjmnheaa
