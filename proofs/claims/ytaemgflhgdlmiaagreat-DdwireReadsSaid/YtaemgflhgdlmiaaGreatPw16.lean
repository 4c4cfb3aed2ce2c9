/- SpDel -/
import Derived.Test.YtaemgflhgdlmiaaGreatPw1
import Derived.Test.YtaemgflhgdlmiaaGreatPw2
import Derived.Test.YtaemgflhgdlmiaaGreatPw4
import Derived.Test.YtaemgflhgdlmiaaGreatPw5
import Derived.Test.YtaemgflhgdlmiaaGreatPw6
import Derived.Test.YtaemgflhgdlmiaaGreatPw7
import Derived.Test.YtaemgflhgdlmiaaGreatPw8
import Derived.Test.YtaemgflhgdlmiaaGreatPw14
import Derived.BigRegion
import Derived.Laws.CopyOwn
import Derived.Lib.Overlaps
import Derived.Laws.Externs
import Derived.Lib.AppendZerosOnto
import Derived.Laws.OwnMore
import Derived.Deep.RegionLaw
import Derived.Maps.AppendAt
import Derived.Lib.SliceRun
import Derived.StillTailTactics
import Derived.WalkKit
import Derived.WalkSpells
import Derived.WalkLawsBesides
import Derived.Deep.QuietTactic
import Derived.BigQuiet
import Derived.RegionTactic
import Derived.Deep.AppendLies
import Derived.Laws.ResultCell
import Derived.Laws.EntriesVeiled
import Derived.Lib.Hide
import Derived.Test.YtaemgflhgdlmiaaGreatRows
import Derived.Laws.BytesArg
import Derived.Lib.SlBytesConst
import Derived.Laws.AppendOwnNone
set_option maxRecDepth 100000
set_option maxHeartbeats 8000000
namespace Go.Proofs.YtaemgflhgdlmiaaGreat
open Go.RowKit
section
variable {P : Program}
theorem step_appendK {w : World} {ops : Array Oper} {o : Oper} {a : Act} {K : Act → World → Prop} {Q : Exit → Act → World → Prop} {E : Prop} (hgd : o.guard = none) (s x : Operand) (t : TypeId)
    (ho : o.op = .call { callee := .builtin .append, args := #[s, x], argTypes := #[t, t] }) (e : TypeId) (i : TypeInfo) (ht : P.underlying t = some (.slice e)) (hi : P.info? e = some i)
    {g n cap : Nat} {ad : Addr} {m c : Nat} (hs : a.eval s = .slice (some ⟨g, 0, none⟩) n cap) (hx : a.eval x = .slice (some ad) m c)
    (cur : List Value) (hg : w.heap[g]? = some (.cells cur.toArray e (0, 0))) (news : List Value) (hl : news.length = m * i.size)
    (hsrc : ∀ j v, news[j]? = some v → w.cell? (ad.add j) = some v) (h1 : ∀ v ∈ news, v.oneCell' = true) (hroom : n + m ≤ cap) (hfit : n * i.size + news.length ≤ cur.length)
    (h : ∀ w', w'.heap[g]? = some (.cells (splice cur (n * i.size) news).toArray e (0, 0)) → Fr (· = g) w w' → K (a.put o.dst (.slice (some ⟨g, 0, none⟩) (n + m) cap)) w') :
    if Region.wanted o (yielded ops a.tmps) = true then Oper.wp P o a w K Q else E := by
  have hw : Region.wanted o (yielded ops a.tmps) = true := by simp [Region.wanted, hgd]
  rw [if_pos hw]
  have hrun := run_append_room (P := P) w t o.type e i ht hi g n cap cur.toArray hg ad m c news hl hsrc h1 hroom (by simpa using hfit)
  unfold Oper.wp
  simp [execOp, ho, resolve, invoke, builtin, hs, hx, hrun, Result.andThen]
  exact h _ ((setRow_heap w g _ _ e _ hg).trans (by unfold splice; simp)) (Fr.setRow _ w g _ rfl)
theorem clear_ex (w : World) (t e ty : TypeId) (z : Value) (size : Nat) (ht : P.underlying t = some (.slice e)) (hv : ∀ w, (zeroValue e).run P w = .ok z w) (hz : z.cells.size = size)
    (h1 : ∀ v ∈ (Builtin.zeroCells z.cells 1).toList, v.oneCell' = true) (hsz : 0 < size) (g o n c : Nat) (cur : List Value) (et : TypeId) (hg : w.heap[g]? = some (.cells cur.toArray et (0, 0))) (hn : 0 < n) (hfit : o + n * size ≤ cur.length) :
    ∃ w', (Builtin.clear_ #[t] ty #[.slice (some ⟨g, o, none⟩) n c]).run P w = .ok (.tuple #[]) w' ∧ w'.heap[g]? = some (.cells (splice cur o (Builtin.zeroCells z.cells n).toList).toArray et (0, 0)) ∧ Fr (· = g) w w' := by
  have hl : (Builtin.zeroCells z.cells n).toList.length = n * size := by rw [Array.length_toList, size_zeroCells, hz]
  have hone : ∀ v ∈ (Builtin.zeroCells z.cells n).toList, v.oneCell' = true := by
    intro v hv
    refine h1 v ?_
    simp only [Builtin.zeroCells, Array.toList_map, Array.toList_range, List.mem_map, List.mem_range, Nat.one_mul] at hv ⊢
    obtain ⟨j, hj, rfl⟩ := hv
    exact ⟨j % z.cells.size, Nat.mod_lt _ (by omega), by rw [Nat.mod_mod]⟩
  have hst := run_storeCells_at P g o et (Builtin.zeroCells z.cells n).toList 0 cur.toArray w hg (by simpa [hl] using hfit) hone
  simp only [Nat.add_zero] at hst
  obtain ⟨m, rfl⟩ : ∃ m, n = m + 1 := ⟨n - 1, by omega⟩
  have hst2 : (storeCells ⟨g, o, none⟩ (Builtin.zeroCells z.cells (m + 1)).toList).run P w = .ok () (w.setRow g (splice cur o (Builtin.zeroCells z.cells (m + 1)).toList).toArray) := by
    rw [hst]
    unfold splice
    rw [List.append_assoc]
  exact ⟨_, by simp [Builtin.clear_, run_underlying ht, hv, hst2], setRow_heap w g _ _ et _ hg, Fr.setRow _ w g _ rfl⟩
end
theorem splice_ahead {α : Type} (L : List α) (o : Nat) (cs : List α) (h : o ≤ L.length) : (splice L o cs).take o = L.take o := by
  unfold splice
  rw [List.take_append_of_le_length (by rw [List.length_take]; omega), List.take_take, Nat.min_self]
theorem splice_start {α : Type} (L cs : List α) : (splice L 0 cs).take cs.length = cs := by
  unfold splice
  rw [List.take_zero, List.nil_append, List.take_left]
theorem zeros_one : ∀ v ∈ (Builtin.zeroCells (Value.agg #[Value.int .i64 0, Value.int .u64 0]).cells 1).toList, v.oneCell' = true := by decide +kernel
theorem del_any (g n c j : Nat) (l : List Pr) (w : World) (own : w.ownsRow 0 67 2 (.slice (some ⟨g, 0, none⟩) n c) n (prs l)) (hn : n ≤ 2097153) (hnc : n ≤ c) (hcm : c ≤ 9223372036854775807) (hj0 : 0 < j) (hjn : j < n) :
    Calls Tryz.prog 125 #[.slice (some ⟨g, 0, none⟩) n c, .int .i64 0, .int .i64 (j : Nat)] w fun e w' => e = .returned (.slice (some ⟨g, 0, none⟩) (n - j) c) ∧
      w'.ownsRow 0 67 2 (.slice (some ⟨g, 0, none⟩) (n - j) c) (n - j) (prs (l.drop j)) ∧ Fr (· = g) w w' := by
  obtain ⟨i, hi, hz, hsz, hb⟩ := info_parts info_pr
  obtain ⟨cur, hg, hcs, htk⟩ : ∃ cur : List Value, w.heap[g]? = some (.cells cur.toArray 67 (0, 0)) ∧ cur.length = c * 2 ∧ cur.take (n * 2) = prs l := by
    rcases own.2 with ⟨h1, h2⟩ | ⟨g', cap, cur, h1, -, h2, h3, h4, h5, h6⟩
    · cases h1
    · obtain ⟨h7, -, h8⟩ := Value.slice.inj h1
      subst h8
      obtain rfl : g = g' := congrArg Addr.block (Option.some.inj h7)
      exact ⟨cur.toList, by simpa using h2, by simpa using h5, h6⟩
  have hll : l.length = n := by have := own.1; rw [prs_len] at this; omega
  have HYL : Hid ((prs (l.drop j)).length = (n - j) * 2) := Lib.hid (by rw [prs_len, List.length_drop, hll])
  have HY : Hid (∀ x u, (prs (l.drop j))[x]? = some u → w.drew.cell? ((⟨g, j * 2, none⟩ : Addr).add x) = some u) := Lib.hid fun x u hu => by
    rw [prs_drop, List.getElem?_drop] at hu
    have := own.cells (g := g) rfl _ u hu
    rw [Addr.add_lit, Nat.zero_add] at this
    rw [Addr.add_lit]
    exact this
  have HG := Lib.hid hg
  have HCS := Lib.hid hcs
  have HI := Lib.hid hi
  have HSZ := Lib.hid hsz
  have HLL := Lib.hid hll
  have e1 : ((0 : Int) == (j : Int)) = false := by rw [beq_eq_false_iff_ne]; omega
  have e2 : (j : Int) ≤ (n : Int) := by omega
  have e3 : (n : Int) ≤ (c : Int) := by omega
  have e4 : ¬ c = j := by omega
  have e5 : ¬ c = n - j := by omega
  have e6 : ¬ n = j := by omega
  have e7 : j ≤ n := by omega
  clear own hg hcs hi hz hsz hb hll htk
  go_enter Tryz.func125, Tryz.ntmps125
  go_wp2_with fail
  go_region_law (first
    | (refine step_appendK (g := g) (n := 0) (cap := c) (ad := ⟨g, j * 2, none⟩) (m := n - j) (c := c - j) rfl (.tmp 22) (.tmp 25) 40 rfl 67 i Tryz.underlying40 HI.out (by simp [Act.eval, Act.put]) (by simp [Act.eval, Act.put]) cur HG.out (prs (l.drop j)) (by rw [HYL.out, HSZ.out]) HY.out (prs_one _) (by omega) (by rw [HYL.out, HCS.out]; omega) ?_; intro w4 hg4 f4; have HG4 := Lib.hid hg4; have HF4 := Lib.hid ((Fr.drew (· = g) w).trans f4 fun _ _ h => h); clear hg4 f4))
  all_goals
    rw [Nat.zero_mul] at HG4
    obtain ⟨w5, hrun, hg5, f5⟩ := clear_ex (P := Tryz.prog) w4 40 67 0 _ 2 Tryz.underlying40 Tryz.zeroValue67 rfl zeros_one (by decide) g ((n - j) * 2) (n - (n - j)) (c - (n - j)) _ 67 HG4.out (by omega) (by rw [length_splice _ _ _ (by rw [HYL.out, HCS.out]; omega), HCS.out]; omega)
    have HG5 := Lib.hid hg5
    have HF5 := Lib.hid (HF4.out.trans f5 fun _ _ h => h)
    clear hg5 f5
    go_wp2_with fail
    go_ret
    have hz : (Builtin.zeroCells (Value.agg #[Value.int .i64 0, Value.int .u64 0]).cells (n - (n - j))).toList.length = (n - (n - j)) * 2 := by rw [Array.length_toList, size_zeroCells]; rfl
    have h1 : (splice cur 0 (prs (l.drop j))).length = c * 2 := by rw [length_splice _ _ _ (by rw [HYL.out, HCS.out]; omega), HCS.out]
    refine ⟨rfl, ⟨HYL.out, .inr ⟨g, c, _, rfl, Nat.zero_le _, HG5.out, by omega, by unfold maxLen; omega, ?_, ?_⟩⟩, HF5.out⟩
    · rw [List.size_toArray, length_splice _ _ _ (by rw [hz, h1]; omega), h1]
    · rw [show (splice (splice cur 0 (prs (l.drop j))) ((n - j) * 2) (Builtin.zeroCells (Value.agg #[Value.int .i64 0, Value.int .u64 0]).cells (n - (n - j))).toList).toArray.toList = splice (splice cur 0 (prs (l.drop j))) ((n - j) * 2) (Builtin.zeroCells (Value.agg #[Value.int .i64 0, Value.int .u64 0]).cells (n - (n - j))).toList from rfl, splice_ahead _ _ _ (by rw [h1]; omega), ← HYL.out]
      exact splice_start _ _
end Go.Proofs.YtaemgflhgdlmiaaGreat
