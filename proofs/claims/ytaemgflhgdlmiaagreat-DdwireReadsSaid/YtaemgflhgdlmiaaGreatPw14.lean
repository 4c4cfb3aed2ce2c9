/- SpCopy, SpIns, SpIns2 -/
import Derived.Test.YtaemgflhgdlmiaaGreatPw1
import Derived.Test.YtaemgflhgdlmiaaGreatPw2
import Derived.Test.YtaemgflhgdlmiaaGreatPw4
import Derived.Test.YtaemgflhgdlmiaaGreatPw5
import Derived.Test.YtaemgflhgdlmiaaGreatPw6
import Derived.Test.YtaemgflhgdlmiaaGreatPw7
import Derived.Test.YtaemgflhgdlmiaaGreatPw8
import Derived.Laws.CopyOwn
import Derived.Lib.Overlaps
import Derived.Laws.Externs
import Derived.Lib.AppendZerosOnto
import Derived.Laws.OwnMore
import Derived.Deep.RegionLaw
import Derived.Maps.AppendAt
import Derived.Lib.SliceRun
import Derived.StillTailTactics
import Derived.BigRegion
import Derived.WalkKit
import Derived.WalkSpells
import Derived.WalkLawsBesides
import Derived.Deep.QuietTactic
import Derived.BigQuiet
import Derived.RegionTactic
import Derived.Deep.AppendLies
import Derived.Laws.ResultCell
import Derived.Laws.EntriesVeiled
import Derived.Lib.Hide
import Derived.Test.YtaemgflhgdlmiaaGreatRows
import Derived.Laws.BytesArg
import Derived.Lib.SlBytesConst
import Derived.Laws.AppendOwnNone
import Derived.Lib.AppendZeros
set_option maxRecDepth 100000
set_option maxHeartbeats 8000000
namespace Go.Proofs.YtaemgflhgdlmiaaGreat
open Go.RowKit
section
variable {P : Program}
theorem run_copyK (w : World) (dT sT ty elem : TypeId) (g o dLen dCap : Nat) (a : Addr) (sLen sCap k : Nat) (cur : List Value) (t : TypeId) (cs : List Value)
    (hu : P.underlying dT = some (.slice elem)) (hs : (P.info? elem).map (·.size) = some k)
    (hg : w.heap[g]? = some (.cells cur.toArray t (0, 0))) (hn : cs.length = Nat.min sLen dLen * k)
    (hsrc : ∀ j v, cs[j]? = some v → w.cell? (a.add j) = some v) (hfit : o + cs.length ≤ cur.length) (h1 : ∀ v ∈ cs, v.oneCell' = true) :
    (Builtin.copy_ #[dT, sT] ty #[.slice (some ⟨g, o, none⟩) dLen dCap, .slice (some a) sLen sCap]).run P w =
      .ok (goInt (Nat.min sLen dLen)) (w.setRow g (splice cur o cs).toArray) := by
  have hl := run_loadCells_list (P := P) w a cs hsrc
  have hst := run_storeCells_at P g o t cs 0 cur.toArray w hg (by simpa using hfit) h1
  cases hq : P.info? elem with
  | none => simp [hq] at hs
  | some i =>
    have hi : i.size = k := by simpa [hq] using hs
    simp [Builtin.copy_, run_underlying hu, Builtin.lenOf, Builtin.firstCells, sizeOf, typeInfo, hq, hi, ← hn, hl, hst, splice]
theorem step_copyK {w : World} {ops : Array Oper} {o : Oper} {a : Act} {K : Act → World → Prop} {Q : Exit → Act → World → Prop} {E : Prop} (hgd : o.guard = none) (d s : Operand) (dT sT : TypeId)
    (ho : o.op = .call { callee := .builtin .copy, args := #[d, s], argTypes := #[dT, sT] }) (elem : TypeId) (k : Nat) (hu : P.underlying dT = some (.slice elem)) (hsz : (P.info? elem).map (·.size) = some k)
    {g off dLen dCap : Nat} {ad : Addr} {sLen sCap : Nat} (hd : a.eval d = .slice (some ⟨g, off, none⟩) dLen dCap) (hs : a.eval s = .slice (some ad) sLen sCap)
    (cur : List Value) {t : TypeId} (hg : w.heap[g]? = some (.cells cur.toArray t (0, 0))) (cs : List Value) (hn : cs.length = Nat.min sLen dLen * k)
    (hsrc : ∀ j v, cs[j]? = some v → w.cell? (ad.add j) = some v) (hfit : off + cs.length ≤ cur.length) (h1 : ∀ v ∈ cs, v.oneCell' = true)
    (h : ∀ w', w'.heap[g]? = some (.cells (splice cur off cs).toArray t (0, 0)) → Fr (· = g) w w' → K (a.put o.dst (goInt (Nat.min sLen dLen))) w') :
    if Region.wanted o (yielded ops a.tmps) = true then Oper.wp P o a w K Q else E := by
  have hw : Region.wanted o (yielded ops a.tmps) = true := by simp [Region.wanted, hgd]
  rw [if_pos hw]
  have hrun := run_copyK (P := P) w dT sT o.type elem g off dLen dCap ad sLen sCap k cur t cs hu hsz hg hn hsrc hfit h1
  unfold Oper.wp
  simp [execOp, ho, resolve, invoke, builtin, hd, hs, hrun, Result.andThen]
  exact h _ (setRow_heap w g _ _ t _ hg) (Fr.setRow _ w g _ rfl)
theorem copyK_ex (w : World) (dT ty elem : TypeId) (g o dLen dCap : Nat) (a : Addr) (sLen sCap k : Nat) (cur : List Value) (t : TypeId) (cs : List Value) (N : Nat)
    (hu : P.underlying dT = some (.slice elem)) (hs : (P.info? elem).map (·.size) = some k)
    (hg : w.heap[g]? = some (.cells cur.toArray t (0, 0))) (hN : Nat.min sLen dLen = N) (hn : cs.length = N * k)
    (hsrc : ∀ j v, cs[j]? = some v → w.cell? (a.add j) = some v) (hfit : o + cs.length ≤ cur.length) (h1 : ∀ v ∈ cs, v.oneCell' = true) :
    ∃ w', (Builtin.copy_ #[dT, dT] ty #[.slice (some ⟨g, o, none⟩) dLen dCap, .slice (some a) sLen sCap]).run P w = .ok (.int .i64 (N : Int)) w' ∧
      w'.heap[g]? = some (.cells (splice cur o cs).toArray t (0, 0)) ∧ Fr (· = g) w w' := by
  subst hN
  exact ⟨_, run_copyK w dT dT ty elem g o dLen dCap a sLen sCap k cur t cs hu hs hg hn hsrc hfit h1, setRow_heap w g _ _ t _ hg, Fr.setRow _ w g _ rfl⟩
end
theorem ins_shift (X Y V R : List Value) (a b : Nat) (hX : X.length = a) (hY : Y.length = b) (hV : V.length = 2) (hR : 2 ≤ R.length) :
    (splice (splice (X ++ Y ++ R) (a + 2) Y) a V).take (a + 2 + b) = X ++ V ++ Y ∧ (splice (splice (X ++ Y ++ R) (a + 2) Y) a V).length = (X ++ Y ++ R).length := by
  subst hX hY
  constructor
  · unfold splice
    have e1 : ((X ++ Y ++ R).take (X.length + 2) ++ (Y ++ (X ++ Y ++ R).drop (X.length + 2 + Y.length))).take X.length = X := by
      rw [List.take_append_of_le_length (by first | (simp; done) | (simp; omega)), List.take_take, Nat.min_eq_left (by omega), List.append_assoc, List.take_left]
    have e2 : ((X ++ Y ++ R).take (X.length + 2) ++ (Y ++ (X ++ Y ++ R).drop (X.length + 2 + Y.length))).drop (X.length + V.length) = Y ++ (X ++ Y ++ R).drop (X.length + 2 + Y.length) := by
      rw [hV, List.drop_left' (by first | (simp; done) | (simp; omega))]
    rw [e1, e2, ← List.append_assoc, ← List.append_assoc, List.take_append_of_le_length (by first | (simp; done) | (simp; omega))]
    exact List.take_of_length_le (by first | (simp; done) | (simp; omega))
  · rw [length_splice _ _ _ (by rw [length_splice _ _ _ (by first | (simp; done) | (simp; omega))]; simp; omega), length_splice _ _ _ (by first | (simp; done) | (simp; omega))]
theorem ins_grow (X Y V Z : List Value) (a b : Nat) (hX : X.length = a) (hY : Y.length = b) (hV : V.length = 2) (hZ : a + 2 + b ≤ Z.length) (hZX : Z.take a = X) :
    (splice (splice Z a V) (a + 2) Y).take (a + 2 + b) = X ++ V ++ Y ∧ (splice (splice Z a V) (a + 2) Y).length = Z.length := by
  subst hX hY
  constructor
  · unfold splice
    rw [hZX]
    have e1 : (X ++ (V ++ Z.drop (X.length + V.length))).take (X.length + 2) = X ++ V := by
      rw [← List.append_assoc, List.take_left' (by first | (simp; done) | (simp; omega))]
    rw [e1, ← List.append_assoc, List.take_append_of_le_length (by first | (simp; done) | (simp; omega))]
    exact List.take_of_length_le (by first | (simp; done) | (simp; omega))
  · rw [length_splice _ _ _ (by rw [length_splice _ _ _ (by omega)]; omega), length_splice _ _ _ (by omega)]
end Go.Proofs.YtaemgflhgdlmiaaGreat

namespace Go.Proofs.YtaemgflhgdlmiaaGreat
open Go.RowKit
def Grew (w w' : World) (v : Value) (n : Nat) (L : List Pr) (e : Ending) : Prop := ∃ q d, e = .returned (.slice q (n + 1) d) ∧ w'.ownsRow 0 67 2 (.slice q (n + 1) d) (n + 1) (prs L) ∧ w.grownBy w' v.ownBlock ∧
  (Value.ownBlock (.slice q (n + 1) d) = v.ownBlock ∨ Value.ownBlock (.slice q (n + 1) d) = some w.heap.size)
theorem at_one {w : World} {vb : Nat} {k : Int} {m : Nat} (hv : w.heap[vb]? = some (.cells #[.int .i64 k, .int .u64 (m : Int)] 67 (0, 0))) : ∀ j u, (prs [(k, m)])[j]? = some u → w.cell? ((⟨vb, 0, none⟩ : Addr).add j) = some u := by
  intro j u hu
  have hadd : (⟨vb, 0, none⟩ : Addr).add j = ⟨vb, j, none⟩ := by unfold Addr.add; split <;> simp_all
  rw [hadd]
  have hj := (List.getElem?_eq_some_iff.1 hu).1
  rw [prs_len] at hj
  have hj2 : j < 2 := hj
  simp only [World.cell?, hv]
  rcases (by omega : j = 0 ∨ j = 1) with rfl | rfl
  · exact hu
  · exact hu
theorem ins_end (p : Option Addr) (n c vb : Nat) (k : Int) (m : Nat) (l : List Pr) (w : World) (own : w.ownsRow 0 67 2 (.slice p n c) n (prs l)) (hn : n ≤ 2097153)
    (hv : w.heap[vb]? = some (.cells #[.int .i64 k, .int .u64 (m : Int)] 67 (0, 0))) :
    Calls Tryz.prog 108 #[.slice p n c, .int .i64 (n : Nat), .slice (some ⟨vb, 0, none⟩) 1 1] w fun e w' => Grew w w' (.slice p n c) n (l ++ [(k, m)]) e := by
  obtain ⟨i, hi, hz, hsz, hb⟩ := info_parts info_pr
  have HI := Lib.hid hi
  have HZ := Lib.hid hz
  have HO := Lib.hid own
  have HX := Lib.hid (at_one hv)
  have HM : Hid (n + 1 ≤ maxLen ∧ (n + 1) * 16 ≤ 140737488355328) := Lib.hid ⟨by unfold maxLen; omega, by omega⟩
  have hbase : (p = none ∧ n = 0 ∧ c = 0) ∨ (∃ g, p = some ⟨g, 0, none⟩) ∧ n ≤ c ∧ c ≤ maxLen := by
    rcases own.2 with ⟨h1, h2⟩ | ⟨g, cap, cur, h1, -, -, h3, h4, -⟩
    · obtain ⟨h3, -, h4⟩ := Value.slice.inj h1
      exact .inl ⟨h3, h2, h4⟩
    · obtain ⟨h5, -, h6⟩ := Value.slice.inj h1
      subst h6
      exact .inr ⟨⟨g, h5⟩, h3, h4⟩
  clear own hv hi hz
  rcases hbase with ⟨rfl, rfl, rfl⟩ | ⟨⟨g, rfl⟩, hnc, hcm⟩
  · go_enter Tryz.func108, Tryz.ntmps108
    go_wp2_with (at_builtin; refine wpList_append_own_at _ rfl (.tmp 23) (.tmp 24) 40 rfl 0 67 i _ 2 16 Tryz.underlying40 HI.out HZ.out hsz hb rfl (by decide) _ 0 (prs l) rfl HO.out ⟨vb, 0, none⟩ 1 1 (prs [(k, m)]) rfl rfl HX.out (prs_one _) HM.out.1 HM.out.2 (Nat.zero_le _) ?_; intro v' w1 hown hgrow hnil hat; have H1 := Lib.hid (And.intro hown (And.intro hgrow hat)); clear hown hgrow hnil hat)
    go_ret
    obtain ⟨hown, hgrow, hat⟩ := H1.out
    obtain ⟨q, d, rfl⟩ := slFormN hown
    exact ⟨q, d, rfl, by rw [prs_app]; exact hown, hgrow, hat⟩
  · by_cases hc : c = n
    · subst hc
      unfold maxLen at hcm
      go_enter Tryz.func108, Tryz.ntmps108
      go_wp2_with (at_builtin; refine wpList_append_own_at _ rfl (.tmp 23) (.tmp 24) 40 rfl 0 67 i _ 2 16 Tryz.underlying40 HI.out HZ.out hsz hb rfl (by decide) _ c (prs l) rfl HO.out ⟨vb, 0, none⟩ 1 1 (prs [(k, m)]) rfl rfl HX.out (prs_one _) HM.out.1 HM.out.2 (Nat.zero_le _) ?_; intro v' w1 hown hgrow hnil hat; have H1 := Lib.hid (And.intro hown (And.intro hgrow hat)); clear hown hgrow hnil hat)
      go_ret
      obtain ⟨hown, hgrow, hat⟩ := H1.out
      obtain ⟨q, d, rfl⟩ := slFormN hown
      exact ⟨q, d, rfl, by rw [prs_app]; exact hown, hgrow, hat⟩
    · unfold maxLen at hcm
      go_enter Tryz.func108, Tryz.ntmps108
      go_wp2_with (at_builtin; refine wpList_append_own_at _ rfl (.tmp 23) (.tmp 24) 40 rfl 0 67 i _ 2 16 Tryz.underlying40 HI.out HZ.out hsz hb rfl (by decide) _ n (prs l) rfl HO.out ⟨vb, 0, none⟩ 1 1 (prs [(k, m)]) rfl rfl HX.out (prs_one _) HM.out.1 HM.out.2 (Nat.zero_le _) ?_; intro v' w1 hown hgrow hnil hat; have H1 := Lib.hid (And.intro hown (And.intro hgrow hat)); clear hown hgrow hnil hat)
      go_ret
      obtain ⟨hown, hgrow, hat⟩ := H1.out
      obtain ⟨q, d, rfl⟩ := slFormN hown
      exact ⟨q, d, rfl, by rw [prs_app]; exact hown, hgrow, hat⟩
theorem ins_shift_any (g n c i vb : Nat) (k : Int) (m : Nat) (l : List Pr) (w : World) (own : w.ownsRow 0 67 2 (.slice (some ⟨g, 0, none⟩) n c) n (prs l)) (hn : n ≤ 2097153) (hin : i < n) (hroom : n + 1 ≤ c) (hcm : c ≤ 9223372036854775807)
    (hvg : vb ≠ g) (hv : w.heap[vb]? = some (.cells #[.int .i64 k, .int .u64 (m : Int)] 67 (0, 0))) :
    Calls Tryz.prog 108 #[.slice (some ⟨g, 0, none⟩) n c, .int .i64 (i : Nat), .slice (some ⟨vb, 0, none⟩) 1 1] w fun e w' => Grew w w' (.slice (some ⟨g, 0, none⟩) n c) n (l.take i ++ (k, m) :: l.drop i) e := by
  have hsz : (Tryz.prog.info? 67).map (·.size) = some 2 := by
    obtain ⟨i0, hi, hz, hsz, hb⟩ := info_parts info_pr
    rw [hi]; simp [hsz]
  obtain ⟨cur, hg, hcs, htk⟩ : ∃ cur : List Value, w.heap[g]? = some (.cells cur.toArray 67 (0, 0)) ∧ cur.length = c * 2 ∧ cur.take (n * 2) = prs l := by
    rcases own.2 with ⟨h1, h2⟩ | ⟨g', cap, cur, h1, -, h2, h3, h4, h5, h6⟩
    · cases h1
    · obtain ⟨h7, -, h8⟩ := Value.slice.inj h1
      subst h8
      obtain rfl : g = g' := congrArg Addr.block (Option.some.inj h7)
      exact ⟨cur.toList, by simpa using h2, by simpa using h5, h6⟩
  have hll : l.length = n := by have := own.1; rw [prs_len] at this; omega
  have hov : ∀ lb cb, (callFunc 127 #[.slice (some ⟨vb, 0, none⟩) 1 1, .slice (some ⟨g, (i + 1) * 2, none⟩) lb cb]).run Tryz.prog w = .ok (.value (.bool false)) w := fun lb cb => by
    rw [run_callFunc_extern Tryz.func127 (by kernel_rfl) (by kernel_rfl) (by kernel_rfl) (e := Extern.SlicesOverlaps.overlaps #[40, 40] #[4]) (by kernel_rfl),
      Lib.run_overlaps_apart w 40 4 67 Tryz.underlying40 2 Tryz.sizeOf67 ⟨vb, 0, none⟩ ⟨g, (i + 1) * 2, none⟩ 1 1 lb cb hvg 67 67 2 cur.length (by simp [World.shape?, hv]) (by simp [World.shape?, hg]) (by omega) (by simp [World.frozen?, hv]) (by simp [World.frozen?, hv])]
    rfl
  have HG := Lib.hid hg
  have HTK := Lib.hid htk
  have HV := Lib.hid hv
  have HX := Lib.hid (at_one hv)
  have HO := Lib.hid own
  have HLL := Lib.hid hll
  have HCS := Lib.hid hcs
  have e1 : (i : Int) < (n : Int) := by omega
  have e2 : ((i : Int) == (n : Int)) = false := by rw [beq_eq_false_iff_ne]; omega
  have e3 : (n : Int) + 1 ≤ (c : Int) := by omega
  have e4 : ¬ c = i := by omega
  have e5 : ¬ c = i + 1 := by omega
  clear hg htk hv own hll hcs
  go_enter Tryz.func108, Tryz.ntmps108
  go_wp2_with (simp only [hov])
  clear hov
  have hw1 : IntKind.i64.wrap ((i : Int) + 1) = (i : Int) + 1 := by rw [IntKind.wrap_i64]; omega
  have hb1 : (0 : Int) ≤ (i : Int) + 1 := by omega
  have hb2 : i ≤ n := by omega
  have hb3 : i ≤ n + 1 := by omega
  have hb4 : (i : Int) ≤ (n : Int) + 1 := by omega
  have HY : Hid (∀ j u, (prs (l.drop i))[j]? = some u → w.drew.cell? ((⟨g, i * 2, none⟩ : Addr).add j) = some u) := Lib.hid fun j u hu => by
    rw [prs_drop, List.getElem?_drop] at hu
    have := HO.out.cells (g := g) rfl _ u hu
    have a1 : (⟨g, i * 2, none⟩ : Addr).add j = ⟨g, i * 2 + j, none⟩ := by unfold Addr.add; split <;> simp_all
    have a2 : (⟨g, 0, none⟩ : Addr).add (i * 2 + j) = ⟨g, i * 2 + j, none⟩ := by unfold Addr.add; split <;> simp_all
    rw [a1, ← a2]
    exact this
  have HYL : Hid ((prs (l.drop i)).length = (n - i) * 2) := Lib.hid (by rw [prs_len, List.length_drop, HLL.out])
  go_region_law (first
    | (refine step_copyK (g := g) (off := (i + 1) * 2) (dLen := n - i) (dCap := c - (i + 1)) (ad := ⟨g, i * 2, none⟩) (sLen := n + 1 - i) (sCap := c - i) rfl (.tmp 73) (.tmp 76) 40 40 rfl 67 2 Tryz.underlying40 hsz (by simp [Act.eval, Act.put]) (by simp [Act.eval, Act.put]) cur (t := 67) HG.out (prs (l.drop i)) (by rw [HYL.out]; simp only [Nat.min_def]; split <;> omega) HY.out (by rw [HYL.out, HCS.out]; omega) (prs_one _) ?_; intro w4 hg4 f4; have HG4 := Lib.hid hg4; have HF4 := Lib.hid ((Fr.drew (· = g) w).trans f4 fun _ _ h => h); clear hg4 f4))
  all_goals
    obtain ⟨w5, hrun, hg5, f5⟩ := copyK_ex (P := Tryz.prog) w4 40 3 67 g (i * 2) (n + 1 - i) (c - i) ⟨vb, 0, none⟩ 1 1 2 _ 67 (prs [(k, m)]) 1 Tryz.underlying40 hsz HG4.out (by simp only [Nat.min_def]; split <;> omega) rfl (at_one (HF4.out.row HV.out hvg)) (by rw [length_splice _ _ _ (by rw [HYL.out, HCS.out]; omega), HCS.out, prs_len, List.length_singleton]; omega) (prs_one _)
    have HG5 := Lib.hid hg5
    have HF5 := Lib.hid (HF4.out.trans f5 fun _ _ h => h)
    clear hg5 f5
    go_wp2_with fail
    go_ret
    have hR : prs l = prs (l.take i) ++ prs (l.drop i) := by rw [← prs_app, List.take_append_drop]
    have hcur : cur = prs (l.take i) ++ prs (l.drop i) ++ cur.drop (n * 2) := by rw [← hR, ← HTK.out, List.take_append_drop]
    have hlt : (prs (l.take i)).length = i * 2 := by rw [prs_len, List.length_take, HLL.out]; omega
    obtain ⟨h1, h2⟩ := ins_shift (prs (l.take i)) (prs (l.drop i)) (prs [(k, m)]) (cur.drop (n * 2)) (i * 2) ((n - i) * 2) hlt HYL.out rfl (by rw [List.length_drop, HCS.out]; omega)
    rw [← hcur] at h1 h2
    refine ⟨some ⟨g, 0, none⟩, c, rfl, ⟨by rw [prs_len]; simp [HLL.out]; omega, .inr ⟨g, c, _, rfl, Nat.zero_le _, HG5.out, by omega, by unfold maxLen; omega, ?_, ?_⟩⟩, ?_, .inl rfl⟩
    · rw [List.size_toArray, show (i + 1) * 2 = i * 2 + 2 by omega, h2, HCS.out]
    · rw [show (i + 1) * 2 = i * 2 + 2 by omega, show (n + 1) * 2 = i * 2 + 2 + (n - i) * 2 by omega, h1, prs_app, prs_cons]
      simp [prs]
    · exact ⟨HF5.out.os, HF5.out.tape, HF5.out.output, HF5.out.size, fun b hb hne => HF5.out.block b hb fun e => hne (by rw [e]; rfl)⟩
end Go.Proofs.YtaemgflhgdlmiaaGreat

namespace Go.Proofs.YtaemgflhgdlmiaaGreat
open Go.RowKit
theorem zeros_len (z : Array Value) (n : Nat) : (Builtin.zeroCells z n).toList.length = n * z.size := by rw [Array.length_toList, size_zeroCells]
theorem ins_grow_any (g n i vb : Nat) (k : Int) (m : Nat) (l : List Pr) (w : World) (own : w.ownsRow 0 67 2 (.slice (some ⟨g, 0, none⟩) n n) n (prs l)) (hn : n ≤ 2097153) (hin : i < n)
    (hv : w.heap[vb]? = some (.cells #[.int .i64 k, .int .u64 (m : Int)] 67 (0, 0))) :
    Calls Tryz.prog 108 #[.slice (some ⟨g, 0, none⟩) n n, .int .i64 (i : Nat), .slice (some ⟨vb, 0, none⟩) 1 1] w fun e w' => Grew w w' (.slice (some ⟨g, 0, none⟩) n n) n (l.take i ++ (k, m) :: l.drop i) e := by
  obtain ⟨i0, hi0, hz0, hzs, hzb⟩ := info_parts info_pr
  have hsz : (Tryz.prog.info? 67).map (·.size) = some 2 := by rw [hi0]; simp [hzs]
  have hll : l.length = n := by have := own.1; rw [prs_len] at this; omega
  have hgl : g < w.heap.size := (own.lt g rfl).2
  have hpl : (prs (l.take i)).length = i * 2 := by rw [prs_len, List.length_take, hll]; omega
  have hold : (Builtin.firstCells i0.size i (.slice (some ⟨g, 0, none⟩) i n)).run Tryz.prog w.drew = .ok (prs (l.take i)).toArray w.drew := by
    rw [hzs]
    exact run_firstCells_some w.drew 2 i ⟨g, 0, none⟩ i n (prs (l.take i)) hpl (fun j v hj => by
      rw [prs_take, List.getElem?_take] at hj
      split at hj
      · exact own.cells (g := g) rfl j v hj
      · cases hj)
  obtain ⟨N, hN⟩ : ∃ N, w.heap.size = N := ⟨_, rfl⟩
  obtain ⟨G, hG, hG2⟩ : ∃ G, grownCap w (n + 1) n 67 = G ∧ n + 1 ≤ G ∧ G ≤ maxLen := ⟨_, rfl, grownCap_ge _ _ _ _, grownCap_le_maxLen _ _ _ _ (by unfold maxLen; omega)⟩
  obtain ⟨Z, hZ, hZl, hZt⟩ : ∃ Z : List Value, (prs (l.take i)).toArray ++ Builtin.zeroCells (Value.agg #[.int .i64 0, .int .u64 0]).cells (n + 1 - i) ++ Builtin.zeroCells (Value.agg #[.int .i64 0, .int .u64 0]).cells (G - (n + 1)) = Z.toArray ∧ Z.length = G * 2 ∧ Z.take (i * 2) = prs (l.take i) := by
    refine ⟨((prs (l.take i)).toArray ++ Builtin.zeroCells (Value.agg #[.int .i64 0, .int .u64 0]).cells (n + 1 - i) ++ Builtin.zeroCells (Value.agg #[.int .i64 0, .int .u64 0]).cells (G - (n + 1))).toList, by simp, ?_, ?_⟩
    · rw [Array.toList_append, Array.toList_append, List.length_append, List.length_append, zeros_len, zeros_len, hpl]
      have hc2 : (Value.agg #[.int .i64 0, .int .u64 0]).cells.size = 2 := rfl
      rw [hc2]
      omega
    · rw [Array.toList_append, Array.toList_append, List.append_assoc, List.take_left' hpl]
  have hrz : ∀ ty, (Builtin.append_ #[40, 3] ty #[.slice (some ⟨g, 0, none⟩) i n, .int .i64 ((n : Int) + 1 - (i : Int))]).run Tryz.prog w = .ok (.slice (some ⟨N, 0, none⟩) (n + 1) G) (w.drew.alloc (.cells Z.toArray 67)) := fun ty => by
    have h := Lib.run_append_grow_zeros w 40 3 ty 67 i0 _ .i64 .i64 Tryz.underlying40 Tryz.underlying3 hi0 hz0 (some ⟨g, 0, none⟩) i n (prs (l.take i)) hold (n + 1 - i) (by omega) (by omega) (by omega) (by omega) (by rw [hzb]; omega) (by rw [hzb, show i + (n + 1 - i) = n + 1 by omega]; exact growslice_fits (by omega) (by omega))
    rw [show i + (n + 1 - i) = n + 1 by omega, hG, hN, hZ, show ((n + 1 - i : Nat) : Int) = (n : Int) + 1 - (i : Int) by omega] at h
    exact h
  obtain ⟨W1, hW1⟩ : ∃ W1, w.drew.alloc (.cells Z.toArray 67) = W1 := ⟨_, rfl⟩
  have f1 : Fr S0 w W1 := by rw [← hW1]; exact (Fr.drew S0 w).trans0 (Fr.alloc _ _ _)
  have hB1 : W1.heap[N]? = some (.cells Z.toArray 67 (0, 0)) := by rw [← hW1, ← hN]; exact heap_alloc_new w.drew _
  rw [hW1] at hrz
  obtain ⟨w4, hr4, hg4, f4⟩ := copyK_ex (P := Tryz.prog) W1 40 3 67 N (i * 2) (n + 1 - i) (G - i) ⟨vb, 0, none⟩ 1 1 2 Z 67 (prs [(k, m)]) 1 Tryz.underlying40 hsz hB1 (by simp only [Nat.min_def]; split <;> omega) rfl (at_one (f1.row hv (fun h => h))) (by rw [hZl, prs_len, List.length_singleton]; omega) (prs_one _)
  have HYL : Hid ((prs (l.drop i)).length = (n - i) * 2) := Lib.hid (by rw [prs_len, List.length_drop, hll])
  have HY : Hid (∀ j u, (prs (l.drop i))[j]? = some u → w4.drew.cell? ((⟨g, i * 2, none⟩ : Addr).add j) = some u) := Lib.hid fun j u hu => by
    rw [prs_drop, List.getElem?_drop] at hu
    have := own.cells (g := g) rfl _ u hu
    have a1 : (⟨g, i * 2, none⟩ : Addr).add j = ⟨g, i * 2 + j, none⟩ := by unfold Addr.add; split <;> simp_all
    have a2 : (⟨g, 0, none⟩ : Addr).add (i * 2 + j) = ⟨g, i * 2 + j, none⟩ := by unfold Addr.add; split <;> simp_all
    rw [a1, ← a2]
    exact f4.cell (f1.cell this (fun h => h)) (by rw [a2]; show ¬ g = N; omega)
  have HG4 := Lib.hid hg4
  have HSP : Hid ((splice Z (i * 2) (prs [(k, m)])).length = G * 2) := Lib.hid (by rw [length_splice _ _ _ (by rw [hZl, prs_len, List.length_singleton]; omega), hZl])
  have HF4 : Hid (Fr S0 w w4) := Lib.hid (f1.trans f4 fun j hj e => by omega)
  have HEND : Hid (∀ W : World, W.heap[N]? = some (.cells (splice (splice Z (i * 2) (prs [(k, m)])) ((i + 1) * 2) (prs (l.drop i))).toArray 67 (0, 0)) → W.ownsRow 0 67 2 (.slice (some ⟨N, 0, none⟩) (n + 1) G) (n + 1) (prs (l.take i ++ (k, m) :: l.drop i))) := Lib.hid fun W hb => by
    obtain ⟨h1, h2⟩ := ins_grow (prs (l.take i)) (prs (l.drop i)) (prs [(k, m)]) Z (i * 2) ((n - i) * 2) hpl HYL.out rfl (by rw [hZl]; omega) hZt
    refine ⟨by rw [prs_len]; simp [hll]; omega, .inr ⟨N, G, _, rfl, Nat.zero_le _, hb, hG2.1, hG2.2, ?_, ?_⟩⟩
    · rw [List.size_toArray, show (i + 1) * 2 = i * 2 + 2 by omega, h2, hZl]
    · rw [show (i + 1) * 2 = i * 2 + 2 by omega, show (n + 1) * 2 = i * 2 + 2 + (n - i) * 2 by omega, h1, prs_app, prs_cons]
      simp [prs]
  have HN := Lib.hid hN
  have hG63 : G ≤ 9223372036854775807 := by have := hG2.2; unfold maxLen at this; omega
  have hGn := hG2.1
  have e1 : (i : Int) < (n : Int) := by omega
  have e2 : ((i : Int) == (n : Int)) = false := by rw [beq_eq_false_iff_ne]; omega
  have e3 : (n : Int) < (n : Int) + 1 := by omega
  have e4 : ¬ n = i := by omega
  have e6 : ¬ G = i := by omega
  have e7 : ¬ G = i + 1 := by omega
  have hw1 : IntKind.i64.wrap ((i : Int) + 1) = (i : Int) + 1 := by rw [IntKind.wrap_i64]; omega
  have hb1 : (0 : Int) ≤ (i : Int) + 1 := by omega
  have hb2 : i ≤ n := by omega
  have hb3 : i ≤ n + 1 := by omega
  have hb4 : (i : Int) ≤ (n : Int) + 1 := by omega
  clear own hv hll hold hZ hZl hZt hW1 f1 hB1 hg4 f4 hG hG2 hgl hpl hN hz0 hzs hzb hi0
  go_enter Tryz.func108, Tryz.ntmps108
  go_wp2_with (at_builtin; refine Lib.wpList_append_run _ rfl _ _ _ _ rfl _ _ rfl rfl _ _ (hrz _) ?_)
  go_region_law (first
    | (refine step_copyK (g := N) (off := (i + 1) * 2) (dLen := n - i) (dCap := G - (i + 1)) (ad := ⟨g, i * 2, none⟩) (sLen := n - i) (sCap := n - i) rfl (.tmp 50) (.tmp 53) 40 40 rfl 67 2 Tryz.underlying40 hsz (by simp [Act.eval, Act.put]) (by simp [Act.eval, Act.put]) (splice Z (i * 2) (prs [(k, m)])) (t := 67) HG4.out (prs (l.drop i)) (by rw [HYL.out]; simp only [Nat.min_def]; split <;> omega) HY.out (by rw [HYL.out, HSP.out]; omega) (prs_one _) ?_; intro w6 hg6 f6; have HG6 := Lib.hid hg6; have HF6 := Lib.hid f6; clear hg6 f6))
  all_goals
    go_wp2_with fail
    go_ret
    have f := (HF4.out.trans0 (Fr.drew S0 w4)).trans HF6.out fun j hj e => by have := HN.out; omega
    exact ⟨some ⟨N, 0, none⟩, G, rfl, HEND.out _ HG6.out, ⟨f.os, f.tape, f.output, f.size, fun b hb _ => f.block b hb (fun h => h)⟩, .inr (by rw [HN.out]; rfl)⟩
theorem ins_any (p : Option Addr) (n c i vb : Nat) (k : Int) (m : Nat) (l : List Pr) (w : World) (own : w.ownsRow 0 67 2 (.slice p n c) n (prs l)) (hn : n ≤ 2097153) (hin : i ≤ n)
    (hvg : ∀ a, p = some a → vb ≠ a.block) (hv : w.heap[vb]? = some (.cells #[.int .i64 k, .int .u64 (m : Int)] 67 (0, 0))) :
    Calls Tryz.prog 108 #[.slice p n c, .int .i64 (i : Nat), .slice (some ⟨vb, 0, none⟩) 1 1] w fun e w' => Grew w w' (.slice p n c) n (l.take i ++ (k, m) :: l.drop i) e := by
  have hll : l.length = n := by have := own.1; rw [prs_len] at this; omega
  by_cases h : i = n
  · subst h
    rw [← hll, List.take_length, List.drop_length, hll]
    exact ins_end p i c vb k m l w own hn hv
  · rcases own.2 with ⟨h1, h2⟩ | ⟨g, cap, cur, h1, -, -, h3, h4, -⟩
    · omega
    · obtain ⟨rfl, -, rfl⟩ := Value.slice.inj h1
      by_cases hc : c = n
      · subst hc
        exact ins_grow_any g c i vb k m l w own hn (by omega) hv
      · exact ins_shift_any g n c i vb k m l w own hn (by omega) (by omega) (by unfold maxLen at h4; omega) (hvg _ rfl) hv
end Go.Proofs.YtaemgflhgdlmiaaGreat
