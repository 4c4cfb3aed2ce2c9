/- copy and clear of elements of several cells; slices.Delete. -/
import Derived.Test.YtibgjmlgjmnheaaSpSto
import Derived.Laws.CopyOwn
import Derived.Lib.Overlaps
import Derived.Laws.Externs
import Derived.Lib.AppendZerosOnto
import Derived.Laws.OwnMore
import Derived.Deep.RegionLaw
namespace Go.Proofs.Ytibgjmlgjmnheaa
open Go.RowKit

section
variable {P : Program}
theorem run_copyK (w : World) (dT sT ty elem : TypeId) (g o dLen dCap : Nat) (a : Addr) (sLen sCap k : Nat) (cur : List Value) (t : TypeId) (cs : List Value)
    (hu : P.underlying dT = some (.slice elem)) (hs : (P.info? elem).map (·.size) = some k)
    (hg : w.heap[g]? = some (.cells cur.toArray t (0, 0))) (hn : cs.length = Nat.min sLen dLen * k)
    (hsrc : ∀ j v, cs[j]? = some v → w.cell? (a.add j) = some v) (hfit : o + cs.length ≤ cur.length) (h1 : ∀ v ∈ cs, v.oneCell' = true) :
    (Builtin.copy_ #[dT, sT] ty #[.slice (some ⟨g, o, none⟩) dLen dCap, .slice (some a) sLen sCap]).run P w =
      .ok (goInt (Nat.min sLen dLen)) (w.setRow g (splice cur o cs).toArray) := by
  have hl := run_loadCells_list (P := P) w a cs hsrc
  have hst := run_storeCells_at P g o t cs 0 cur.toArray w hg (by simpa using hfit) h1
  cases hq : P.info? elem with
  | none => simp [hq] at hs
  | some i =>
    have hi : i.size = k := by simpa [hq] using hs
    simp [Builtin.copy_, run_underlying hu, Builtin.lenOf, Builtin.firstCells, sizeOf, typeInfo, hq, hi, ← hn, hl, hst, splice]
theorem wpList_copyK {w : World} {ops : Array Oper} {rest : List Oper} {o : Oper} {a : Act} {Q : Exit → Act → World → Prop} (hgd : o.guard = none) (d s : Operand) (dT sT : TypeId)
    (ho : o.op = .call { callee := .builtin .copy, args := #[d, s], argTypes := #[dT, sT] }) (elem : TypeId) (k : Nat) (hu : P.underlying dT = some (.slice elem)) (hsz : (P.info? elem).map (·.size) = some k)
    {g off dLen dCap : Nat} {ad : Addr} {sLen sCap : Nat} (hd : a.eval d = .slice (some ⟨g, off, none⟩) dLen dCap) (hs : a.eval s = .slice (some ad) sLen sCap)
    (cur : List Value) {t : TypeId} (hg : w.heap[g]? = some (.cells cur.toArray t (0, 0))) (cs : List Value) (hn : cs.length = Nat.min sLen dLen * k)
    (hsrc : ∀ j v, cs[j]? = some v → w.cell? (ad.add j) = some v) (hfit : off + cs.length ≤ cur.length) (h1 : ∀ v ∈ cs, v.oneCell' = true)
    (h : ∀ w', w'.heap[g]? = some (.cells (splice cur off cs).toArray t (0, 0)) → Fr (· = g) w w' → wpList P ops Q rest (a.put o.dst (goInt (Nat.min sLen dLen))) w') : wpList P ops Q (o :: rest) a w := by
  refine wpList_plain hgd fun K hK => ?_
  have hrun := run_copyK (P := P) w dT sT o.type elem g off dLen dCap ad sLen sCap k cur t cs hu hsz hg hn hsrc hfit h1
  unfold Oper.wp
  simp [execOp, ho, resolve, invoke, builtin, hd, hs, hrun, Result.andThen]
  exact hK _ _ (h _ (setRow_heap w g _ _ t _ hg) (Fr.setRow _ w g _ rfl))
theorem step_copyK {w : World} {ops : Array Oper} {o : Oper} {a : Act} {K : Act → World → Prop} {Q : Exit → Act → World → Prop} {E : Prop} (hgd : o.guard = none) (d s : Operand) (dT sT : TypeId)
    (ho : o.op = .call { callee := .builtin .copy, args := #[d, s], argTypes := #[dT, sT] }) (elem : TypeId) (k : Nat) (hu : P.underlying dT = some (.slice elem)) (hsz : (P.info? elem).map (·.size) = some k)
    {g off dLen dCap : Nat} {ad : Addr} {sLen sCap : Nat} (hd : a.eval d = .slice (some ⟨g, off, none⟩) dLen dCap) (hs : a.eval s = .slice (some ad) sLen sCap)
    (cur : List Value) {t : TypeId} (hg : w.heap[g]? = some (.cells cur.toArray t (0, 0))) (cs : List Value) (hn : cs.length = Nat.min sLen dLen * k)
    (hsrc : ∀ j v, cs[j]? = some v → w.cell? (ad.add j) = some v) (hfit : off + cs.length ≤ cur.length) (h1 : ∀ v ∈ cs, v.oneCell' = true)
    (h : ∀ w', w'.heap[g]? = some (.cells (splice cur off cs).toArray t (0, 0)) → Fr (· = g) w w' → K (a.put o.dst (goInt (Nat.min sLen dLen))) w') :
    if Region.wanted o (yielded ops a.tmps) = true then Oper.wp P o a w K Q else E := by
  have hw : Region.wanted o (yielded ops a.tmps) = true := by simp [Region.wanted, hgd]
  rw [if_pos hw]
  have hrun := run_copyK (P := P) w dT sT o.type elem g off dLen dCap ad sLen sCap k cur t cs hu hsz hg hn hsrc hfit h1
  unfold Oper.wp
  simp [execOp, ho, resolve, invoke, builtin, hd, hs, hrun, Result.andThen]
  exact h _ (setRow_heap w g _ _ t _ hg) (Fr.setRow _ w g _ rfl)
theorem copyK_ex (w : World) (dT ty elem : TypeId) (g o dLen dCap : Nat) (a : Addr) (sLen sCap k : Nat) (cur : List Value) (t : TypeId) (cs : List Value) (N : Nat)
    (hu : P.underlying dT = some (.slice elem)) (hs : (P.info? elem).map (·.size) = some k)
    (hg : w.heap[g]? = some (.cells cur.toArray t (0, 0))) (hN : Nat.min sLen dLen = N) (hn : cs.length = N * k)
    (hsrc : ∀ j v, cs[j]? = some v → w.cell? (a.add j) = some v) (hfit : o + cs.length ≤ cur.length) (h1 : ∀ v ∈ cs, v.oneCell' = true) :
    ∃ w', (Builtin.copy_ #[dT, dT] ty #[.slice (some ⟨g, o, none⟩) dLen dCap, .slice (some a) sLen sCap]).run P w = .ok (.int .i64 (N : Int)) w' ∧
      w'.heap[g]? = some (.cells (splice cur o cs).toArray t (0, 0)) ∧ Fr (· = g) w w' := by
  subst hN
  exact ⟨_, run_copyK w dT dT ty elem g o dLen dCap a sLen sCap k cur t cs hu hs hg hn hsrc hfit h1, setRow_heap w g _ _ t _ hg, Fr.setRow _ w g _ rfl⟩
end

/-- two copies, either way, put V between X and Y -/
theorem ins_shift (X Y V R : List Value) (a b : Nat) (hX : X.length = a) (hY : Y.length = b) (hV : V.length = 2) (hR : 2 ≤ R.length) :
    (splice (splice (X ++ Y ++ R) (a + 2) Y) a V).take (a + 2 + b) = X ++ V ++ Y ∧ (splice (splice (X ++ Y ++ R) (a + 2) Y) a V).length = (X ++ Y ++ R).length := by
  subst hX hY
  constructor
  · unfold splice
    have e1 : ((X ++ Y ++ R).take (X.length + 2) ++ (Y ++ (X ++ Y ++ R).drop (X.length + 2 + Y.length))).take X.length = X := by
      rw [List.take_append_of_le_length (by first | (simp; done) | (simp; omega)), List.take_take, Nat.min_eq_left (by omega), List.append_assoc, List.take_left]
    have e2 : ((X ++ Y ++ R).take (X.length + 2) ++ (Y ++ (X ++ Y ++ R).drop (X.length + 2 + Y.length))).drop (X.length + V.length) = Y ++ (X ++ Y ++ R).drop (X.length + 2 + Y.length) := by
      rw [hV, List.drop_left' (by first | (simp; done) | (simp; omega))]
    rw [e1, e2, ← List.append_assoc, ← List.append_assoc, List.take_append_of_le_length (by first | (simp; done) | (simp; omega))]
    exact List.take_of_length_le (by first | (simp; done) | (simp; omega))
  · rw [length_splice _ _ _ (by rw [length_splice _ _ _ (by first | (simp; done) | (simp; omega))]; simp; omega), length_splice _ _ _ (by first | (simp; done) | (simp; omega))]
theorem ins_grow (X Y V Z : List Value) (a b : Nat) (hX : X.length = a) (hY : Y.length = b) (hV : V.length = 2) (hZ : a + 2 + b ≤ Z.length) (hZX : Z.take a = X) :
    (splice (splice Z a V) (a + 2) Y).take (a + 2 + b) = X ++ V ++ Y ∧ (splice (splice Z a V) (a + 2) Y).length = Z.length := by
  subst hX hY
  constructor
  · unfold splice
    rw [hZX]
    have e1 : (X ++ (V ++ Z.drop (X.length + V.length))).take (X.length + 2) = X ++ V := by
      rw [← List.append_assoc, List.take_left' (by first | (simp; done) | (simp; omega))]
    rw [e1, ← List.append_assoc, List.take_append_of_le_length (by first | (simp; done) | (simp; omega))]
    exact List.take_of_length_le (by first | (simp; done) | (simp; omega))
  · rw [length_splice _ _ _ (by rw [length_splice _ _ _ (by omega)]; omega), length_splice _ _ _ (by omega)]
end Go.Proofs.Ytibgjmlgjmnheaa
