/- ZlNext, ZlOpen -/
import Derived.Test.YtnndgpggjlhhpaaGreatPa1
import Derived.Test.YtnndgpggjlhhpaaGreatPa2
import Derived.Test.YtnndgpggjlhhpaaGreatPa15
import Derived.Test.YtnndgpggjlhhpaaGreatPa19
import Derived.Test.YtnndgpggjlhhpaaGreatPa20
import Derived.Test.YtnndgpggjlhhpaaGreatPa21
import Derived.Test.YtnndgpggjlhhpaaGreatPa22
import Derived.Test.YtnndgpggjlhhpaaGreatPa23
import Derived.WalkKit
import Derived.StillTailTactics
import Derived.WalkSpells
import Derived.WalkLawsBesides
import Derived.Deep.QuietTactic
import Derived.BigQuiet
import Derived.RegionTactic
import Derived.Deep.AppendLies
import Derived.Deep.RegionLaw
import Derived.Laws.ResultCell
import Derived.Laws.EntriesVeiled
import Derived.Lib.Hide
import Derived.Test.YtnndgpggjlhhpaaGreatRows
import Derived.Laws.BytesArg
import Derived.Lib.SlBytesConst
import Derived.Maps.AppendAt
import Derived.Laws.AppendOwnNone
import Derived.Laws.MakeOwn
import Derived.BigRegion
import Derived.Laws.OwnMore
import Derived.IntWalk
import Derived.Lib.MakeNoZero
import Derived.Laws.CopyOwn
import Derived.Laws.Tables
import Derived.Defers
import Derived.Recover
import Derived.Deep.RegionHeld3
import Derived.Stop.BytesEq
import Derived.Laws.Cover3
/- What an opening goes through: bytes, the head, the end. -/
namespace Go.Proofs.YtnndgpggjlhhpaaGreat
open Go.RowKit

/-- block g is an opening that has the bytes l left -/
structure OpnIs (w : World) (g B o n c : Nat) (l : List Nat) : Prop where
  blk : w.heap[g]? = some (.cells #[.slice (some ⟨B, o, none⟩) n c] 148 (0, 0))
  sl : SlI w .u8 (some ⟨B, o, none⟩) l
  len : l.length = n
  cap : n ≤ c ∧ c ≤ maxLen
  ne : B ≠ g
theorem OpnIs.fr0 {w w' : World} {g B o n c : Nat} {l : List Nat} (h : OpnIs w g B o n c l) (f : Fr S0 w w') : OpnIs w' g B o n c l := ⟨f.row h.blk (fun h => h), h.sl.fr0 f, h.len, h.cap, h.ne⟩
theorem OpnIs.c0 {w : World} {g B o n c : Nat} {l : List Nat} (h : OpnIs w g B o n c l) : w.cell? ⟨g, 0, none⟩ = some (.slice (some ⟨B, o, none⟩) n c) := by simp [World.cell?, h.blk]
theorem OpnIs.go {w : World} {g B o n c : Nat} {l : List Nat} (h : OpnIs w g B o n c l) (m o' : Nat) (hm : m ≤ n) (ho : m < c → o' = o + m) :
    OpnIs (w.setCell ⟨g, 0, none⟩ (.slice (some ⟨B, o', none⟩) (n - m) (c - m))) g B o' (n - m) (c - m) (l.drop m) ∧ Fr (· = g) w (w.setCell ⟨g, 0, none⟩ (.slice (some ⟨B, o', none⟩) (n - m) (c - m))) := by
  have f : Fr (· = g) w (w.setCell ⟨g, 0, none⟩ (.slice (some ⟨B, o', none⟩) (n - m) (c - m))) := Fr.setCell _ _ _ _ rfl
  have hl := h.len
  have hc := h.cap
  refine ⟨⟨by rw [heap_setCell_same w g 0 _ _ _ h.blk]; rfl, ?_, by rw [List.length_drop]; omega, by omega, h.ne⟩, f⟩
  by_cases q : m < n
  · have e := ho (by omega)
    subst e
    exact (h.sl.fr f (fun _ a e => by simp only [Option.some.injEq] at e; subst e; exact h.ne)).drop m
  · rw [List.drop_eq_nil_of_le (by omega)]
    exact SlI.nil _ _ _

end Go.Proofs.YtnndgpggjlhhpaaGreat

/- What a wrapped stream tells. -/
namespace Go.Proofs.YtnndgpggjlhhpaaGreat
open Go.RowKit

/-- how opening ends -/
def OpenEnds (x : Res (List Nat)) (w : World) (e : Ending) (w' : World) : Prop :=
  Fr S0 w w' ∧ match x with
  | .ok T _ => ∃ v, e = .returned (.tuple #[v, .int .i64 0]) ∧ RowNew w w' v T
  | .no m => e = .returned (.tuple #[.slice none 0 0, .int .i64 (m : Nat)])
theorem OpenEnds.ok {x : Res (List Nat)} {w w' : World} {T : List Nat} {k : Nat} {v : Value} (h : x = .ok T k) (hf : Fr S0 w w') (hv : RowNew w w' v T) : OpenEnds x w (.returned (.tuple #[v, .int .i64 0])) w' := by subst h; exact ⟨hf, v, rfl, hv⟩
theorem OpnIs.fr {S : Nat → Prop} {w w' : World} {g B o n c : Nat} {l : List Nat} (h : OpnIs w g B o n c l) (f : Fr S w w') (hg : ¬ S g) (hB : ¬ S B) : OpnIs w' g B o n c l :=
  ⟨f.row h.blk hg, h.sl.fr f (fun _ a e => by simp only [Option.some.injEq] at e; subst e; exact hB), h.len, h.cap, h.ne⟩
theorem set_first {w : World} {g : Nat} {x y : Value} {t : TypeId} (h : w.heap[g]? = some (.cells #[x] t (0, 0))) : (w.setCell ⟨g, 0, none⟩ y).heap[g]? = some (.cells #[y] t (0, 0)) := by rw [heap_setCell_same w g 0 _ _ _ h]; rfl
/-- the two variables stand, and what the opening has lies behind them -/
structure Two (w0 w : World) (v : Value) (e : Int) : Prop where
  c1 : w.heap[w0.heap.size]? = some (.cells #[v] 31 (0, 0))
  c2 : w.heap[w0.heap.size + 1]? = some (.cells #[.int .i64 e] 36 (0, 0))
  fr : Fr S0 w0 w
theorem Two.to {w0 w w' : World} {g : Nat} {v : Value} {e : Int} (h : Two w0 w v e) (f : Fr (· = g) w w') (hg : w0.heap.size + 2 ≤ g) : Two w0 w' v e :=
  ⟨f.row h.c1 (by omega), f.row h.c2 (by omega), h.fr.trans f (fun j hj e => by omega)⟩
end Go.Proofs.YtnndgpggjlhhpaaGreat
