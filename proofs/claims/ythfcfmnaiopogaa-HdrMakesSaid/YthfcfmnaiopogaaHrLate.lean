/- The document's histograms: the values that a late one hid. -/
import Derived.Test.YthfcfmnaiopogaaHrTake
namespace Go.Proofs.Ythfcfmnaiopogaa
open Go.RowKit

theorem info_int64 : (Try.prog.info? 2).map (fun i => (i.zero, i.size, i.bytes)) = some (some (.int .i64 0), 1, 8) := by kernel_rfl
def zs (l : List Int) : List Value := l.map fun x => .int .i64 x
/-- a row of whole numbers that is being made, new to w -/
structure AccZ (w wr : World) (v : Value) (N : Nat) (L : List Int) : Prop where
  own : wr.ownsRow 0 2 1 v N (zs L)
  fresh : Fresh w v
  fr : Fr S0 w wr
theorem AccZ.len {w wr : World} {v : Value} {N : Nat} {L : List Int} (h : AccZ w wr v N L) : L.length = N := by
  have := h.own.1
  simpa [zs] using this
theorem AccZ.fr0 {w wr w2 : World} {v : Value} {N : Nat} {L : List Int} (h : AccZ w wr v N L) (f : Fr S0 wr w2) : AccZ w w2 v N L := ⟨f.owns h.own fun _ _ h => h, h.fresh, h.fr.trans0 f⟩
theorem AccZ.one (w : World) (x : Int) : AccZ w (w.alloc (.cells #[.int .i64 x] 2)) (.slice (some ⟨w.heap.size, 0, none⟩) 1 1) 1 [x] :=
  ⟨own_one w _ _, fresh_made (Fr.refl S0 w), Fr.alloc _ _ _⟩
theorem AccZ.app {w wr w3 : World} {v : Value} {N : Nat} {L : List Int} {o : Obj} {g cap : Nat} {x : Int} (h : AccZ w wr v N L) (own : w3.ownsRow 0 2 1 (.slice (some ⟨g, 0, none⟩) (N + 1) cap) (N + 1) (zs L ++ #[Value.int .i64 x].toList))
    (hg : (wr.alloc o).grownBy w3 v.ownBlock) (hat : v.ownBlock = some g ∨ g = wr.heap.size + 1) : AccZ w w3 (.slice (some ⟨g, 0, none⟩) (N + 1) cap) (N + 1) (L ++ [x]) :=
  ⟨by rw [show zs (L ++ [x]) = zs L ++ #[Value.int .i64 x].toList by simp [zs]]; exact own, fresh_app h.fr h.fresh hat, (h.fr.trans0 (Fr.alloc S0 wr _)).append hg h.fresh⟩

def lates (v e : Int) : Nat → List Int
  | 0 => [v]
  | j + 1 => lates v e j ++ [v - (j + 1 : Nat) * e]
/-- how a document ends that tells these values -/
def LateEnds (w w' : World) (e : Ending) (v x : Int) : Prop := (4096 < Hm.more v x ∧ e = .returned (.tuple #[.slice none 0 0, .bool false]) ∧ Fr S0 w w') ∨ (Hm.more v x ≤ 4096 ∧ ∃ r, e = .returned (.tuple #[r, .bool true]) ∧ AccZ w w' r (Hm.more v x + 1) (lates v x (Hm.more v x)))
theorem more_lt {V E j : Nat} (hV : 0 < V) (hE : 0 < E) : j < Hm.more V E ↔ (j + 2) * E ≤ V := by
  have e : Hm.more (V : Int) (E : Int) = V / E - 1 := by
    unfold Hm.more
    rw [if_neg (by omega), ← Int.natCast_ediv]; omega
  rw [e, ← Nat.le_div_iff_mul_le hE]
  generalize V / E = Q
  omega

end Go.Proofs.Ythfcfmnaiopogaa
