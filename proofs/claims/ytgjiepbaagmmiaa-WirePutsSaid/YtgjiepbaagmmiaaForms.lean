/- The letters' forms of package wire: the table, and which form a letter has. -/
import Derived.Test.YtgjiepbaagmmiaaBase
namespace Go.Proofs.Ytgjiepbaagmmiaa
open Go.RowKit

/-- letter, how many bytes at most, the function that writes, the one that reads -/
def formRows : List (Nat × Nat × Nat × Nat) := [(98, 1, 23, 24), (104, 2, 23, 24), (72, 2, 25, 26), (119, 4, 23, 24), (87, 4, 25, 26), (113, 8, 23, 24), (81, 8, 25, 26), (118, 10, 27, 28), (122, 10, 29, 30), (110, 9, 29, 30)]
def fRow (k : Nat) : Nat × Nat × Nat × Nat := formRows.getD k (0, 0, 0, 0)
def fCells (r : Nat × Nat × Nat × Nat) : Array Value := #[.int .u8 r.1, .int .i64 r.2.1, .func (.func r.2.2.1) #[] #[], .func (.func r.2.2.2) #[] #[]]
def formsCells : Array Value := (formRows.flatMap fun r => (fCells r).toList).toArray
def zeroCells : Array Value := #[.int .u8 0, .int .i64 0, .nilFunc, .nilFunc]

set_option maxRecDepth 100000 in
set_option maxHeartbeats 1000000 in
theorem forms_any (w : World) :
    Calls Try.prog 22 #[] w fun e w' => e = .returned (.agg formsCells) ∧ Fr S0 w w' := by
  go_enter Try.func22, Try.ntmps22
  iterate 44 go_step
  iterate 3 (first | (refine store_new 64 (.tmp 0) (.tmp 11) rfl rfl rfl rfl (by as_aux_lemma => kernel_rfl) (by as_aux_lemma => kernel_rfl) (by as_aux_lemma => kernel_rfl) ?_) | go_step)
  iterate 3 go_step
  refine bodyPost_ret (v := .agg formsCells) ?_ rfl ⟨rfl, Fr.alloc _ _ _⟩
  exact results_cell_row (ty := 64) Try.results22 _ _ w.heap.size 64 _ (0, 0) _ rfl (heap_alloc_new w _) Try.underlying64 rfl (by as_aux_lemma => kernel_rfl)

/-- what stands at index k of the table -/
theorem fidx0 (w : World) : (Instr.index 64 (.agg formsCells) (.int .i64 (((0 : Nat)) : Int))).run Try.prog w = .ok (.agg (fCells (fRow 0))) w := by kernel_rfl
theorem fidx1 (w : World) : (Instr.index 64 (.agg formsCells) (.int .i64 (((1 : Nat)) : Int))).run Try.prog w = .ok (.agg (fCells (fRow 1))) w := by kernel_rfl
theorem fidx2 (w : World) : (Instr.index 64 (.agg formsCells) (.int .i64 (((2 : Nat)) : Int))).run Try.prog w = .ok (.agg (fCells (fRow 2))) w := by kernel_rfl
theorem fidx3 (w : World) : (Instr.index 64 (.agg formsCells) (.int .i64 (((3 : Nat)) : Int))).run Try.prog w = .ok (.agg (fCells (fRow 3))) w := by kernel_rfl
theorem fidx4 (w : World) : (Instr.index 64 (.agg formsCells) (.int .i64 (((4 : Nat)) : Int))).run Try.prog w = .ok (.agg (fCells (fRow 4))) w := by kernel_rfl
theorem fidx5 (w : World) : (Instr.index 64 (.agg formsCells) (.int .i64 (((5 : Nat)) : Int))).run Try.prog w = .ok (.agg (fCells (fRow 5))) w := by kernel_rfl
theorem fidx6 (w : World) : (Instr.index 64 (.agg formsCells) (.int .i64 (((6 : Nat)) : Int))).run Try.prog w = .ok (.agg (fCells (fRow 6))) w := by kernel_rfl
theorem fidx7 (w : World) : (Instr.index 64 (.agg formsCells) (.int .i64 (((7 : Nat)) : Int))).run Try.prog w = .ok (.agg (fCells (fRow 7))) w := by kernel_rfl
theorem fidx8 (w : World) : (Instr.index 64 (.agg formsCells) (.int .i64 (((8 : Nat)) : Int))).run Try.prog w = .ok (.agg (fCells (fRow 8))) w := by kernel_rfl
theorem fidx9 (w : World) : (Instr.index 64 (.agg formsCells) (.int .i64 (((9 : Nat)) : Int))).run Try.prog w = .ok (.agg (fCells (fRow 9))) w := by kernel_rfl
theorem forms_index (k : Nat) (hk : k < 10) (w : World) : (Instr.index 64 (.agg formsCells) (.int .i64 (k : Int))).run Try.prog w = .ok (.agg (fCells (fRow k))) w := by
  match k, hk with
  | 0, _ => exact fidx0 w
  | 1, _ => exact fidx1 w
  | 2, _ => exact fidx2 w
  | 3, _ => exact fidx3 w
  | 4, _ => exact fidx4 w
  | 5, _ => exact fidx5 w
  | 6, _ => exact fidx6 w
  | 7, _ => exact fidx7 w
  | 8, _ => exact fidx8 w
  | 9, _ => exact fidx9 w

/-- which row a letter has -/
def fIdx (c : Nat) : Option Nat := formRows.findIdx? fun r => r.1 == c
theorem letters_apart (k j : Nat) (hk : k < 10) (hj : j < k) : (fRow j).1 ≠ (fRow k).1 := by
  have : ∀ k : Fin 10, ∀ j : Fin 10, j.1 < k.1 → (fRow j.1).1 ≠ (fRow k.1).1 := by decide
  exact this ⟨k, hk⟩ ⟨j, by omega⟩ hj
theorem info_form : (Try.prog.info? 50).map (fun i => (i.zero, i.size, i.bytes)) = some (some (.agg zeroCells), 4, 32) := by kernel_rfl

end Go.Proofs.Ytgjiepbaagmmiaa
