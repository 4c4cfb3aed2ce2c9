/- Which form a letter has. -/
import Derived.Test.YtgjiepbaagmmiaaForms
namespace Go.Proofs.Ytgjiepbaagmmiaa
open Go.RowKit

theorem forms_index' (k : Nat) (hk : k < 10) (w : World) : (Instr.index 64 (.agg formsCells) (.int .i64 (k : Int))).run Try.prog w =
    .ok (.agg #[.int .u8 ((fRow k).1 : Nat), .int .i64 ((fRow k).2.1 : Nat), .func (.func (fRow k).2.2.1) #[] #[], .func (.func (fRow k).2.2.2) #[] #[]]) w := forms_index k hk w

theorem oneForm (a b : Int) (p q : FuncId) : (#[Value.int .u8 a, .int .i64 b, .func (.func p) #[] #[], .func (.func q) #[] #[]]).all (·.oneCell') = true := by simp [Value.oneCell']
theorem oneZero : (#[Value.int .u8 0, .int .i64 0, .nilFunc, .nilFunc]).all (·.oneCell') = true := by simp [Value.oneCell']
theorem szForm : (Try.prog.info? 50).map (·.size) = some 4 := by kernel_rfl

set_option maxRecDepth 100000 in
set_option maxHeartbeats 1000000 in
theorem formOf_yes (k c : Nat) (hk : k < 10) (hc : (fRow k).1 = c) (w : World) :
    Calls Try.prog 20 #[.int .u8 (c : Nat)] w fun e w' => e = .returned (.tuple #[.agg (fCells (fRow k)), .bool true]) ∧ Fr S0 w w' := by
  have HC := Lib.hid hc
  clear hc
  go_enter Try.func20, Try.ntmps20
  go_wp2_with (go_at_call 22; refine (forms_any _).mono ?_; rintro e w' ⟨rfl, hf⟩)
  go_loopw [5, 7] (fun _ i wr => ∃ j : Nat, j ≤ k ∧ i = .int .i64 j ∧ wr.heap[w.heap.size]? = some (.cells zeroCells 50 (0, 0)) ∧ Fr S0 w wr) (fun _ i _ => 10 - (intOf i).toNat)
  case atStart => exact ⟨0, by omega, rfl, hf.row (heap_alloc_new w _) (fun h => h), (Fr.alloc S0 w _).trans0 hf⟩
  case round =>
    obtain ⟨j, hj, rfl, hz, hfr⟩ := hrel
    have hj10 : (j : Int) < 10 := by omega
    have hidx := forms_index' j (by omega)
    by_cases hjk : j = k
    · subst hjk
      have ht : (((fRow j).1 : Int) == (c : Int)) = true := by rw [HC.out]; simp
      have hz' := (Fr.alloc S0 wr (.cells (fCells (fRow j)) 50)).row hz (fun h => h)
      go_wp2_with ((with_reducible show wpList _ _ _ (Oper.mk _ (.store _ (.tmp 2) (.tmp 14)) _ _ _ _ :: _) _ _); refine store_at 50 (.tmp 2) (.tmp 14) rfl rfl rfl rfl hz' szForm rfl (oneForm _ _ _ _) ?_)
      intro w2 hb hfr2
      go_wp2
      refine bodyPost_ret (results_row_tmp Try.results20 _ _ rfl hb Try.underlying50 rfl szForm rfl) rfl ⟨rfl, ?_⟩
      exact (hfr.trans0 (Fr.alloc S0 wr _)).trans hfr2 (fun k hk e => by subst e; omega)
    · have hlt : j < k := by omega
      have ht : (((fRow j).1 : Int) == (c : Int)) = false := by
        have := letters_apart k j hk hlt
        rw [HC.out] at this
        simp; omega
      go_wp2
      go_roundw
      case rel => exact ⟨j + 1, by omega, by go_num, (Fr.alloc S0 wr _).row hz (fun h => h), hfr.trans0 (Fr.alloc S0 wr _)⟩
      case measure => simp [intOf]; omega

set_option maxRecDepth 100000 in
set_option maxHeartbeats 1000000 in
theorem formOf_no (c : Nat) (hc : ∀ k, k < 10 → (fRow k).1 ≠ c) (w : World) :
    Calls Try.prog 20 #[.int .u8 (c : Nat)] w fun e w' => e = .returned (.tuple #[.agg zeroCells, .bool false]) ∧ Fr S0 w w' := by
  have HC := Lib.hid hc
  clear hc
  go_enter Try.func20, Try.ntmps20
  go_wp2_with (go_at_call 22; refine (forms_any _).mono ?_; rintro e w' ⟨rfl, hf⟩)
  go_loopw [5, 7] (fun _ i wr => ∃ j : Nat, j ≤ 10 ∧ i = .int .i64 j ∧ wr.heap[w.heap.size]? = some (.cells zeroCells 50 (0, 0)) ∧ Fr S0 w wr) (fun _ i _ => 10 - (intOf i).toNat)
  case atStart => exact ⟨0, by omega, rfl, hf.row (heap_alloc_new w _) (fun h => h), (Fr.alloc S0 w _).trans0 hf⟩
  case round =>
    obtain ⟨j, hj, rfl, hz, hfr⟩ := hrel
    by_cases hj10 : (j : Int) < 10
    · have hidx := forms_index' j (by omega)
      have ht : (((fRow j).1 : Int) == (c : Int)) = false := by
        have := HC.out j (by omega)
        simp; omega
      go_wp2
      go_roundw
      case rel => exact ⟨j + 1, by omega, by go_num, (Fr.alloc S0 wr _).row hz (fun h => h), hfr.trans0 (Fr.alloc S0 wr _)⟩
      case measure => simp [intOf]; omega
    · go_wp2_with ((with_reducible show wpList _ _ _ (Oper.mk _ (.store _ (.tmp 2) (.tmp 16)) _ _ _ _ :: _) _ _); refine store_at 50 (.tmp 2) (.tmp 16) rfl rfl rfl rfl hz szForm rfl oneZero ?_)
      intro w2 hb hfr2
      go_wp2
      refine bodyPost_ret (results_row_tmp Try.results20 _ _ rfl hb Try.underlying50 rfl szForm rfl) rfl ⟨rfl, ?_⟩
      exact hfr.trans hfr2 (fun k hk e => by subst e; omega)
end Go.Proofs.Ytgjiepbaagmmiaa
