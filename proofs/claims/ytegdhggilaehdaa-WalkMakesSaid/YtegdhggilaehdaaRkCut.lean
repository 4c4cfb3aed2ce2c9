/- What Cut does: ranks gathered from a function value. -/
import Derived.Test.YtegdhggilaehdaaRkRank
import Derived.Test.YtegdhggilaehdaaWdRef
namespace Go.Proofs.Ytegdhggilaehdaa
open Go.RowKit

set_option maxRecDepth 100000 in
set_option maxHeartbeats 400000 in
theorem told_any (g1 g2 i k n : Nat) (w : World) (c1 : w.cell? ⟨g1, 0, none⟩ = some (.int .i64 (k : Int))) (c2 : w.cell? ⟨g2, 0, none⟩ = some (.int .u64 (n : Int)))
    (hn : n < 18446744073709551616) (n0 : 0 < n) (hk : k ≤ 1000) (hi : i < k) :
    Calls Try.prog 52 #[.int .i64 (i : Int), .pointer (some ⟨g1, 0, none⟩), .pointer (some ⟨g2, 0, none⟩)] w fun e w' => e = .returned (.int .u64 (rnk i k n : Nat)) ∧ Fr S0 w w' := by
  have HR := Lib.hid (fun W => rank_yes i k n W hn (by omega) n0 (by omega) (by omega))
  obtain ⟨R, hR⟩ : ∃ R, rnk i k n = R := ⟨_, rfl⟩
  rw [hR] at HR ⊢
  clear hR n0
  go_enter Try.func52, Try.ntmps52
  go_wp2_with fail
  refine (HR.out _).mono ?_
  rintro e w1 ⟨rfl, f1⟩
  go_wp2
  go_ret
  exact ⟨rfl, f1⟩

theorem cell_new (w : World) (x : Value) (t : TypeId) : (w.alloc (.cells #[x] t)).cell? ⟨w.heap.size, 0, none⟩ = some x := by
  rw [World.cell?, heap_alloc_new w _]
  rfl
theorem row_len {w : World} {g c m : Nat} {l : List Nat} (own : w.ownsRow 0 29 1 (.slice (some ⟨g, 0, none⟩) m c) m (u64s l)) : l.length = m := by
  have := own.1
  unfold u64s at this
  simpa using this
theorem rowm_at {w : World} {g c m : Nat} {l : List Nat} (own : w.ownsRow 0 29 1 (.slice (some ⟨g, 0, none⟩) m c) m (u64s l)) (j : Nat) (hj : j < m) : w.cell? ⟨g, j, none⟩ = some (.int .u64 (l.getD j 0 : Nat)) := by
  have hl := row_len own
  rw [own.cellAt j (by omega), List.getD_eq_getElem?_getD]
  unfold u64s
  rw [List.getElem?_map, List.getElem?_eq_getElem (by omega)]
  rfl
theorem rowm_set {w w0 : World} {g c m : Nat} {l : List Nat} (own : w.ownsRow 0 29 1 (.slice (some ⟨g, 0, none⟩) m c) m (u64s l)) (f : Fr S0 w0 w) (hg : w0.heap.size ≤ g) (j v : Nat) :
    (w.setCell ⟨g, j, none⟩ (.int .u64 (v : Int))).ownsRow 0 29 1 (.slice (some ⟨g, 0, none⟩) m c) m (u64s (l.set j v)) ∧ Fr S0 w0 (w.setCell ⟨g, j, none⟩ (.int .u64 (v : Int))) := by
  obtain ⟨ho, hgr⟩ := own.stored j (.int .u64 (v : Int))
  refine ⟨?_, f.append hgr fun k hk => by simp only [Option.some.injEq] at hk; omega⟩
  unfold u64s at ho ⊢
  rw [List.map_set]
  exact ho
/-- n zeros -/
def zeros (n : Nat) : Array Value := madeCells #[.int .u64 0] n
theorem make_u64 (w : World) (n : Nat) (hn : n ≤ 100000) : (Instr.makeSlice 77 (.int .i64 (n : Nat)) (.int .i64 (n : Nat))).run Try.prog w = .ok (.slice (some ⟨w.heap.size, 0, none⟩) n n) (w.alloc (.cells (zeros n) 29)) := by
  obtain ⟨i, hi, hz, hs, hb⟩ := info_parts info_u64
  have := run_make w 77 29 i _ Try.underlying77 hi hz .i64 .i64 (n : Int) (n : Int) (by omega) (by omega) (by rw [hb]; omega) (by omega)
  rw [this, hs, Nat.mul_one, Int.toNat_natCast]
  rfl
theorem zeros_own (w : World) (n : Nat) (hn : n ≤ 100000) : (w.alloc (.cells (zeros n) 29)).ownsRow 0 29 1 (.slice (some ⟨w.heap.size, 0, none⟩) n n) n (u64s (List.replicate n 0)) := by
  refine ⟨by simp [u64s], .inr ⟨w.heap.size, n, zeros n, rfl, Nat.zero_le _, heap_alloc_new w _, Nat.le_refl _, by unfold maxLen; omega, by simp [zeros, size_madeCells], ?_⟩⟩
  unfold zeros
  rw [toList_madeCells_one, List.take_of_length_le (by simp)]
  unfold u64s
  rw [List.map_replicate]
  rfl

/-- the first j of a cut's ranks are told -/
def Told (m k n j : Nat) (l : List Nat) : Prop := l.length = m ∧ ∀ i, i < j → l.getD i 0 = rnk (i + 1) k n
theorem Told.step {m k n j : Nat} {l : List Nat} (h : Told m k n j l) (hj : j < m) : Told m k n (j + 1) (l.set j (rnk (j + 1) k n)) := by
  obtain ⟨h1, h2⟩ := h
  refine ⟨by rw [List.length_set]; exact h1, fun i hi => ?_⟩
  rw [List.getD_eq_getElem?_getD, List.getElem?_set]
  by_cases e : j = i
  · subst e
    rw [if_pos rfl, if_pos (by omega)]
    rfl
  · rw [if_neg e, ← List.getD_eq_getElem?_getD]
    exact h2 i (by omega)

/-- a row of ranks that is new to w -/
def Ranks (w w' : World) (v : Value) (m k n : Nat) : Prop := ∃ p c l, v = .slice p m c ∧ SlI w' .u64 p l ∧ Told m k n m l ∧ Fr S0 w w'

set_option maxRecDepth 100000 in
set_option maxHeartbeats 1000000 in
theorem gather_any (g1 g2 m k n : Nat) (w : World) (c1 : w.cell? ⟨g1, 0, none⟩ = some (.int .i64 (k : Int))) (c2 : w.cell? ⟨g2, 0, none⟩ = some (.int .u64 (n : Int)))
    (hn : n < 18446744073709551616) (n0 : 0 < n) (hk : k ≤ 1000) (hm : m + 1 = k) :
    Calls Try.prog 51 #[.int .i64 (m : Int), .func (.func 52) #[] #[.pointer (some ⟨g1, 0, none⟩), .pointer (some ⟨g2, 0, none⟩)]] w fun e w' => ∃ v, e = .returned v ∧ Ranks w w' v m k n := by
  have HT : Hid (∀ (i : Nat) (W : World), Fr S0 w W → i < k → Calls Try.prog 52 #[.int .i64 (i : Int), .pointer (some ⟨g1, 0, none⟩), .pointer (some ⟨g2, 0, none⟩)] W fun e w' => e = .returned (.int .u64 (rnk i k n : Nat)) ∧ Fr S0 W w') :=
    Lib.hid fun i W f hi => told_any g1 g2 i k n W (f.cell c1 fun h => h) (f.cell c2 fun h => h) hn n0 hk hi
  have HMK := make_u64 w m (by omega)
  have HO := Lib.hid (zeros_own w m (by omega))
  have HF : Hid (Fr S0 w (w.alloc (.cells (zeros m) 29))) := Lib.hid (Fr.alloc _ _ _)
  have hm9 : m < 1000 := by omega
  have HKM := Lib.hid hm
  obtain ⟨g, hg⟩ : ∃ g, w.heap.size = g := ⟨_, rfl⟩
  have HG : Hid (w.heap.size ≤ g) := Lib.hid (by omega)
  rw [hg] at HMK HO
  clear c1 c2 hn n0 hk hm hg
  go_enter Try.func51, Try.ntmps51
  go_wp2_with fail
  generalize w.alloc (.cells (zeros m) 29) = w1 at HO HF ⊢
  go_loopw [6, 10] (fun _ y wr => ∃ (j : Nat) (l : List Nat), j ≤ m ∧ y = .int .i64 (j : Int) ∧ Hid (Told m k n j l) ∧ Hid (Fr S0 w wr) ∧ Hid (wr.ownsRow 0 29 1 (.slice (some ⟨g, 0, none⟩) m m) m (u64s l))) (fun _ y _ => m - (intOf y).toNat)
  case atStart => exact ⟨0, _, by omega, rfl, Lib.hid ⟨row_len HO.out, fun i hi => absurd hi (Nat.not_lt_zero i)⟩, HF, HO⟩
  case round =>
    obtain ⟨j, l, hj, rfl, ht, hf, ho⟩ := hrel
    by_cases hlt : (j : Int) < (m : Int)
    · have HC := Lib.hid (HT.out (j + 1) wr hf.out (by have := HKM.out; omega))
      have HS := Lib.hid (ht.out.step (by omega))
      obtain ⟨R, hR⟩ : ∃ R, rnk (j + 1) k n = R := ⟨_, rfl⟩
      rw [hR] at HC HS
      clear ht hR
      go_wp2_with fail
      refine (HC.out).mono ?_
      rintro e w2 ⟨rfl, f2⟩
      have own := f2.owns ho.out fun _ _ h => h
      have z0 := own.frozenAt j
      have c0 := rowm_at own j (by omega)
      have HX := Lib.hid (rowm_set own (hf.out.trans0 f2) HG.out j R)
      clear HC ho hf own f2
      go_wp2_with fail
      go_roundw
      case rel => exact ⟨j + 1, _, by omega, by go_num, HS, Lib.hid HX.out.2, Lib.hid HX.out.1⟩
      case measure => simp [intOf]; omega
    · obtain rfl : j = m := by omega
      have HE : Hid (Ranks w wr (.slice (some ⟨g, 0, none⟩) j j) j k n) := Lib.hid ⟨_, _, l, rfl, SlI.ofOwns ho.out, ht.out, hf.out⟩
      clear ht hf ho
      go_wp2
      go_ret
      exact ⟨_, rfl, HE.out⟩

set_option maxRecDepth 100000 in
set_option maxHeartbeats 1000000 in
theorem cut_arg (n : Nat) (k : Int) (w : World) (h : k < 1 ∨ 1000 < k) :
    Calls Try.prog 40 #[.int .u64 (n : Int), .int .i64 k] w fun e w' => e = .returned (.tuple #[.slice none 0 0, .int .i64 1]) ∧ Fr S0 w w' := by
  by_cases h0 : k < 1
  · clear h
    go_enter Try.func40, Try.ntmps40
    go_wp2
    go_ret2
    exact ⟨rfl, (Fr.alloc _ _ _).trans0 (Fr.alloc _ _ _)⟩
  · have h1 : k > 1000 := by omega
    clear h
    go_enter Try.func40, Try.ntmps40
    go_wp2
    go_ret2
    exact ⟨rfl, (Fr.alloc _ _ _).trans0 (Fr.alloc _ _ _)⟩

set_option maxRecDepth 100000 in
set_option maxHeartbeats 1000000 in
theorem pcut_none (k : Int) (w : World) (h1 : 1 ≤ k) (h2 : k ≤ 1000) :
    Calls Try.prog 40 #[.int .u64 0, .int .i64 k] w fun e w' => e = .returned (.tuple #[.slice none 0 0, .int .i64 8]) ∧ Fr S0 w w' := by
  have d1 : decide (k < 1) = false := decide_eq_false (by omega)
  have d2 : decide (1000 < k) = false := decide_eq_false (by omega)
  clear h1 h2
  go_enter Try.func40, Try.ntmps40
  go_wp2
  go_ret2
  exact ⟨rfl, (Fr.alloc _ _ _).trans0 (Fr.alloc _ _ _)⟩

end Go.Proofs.Ytegdhggilaehdaa
