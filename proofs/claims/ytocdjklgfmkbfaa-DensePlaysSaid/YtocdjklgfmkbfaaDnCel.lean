/- Spans and cells: what the landed functions on them do. -/
import Derived.Test.YtocdjklgfmkbfaaDnMath
import Derived.Test.YtocdjklgfmkbfaaBytes
import Derived.StillTailTactics
import Derived.BigRegion
namespace Go.Proofs.Ytocdjklgfmkbfaa
open Go.RowKit

theorem info_u64 : (Try.prog.info? 30).map (fun i => (i.zero, i.size, i.bytes)) = some (some (.int .u64 0), 1, 8) := by kernel_rfl
def u64s (bs : List Nat) : List Value := bs.map fun (x : Nat) => Value.int .u64 (x : Int)
/-- a span as a value; cells as a value -/
def spV (a b : Int) : Value := .agg #[.int .i64 a, .int .i64 b]
def ceV (F : Int) (p : Option Addr) (m : Nat) : Value := .agg #[.int .i64 F, .slice p m m]

set_option maxRecDepth 100000 in
set_option maxHeartbeats 400000 in
theorem width_any (a b : Int) (w : World) (h1 : -4000000 ≤ a) (h2 : a ≤ 4000000) (h3 : -4000000 ≤ b) (h4 : b ≤ 4000000) :
    Calls Try.prog 35 #[.agg #[.int .i64 a, .int .i64 b]] w fun e w' => e = .returned (.int .i64 (b - a + 1)) ∧ Fr S0 w w' := by
  go_enter Try.func35, Try.ntmps35
  go_wp2
  go_ret
  exact ⟨rfl, Fr.alloc _ _ _⟩

theorem fr3 (w : World) (a b c : Obj) : Fr S0 w (((w.alloc a).alloc b).alloc c) := ((Fr.alloc _ _ _).trans0 (Fr.alloc _ _ _)).trans0 (Fr.alloc _ _ _)
set_option maxRecDepth 100000 in
set_option maxHeartbeats 400000 in
theorem join_any (a b c d A B : Int) (w : World) (hA : min a c = A) (hB : max b d = B) :
    Calls Try.prog 34 #[.agg #[.int .i64 a, .int .i64 b], .agg #[.int .i64 c, .int .i64 d]] w fun e w' => e = .returned (.agg #[.int .i64 A, .int .i64 B]) ∧ Fr S0 w w' := by
  have HAB := Lib.hid (And.intro hA hB)
  clear hA hB
  go_enter Try.func34, Try.ntmps34
  go_wp2
  all_goals
    obtain ⟨rfl, rfl⟩ := HAB.out
    clear HAB
  · rw [show min a c = c by omega, show max b d = d by omega]
    exact bodyPost_ret (v := .agg #[.int .i64 c, .int .i64 d]) (by simp [results, Try.results34, go_sem]) rfl ⟨rfl, fr3 _ _ _ _⟩
  · rw [show min a c = c by omega, show max b d = b by omega]
    exact bodyPost_ret (v := .agg #[.int .i64 c, .int .i64 b]) (by simp [results, Try.results34, go_sem]) rfl ⟨rfl, fr3 _ _ _ _⟩
  · rw [show min a c = a by omega, show max b d = d by omega]
    exact bodyPost_ret (v := .agg #[.int .i64 a, .int .i64 d]) (by simp [results, Try.results34, go_sem]) rfl ⟨rfl, fr3 _ _ _ _⟩
  · rw [show min a c = a by omega, show max b d = b by omega]
    exact bodyPost_ret (v := .agg #[.int .i64 a, .int .i64 b]) (by simp [results, Try.results34, go_sem]) rfl ⟨rfl, fr3 _ _ _ _⟩

set_option maxRecDepth 100000 in
set_option maxHeartbeats 400000 in
theorem hold_any (F c d : Int) (p : Option Addr) (m : Nat) (w : World) (h1 : -4000000 ≤ F) (h2 : F ≤ 4000000) (hm : m ≤ 100000) :
    Calls Try.prog 36 #[.agg #[.int .i64 F, .slice p m m], .agg #[.int .i64 c, .int .i64 d]] w fun e w' => e = .returned (.bool (decide (F ≤ c) && decide (d < F + (m : Int)))) ∧ Fr S0 w w' := by
  by_cases hF : F ≤ c
  · go_enter Try.func36, Try.ntmps36
    go_wp2
    go_ret
    exact ⟨by simp [hF], (Fr.alloc _ _ _).trans0 (Fr.alloc _ _ _)⟩
  · go_enter Try.func36, Try.ntmps36
    go_wp2
    go_ret
    exact ⟨by rw [show decide (F ≤ c) = false from decide_eq_false (by omega)]; rfl, (Fr.alloc _ _ _).trans0 (Fr.alloc _ _ _)⟩

/-- cells at p, m of them from the key F on, each with what f tells of its key -/
structure Cel (w : World) (h : Nat) (F : Int) (p : Option Addr) (m : Nat) (f : Int → Nat) : Prop where
  row : ∃ R : List Nat, w.ownsRow 0 30 1 (.slice p m m) m (u64s R) ∧ ∀ i, i < m → R.getD i 0 = f (F + (i : Int))
  at' : p = none ∨ p = some ⟨h, 0, none⟩
  F1 : -4000000 ≤ F
  F2 : F ≤ 4000000
  ms : m ≤ 100000
theorem row_len {w : World} {v : Value} {m : Nat} {l : List Nat} (own : w.ownsRow 0 30 1 v m (u64s l)) : l.length = m := by
  have := own.1
  unfold u64s at this
  simpa using this
theorem rowm_at {w : World} {g c m : Nat} {l : List Nat} (own : w.ownsRow 0 30 1 (.slice (some ⟨g, 0, none⟩) m c) m (u64s l)) (j : Nat) (hj : j < m) : w.cell? ⟨g, j, none⟩ = some (.int .u64 (l.getD j 0 : Nat)) := by
  have hl := row_len own
  rw [own.cellAt j (by omega), List.getD_eq_getElem?_getD]
  unfold u64s
  rw [List.getElem?_map, List.getElem?_eq_getElem (by omega)]
  rfl
theorem Cel.fr {S : Nat → Prop} {w w' : World} {h : Nat} {F : Int} {p : Option Addr} {m : Nat} {f : Int → Nat} (k : Cel w h F p m f) (hf : Fr S w w') (hs : p ≠ none → ¬ S h) : Cel w' h F p m f := by
  obtain ⟨R, own, hR⟩ := k.row
  refine ⟨⟨R, hf.owns own fun g hg => ?_, hR⟩, k.at', k.F1, k.F2, k.ms⟩
  rcases k.at' with rfl | rfl
  · cases hg
  · obtain rfl : h = g := Option.some.inj hg
    exact hs (by simp)
theorem Cel.fr0 {w w' : World} {h : Nat} {F : Int} {p : Option Addr} {m : Nat} {f : Int → Nat} (k : Cel w h F p m f) (hf : Fr S0 w w') : Cel w' h F p m f := k.fr hf fun _ h => h
theorem Cel.some {w : World} {h : Nat} {F : Int} {p : Option Addr} {m : Nat} {f : Int → Nat} (k : Cel w h F p m f) (hm : 0 < m) : p = Option.some ⟨h, 0, none⟩ := by
  rcases k.at' with rfl | e
  · obtain ⟨R, own, -⟩ := k.row
    rcases own.2 with ⟨h1, h2⟩ | ⟨g, c, cur, h1, -⟩
    · omega
    · simp at h1
  · exact e
theorem Cel.cell {w : World} {h : Nat} {F : Int} {p : Option Addr} {m : Nat} {f : Int → Nat} (k : Cel w h F p m f) (i : Nat) (hi : i < m) : w.cell? ⟨h, i, none⟩ = Option.some (.int .u64 (f (F + (i : Int)) : Nat)) := by
  obtain rfl := k.some (by omega)
  obtain ⟨R, own, hR⟩ := k.row
  rw [rowm_at own i hi, hR i hi]
theorem Cel.frozen {w : World} {h : Nat} {F : Int} {p : Option Addr} {m : Nat} {f : Int → Nat} (k : Cel w h F p m f) (i : Nat) (hi : i < m) : w.frozen? ⟨h, i, none⟩ = false := by
  obtain rfl := k.some (by omega)
  obtain ⟨R, own, -⟩ := k.row
  exact own.frozenAt i
theorem Cel.lt {w : World} {h : Nat} {F : Int} {p : Option Addr} {m : Nat} {f : Int → Nat} (k : Cel w h F p m f) (hm : 0 < m) : h < w.heap.size := World.block_lt_of_cell? w _ (k.cell 0 hm)
theorem Cel.congr {w : World} {h : Nat} {F : Int} {p : Option Addr} {m : Nat} {f f' : Int → Nat} (k : Cel w h F p m f) (e : ∀ i : Nat, i < m → f (F + (i : Int)) = f' (F + (i : Int))) : Cel w h F p m f' := by
  obtain ⟨R, own, hR⟩ := k.row
  exact ⟨⟨R, own, fun i hi => (hR i hi).trans (e i hi)⟩, k.at', k.F1, k.F2, k.ms⟩
theorem Cel.set {w : World} {h : Nat} {F : Int} {p : Option Addr} {m : Nat} {f f' : Int → Nat} (k : Cel w h F p m f) (i : Nat) (hi : i < m) (v : Nat) (e : ∀ j : Nat, j < m → f' (F + (j : Int)) = if j = i then v else f (F + (j : Int))) :
    Cel (w.setCell ⟨h, i, none⟩ (.int .u64 (v : Int))) h F p m f' ∧ Fr (· = h) w (w.setCell ⟨h, i, none⟩ (.int .u64 (v : Int))) := by
  obtain rfl := k.some (by omega)
  obtain ⟨R, own, hR⟩ := k.row
  obtain ⟨ho, -⟩ := own.stored i (.int .u64 (v : Int))
  have hl := row_len own
  refine ⟨⟨⟨R.set i v, ?_, fun j hj => ?_⟩, k.at', k.F1, k.F2, k.ms⟩, Fr.setCell _ _ _ _ rfl⟩
  · unfold u64s at ho ⊢
    rw [List.map_set]
    exact ho
  · rw [List.getD_eq_getElem?_getD, List.getElem?_set, e j hj]
    by_cases ej : j = i
    · subst ej
      rw [if_pos rfl, if_pos rfl, if_pos (by omega)]
      rfl
    · rw [if_neg ej, if_neg fun h => ej h.symm, ← List.getD_eq_getElem?_getD]
      exact hR j hj

theorem two_of {w w' : World} {a b : Value} {t : TypeId} (f : Fr S0 (w.alloc (.cells #[a, b] t)) w') : w'.cell? ⟨w.heap.size, 0, none⟩ = Option.some a ∧ w'.cell? ⟨w.heap.size, 1, none⟩ = Option.some b := by
  have h := f.row (heap_alloc_new w (.cells #[a, b] t)) (fun h => h)
  simp [World.cell?, h]
/-- what at answers -/
def tell (F : Int) (m : Nat) (f : Int → Nat) (k : Int) : Nat := if F ≤ k ∧ k < F + (m : Int) then f k else 0

set_option maxRecDepth 100000 in
set_option maxHeartbeats 400000 in
theorem at_any (h : Nat) (F k : Int) (p : Option Addr) (m : Nat) (f : Int → Nat) (w : World) (hc : Cel w h F p m f) :
    Calls Try.prog 28 #[.agg #[.int .i64 F, .slice p m m], .int .i64 k] w fun e w' => e = .returned (.int .u64 (tell F m f k : Nat)) ∧ Fr S0 w w' := by
  have hF1 := hc.F1
  have hF2 := hc.F2
  have hms := hc.ms
  have HH := Lib.hid (fun W => hold_any F k k p m W hF1 hF2 hms)
  unfold tell
  by_cases hin : F ≤ k ∧ k < F + (m : Int)
  · rw [if_pos hin]
    obtain ⟨i, hi⟩ : ∃ i : Nat, k - F = (i : Int) := ⟨(k - F).toNat, by omega⟩
    have him : (i : Int) < (m : Int) := by omega
    have HC : Hid (∀ W, Fr S0 w W → W.cell? ⟨h, i, none⟩ = some (.int .u64 (f k : Nat))) := Lib.hid fun W g => by
      have := (hc.fr0 g).cell i (by omega)
      rwa [show F + (i : Int) = k by omega] at this
    obtain rfl := hc.some (by omega)
    obtain ⟨V, hV⟩ : ∃ V, f k = V := ⟨_, rfl⟩
    rw [hV] at HC ⊢
    have e1 : decide (F ≤ k) = true := decide_eq_true hin.1
    have e2 : decide (k < F + (m : Int)) = true := decide_eq_true hin.2
    rw [e1, e2] at HH
    clear hc hV hin e1 e2
    go_enter Try.func28, Try.ntmps28
    go_wp2_with fail
    refine (HH.out _).mono ?_
    rintro e w1 ⟨rfl, f1⟩
    have g1 := (Fr.alloc S0 w (.cells #[.int .i64 F, .slice (some ⟨h, 0, none⟩) m m] 29)).trans0 f1
    have c1 := HC.out _ g1
    obtain ⟨b0, b1⟩ := two_of f1
    clear HH HC f1
    go_wp2_with fail
    go_ret
    exact ⟨rfl, g1⟩
  · rw [if_neg hin]
    have e1 : (decide (F ≤ k) && decide (k < F + (m : Int))) = false := by
      rw [Bool.and_eq_false_iff, decide_eq_false_iff_not, decide_eq_false_iff_not]
      omega
    rw [e1] at HH
    clear hc hin e1
    go_enter Try.func28, Try.ntmps28
    go_wp2_with fail
    refine (HH.out _).mono ?_
    rintro e w1 ⟨rfl, f1⟩
    clear HH
    go_wp2_with fail
    go_ret
    exact ⟨rfl, (Fr.alloc S0 w _).trans0 f1⟩

set_option maxRecDepth 100000 in
set_option maxHeartbeats 400000 in
theorem cadd_any (h : Nat) (F k : Int) (n : Nat) (p : Option Addr) (m : Nat) (f f' : Int → Nat) (w : World) (hc : Cel w h F p m f) (h1 : F ≤ k) (h2 : k < F + (m : Int)) (h3 : f k + n < 18446744073709551616)
    (hf : ∀ j, f' j = f j + if j = k then n else 0) :
    Calls Try.prog 38 #[.agg #[.int .i64 F, .slice p m m], .int .i64 k, .int .u64 (n : Nat)] w fun e w' => e = .returned (.tuple #[]) ∧ Cel w' h F p m f' ∧ Fr (· = h) w w' := by
  have hF1 := hc.F1
  have hF2 := hc.F2
  have hms := hc.ms
  obtain ⟨i, hi⟩ : ∃ i : Nat, k - F = (i : Int) := ⟨(k - F).toNat, by omega⟩
  have him : (i : Int) < (m : Int) := by omega
  have hc' := hc.fr0 (Fr.alloc S0 w (.cells #[.int .i64 F, .slice p m m] 29))
  have HS := Lib.hid (hc'.set (f' := f') i (by omega) (f k + n) fun j hj => by
    rw [hf]
    by_cases e : j = i
    · rw [if_pos e, if_pos (by omega), show F + (j : Int) = k by omega]
    · rw [if_neg e, if_neg (by omega)]; rfl)
  have c0 := hc'.cell i (by omega)
  have z0 := hc'.frozen i (by omega)
  rw [show F + (i : Int) = k by omega] at c0
  obtain rfl := hc.some (by omega)
  obtain ⟨V, hV⟩ : ∃ V, f k = V := ⟨_, rfl⟩
  rw [hV] at HS c0 h3
  clear hc hc' hV hf
  go_enter Try.func38, Try.ntmps38
  go_wp2_with fail
  go_end0
  exact ⟨rfl, HS.out.1, (Fr.alloc _ _ _).trans HS.out.2 fun _ _ h => h⟩

set_option maxRecDepth 100000 in
set_option maxHeartbeats 400000 in
theorem wipe_any (h : Nat) (F k : Int) (p : Option Addr) (m : Nat) (f f' : Int → Nat) (w : World) (hc : Cel w h F p m f) (h1 : F ≤ k) (h2 : k < F + (m : Int))
    (hf : ∀ j, f' j = if j = k then 0 else f j) :
    Calls Try.prog 29 #[.agg #[.int .i64 F, .slice p m m], .int .i64 k] w fun e w' => e = .returned (.tuple #[]) ∧ Cel w' h F p m f' ∧ Fr (· = h) w w' := by
  have hF1 := hc.F1
  have hF2 := hc.F2
  have hms := hc.ms
  obtain ⟨i, hi⟩ : ∃ i : Nat, k - F = (i : Int) := ⟨(k - F).toNat, by omega⟩
  have him : (i : Int) < (m : Int) := by omega
  have hc' := hc.fr0 (Fr.alloc S0 w (.cells #[.int .i64 F, .slice p m m] 29))
  have HS := Lib.hid (hc'.set (f' := f') i (by omega) 0 fun j hj => by
    rw [hf]
    by_cases e : j = i
    · rw [if_pos e, if_pos (by omega)]
    · rw [if_neg e, if_neg (by omega)])
  have c0 := hc'.cell i (by omega)
  have z0 := hc'.frozen i (by omega)
  obtain ⟨V, hV⟩ : ∃ V, f (F + (i : Int)) = V := ⟨_, rfl⟩
  rw [hV] at c0
  obtain rfl := hc.some (by omega)
  clear hc hc' hf hV
  go_enter Try.func29, Try.ntmps29
  go_wp2_with fail
  go_end0
  exact ⟨rfl, HS.out.1, (Fr.alloc _ _ _).trans HS.out.2 fun _ _ h => h⟩

/-- n zeros -/
def zeros (n : Nat) : Array Value := madeCells #[.int .u64 0] n
theorem make_u64 (w : World) (n : Nat) (hn : n ≤ 100000) : (Instr.makeSlice 27 (.int .i64 (n : Nat)) (.int .i64 (n : Nat))).run Try.prog w = .ok (.slice (some ⟨w.heap.size, 0, none⟩) n n) (w.alloc (.cells (zeros n) 30)) := by
  obtain ⟨i, hi, hz, hs, hb⟩ := info_parts info_u64
  have := run_make w 27 30 i _ Try.underlying27 hi hz .i64 .i64 (n : Int) (n : Int) (by omega) (by omega) (by rw [hb]; omega) (by omega)
  rw [this, hs, Nat.mul_one, Int.toNat_natCast]
  rfl
theorem zeros_own (w : World) (n : Nat) (hn : n ≤ 100000) : (w.alloc (.cells (zeros n) 30)).ownsRow 0 30 1 (.slice (some ⟨w.heap.size, 0, none⟩) n n) n (u64s (List.replicate n 0)) := by
  refine ⟨by simp [u64s], .inr ⟨w.heap.size, n, zeros n, rfl, Nat.zero_le _, heap_alloc_new w _, Nat.le_refl _, by unfold maxLen; omega, by simp [zeros, size_madeCells], ?_⟩⟩
  unfold zeros
  rw [toList_madeCells_one, List.take_of_length_le (by simp)]
  unfold u64s
  rw [List.map_replicate]
  rfl
theorem Cel.zeros (w : World) (n : Nat) (F : Int) (hn : n ≤ 100000) (h1 : -4000000 ≤ F) (h2 : F ≤ 4000000) : Cel (w.alloc (.cells (zeros n) 30)) w.heap.size F (Option.some ⟨w.heap.size, 0, none⟩) n (fun _ => 0) :=
  ⟨⟨_, zeros_own w n hn, fun i _ => by rw [List.getD_eq_getElem?_getD, List.getElem?_replicate]; split <;> rfl⟩, .inr rfl, h1, h2, hn⟩

/-- The result of a function whose one result is an aggregate in a block of its own. -/
theorem results_row {P : Program} {fn : Func} {p : Tmp} {ty : TypeId} (h : fn.results = #[.cell p ty]) (tmps : Array Value) (w : World) {g : Nat} {t : TypeId} {cs : Array Value} {fr : Nat × Nat} {d : TypeDesc}
    (hp : tmps.getD p undef = .pointer (some ⟨g, 0, none⟩)) (hg : w.heap[g]? = some (.cells cs t fr))
    (hu : P.underlying ty = some d) (hd : (match d with | .struct _ | .array _ _ => true | _ => false) = true) (hi : (P.info? ty).map (·.size) = some cs.size) :
    (results fn tmps).run P w = .ok (.agg cs) w := by
  have hrun := run_loadVar_row w g t ty cs fr d hg hu hd hi
  rw [Array.getD_eq_getD_getElem?] at hp
  unfold results
  rw [h]
  simp [hp, asAddr, hrun]
theorem two_set {w : World} {g : Nat} {a b : Value} {t : TypeId} (h : w.heap[g]? = some (.cells #[a, b] t (0, 0))) (x y : Value) : ((w.setCell ⟨g, 0, none⟩ x).setCell ⟨g, 1, none⟩ y).heap[g]? = some (.cells #[x, y] t (0, 0)) := by
  rw [heap_setCell_same _ g 1 _ _ _ (heap_setCell_same w g 0 _ _ _ h)]
  rfl
/-- a block of two cells -/
structure Box2 (w : World) (g : Nat) (a b : Value) : Prop where
  c0 : w.cell? ⟨g, 0, none⟩ = some a
  c1 : w.cell? ⟨g, 1, none⟩ = some b
  f0 : w.frozen? ⟨g, 0, none⟩ = false
  f1 : w.frozen? ⟨g, 1, none⟩ = false
theorem Box2.of {w : World} {g : Nat} {a b : Value} {t : TypeId} (h : w.heap[g]? = some (.cells #[a, b] t (0, 0))) : Box2 w g a b := by
  constructor <;> simp [World.cell?, World.frozen?, h]
/-- new cells, all zero -/
structure Spread (w w' : World) (v : Value) (a b : Int) (h : Nat) (F : Int) (m : Nat) : Prop where
  val : v = .agg #[.int .i64 F, .slice (some ⟨h, 0, none⟩) m m]
  cel : Cel w' h F (some ⟨h, 0, none⟩) m (fun _ => 0)
  new : w.heap.size ≤ h
  lo : F ≤ a
  hi : b < F + (m : Int)
  fr : Fr S0 w w'

set_option maxRecDepth 100000 in
set_option maxHeartbeats 400000 in
theorem spread_any (a b : Int) (w : World) (h1 : -2000000 ≤ a) (h2 : b ≤ 2000000) (hab : a ≤ b) (h3 : b - a < 8192) :
    Calls Try.prog 37 #[.agg #[.int .i64 a, .int .i64 b]] w fun e w' => ∃ v h F m, e = .returned v ∧ Spread w w' v a b h F m := by
  have HW := Lib.hid (fun W => width_any a b W (by omega) (by omega) (by omega) (by omega))
  obtain ⟨n, hn⟩ : ∃ n : Nat, b - a + 1 = (n : Int) := ⟨(b - a + 1).toNat, by omega⟩
  rw [hn] at HW
  obtain ⟨s, hs⟩ : ∃ s : Nat, n / 2 = s := ⟨_, rfl⟩
  obtain ⟨m, hm⟩ : ∃ m : Nat, n + 2 * s = m := ⟨_, rfl⟩
  have es : (n : Int) / 2 = (s : Int) := by omega
  have hmk := fun W => make_u64 W m (by omega)
  obtain ⟨F, hF⟩ : ∃ F, a - (s : Int) = F := ⟨_, rfl⟩
  obtain ⟨S2, hS2⟩ : ∃ S2, 2 * s = S2 := ⟨_, rfl⟩
  have wF : IntKind.i64.wrap (a - (s : Int)) = F := by rw [IntKind.wrap_i64]; omega
  have w2 : IntKind.i64.wrap (2 * (s : Int)) = (S2 : Int) := by rw [IntKind.wrap_i64]; omega
  have wm : IntKind.i64.wrap ((n : Int) + (S2 : Int)) = (m : Int) := by rw [IntKind.wrap_i64]; omega
  have q1 : (s : Int) ≤ 100000 := by omega
  have q2 : (m : Int) ≤ 100000 := by omega
  have HF := Lib.hid (And.intro hn (And.intro hs (And.intro hm (And.intro hF (And.intro h1 h2)))))
  clear hn hs hm hF hS2 h1 h2 hab h3
  go_enter Try.func37, Try.ntmps37
  go_wp2_with fail
  refine (HW.out _).mono ?_
  rintro e w1 ⟨rfl, f1⟩
  go_wp2_with fail
  have HB : Hid (∀ W, Fr S0 w1 W → Box2 W w.heap.size (.int .i64 a) (.int .i64 b) ∧ Box2 W (w.heap.size + 1) (.int .i64 0) (.slice none 0 0) ∧ ∀ o, Box2 (W.alloc o) (w.heap.size + 1) (.int .i64 0) (.slice none 0 0) ∧ Box2 (W.alloc o) w.heap.size (.int .i64 a) (.int .i64 b)) := Lib.hid fun W f => by
    have k1 := (f1.trans0 f)
    have e1 : ((w.alloc (.cells #[.int .i64 a, .int .i64 b] 26)).alloc (.cells #[.int .i64 0, .slice none 0 0] 29)).heap[w.heap.size]? = some (.cells #[.int .i64 a, .int .i64 b] 26 (0, 0)) := by
      rw [(Fr.alloc S0 _ _).row (heap_alloc_new w _) (fun h => h)]
    have e2 := heap_alloc_new (w.alloc (.cells #[.int .i64 a, .int .i64 b] 26)) (.cells #[.int .i64 0, .slice none 0 0] 29)
    rw [size_alloc] at e2
    exact ⟨Box2.of (k1.row e1 (fun h => h)), Box2.of (k1.row e2 (fun h => h)), fun o => ⟨Box2.of ((Fr.alloc S0 _ _).row (k1.row e2 (fun h => h)) (fun h => h)), Box2.of ((Fr.alloc S0 _ _).row (k1.row e1 (fun h => h)) (fun h => h))⟩⟩
  have F1 : Hid (Fr S0 w w1) := Lib.hid (((Fr.alloc S0 _ _).trans0 (Fr.alloc _ _ _)).trans0 f1)
  have HRES : Hid (∀ W, Fr S0 w1 W → (W.alloc (.cells (zeros m) 30)).heap[w.heap.size + 1]? = some (.cells #[.int .i64 0, .slice none 0 0] 29 (0, 0))) := Lib.hid fun W f => by
    have e2 := heap_alloc_new (w.alloc (.cells #[.int .i64 a, .int .i64 b] 26)) (.cells #[.int .i64 0, .slice none 0 0] 29)
    rw [size_alloc] at e2
    exact (Fr.alloc S0 _ _).row ((f1.trans0 f).row e2 (fun h => h)) (fun h => h)
  have HEND : Hid (∀ W, Fr S0 w1 W → Spread w (((W.alloc (.cells (zeros m) 30)).setCell ⟨w.heap.size + 1, 0, none⟩ (.int .i64 F)).setCell ⟨w.heap.size + 1, 1, none⟩ (.slice (some ⟨W.heap.size, 0, none⟩) m m)) (.agg #[.int .i64 F, .slice (some ⟨W.heap.size, 0, none⟩) m m]) a b W.heap.size F m) := Lib.hid fun W f => by
    obtain ⟨q1, q2, q3, q4, q5, q6⟩ := HF.out
    have k1 := F1.out.trans0 f
    have k2 := f1.size
    have k3 := f.size
    simp only [size_alloc] at k2
    refine ⟨rfl, ?_, by omega, by omega, by omega, ?_⟩
    · refine (Cel.zeros W m F (by omega) (by omega) (by omega)).fr (S := (· = w.heap.size + 1)) ((Fr.setCell (· = w.heap.size + 1) _ _ _ rfl).trans (Fr.setCell (· = w.heap.size + 1) _ _ _ rfl) fun _ _ h => h) fun _ => by omega
    · refine ((k1.trans0 (Fr.alloc _ _ _)).trans ((Fr.setCell (· = w.heap.size + 1) _ _ _ rfl).trans (Fr.setCell (· = w.heap.size + 1) _ _ _ rfl) fun _ _ h => h) fun j hj e => by omega)
  obtain ⟨⟨c0, c1, -, -⟩, -, -⟩ := HB.out w1 (Fr.refl _ _)
  clear f1
  go_region_law (go_simp; go_at_call 35; refine (HW.out _).mono ?_; rintro e w2 ⟨rfl, f2⟩; have g2 := (Fr.drew S0 w1).trans0 f2; obtain ⟨⟨d0, d1, -, -⟩, ⟨r0, r1, z0, z1⟩, ra⟩ := HB.out w2 g2; have ra0 := fun o => (ra o).1.c0; have ra1 := fun o => (ra o).1.c1; have rz0 := fun o => (ra o).1.f0; have rz1 := fun o => (ra o).1.f1; have rb0 := fun o => (ra o).2.c0; have rb1 := fun o => (ra o).2.c1; have G2 := Lib.hid g2; clear f2 g2 ra; dsimp only)
  all_goals
    go_wp2_with fail
    refine bodyPost_ret (v := .agg #[.int .i64 F, .slice (some ⟨w2.heap.size, 0, none⟩) m m]) (results_row Try.results37 _ _ rfl (two_set (HRES.out w2 G2.out) _ _) Try.underlying29 rfl (by kernel_rfl)) rfl ⟨_, w2.heap.size, F, m, rfl, HEND.out w2 G2.out⟩
end Go.Proofs.Ytocdjklgfmkbfaa
