/- An opening goes through the sum. -/
import Derived.Test.YtnckoghgplnhfaaGreatZlStream
import Derived.Stop.BytesEq
import Derived.Laws.Cover3
namespace Go.Proofs.YtnckoghgplnhfaaGreat
open Go.RowKit

theorem cells_u8 (l : List Nat) (h : ∀ x ∈ l, x < 256) : u8s l = (l.map UInt8.ofNat).map Extern.Stop.cell := by
  rw [List.map_map]
  unfold u8s
  refine List.map_congr_left fun x hx => ?_
  have := h x hx
  simp [Extern.Stop.cell]
  omega
theorem map8_eq (a b : List Nat) (ha : ∀ x ∈ a, x < 256) (hb : ∀ x ∈ b, x < 256) : (a.map UInt8.ofNat == b.map UInt8.ofNat) = decide (a = b) := by
  rw [Bool.eq_iff_iff, beq_iff_eq, decide_eq_true_iff]
  constructor
  · intro h
    have key : ∀ l : List Nat, (∀ x ∈ l, x < 256) → (l.map UInt8.ofNat).map UInt8.toNat = l := by
      intro l hl
      rw [List.map_map]
      conv => rhs; rw [← List.map_id l]
      refine List.map_congr_left fun x hx => ?_
      have := hl x hx
      simp; omega
    rw [← key a ha, ← key b hb, h]
  · rintro rfl; rfl
theorem size_u8 (w : World) : (sizeOf 5).run Tryz.prog w = .ok 1 w := by
  obtain ⟨i, hi, -, hs, -⟩ := info_parts info_u8
  simp [sizeOf, typeInfo, hi, hs]
theorem eq4 (a b : List Nat) (ha : ∀ x ∈ a, x < 256) (hb : ∀ x ∈ b, x < 256) (la : a.length = 4) (lb : b.length = 4) (w : World) :
    (binOp .eql 36 (.agg (u8s a).toArray) (.agg (u8s b).toArray)).run Tryz.prog w = .ok (.bool (decide (a = b))) w := by
  rw [cells_u8 a ha, cells_u8 b hb, run_eql_bytes w 36 5 4 Tryz.underlying36 Tryz.underlying5 (fun w => size_u8 w) _ _ (by simpa using la) (by simpa using lb), map8_eq a b ha hb]
theorem four_of {l : List Nat} (h : l.length = 4) : ∃ a b c d, l = [a, b, c, d] := by
  match l, h with
  | [a, b, c, d], _ => exact ⟨a, b, c, d, rfl⟩

/-- how going through the sum ends -/
def SumEnds (w : World) (g B n c : Nat) (l S : List Nat) (e : Ending) (w' : World) : Prop :=
  Fr (· = g) w w' ∧ if n < 4 then e = Ending.panicked (zch 20) else if l.take 4 ≠ S then e = Ending.panicked (zch 91) else e = .returned (.tuple #[]) ∧ ∃ o', OpnIs w' g B o' (n - 4) (c - 4) (l.drop 4)

set_option maxRecDepth 100000 in
set_option maxHeartbeats 2000000 in
theorem zsum_few {g B o n c : Nat} {l S : List Nat} (w : World) (h : OpnIs w g B o n c l) (hn : n < 4) (hS : S.length = 4) :
    Calls Tryz.prog 24 #[.pointer (some ⟨g, 0, none⟩), .agg (u8s S).toArray] w (SumEnds w g B n c l S) := by
  obtain ⟨a, b, d, e, rfl⟩ := four_of hS
  have HN : Hid (∀ W, Fr S0 w W → Calls Tryz.prog 39 #[.pointer (some ⟨g, 0, none⟩), .int .i64 4] W fun e w' => (e = .returned (.slice (some ⟨B, o, none⟩) 4 4) ∧ False) ∨ (e = Ending.panicked (zch 20) ∧ Fr S0 w w')) := Lib.hid fun W f =>
    (next_no g n c 4 (some ⟨B, o, none⟩) W (h.fr0 f).c0 hn).mono fun _ _ k => .inr ⟨k.1, k.2 ▸ f⟩
  have K : Hid (∀ w', Fr S0 w w' → SumEnds w g B n c l [a, b, d, e] (Ending.panicked (zch 20)) w') := Lib.hid fun w' f => ⟨f.mono (fun _ _ h => h.elim), by rw [if_pos hn]⟩
  have hat : ∀ w : World, (Instr.arrayAt 36 (.slice (some ⟨B, o, none⟩) 4 4)).run Tryz.prog w = .ok (.pointer (some ⟨B, o, none⟩)) w := fun w => run_arrayAt w _ _ 4 _ _ _ Tryz.underlying36 (by omega)
  have z8 : (u8s [a, b, d, e]).toArray = #[.int .u8 (a : Int), .int .u8 (b : Int), .int .u8 (d : Int), .int .u8 (e : Int)] := rfl
  rw [z8]
  have HD : Hid (∀ W, Calls Tryz.prog 21 #[.bool true, .int .i64 91] W fun e w' => e = .returned (.tuple #[]) ∧ W = w') := Lib.hid fun W => zdemand_yes 91 W
  clear h hn hS z8
  go_enter Tryz.func24, Tryz.ntmps24
  go_wp2_with fail
  have f1 : Fr S0 w (w.alloc (.cells #[.int .u8 (a : Int), .int .u8 (b : Int), .int .u8 (d : Int), .int .u8 (e : Int)] 36)) := Fr.alloc _ _ _
  have b1 := heap_alloc_new w (.cells #[.int .u8 (a : Int), .int .u8 (b : Int), .int .u8 (d : Int), .int .u8 (e : Int)] 36)
  obtain ⟨z, hz⟩ : ∃ z, w.heap.size = z := ⟨_, rfl⟩
  rw [hz] at b1 ⊢
  generalize w.alloc (.cells #[.int .u8 (a : Int), .int .u8 (b : Int), .int .u8 (d : Int), .int .u8 (e : Int)] 36) = W at f1 b1 ⊢
  obtain ⟨c0, c1, c2, c3, -⟩ := four_facts b1
  have F1 := Lib.hid f1
  clear f1 b1 hz
  go_region_law (first
    | (go_simp; go_at_call 39; (with_reducible refine (HN.out _ (F1.out.trans0 (Fr.drew _ _))).mono ?_); rintro _ w3 (⟨rfl, hF⟩ | ⟨rfl, f3⟩); have HBAD := Lib.hid hF; clear hF; have x0 : w3.cell? ⟨B, o, none⟩ = some (.int .u8 0) := HBAD.out.elim; have x1 : w3.cell? ⟨B, o + 1, none⟩ = some (.int .u8 0) := HBAD.out.elim; have x2 : w3.cell? ⟨B, o + 2, none⟩ = some (.int .u8 0) := HBAD.out.elim; have x3 : w3.cell? ⟨B, o + 3, none⟩ = some (.int .u8 0) := HBAD.out.elim; have y0 : w3.cell? ⟨z, 0, none⟩ = some (.int .u8 (a : Int)) := HBAD.out.elim; have y1 : w3.cell? ⟨z, 1, none⟩ = some (.int .u8 (b : Int)) := HBAD.out.elim; have y2 : w3.cell? ⟨z, 2, none⟩ = some (.int .u8 (d : Int)) := HBAD.out.elim; have y3 : w3.cell? ⟨z, 3, none⟩ = some (.int .u8 (e : Int)) := HBAD.out.elim; have heq : ∀ v1 v2 w, (binOp .eql 36 (.agg v1) (.agg v2)).run Tryz.prog w = .ok (.bool true) w := HBAD.out.elim; rotate_left; exact ⟨rfl, K.out _ f3⟩)
    | (go_simp; go_at_call 21; (with_reducible refine (HD.out _).mono ?_); rintro _ w4 ⟨rfl, rfl⟩))
  all_goals exact HBAD.out.elim

set_option maxRecDepth 100000 in
set_option maxHeartbeats 2000000 in
theorem zsum_any {g B o n c : Nat} {l S : List Nat} (w : World) (h : OpnIs w g B o n c l) (h8 : ∀ x ∈ l, x < 256) (hn : 4 ≤ n) (hS : S.length = 4) (hS8 : ∀ x ∈ S, x < 256) :
    Calls Tryz.prog 24 #[.pointer (some ⟨g, 0, none⟩), .agg (u8s S).toArray] w (SumEnds w g B n c l S) := by
  have hl := h.len
  have HEQ : Hid (∀ w, (binOp .eql 36 (.agg (u8s (l.take 4)).toArray) (.agg (u8s S).toArray)).run Tryz.prog w = .ok (.bool (decide (l.take 4 = S))) w) := Lib.hid (eq4 (l.take 4) S (fun x hx => h8 x (List.mem_of_mem_take hx)) hS8 (by rw [List.length_take]; omega) hS)
  obtain ⟨x, x', x'', x''', hx⟩ := four_of (l := l.take 4) (by rw [List.length_take]; omega)
  obtain ⟨a, b, d, e, rfl⟩ := four_of hS
  have hcells : ∀ W, Fr (· = g) w W → W.cell? ⟨B, o, none⟩ = some (.int .u8 (x : Int)) ∧ W.cell? ⟨B, o + 1, none⟩ = some (.int .u8 (x' : Int)) ∧ W.cell? ⟨B, o + 2, none⟩ = some (.int .u8 (x'' : Int)) ∧ W.cell? ⟨B, o + 3, none⟩ = some (.int .u8 (x''' : Int)) := fun W f => by
    have hs := ((h.sl.fr f (fun _ a e => by simp only [Option.some.injEq] at e; subst e; exact h.ne))).take 4
    rw [hx] at hs
    obtain ⟨B', o', e, hc⟩ := hs.2 (by simp)
    simp only [Option.some.injEq, Addr.mk.injEq] at e
    obtain ⟨rfl, rfl, -⟩ := e
    exact ⟨hc 0 (by simp), hc 1 (by simp), hc 2 (by simp), hc 3 (by simp)⟩
  have HX := Lib.hid hcells
  rw [hx] at HEQ
  have HN : Hid (∀ W, Fr S0 w W → Calls Tryz.prog 39 #[.pointer (some ⟨g, 0, none⟩), .int .i64 4] W fun e w' => e = .returned (.slice (some ⟨B, o, none⟩) 4 c) ∧ Fr (· = g) W w' ∧ ∃ o', OpnIs w' g B o' (n - 4) (c - 4) (l.drop 4)) := Lib.hid fun W f => next_yes 4 W (h.fr0 f) hn
  have hat : ∀ w : World, (Instr.arrayAt 36 (.slice (some ⟨B, o, none⟩) 4 c)).run Tryz.prog w = .ok (.pointer (some ⟨B, o, none⟩)) w := fun w => run_arrayAt w _ _ 4 _ _ _ Tryz.underlying36 (by omega)
  have hgl := (Array.getElem?_eq_some_iff.1 h.blk).1
  have z8 : (u8s [a, b, d, e]).toArray = #[.int .u8 (a : Int), .int .u8 (b : Int), .int .u8 (d : Int), .int .u8 (e : Int)] := rfl
  have z9 : (u8s [x, x', x'', x''']).toArray = #[.int .u8 (x : Int), .int .u8 (x' : Int), .int .u8 (x'' : Int), .int .u8 (x''' : Int)] := rfl
  rw [z8] at HEQ ⊢
  rw [z9] at HEQ
  have K : Hid (∀ e1 w', Fr (· = g) w w' → (if [x, x', x'', x'''] ≠ [a, b, d, e] then e1 = Ending.panicked (zch 91) else e1 = .returned (.tuple #[]) ∧ ∃ o', OpnIs w' g B o' (n - 4) (c - 4) (l.drop 4)) → SumEnds w g B n c l [a, b, d, e] e1 w') := Lib.hid fun e1 w' f k => ⟨f, by rw [if_neg (by omega), hx]; exact k⟩
  clear h h8 hn hS hS8 hl hx z8 z9 hcells
  have f1 : Fr S0 w (w.alloc (.cells #[.int .u8 (a : Int), .int .u8 (b : Int), .int .u8 (d : Int), .int .u8 (e : Int)] 36)) := Fr.alloc _ _ _
  have b1 := heap_alloc_new w (.cells #[.int .u8 (a : Int), .int .u8 (b : Int), .int .u8 (d : Int), .int .u8 (e : Int)] 36)
  cases hq : decide ([x, x', x'', x'''] = [a, b, d, e]) with
  | false =>
    have hne := of_decide_eq_false hq
    rw [hq] at HEQ
    have heq := HEQ.out
    have K' := Lib.hid (fun w' f => K.out (Ending.panicked (zch 91)) w' f (by rw [if_pos hne]))
    clear K hne hq HEQ
    have HD : Hid (∀ W, Fr (· = g) w W → Calls Tryz.prog 21 #[.bool false, .int .i64 91] W fun e w' => (e = .returned (.tuple #[]) ∧ False) ∨ (e = Ending.panicked (zch 91) ∧ Fr (· = g) w w')) := Lib.hid fun W f => (zdemand_no 91 W).mono fun _ _ k => .inr ⟨k.1, k.2 ▸ f⟩
    go_enter Tryz.func24, Tryz.ntmps24
    go_wp2_with fail
    obtain ⟨z, hz⟩ : ∃ z, w.heap.size = z := ⟨_, rfl⟩
    rw [hz] at b1 ⊢
    have HZ : Hid (z ≠ g) := Lib.hid (by omega)
    generalize w.alloc (.cells #[.int .u8 (a : Int), .int .u8 (b : Int), .int .u8 (d : Int), .int .u8 (e : Int)] 36) = W at f1 b1 ⊢
    obtain ⟨c0, c1, c2, c3, -⟩ := four_facts b1
    have F1 := Lib.hid f1
    have B1 := Lib.hid b1
    clear f1 b1 hz hgl
    go_region_law (first
      | (go_simp; go_at_call 39; (with_reducible refine (HN.out _ (F1.out.trans0 (Fr.drew _ _))).mono ?_); rintro _ w3 ⟨rfl, f3, o', k3⟩; have F3 := Lib.hid ((F1.out.mono (fun _ _ h => h.elim) : Fr (· = g) w W).trans ((Fr.drew (· = g) W).trans f3 (fun _ _ h => h)) (fun _ _ h => h)); obtain ⟨x0, x1, x2, x3⟩ := HX.out w3 F3.out; obtain ⟨y0, y1, y2, y3, -⟩ := four_facts (((Fr.drew (· = g) W).trans f3 (fun _ _ h => h)).row B1.out HZ.out); clear f3 k3)
      | (go_simp; go_at_call 21; (with_reducible refine (HD.out _ F3.out).mono ?_); rintro _ w4 (⟨rfl, hF⟩ | ⟨rfl, f4⟩); have HBAD := Lib.hid hF; clear hF; rotate_left; exact ⟨rfl, K'.out _ f4⟩))
    all_goals exact HBAD.out.elim
  | true =>
    have heq0 := of_decide_eq_true hq
    rw [hq] at HEQ
    have heq := HEQ.out
    have K' : Hid (∀ w' o', Fr (· = g) w w' → OpnIs w' g B o' (n - 4) (c - 4) (l.drop 4) → SumEnds w g B n c l [a, b, d, e] (.returned (.tuple #[])) w') := Lib.hid (fun w' o' f k => K.out _ w' f (by rw [if_neg (fun h => h heq0)]; exact ⟨rfl, o', k⟩))
    clear K heq0 hq HEQ
    have HD : Hid (∀ W, Calls Tryz.prog 21 #[.bool true, .int .i64 91] W fun e w' => e = .returned (.tuple #[]) ∧ W = w') := Lib.hid fun W => zdemand_yes 91 W
    go_enter Tryz.func24, Tryz.ntmps24
    go_wp2_with fail
    obtain ⟨z, hz⟩ : ∃ z, w.heap.size = z := ⟨_, rfl⟩
    rw [hz] at b1 ⊢
    have HZ : Hid (z ≠ g) := Lib.hid (by omega)
    generalize w.alloc (.cells #[.int .u8 (a : Int), .int .u8 (b : Int), .int .u8 (d : Int), .int .u8 (e : Int)] 36) = W at f1 b1 ⊢
    obtain ⟨c0, c1, c2, c3, -⟩ := four_facts b1
    have F1 := Lib.hid f1
    have B1 := Lib.hid b1
    clear f1 b1 hz hgl
    go_region_law (first
      | (go_simp; go_at_call 39; (with_reducible refine (HN.out _ (F1.out.trans0 (Fr.drew _ _))).mono ?_); rintro _ w3 ⟨rfl, f3, o', k3⟩; have K3 := Lib.hid k3; have F3 := Lib.hid ((F1.out.mono (fun _ _ h => h.elim) : Fr (· = g) w W).trans ((Fr.drew (· = g) W).trans f3 (fun _ _ h => h)) (fun _ _ h => h)); obtain ⟨x0, x1, x2, x3⟩ := HX.out w3 F3.out; obtain ⟨y0, y1, y2, y3, -⟩ := four_facts (((Fr.drew (· = g) W).trans f3 (fun _ _ h => h)).row B1.out HZ.out); clear f3 k3)
      | (go_simp; go_at_call 21; (with_reducible refine (HD.out _).mono ?_); rintro _ w4 ⟨rfl, rfl⟩))
    all_goals
      go_wp2_with fail
      go_end0
      exact K'.out _ _ F3.out K3.out
end Go.Proofs.YtnckoghgplnhfaaGreat
