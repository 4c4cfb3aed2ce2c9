/- What a reading is given up with is looked at. -/
import Derived.Test.YtmcmchldjfnneaaInfBlock
import Derived.Defers
import Derived.Recover
namespace Go.Proofs.Ytmcmchldjfnneaa
open Go.RowKit

set_option maxRecDepth 100000 in
set_option maxHeartbeats 400000 in
theorem catch_idle (p q s : Addr) (w : World) :
    CallsD Try.prog 15 #[.pointer (some p), .pointer (some q), .pointer (some s)] .returning w fun e u' w' => e = .returned (.tuple #[]) ∧ u' = .returning ∧ w' = w := by
  have hnn : ∀ w, (binOp .eql 20 .nilIface .nilIface).run Try.prog w = .ok (.bool true) w := fun w => by kernel_rfl
  refine callsD_of_wpS Try.func15 rfl fun c₀ cs hu => ?_
  apply wpS_seq
  apply wpS_region
  simp [wpOpsS, go_sem, recoverD, hu, Try.ntmps15, Exit.thenS]
  refine wpS_of_wp ?_
  have et : (#[Value.pointer (some p), Value.pointer (some q), Value.pointer (some s)] ++ (Array.replicate 11 undef).setIfInBounds 3 Value.nilIface) = #[Value.pointer (some p), Value.pointer (some q), Value.pointer (some s), undef, undef, undef, .nilIface, undef, undef, undef, undef, undef, undef, undef] := rfl
  rw [et]
  go_wp2_with fail
  exact ⟨rfl, .returning, by cases c₀; simp_all, .tuple #[], by simp [results, Try.results15], rfl, rfl, rfl⟩
set_option maxRecDepth 100000 in
set_option maxHeartbeats 400000 in
theorem catch_given (p q s : Nat) (m : Nat) (V : Value) (N E : Int) (w : World) (hp : w.heap[p]? = some (.cells #[V] 22 (0, 0))) (hq : w.heap[q]? = some (.cells #[.int .i64 N] 3 (0, 0))) (hs : w.heap[s]? = some (.cells #[.int .i64 E] 24 (0, 0)))
    (pq : p ≠ q) (ps : p ≠ s) (qs : q ≠ s) :
    CallsD Try.prog 15 #[.pointer (some ⟨p, 0, none⟩), .pointer (some ⟨q, 0, none⟩), .pointer (some ⟨s, 0, none⟩)] (.panicking (chn m)) w fun e u' w' => e = .returned (.tuple #[]) ∧ settle u' = .returning ∧
      Fr (fun j => j = p ∨ j = q ∨ j = s) w w' ∧ w'.heap[p]? = some (.cells #[.slice none 0 0] 22 (0, 0)) ∧ w'.heap[q]? = some (.cells #[.int .i64 0] 3 (0, 0)) ∧ w'.heap[s]? = some (.cells #[.int .i64 (m : Nat)] 24 (0, 0)) := by
  have hnn : ∀ (v : Value) w, (binOp .eql 20 (.iface 40 v) .nilIface).run Try.prog w = .ok (.bool false) w := fun v w => by kernel_rfl
  have hta : ∀ (v : Value) w, (Instr.typeAssert (.iface 40 v) 20 40 true).run Try.prog w = .ok (.tuple #[v, .bool true]) w := fun v w => by kernel_rfl
  unfold chn
  refine callsD_of_wpS Try.func15 rfl fun c₀ cs hu => ?_
  apply wpS_seq
  apply wpS_region
  simp [wpOpsS, go_sem, recoverD, hu, Try.ntmps15, Exit.thenS]
  refine wpS_of_wp ?_
  have et : ∀ v : Value, (#[Value.pointer (some ⟨p, 0, none⟩), Value.pointer (some ⟨q, 0, none⟩), Value.pointer (some ⟨s, 0, none⟩)] ++ (Array.replicate 11 undef).setIfInBounds 3 v) = #[Value.pointer (some ⟨p, 0, none⟩), Value.pointer (some ⟨q, 0, none⟩), Value.pointer (some ⟨s, 0, none⟩), undef, undef, undef, v, undef, undef, undef, undef, undef, undef, undef] := fun _ => rfl
  rw [et]
  have hc1 : w.cell? ⟨p, 0, none⟩ = some V := by simp [World.cell?, hp]
  have hc2 : w.cell? ⟨q, 0, none⟩ = some (.int .i64 N) := by simp [World.cell?, hq]
  have hc3 : w.cell? ⟨s, 0, none⟩ = some (.int .i64 E) := by simp [World.cell?, hs]
  have hz1 : w.frozen? ⟨p, 0, none⟩ = false := by simp [World.frozen?, hp]
  have hz2 : w.frozen? ⟨q, 0, none⟩ = false := by simp [World.frozen?, hq]
  have hz3 : w.frozen? ⟨s, 0, none⟩ = false := by simp [World.frozen?, hs]
  have HU := Lib.hid hu
  clear hu
  go_wp2_with fail
  have fa := Fr.alloc S0 w (.cells #[.int .i64 (m : Nat)] 40)
  have b0 := heap_alloc_new w (.cells #[.int .i64 (m : Nat)] 40)
  have bp := fa.row hp (fun h => h)
  have bq := fa.row hq (fun h => h)
  have bs := fa.row hs (fun h => h)
  have np : p ≠ w.heap.size := Nat.ne_of_lt (Array.getElem?_eq_some_iff.1 hp).1
  have nq : q ≠ w.heap.size := Nat.ne_of_lt (Array.getElem?_eq_some_iff.1 hq).1
  have ns : s ≠ w.heap.size := Nat.ne_of_lt (Array.getElem?_eq_some_iff.1 hs).1
  have FA := Lib.hid fa
  generalize w.alloc (.cells #[.int .i64 (m : Nat)] 40) = W at b0 bp bq bs FA ⊢
  generalize w.heap.size = n at b0 np nq ns ⊢
  have BP := Lib.hid bp
  have BQ := Lib.hid bq
  have BS := Lib.hid bs
  clear hc1 hc2 hc3 hz1 hz2 hz3 hp hq hs fa
  have hc0 : W.cell? ⟨n, 0, none⟩ = some (.int .i64 (m : Nat)) := by simp [World.cell?, b0]
  have hc1 : W.cell? ⟨p, 0, none⟩ = some V := by simp [World.cell?, bp]
  have hc2 : W.cell? ⟨q, 0, none⟩ = some (.int .i64 N) := by simp [World.cell?, bq]
  have hc3 : W.cell? ⟨s, 0, none⟩ = some (.int .i64 E) := by simp [World.cell?, bs]
  have hz1 : W.frozen? ⟨p, 0, none⟩ = false := by simp [World.frozen?, bp]
  have hz2 : W.frozen? ⟨q, 0, none⟩ = false := by simp [World.frozen?, bq]
  have hz3 : W.frozen? ⟨s, 0, none⟩ = false := by simp [World.frozen?, bs]
  clear b0 bp bq bs hta hnn et
  go_region
  have f1 : Fr (fun j => j = p ∨ j = q ∨ j = s) W (W.setCell ⟨p, 0, none⟩ (.slice none 0 0)) := Fr.setCell _ _ _ _ (.inl rfl)
  have f2 : Fr (fun j => j = p ∨ j = q ∨ j = s) _ ((W.setCell ⟨p, 0, none⟩ (.slice none 0 0)).setCell ⟨q, 0, none⟩ (.int .i64 0)) := Fr.setCell _ _ _ _ (.inr (.inl rfl))
  have f3 : Fr (fun j => j = p ∨ j = q ∨ j = s) _ (((W.setCell ⟨p, 0, none⟩ (.slice none 0 0)).setCell ⟨q, 0, none⟩ (.int .i64 0)).setCell ⟨s, 0, none⟩ (.int .i64 (m : Nat))) := Fr.setCell _ _ _ _ (.inr (.inr rfl))
  have g1 : (W.setCell ⟨p, 0, none⟩ (.slice none 0 0)).heap[p]? = some (.cells #[.slice none 0 0] 22 (0, 0)) := heap_setCell_same W p 0 _ _ _ BP.out
  have g2 := (Fr.setCell (· = p) W ⟨p, 0, none⟩ (.slice none 0 0) rfl).row BQ.out (fun e => pq e.symm)
  have g3 := (Fr.setCell (· = p) W ⟨p, 0, none⟩ (.slice none 0 0) rfl).row BS.out (fun e => ps e.symm)
  generalize W.setCell ⟨p, 0, none⟩ (.slice none 0 0) = W1 at f1 f2 f3 g1 g2 g3 ⊢
  have k1 := (Fr.setCell (· = q) W1 ⟨q, 0, none⟩ (.int .i64 0) rfl).row g1 pq
  have k2 : (W1.setCell ⟨q, 0, none⟩ (.int .i64 0)).heap[q]? = some (.cells #[.int .i64 0] 3 (0, 0)) := heap_setCell_same W1 q 0 _ _ _ g2
  have k3 := (Fr.setCell (· = q) W1 ⟨q, 0, none⟩ (.int .i64 0) rfl).row g3 (fun e => qs e.symm)
  generalize W1.setCell ⟨q, 0, none⟩ (.int .i64 0) = W2 at f2 f3 k1 k2 k3 ⊢
  have l1 := (Fr.setCell (· = s) W2 ⟨s, 0, none⟩ (.int .i64 (m : Nat)) rfl).row k1 ps
  have l2 := (Fr.setCell (· = s) W2 ⟨s, 0, none⟩ (.int .i64 (m : Nat)) rfl).row k2 qs
  have l3 : (W2.setCell ⟨s, 0, none⟩ (.int .i64 (m : Nat))).heap[s]? = some (.cells #[.int .i64 (m : Nat)] 24 (0, 0)) := heap_setCell_same W2 s 0 _ _ _ k3
  generalize W2.setCell ⟨s, 0, none⟩ (.int .i64 (m : Nat)) = W3 at f3 l1 l2 l3 ⊢
  have HFF : Hid (Fr (fun j => j = p ∨ j = q ∨ j = s) w W3.drew) := Lib.hid (((((FA.out.mono (fun _ _ h => h.elim)).trans f1 (fun _ _ h => h)).trans f2 (fun _ _ h => h)).trans f3 (fun _ _ h => h)).trans0 (Fr.drew _ _))
  have L1 := Lib.hid l1
  have L2 := Lib.hid l2
  have L3 := Lib.hid l3
  clear f1 f2 f3 g1 g2 g3 k1 k2 k3 l1 l2 l3 hc0 hc1 hc2 hc3 hz1 hz2 hz3 FA
  go_wp2_with fail
  exact ⟨rfl, .panicking [{ v := .iface 40 (.agg #[.int .i64 (m : Nat)]), recovered := true }], rfl, .tuple #[], by simp [results, Try.results15], rfl, rfl, HFF.out, L1.out, L2.out, L3.out⟩
end Go.Proofs.Ytmcmchldjfnneaa
