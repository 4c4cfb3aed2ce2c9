/- Steps: what a range over a table is given. -/
import Derived.Test.YtegdhggilaehdaaWkTab
import Derived.RangeFuncNested
import Derived.RangeFuncBound
import Derived.RangeFuncCalls
import Derived.RangeFuncLeaves
import Derived.Shelf.Abstract
import Derived.Shelf.RegionOpen
import Derived.WalkKit
import Derived.OwnWalkIn
import Derived.TacticsInMore
import Derived.LoopNIn
import Derived.LoopIn
namespace Go.Proofs.Ytegdhggilaehdaa
open Go.RowKit Go.Shelf
attribute [local go_sem] Oper.semAt_some

set_option maxRecDepth 100000 in
set_option maxHeartbeats 400000 in
theorem steps_any (g : Nat) (w : World) :
    Calls Try.prog 27 #[.pointer (some ⟨g, 0, none⟩)] w fun e w' => e = .returned (.func (.func 41) #[] #[.pointer (some ⟨w.heap.size, 0, none⟩)]) ∧ w' = w.alloc (.cells #[.pointer (some ⟨g, 0, none⟩)] 24) := by
  go_enter Try.func27, Try.ntmps27
  go_wp2_with fail
  go_ret
  exact ⟨rfl, rfl⟩

set_option maxRecDepth 100000 in
set_option maxHeartbeats 2000000 in
theorem steps1_in (F : Fence) (n : Nat) (hF : F.fn 41) (hro : F.round = none) (hn : 1 ≤ n) (lp Bt n₀ g m c : Nat) (p : Option Addr) (l : List Pr) (J Jx : List Pr → World → Prop) (W : World)
    (hB : W.cell? ⟨Bt, 0, none⟩ = some (.pointer (some ⟨g, 0, none⟩))) (s : Tab W g p m c l) (hp : l ≠ [] → ∀ a, p = some a → a.block < n₀) (hJ : AbidesFrom W.heap.size J)
    (hY : ∀ pre x W1, J pre W1 → pre.length < l.length → YieldAt F (n - 1) Try.prog lp #[.int .u64 (x.2 : Nat), .int .i64 x.1] W1 fun e W' =>
      (e = .returned (.bool true) ∧ J (pre ++ [x]) W' ∧ Below n₀ W1 W') ∨ (e = .returned (.bool false) ∧ Jx (pre ++ [x]) W'))
    (hn₀ : n₀ ≤ W.heap.size) (h0 : J [] W) :
    CallsIn F n Try.prog 41 #[.func (.yield lp) #[] #[], .pointer (some ⟨Bt, 0, none⟩)] W fun e W' => (∃ v, e = .returned v) ∧
      ((∃ ys, ys = stp l ∧ J ys W') ∨ (∃ pre, pre <+: stp l ∧ Jx pre W')) := by
  have c0 := s.c0
  have hlen := s.len
  have hsm := s.small
  have hpri := s.pri
  clear s
  refine callsIn_of_wp Try.func41 rfl hF ?_ hro
  simp only [Try.ntmps41, List.size_toArray, List.length_cons, List.length_nil, Nat.reduceAdd, Nat.reduceSub, Array.replicate_succ, Array.replicate_zero, List.push_toArray, List.append_toArray, List.nil_append, List.cons_append]
  gi_wp2
  gi_loopw [4, 10] (fun _ i wr => ∃ k : Nat, k ≤ m ∧ i = .int .i64 k ∧ J ((stp l).take k) wr ∧ Below n₀ W wr) (fun _ i _ => m - (intOf i).toNat)
  case atStart => exact ⟨0, Nat.zero_le _, rfl, h0, Below.refl _ _⟩
  case round =>
    obtain ⟨k, hk, rfl, hJs, hnx⟩ := hrel
    by_cases hlt : (k : Int) < (m : Int)
    · have hkl : k < (stp l).length := by rw [stp_len]; omega
      obtain ⟨b, o, rfl, k0, k1⟩ := hpri.at k hkl
      have hb := hp (by rintro rfl; simp [stp, cums] at hkl) _ rfl
      have z0 := (hnx.cell (p := ⟨b, o + k * 2, none⟩) hb).trans k0
      have z1 := (hnx.cell (p := ⟨b, o + k * 2 + 1, none⟩) hb).trans k1
      have htk : (stp l).take (k + 1) = (stp l).take k ++ [(stp l)[k]] := List.take_succ_eq_append_getElem hkl
      obtain ⟨⟨tk, tn⟩, hx⟩ : ∃ x, (stp l)[k] = x := ⟨_, rfl⟩
      rw [hx] at z0 z1 htk
      simp only at z0 z1
      have hJ2 : J ((stp l).take k) (wr.alloc (.cells #[.int .i64 tk, .int .u64 (tn : Nat)] 64)) := hJ _ wr _ none hJs (World.grownBy_alloc wr _ none) (fun r e => by cases e)
      have hnx2 : Below n₀ W (wr.alloc (.cells #[.int .i64 tk, .int .u64 (tn : Nat)] 64)) := hnx.alloc (by have := hnx.size; omega) _
      obtain ⟨fn, tmps, assign, body, hy, hR⟩ := hY _ (tk, tn) _ hJ2 (by rw [List.length_take]; rw [stp_len] at hkl ⊢; omega)
      dsimp only at hy
      have hpk : (stp l).take (k + 1) <+: stp l := List.take_prefix _ _
      clear k0 k1 hx hJs hkl
      gi_wp2
      refine hR.mono ?_
      rintro e W3 (⟨rfl, hJ3, hk3⟩ | ⟨rfl, hJx3⟩)
      · gi_wp2
        go_roundw
        case rel => exact ⟨k + 1, by omega, by go_num, by rw [htk]; exact hJ3, hnx2.trans hk3⟩
        case measure => simp [intOf]; omega
      · gi_wp2
        refine bodyPost_ret (results_none rfl _ _ _) rfl ?_
        exact ⟨⟨_, rfl⟩, .inr ⟨_, by rw [← htk]; exact hpk, hJx3⟩⟩
    · obtain rfl : k = m := by omega
      have hJl : J (stp l) wr := by rwa [List.take_of_length_le (by rw [stp_len]; omega)] at hJs
      gi_wp2
      go_end0
      exact ⟨⟨_, rfl⟩, .inl hJl⟩

/-- Steps' value stops where it is told to, and gives the steps of a table. -/
theorem steps_stops (F : Fence) (n : Nat) (hF : F.fn 41) (hro : F.round = none) (hn : 1 ≤ n) (Bt n₀ g m c : Nat) (p : Option Addr) (l : List Pr) (w : World) (hBt : Bt < w.heap.size) (hn₀ : n₀ ≤ w.heap.size)
    (hB : w.cell? ⟨Bt, 0, none⟩ = some (.pointer (some ⟨g, 0, none⟩))) (s : Tab w g p m c l) (hp : l ≠ [] → ∀ a, p = some a → a.block < n₀) :
    SeqStopsK F n Try.prog 41 #[.pointer (some ⟨Bt, 0, none⟩)] (fun x : Pr => #[.int .u64 (x.2 : Nat), .int .i64 x.1]) (Below n₀) (fun ys => ys = stp l) (fun pre => pre <+: stp l) l.length w := fun lp J Jx W hW hJ _ hY h0 =>
  steps1_in F n hF hro hn lp Bt n₀ g m c p l J Jx W ((hW.cell (p := ⟨Bt, 0, none⟩) hBt).trans hB) (s.fr0 (Fr.ofBelow hW)) hp hJ hY (Nat.le_trans hn₀ hW.size) h0
end Go.Proofs.Ytegdhggilaehdaa
