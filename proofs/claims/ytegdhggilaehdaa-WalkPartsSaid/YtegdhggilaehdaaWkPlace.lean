/- Places in a table are sought by halves: place; Below, Upto, Key. -/
import Derived.Test.YtegdhggilaehdaaWkTab
import Derived.Deep.RegionLaw
import Derived.Deep.RegionHeld3
namespace Go.Proofs.Ytegdhggilaehdaa
open Go.RowKit

theorem has_place : Has 43 := fun _ _ => by kernel_rfl
theorem has_key : Has 30 := fun _ _ => by kernel_rfl
theorem has_below : Has 31 := fun _ _ => by kernel_rfl
theorem has_upto : Has 32 := fun _ _ => by kernel_rfl

/-- a closure over one variable, v, that is asked of a step -/
def AsksS (C : Nat) (v : Value) (q : Pr → Bool) : Prop := ∀ (b : Nat) (x : Pr) (W : World), W.cell? ⟨b, 0, none⟩ = some v → Calls Try.prog C #[.agg #[.int .i64 x.1, .int .u64 (x.2 : Nat)], .pointer (some ⟨b, 0, none⟩)] W fun e w' => e = .returned (.bool (q x)) ∧ Fr S0 W w'
set_option maxRecDepth 100000 in
set_option maxHeartbeats 400000 in
theorem asks_key (r : Nat) : AsksS 30 (.int .u64 (r : Nat)) fun x => decide (r ≤ x.2) := by
  rintro b ⟨x, y⟩ W hk
  have hk2 := (Fr.alloc S0 W (.cells #[.int .i64 x, .int .u64 (y : Int)] 64)).cell hk (fun h => h)
  simp only
  go_enter Try.func30, Try.ntmps30
  go_wp2_with fail
  go_ret
  exact ⟨by simp, Fr.alloc _ _ _⟩
set_option maxRecDepth 100000 in
set_option maxHeartbeats 400000 in
theorem asks_below (k : Int) : AsksS 31 (.int .i64 k) fun x => decide (k ≤ x.1) := by
  rintro b ⟨x, y⟩ W hk
  have hk2 := (Fr.alloc S0 W (.cells #[.int .i64 x, .int .u64 (y : Int)] 64)).cell hk (fun h => h)
  simp only
  go_enter Try.func31, Try.ntmps31
  go_wp2_with fail
  go_ret
  exact ⟨by simp, Fr.alloc _ _ _⟩
set_option maxRecDepth 100000 in
set_option maxHeartbeats 400000 in
theorem asks_upto (k : Int) : AsksS 32 (.int .i64 k) fun x => decide (k < x.1) := by
  rintro b ⟨x, y⟩ W hk
  have hk2 := (Fr.alloc S0 W (.cells #[.int .i64 x, .int .u64 (y : Int)] 64)).cell hk (fun h => h)
  simp only
  go_enter Try.func32, Try.ntmps32
  go_wp2_with fail
  go_ret
  exact ⟨by simp, Fr.alloc _ _ _⟩

section
variable (C b g bg bf : Nat) (v : Value) (q : Pr → Bool) (l : List Pr) (w : World)
set_option maxRecDepth 100000 in
set_option maxHeartbeats 1000000 in
theorem place1_any (i : Nat) (hC : Has C) (hA : AsksS C v q) (hk : w.cell? ⟨b, 0, none⟩ = some v) (s : TabIs w g l) (hi : i < l.length)
    (hf : w.cell? ⟨bf, 0, none⟩ = some (.func (.func C) #[] #[.pointer (some ⟨b, 0, none⟩)])) (hg : w.cell? ⟨bg, 0, none⟩ = some (.pointer (some ⟨g, 0, none⟩))) :
    Calls Try.prog 43 #[.int .i64 (i : Nat), .pointer (some ⟨bf, 0, none⟩), .pointer (some ⟨bg, 0, none⟩)] w fun e w' => e = .returned (.bool (q (l[i].1, ahd l (i + 1)))) ∧ Fr S0 w w' := by
  obtain ⟨p, n, c, s⟩ := s
  have c0 := s.c0
  have hin : (i : Int) < (n : Int) := by have := s.len; omega
  have hsm := s.small
  obtain ⟨bb, oo, rfl, k0, k1⟩ := s.pri.at i (by rw [stp_len]; exact hi)
  rw [stp_at l i hi] at k0 k1
  have HC : Hid (∀ W, Fr S0 w W → Calls Try.prog C #[.agg #[.int .i64 l[i].1, .int .u64 (ahd l (i + 1) : Nat)], .pointer (some ⟨b, 0, none⟩)] W fun e w' => e = .returned (.bool (q (l[i].1, ahd l (i + 1)))) ∧ Fr S0 W w') := Lib.hid fun W f => hA b (l[i].1, ahd l (i + 1)) W (f.cell hk fun h => h)
  have hcf : ∀ x W, (callFunc C #[.agg x, .pointer (some ⟨b, 0, none⟩)]).run Try.prog W = .ok (.enter C #[.agg x, .pointer (some ⟨b, 0, none⟩)]) W := fun x W => hC _ _
  have ea : ltot (l.take (i + 1)) = ahd l (i + 1) := rfl
  simp only [ea] at k0 k1
  obtain ⟨X, hX⟩ : ∃ X, l[i].1 = X := ⟨_, rfl⟩
  obtain ⟨U, hU⟩ : ∃ U, ahd l (i + 1) = U := ⟨_, rfl⟩
  rw [hX] at k0 HC ⊢
  rw [hU] at k1 HC ⊢
  obtain ⟨Y, hY⟩ : ∃ Y, q (X, U) = Y := ⟨_, rfl⟩
  rw [hY] at HC ⊢
  clear s hX hU hY hC hA hk hi ea
  go_enter Try.func43, Try.ntmps43
  go_wp2_with fail
  go_region_law (first
    | (go_simp; (with_reducible show Calls _ C _ _ _); (with_reducible refine (HC.out _ (Fr.drew _ _)).mono ?_); rintro _ w5 ⟨rfl, f5⟩; have HF := Lib.hid ((Fr.drew S0 w).trans0 f5); clear f5; dsimp only))
  all_goals
    go_wp2_with fail
    go_ret
    exact ⟨rfl, HF.out⟩
end
end Go.Proofs.Ytegdhggilaehdaa
