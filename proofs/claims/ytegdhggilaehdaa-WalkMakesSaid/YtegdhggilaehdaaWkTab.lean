/- A table's block; Total, Len, what is ahead of a place. -/
import Derived.Test.YtegdhggilaehdaaWkMath
import Derived.Test.YtegdhggilaehdaaSpFind
namespace Go.Proofs.Ytegdhggilaehdaa
open Go.RowKit

/-- block g is the table of l: its steps lie at p -/
structure Tab (w : World) (g : Nat) (p : Option Addr) (n c : Nat) (l : List Pr) : Prop where
  blk : w.heap[g]? = some (.cells #[.slice p n c] 62 (0, 0))
  pri : PrI w p (stp l)
  len : l.length = n
  ok : Tb l
  small : n ≤ 100000
  cap : n ≤ c ∧ c ≤ maxLen
def TabIs (w : World) (g : Nat) (l : List Pr) : Prop := ∃ p n c, Tab w g p n c l
section
variable {w w' : World} {g : Nat} {p : Option Addr} {n c : Nat} {l : List Pr}
theorem Tab.c0 (s : Tab w g p n c l) : w.cell? ⟨g, 0, none⟩ = some (.slice p n c) := by simp [World.cell?, s.blk]
theorem Tab.fr0 (s : Tab w g p n c l) (f : Fr S0 w w') : Tab w' g p n c l := ⟨f.row s.blk fun h => h, s.pri.fr0 f, s.len, s.ok, s.small, s.cap⟩
theorem TabIs.fr0 (s : TabIs w g l) (f : Fr S0 w w') : TabIs w' g l := let ⟨p, n, c, s⟩ := s; ⟨p, n, c, s.fr0 f⟩
theorem TabIs.ok (s : TabIs w g l) : Tb l := let ⟨_, _, _, s⟩ := s; s.ok
theorem TabIs.small (s : TabIs w g l) : l.length ≤ 100000 := let ⟨_, _, _, s⟩ := s; s.len ▸ s.small
theorem TabIs.lt (s : TabIs w g l) : g < w.heap.size := let ⟨_, _, _, s⟩ := s; (Array.getElem?_eq_some_iff.1 s.blk).1
end

set_option maxRecDepth 100000 in
set_option maxHeartbeats 400000 in
theorem ahead_any (g i : Nat) (l : List Pr) (w : World) (s : TabIs w g l) (hi : i ≤ l.length) :
    Calls Try.prog 28 #[.pointer (some ⟨g, 0, none⟩), .int .i64 (i : Nat)] w fun e w' => e = .returned (.int .u64 (ahd l i : Nat)) ∧ w' = w := by
  obtain ⟨p, n, c, s⟩ := s
  by_cases h0 : i = 0
  · subst h0
    rw [ahd_zero]
    clear s hi
    go_enter Try.func28, Try.ntmps28
    go_wp2_with fail
    go_ret
    exact ⟨rfl, rfl⟩
  · obtain ⟨j, hj⟩ : ∃ j, i - 1 = j := ⟨_, rfl⟩
    have hjl : j < l.length := by omega
    have c0 := s.c0
    obtain ⟨b, o, rfl, k0, k1⟩ := s.pri.at j (by rw [stp_len]; exact hjl)
    rw [stp_at l j hjl] at k1
    have hin : (j : Int) < (n : Int) := by have := s.len; omega
    have hsm := s.small
    have e1 : (i : Int) - 1 = (j : Int) := by omega
    have hi0 : ((i : Int) == 0) = false := by rw [beq_eq_false_iff_ne]; omega
    have ea : ltot (l.take (j + 1)) = ahd l i := by unfold ahd; rw [show j + 1 = i by omega]
    simp only [ea] at k1
    obtain ⟨A, hA⟩ : ∃ A, ahd l i = A := ⟨_, rfl⟩
    rw [hA] at k1 ⊢
    clear k0 hA ea s hj h0 hi hjl
    go_enter Try.func28, Try.ntmps28
    go_wp2_with fail
    go_ret
    exact ⟨rfl, rfl⟩

set_option maxRecDepth 100000 in
set_option maxHeartbeats 400000 in
theorem total_any (g : Nat) (l : List Pr) (w : World) (s : TabIs w g l) :
    Calls Try.prog 11 #[.pointer (some ⟨g, 0, none⟩)] w fun e w' => e = .returned (.int .u64 (ltot l : Nat)) ∧ w' = w := by
  have HA := Lib.hid (ahead_any g l.length l w s (Nat.le_refl _))
  rw [ahd_all] at HA
  obtain ⟨p, n, c, s⟩ := s
  rw [s.len] at HA
  have c0 := s.c0
  obtain ⟨T, hT⟩ : ∃ T, ltot l = T := ⟨_, rfl⟩
  rw [hT] at HA ⊢
  clear s hT
  go_enter Try.func11, Try.ntmps11
  go_wp2_with fail
  refine HA.out.mono ?_
  rintro e w1 ⟨rfl, rfl⟩
  go_wp2_with fail
  go_ret
  exact ⟨rfl, rfl⟩

set_option maxRecDepth 100000 in
set_option maxHeartbeats 400000 in
theorem len_any (g : Nat) (l : List Pr) (w : World) (s : TabIs w g l) :
    Calls Try.prog 13 #[.pointer (some ⟨g, 0, none⟩)] w fun e w' => e = .returned (.int .i64 (l.length : Nat)) ∧ w' = w := by
  obtain ⟨p, n, c, s⟩ := s
  rw [s.len]
  have c0 := s.c0
  clear s
  go_enter Try.func13, Try.ntmps13
  go_wp2_with fail
  go_ret
  exact ⟨rfl, rfl⟩
end Go.Proofs.Ytegdhggilaehdaa
