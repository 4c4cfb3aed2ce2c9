/- New; what is done with a list is handed on as a closure. -/
import Derived.Test.YtibgjmlgjmnheaaClSto
namespace Go.Proofs.Ytibgjmlgjmnheaa
open Go.RowKit

theorem has_cadd : Has 26 := fun _ _ => by kernel_rfl
theorem has_ctake : Has 31 := fun _ _ => by kernel_rfl
/-- a store that is new to w -/
structure NewC (w w' : World) (g h m : Nat) (a : List Pr) : Prop where
  is : Col w' g h m a
  g0 : w.heap.size ≤ g
  h0 : w.heap.size ≤ h
  hl : h < w'.heap.size
  fr : Fr S0 w w'
theorem cut_nil (m : Nat) : cutN [] m = [] ∧ cutA [] m = 0 := ⟨cut_none (Nat.zero_le _), cutA_none (Nat.zero_le _)⟩
set_option maxRecDepth 100000 in
set_option maxHeartbeats 1000000 in
theorem new_yes (m : Nat) (w : World) (h2 : 2 ≤ m) (h3 : m ≤ 4096) : Calls Try.prog 9 #[.int .i64 (m : Nat)] w fun e w' => ∃ g, e = .returned (.tuple #[.pointer (some ⟨g, 0, none⟩), .int .i64 0]) ∧ NewC w w' g g m [] := by
  have d1 : decide ((m : Int) < 2) = false := decide_eq_false (by omega)
  have d2 : decide ((4096 : Int) < (m : Int)) = false := decide_eq_false (by omega)
  have HN : Hid (NewC w (w.alloc (.cells #[.int .i64 (m : Nat), .slice none 0 0, .int .u64 0, .int .i64 0, .int .u64 0] 63)) w.heap.size w.heap.size m []) := Lib.hid
    ⟨⟨0, by
      rw [(cut_nil m).1, (cut_nil m).2]
      exact StIs.zero _ ⟨heap_alloc_new w _⟩, fun h => absurd (cut_nil m).2 h, Good.nil, h2, h3⟩, Nat.le_refl _, Nat.le_refl _, by rw [size_alloc]; omega, Fr.alloc _ _ _⟩
  clear h2 h3
  go_enter Try.func9, Try.ntmps9
  go_wp2_with fail
  go_ret2
  exact ⟨_, rfl, HN.out⟩

section
variable {X : Sx} (g h n b c : Nat) (k : Int) (l : List Pr) (w : World)
set_option maxRecDepth 100000 in
set_option maxHeartbeats 1000000 in
theorem add1_any (hn : n < 18446744073709551616) (s : StIs X w g h l) (hb : w.cell? ⟨b, 0, none⟩ = some (.int .i64 k)) (hc : w.cell? ⟨c, 0, none⟩ = some (.int .u64 (n : Nat))) :
    Calls Try.prog 26 #[.pointer (some ⟨g, 1, none⟩), .pointer (some ⟨b, 0, none⟩), .pointer (some ⟨c, 0, none⟩)] w fun e w' => e = .returned (.int .i64 (addE0 l k n : Nat)) ∧ ∃ h', Turned X w w' g h h' (addL0 l k n) := by
  have H := Lib.hid (add_any g h n k l w hn s)
  clear s hn
  go_enter Try.func26, Try.ntmps26
  go_wp2_with fail
  refine H.out.mono ?_
  rintro e w1 ⟨rfl, h', t⟩
  have T := Lib.hid t
  clear t
  go_wp2_with fail
  go_ret
  exact ⟨rfl, h', T.out⟩
end
section
variable {X Y : Sx} (g h g2 h2 b : Nat) (l l2 : List Pr) (w : World)
set_option maxRecDepth 100000 in
set_option maxHeartbeats 1000000 in
theorem take1_any (s : StIs X w g h l) (t : StIs Y w g2 h2 l2) (hb : w.cell? ⟨b, 0, none⟩ = some (.pointer (some ⟨g2, 0, none⟩))) :
    Calls Try.prog 31 #[.pointer (some ⟨g, 1, none⟩), .pointer (some ⟨b, 0, none⟩)] w fun e w' => e = .returned (.int .i64 (takeE0 l l2 : Nat)) ∧ ∃ h', Turned X w w' g h h' (takeL0 l l2) := by
  have H := Lib.hid (take_any g h g2 h2 l l2 w s t)
  clear s t
  go_enter Try.func31, Try.ntmps31
  go_wp2_with fail
  refine H.out.mono ?_
  rintro e w1 ⟨rfl, h', t⟩
  have T := Lib.hid t
  clear t
  go_wp2_with fail
  go_ret
  exact ⟨rfl, h', T.out⟩
end
end Go.Proofs.Ytibgjmlgjmnheaa
