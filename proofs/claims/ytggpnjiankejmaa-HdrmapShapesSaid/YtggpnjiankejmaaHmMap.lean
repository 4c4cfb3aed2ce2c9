/- A map of cells: its block; half, width, bucket, Unit, Magnitude, Shape. -/
import Derived.Test.YtggpnjiankejmaaHmMath
import Derived.Test.YtggpnjiankejmaaRkCode
import Derived.BigRegion
import Derived.BigQuiet
import Derived.StillTailTactics
import Derived.Deep.CutBlock
import Derived.Deep.CutRange
import Derived.Deep.DeepCutAuto
import Derived.Deep.RegionHeld3
import Derived.Deep.RegionLaw
namespace Go.Proofs.Ytggpnjiankejmaa
open Go.RowKit

/-- block g is a map of the shape of these numbers, with unit u and magnitude m -/
structure MapIs (w : World) (g : Nat) (lo hi d : Int) (u m : Nat) : Prop where
  blk : w.heap[g]? = some (.cells #[.int .i64 lo, .int .i64 hi, .int .i64 d, .int .i64 (u : Nat), .int .i64 (m : Nat)] 58 (0, 0))
  h5 : 5 ≤ m
  hx : m ≤ 18
  hs : u + m ≤ 62
section
variable {w w' : World} {g : Nat} {lo hi d : Int} {u m : Nat}
theorem MapIs.fr0 (s : MapIs w g lo hi d u m) (f : Fr S0 w w') : MapIs w' g lo hi d u m := ⟨f.row s.blk fun h => h, s.h5, s.hx, s.hs⟩
theorem MapIs.hm (s : MapIs w g lo hi d u m) : 1 ≤ m := by have := s.h5; omega
theorem MapIs.lt (s : MapIs w g lo hi d u m) : g < w.heap.size := (Array.getElem?_eq_some_iff.1 s.blk).1
theorem MapIs.c0 (s : MapIs w g lo hi d u m) : w.cell? ⟨g, 0, none⟩ = some (.int .i64 lo) := by simp [World.cell?, s.blk]
theorem MapIs.c1 (s : MapIs w g lo hi d u m) : w.cell? ⟨g, 1, none⟩ = some (.int .i64 hi) := by simp [World.cell?, s.blk]
theorem MapIs.c2 (s : MapIs w g lo hi d u m) : w.cell? ⟨g, 2, none⟩ = some (.int .i64 d) := by simp [World.cell?, s.blk]
theorem MapIs.c3 (s : MapIs w g lo hi d u m) : w.cell? ⟨g, 3, none⟩ = some (.int .i64 (u : Nat)) := by simp [World.cell?, s.blk]
theorem MapIs.c4 (s : MapIs w g lo hi d u m) : w.cell? ⟨g, 4, none⟩ = some (.int .i64 (m : Nat)) := by simp [World.cell?, s.blk]
theorem MapIs.drewN (s : MapIs w g lo hi d u m) (n : Nat) : MapIs (w.drewN n) g lo hi d u m := ⟨s.blk, s.h5, s.hx, s.hs⟩
end

section
variable (g : Nat) (lo hi d : Int) (u m : Nat) (w : World) (s : MapIs w g lo hi d u m)
include s
set_option maxRecDepth 100000 in
set_option maxHeartbeats 400000 in
theorem unit_any : Calls Try.prog 12 #[.pointer (some ⟨g, 0, none⟩)] w fun e w' => e = .returned (.int .i64 (u : Nat)) ∧ w' = w := by
  have c3 := s.c3
  clear s
  go_enter Try.func12, Try.ntmps12
  go_wp2_with fail
  go_ret
  exact ⟨rfl, rfl⟩
set_option maxRecDepth 100000 in
set_option maxHeartbeats 400000 in
theorem magnitude_any : Calls Try.prog 13 #[.pointer (some ⟨g, 0, none⟩)] w fun e w' => e = .returned (.int .i64 (m : Nat)) ∧ w' = w := by
  have c4 := s.c4
  clear s
  go_enter Try.func13, Try.ntmps13
  go_wp2_with fail
  go_ret
  exact ⟨rfl, rfl⟩
set_option maxRecDepth 100000 in
set_option maxHeartbeats 400000 in
theorem half_any : Calls Try.prog 34 #[.pointer (some ⟨g, 0, none⟩)] w fun e w' => e = .returned (.int .i64 (2 ^ (m - 1) : Nat)) ∧ w' = w := by
  have c4 := s.c4
  have hs := s.hs
  obtain ⟨k, rfl⟩ : ∃ k, m = k + 1 := ⟨m - 1, by have := s.hm; omega⟩
  have l : 2 ^ k ≤ 2 ^ 62 := two_le (by omega)
  obtain ⟨H, hH⟩ : ∃ H, 2 ^ k = H := ⟨_, rfl⟩
  have e1 : ((k + 1 : Nat) : Int) - 1 = (k : Int) := by omega
  rw [Nat.add_sub_cancel, hH]
  rw [hH] at l
  have wH : (2 : Int) ^ k = (H : Int) := by rw [← hH, Int.natCast_pow]; rfl
  obtain ⟨M, hM⟩ : ∃ M, k + 1 = M := ⟨_, rfl⟩
  rw [hM] at e1 c4
  have hk : k ≤ 61 := by omega
  clear hs hH s hM
  go_enter Try.func34, Try.ntmps34
  go_wp2_with fail
  go_ret
  exact ⟨rfl, rfl⟩
set_option maxRecDepth 100000 in
set_option maxHeartbeats 400000 in
theorem width_any (b : Nat) (hb : b ≤ 64) : Calls Try.prog 35 #[.pointer (some ⟨g, 0, none⟩), .int .i64 (b : Nat)] w fun e w' => e = .returned (.int .i64 (u + b : Nat)) ∧ w' = w := by
  have c3 := s.c3
  have hs := s.hs
  clear s
  go_enter Try.func35, Try.ntmps35
  go_wp2_with fail
  go_ret
  exact ⟨rfl, rfl⟩
set_option maxRecDepth 100000 in
set_option maxHeartbeats 400000 in
theorem bucket_any (v : Nat) (hv : v < 9223372036854775808) : Calls Try.prog 33 #[.pointer (some ⟨g, 0, none⟩), .int .i64 (v : Nat)] w fun e w' => e = .returned (.int .i64 (bkt (u + m) v : Nat)) ∧ Fr S0 w w' := by
  have c3 := s.c3
  have c4 := s.c4
  have hs := s.hs
  have hL : Lib.bitLen v ≤ 64 := (bits_iff v 64 (by omega)).2 (by omega)
  have HL := Lib.hid (fun W => bits_Len64 (v : Int) W (by omega) (by omega))
  have wv : IntKind.u64.wrap (v : Int) = (v : Int) := by rw [IntKind.wrap_u64]; omega
  rw [show ((v : Int).toNat) = v by omega] at HL
  rw [bkt]
  obtain ⟨L, eL⟩ : ∃ L, Lib.bitLen v = L := ⟨_, rfl⟩
  rw [eL] at HL hL ⊢
  obtain ⟨Y, eY⟩ : ∃ Y : Int, (L : Int) - (u : Int) = Y := ⟨_, rfl⟩
  obtain ⟨X, eX⟩ : ∃ X : Int, Y - (m : Int) = X := ⟨_, rfl⟩
  obtain ⟨B, eB⟩ : ∃ B, L - (u + m) = B := ⟨_, rfl⟩
  rw [eB]
  have hY : -64 ≤ Y ∧ Y ≤ 64 := by omega
  have hX : -128 ≤ X ∧ X ≤ 64 := by omega
  have wY : IntKind.i64.wrap Y = Y := by rw [IntKind.wrap_i64]; omega
  have wX : IntKind.i64.wrap X = X := by rw [IntKind.wrap_i64]; omega
  have em : max X 0 = (B : Int) := by omega
  have em2 : (if X < 0 then 0 else X) = (B : Int) := by split <;> omega
  clear s eL eB hL hs
  go_enter Try.func33, Try.ntmps33
  go_upto_region 15 with fail
  go_region_held3 (fun w' => w'.cell? ⟨g, 3, none⟩ = some (.int .i64 (u : Nat)) ∧ w'.cell? ⟨g, 4, none⟩ = some (.int .i64 (m : Nat)))
    (first
      | (go_split_ands; exact ⟨by assumption, by assumption⟩))
    (first | (go_at_call 41; ((with_reducible refine (HL.out _).mono ?_); rintro _ _ ⟨rfl, rfl⟩)))
  all_goals
    go_wp2_with fail
    go_ret
    exact ⟨rfl, Fr.drew _ _⟩
end
end Go.Proofs.Ytggpnjiankejmaa
