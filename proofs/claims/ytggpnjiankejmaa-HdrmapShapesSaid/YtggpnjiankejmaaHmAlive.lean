/- The document's example of layer 17; the law's shapes. -/
import Derived.Test.YtggpnjiankejmaaHmShape
namespace Go.Proofs.Ytggpnjiankejmaa
open Go.RowKit

theorem idx_small (u m v : Nat) (hm : 1 ≤ m) (hx : m ≤ 18) (hs : u + m ≤ 62) (hv : v < 9223372036854775808) : idx u m v ≤ 100000000 := by
  have hl := idx_lt u m v hm (by omega)
  have hb := bkt_most (u + m) v (by omega) hv
  have h2 : (2 + bkt (u + m) v) * 2 ^ (m - 1) ≤ 65 * 131072 := Nat.mul_le_mul (by omega) (half_le hx)
  omega

set_option maxRecDepth 100000 in
set_option maxHeartbeats 400000 in
theorem lshape_any (a d : Nat) : ∃ L H D : Nat, (0 < L ∧ 2 * L ≤ H ∧ H < 9223372036854775808) ∧ (1 ≤ D ∧ D ≤ 5) ∧ unt L + mag D ≤ 62 ∧
    ∀ w, Calls Try.prog 14 #[.int .u64 (a : Nat), .int .u8 (d : Nat), .int .u64 0] w fun e w' => e = .returned (.agg #[.int .i64 (L : Nat), .int .i64 (H : Nat), .int .i64 (D : Nat)]) ∧ Fr S0 w w' := by
  obtain ⟨A, hA⟩ : ∃ A, a % 100000 = A := ⟨_, rfl⟩
  obtain ⟨E, hE⟩ : ∃ E, d % 5 = E := ⟨_, rfl⟩
  have e1 : (a : Int) % 100000 = (A : Int) := by omega
  have e2 : (d : Int) % 5 = (E : Int) := by omega
  obtain ⟨L, hL⟩ : ∃ L, 1 + A = L := ⟨_, rfl⟩
  obtain ⟨D, hD⟩ : ∃ D, 1 + E = D := ⟨_, rfl⟩
  have e3 : 1 + (A : Int) = (L : Int) := by omega
  have e4 : 1 + (E : Int) = (D : Int) := by omega
  obtain ⟨H, hH⟩ : ∃ H, 2 * L = H := ⟨_, rfl⟩
  have e5 : 2 * (L : Int) = (H : Int) := by omega
  have hA2 : A ≤ 99999 := by omega
  have hE2 : E ≤ 4 := by omega
  have hL2 : L ≤ 100000 := by omega
  have hD2 : D ≤ 5 := by omega
  have hH2 : H ≤ 200000 := by omega
  have hu : unt L ≤ 16 := by
    have := (bits_iff L 17 (by omega)).2 (by omega)
    rw [unt]; omega
  have hm := mag_bd D (by omega) (by omega)
  refine ⟨L, H, D, ⟨by omega, by omega, by omega⟩, ⟨by omega, by omega⟩, by omega, fun w => ?_⟩
  clear hA hE hL hD hH hu hm
  go_enter Try.func14, Try.ntmps14
  go_wp2_with fail
  exact bodyPost_ret (v := .agg #[.int .i64 (L : Nat), .int .i64 (H : Nat), .int .i64 (D : Nat)]) (by simp [results, Try.results14, go_sem]) rfl ⟨rfl, (Fr.alloc _ _ _).trans0 (Fr.alloc _ _ _)⟩

section
variable (g : Nat) (W : World) (s : MapIs W g (1 : Nat) (3600000000 : Nat) (3 : Nat) 0 11)
include s
theorem ex_index (v i : Nat) (hv : v < 9223372036854775808) (h : idx 0 11 v = i) : Calls Try.prog 15 #[.pointer (some ⟨g, 0, none⟩), .int .i64 (v : Nat)] W fun e w' => e = .returned (.tuple #[.int .i64 (i : Nat), .int .i64 0]) ∧ Fr S0 W w' := by
  have := index_any g _ _ _ _ _ W s v hv
  rwa [h] at this
theorem ex_low : Calls Try.prog 16 #[.pointer (some ⟨g, 0, none⟩), .int .i64 10007] W fun e w' => e = .returned (.tuple #[.int .i64 10000, .int .i64 0]) ∧ Fr S0 W w' := by
  have := ask_low g _ _ _ _ _ W s 10007 (by decide)
  rwa [show beg 0 11 10007 = 10000 by decide] at this
theorem ex_high : Calls Try.prog 17 #[.pointer (some ⟨g, 0, none⟩), .int .i64 10007] W fun e w' => e = .returned (.tuple #[.int .i64 10007, .int .i64 0]) ∧ Fr S0 W w' := by
  have := ask_high g _ _ _ _ _ W s 10007 (by decide)
  rwa [show beg 0 11 10007 + (2 ^ wid 0 11 10007 - 1) = 10007 by decide] at this
theorem ex_size : Calls Try.prog 18 #[.pointer (some ⟨g, 0, none⟩), .int .i64 10007] W fun e w' => e = .returned (.tuple #[.int .i64 8, .int .i64 0]) ∧ Fr S0 W w' := by
  have := ask_size g _ _ _ _ _ W s 10007 (by decide)
  rwa [show 2 ^ wid 0 11 10007 = 8 by decide] at this
theorem ex_buckets : Calls Try.prog 26 #[.pointer (some ⟨g, 0, none⟩), .int .i64 3600000000] W fun e w' => e = .returned (.int .i64 22) ∧ Fr S0 W w' := by
  have := buckets_any g _ _ _ _ _ W s 3600000000 (by decide)
  rwa [show 1 + bkt (0 + 11) (3600000000 : Int).toNat = 22 by decide] at this
theorem ex_cells : Calls Try.prog 29 #[.pointer (some ⟨g, 0, none⟩), .int .i64 22] W fun e w' => e = .returned (.int .i64 23552) ∧ Fr S0 W w' := by
  have := cells_any g _ _ _ _ _ W s 22
  rwa [show (cnt 22 + 1) * 2 ^ (11 - 1) = 23552 by decide] at this
end

set_option maxRecDepth 100000 in
set_option maxHeartbeats 1000000 in
theorem alive_any (w : World) : Calls Try.prog 8 #[] w fun e w' => e = .returned (.bool true) ∧ Fr S0 w w' := by
  have HN := new_yes 1 3600000000 3 w (by decide) (by decide) (by decide) (by decide) (by decide) (by decide)
  rw [show unt 1 = 0 by decide, show mag 3 = 11 by decide] at HN
  have HN := Lib.hid HN
  go_enter Try.func8, Try.ntmps8
  go_wp2_with fail
  refine HN.out.mono ?_
  rintro e w1 ⟨g, rfl, hM⟩
  have HM := Lib.hid (fun W (f : Fr S0 w1 W) => hM.map.fr0 f)
  have F := Lib.hid hM.fr
  clear hM HN
  go_wp2_with fail
  refine (ex_index g _ (HM.out _ (Fr.refl _ _)) 2047 2047 (by decide) (by decide)).mono ?_
  rintro e w2 ⟨rfl, f⟩
  have G2 := Lib.hid f
  clear f
  go_wp2_with fail
  refine (ex_index g _ (HM.out _ G2.out) 2049 2048 (by decide) (by decide)).mono ?_
  rintro e w3 ⟨rfl, f⟩
  have G3 := Lib.hid (G2.out.trans0 f)
  clear f G2
  go_wp2_with fail
  refine (ex_index g _ (HM.out _ G3.out) 4096 3072 (by decide) (by decide)).mono ?_
  rintro e w4 ⟨rfl, f⟩
  have G4 := Lib.hid (G3.out.trans0 f)
  clear f G3
  go_wp2_with fail
  refine (ex_low g _ (HM.out _ G4.out)).mono ?_
  rintro e w5 ⟨rfl, f⟩
  have G5 := Lib.hid (G4.out.trans0 f)
  clear f G4
  go_wp2_with fail
  refine (ex_high g _ (HM.out _ G5.out)).mono ?_
  rintro e w6 ⟨rfl, f⟩
  have G6 := Lib.hid (G5.out.trans0 f)
  clear f G5
  go_wp2_with fail
  refine (ex_size g _ (HM.out _ G6.out)).mono ?_
  rintro e w7 ⟨rfl, f⟩
  have G7 := Lib.hid (G6.out.trans0 f)
  clear f G6
  go_wp2_with fail
  refine (unit_any g _ _ _ _ _ _ (HM.out _ G7.out)).mono ?_
  rintro e w8 ⟨rfl, rfl⟩
  go_wp2_with fail
  refine (magnitude_any g _ _ _ _ _ _ (HM.out _ G7.out)).mono ?_
  rintro e w8 ⟨rfl, rfl⟩
  go_wp2_with fail
  refine (ex_buckets g _ (HM.out _ G7.out)).mono ?_
  rintro e w8 ⟨rfl, f⟩
  have G8 := Lib.hid (G7.out.trans0 f)
  clear f G7
  go_wp2_with fail
  refine (ex_cells g _ (HM.out _ G8.out)).mono ?_
  rintro e w9 ⟨rfl, f⟩
  have G9 := Lib.hid (G8.out.trans0 f)
  clear f G8
  go_wp2_with fail
  go_ret
  exact ⟨rfl, F.out.trans0 G9.out⟩
end Go.Proofs.Ytggpnjiankejmaa
