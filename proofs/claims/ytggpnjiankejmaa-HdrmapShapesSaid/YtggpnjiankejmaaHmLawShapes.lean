/- The law on shapes. -/
import Derived.Test.YtggpnjiankejmaaHmAlive
namespace Go.Proofs.Ytggpnjiankejmaa
open Go.RowKit

set_option maxRecDepth 100000 in
set_option maxHeartbeats 1000000 in
theorem law_shapes (lo hi d : Int) (w : World) (hl : -9223372036854775808 ≤ lo ∧ lo ≤ 9223372036854775807) (hh : -9223372036854775808 ≤ hi ∧ hi ≤ 9223372036854775807) :
    Calls Try.prog 3 #[.agg #[.int .i64 lo, .int .i64 hi, .int .i64 d]] w fun e w' => e = .returned (.bool true) ∧ Fr S0 w w' := by
  have HA := Lib.hid (fun W => alive_any W)
  have HC := Lib.hid (box3 w (.int .i64 lo) (.int .i64 hi) (.int .i64 d) 23)
  by_cases hmay : May lo hi d
  · obtain ⟨⟨d1, d5⟩, l1, l2⟩ := hmay
    obtain ⟨D, rfl⟩ : ∃ D : Nat, d = D := ⟨d.toNat, by omega⟩
    obtain ⟨L, rfl⟩ : ∃ L : Nat, lo = L := ⟨lo.toNat, by omega⟩
    obtain ⟨H, rfl⟩ : ∃ H : Nat, hi = H := ⟨hi.toNat, by omega⟩
    by_cases hsum : unt L + mag D ≤ 62
    · have HN := Lib.hid (fun W => new_yes L H D W (by omega) (by omega) (by omega) (by omega) (by omega) hsum)
      have HR0 := fun W => rshape_yes L H D W (by omega) (by omega) (by omega) (by omega) (by omega)
      rw [show decide (unt L + mag D ≤ 62) = true from decide_eq_true hsum] at HR0
      obtain ⟨u, eU⟩ : ∃ u, unt L = u := ⟨_, rfl⟩
      obtain ⟨m, eM⟩ : ∃ m, mag D = m := ⟨_, rfl⟩
      rw [eU, eM] at HN HR0
      have HR := Lib.hid HR0
      clear HR0 eU eM hsum d1 d5 l1 l2 hl hh
      go_enter Try.func3, Try.ntmps3
      go_wp2_with fail
      refine (HA.out _).mono ?_
      rintro e w1 ⟨rfl, f⟩
      have G1 := Lib.hid f
      obtain ⟨c0, c1, c2⟩ := (show w1.cell? ⟨w.heap.size, 0, none⟩ = some (.int .i64 (L : Nat)) ∧ w1.cell? ⟨w.heap.size, 1, none⟩ = some (.int .i64 (H : Nat)) ∧ w1.cell? ⟨w.heap.size, 2, none⟩ = some (.int .i64 (D : Nat)) from ⟨f.cell HC.out.1 (fun h => h), f.cell HC.out.2.1 (fun h => h), f.cell HC.out.2.2 (fun h => h)⟩)
      have HCB := Lib.hid (fun W (f : Fr S0 w1 W) => (show W.cell? ⟨w.heap.size, 0, none⟩ = some (.int .i64 (L : Nat)) ∧ W.cell? ⟨w.heap.size, 1, none⟩ = some (.int .i64 (H : Nat)) ∧ W.cell? ⟨w.heap.size, 2, none⟩ = some (.int .i64 (D : Nat)) from ⟨f.cell c0 (fun h => h), f.cell c1 (fun h => h), f.cell c2 (fun h => h)⟩))
      clear f HC HA
      go_wp2_with fail
      refine (HN.out _).mono ?_
      rintro e w2 ⟨g, rfl, hmp⟩
      have G2 := Lib.hid hmp.fr
      clear c0 c1 c2
      obtain ⟨c0, c1, c2⟩ := HCB.out _ G2.out
      have HM := Lib.hid (fun W (f : Fr S0 w2 W) => hmp.map.fr0 f)
      clear hmp HN
      go_wp2_with fail
      refine (HR.out _).mono ?_
      rintro e w3 ⟨rfl, f⟩
      have G3 := Lib.hid f
      have HC3 := Lib.hid (HCB.out _ (G2.out.trans0 f))
      have HSH := Lib.hid (fun W (f : Fr S0 w3 W) => shape_any g _ _ _ _ _ W (HM.out W (G3.out.trans0 f)))
      have HUN := Lib.hid (fun W (f : Fr S0 w3 W) => unit_any g _ _ _ _ _ W (HM.out W (G3.out.trans0 f)))
      have HMG := Lib.hid (fun W (f : Fr S0 w3 W) => magnitude_any g _ _ _ _ _ W (HM.out W (G3.out.trans0 f)))
      clear f c0 c1 c2 HCB HR HM
      go_upto_region 25 with fail
      go_region_held3 (fun w' => w'.cell? ⟨w.heap.size, 0, none⟩ = some (.int .i64 (L : Nat)) ∧ w'.cell? ⟨w.heap.size, 1, none⟩ = some (.int .i64 (H : Nat)) ∧ w'.cell? ⟨w.heap.size, 2, none⟩ = some (.int .i64 (D : Nat)))
        (first
          | (go_split_ands; exact ⟨by assumption, by assumption, by assumption⟩)
          | exact HC3.out
          | (go_split_ands; exact ⟨f9.cell (by assumption) (fun h => h), f9.cell (by assumption) (fun h => h), f9.cell (by assumption) (fun h => h)⟩))
        (first
          | (go_at_call 11; ((with_reducible refine (HSH.out _ (Fr.drew _ _)).mono ?_); rintro _ w4 ⟨rfl, f9⟩; have F9 := Lib.hid ((Fr.drew S0 w3).trans0 f9)))
          | (go_at_call 12; ((with_reducible refine (HUN.out _ F9.out).mono ?_); rintro _ _ ⟨rfl, rfl⟩))
          | (go_at_call 13; ((with_reducible refine (HMG.out _ F9.out).mono ?_); rintro _ _ ⟨rfl, rfl⟩)))
      all_goals
        go_wp2_with fail
        go_ret
        exact ⟨rfl, (Fr.alloc S0 _ _).trans0 (G1.out.trans0 (G2.out.trans0 (G3.out.trans0 F9.out)))⟩
    · have HN := Lib.hid (fun W => new_big L H D W (by omega) (by omega) (by omega) (by omega) (by omega) (by omega))
      have HR0 := fun W => rshape_yes L H D W (by omega) (by omega) (by omega) (by omega) (by omega)
      rw [show decide (unt L + mag D ≤ 62) = false from decide_eq_false hsum] at HR0
      obtain ⟨u, eU⟩ : ∃ u, unt L = u := ⟨_, rfl⟩
      obtain ⟨m, eM⟩ : ∃ m, mag D = m := ⟨_, rfl⟩
      rw [eU, eM] at HR0
      have HR := Lib.hid HR0
      clear HR0 eU eM hsum d1 d5 l1 l2 hl hh
      go_enter Try.func3, Try.ntmps3
      go_wp2_with fail
      refine (HA.out _).mono ?_
      rintro e w1 ⟨rfl, f⟩
      have G1 := Lib.hid f
      obtain ⟨c0, c1, c2⟩ := (show w1.cell? ⟨w.heap.size, 0, none⟩ = some (.int .i64 (L : Nat)) ∧ w1.cell? ⟨w.heap.size, 1, none⟩ = some (.int .i64 (H : Nat)) ∧ w1.cell? ⟨w.heap.size, 2, none⟩ = some (.int .i64 (D : Nat)) from ⟨f.cell HC.out.1 (fun h => h), f.cell HC.out.2.1 (fun h => h), f.cell HC.out.2.2 (fun h => h)⟩)
      have HCB := Lib.hid (fun W (f : Fr S0 w1 W) => (show W.cell? ⟨w.heap.size, 0, none⟩ = some (.int .i64 (L : Nat)) ∧ W.cell? ⟨w.heap.size, 1, none⟩ = some (.int .i64 (H : Nat)) ∧ W.cell? ⟨w.heap.size, 2, none⟩ = some (.int .i64 (D : Nat)) from ⟨f.cell c0 (fun h => h), f.cell c1 (fun h => h), f.cell c2 (fun h => h)⟩))
      clear f HC HA
      go_wp2_with fail
      refine (HN.out _).mono ?_
      rintro e w2 ⟨rfl, f⟩
      have G2 := Lib.hid f
      clear c0 c1 c2
      obtain ⟨c0, c1, c2⟩ := HCB.out _ G2.out
      clear f HN HCB
      go_wp2_with fail
      refine (HR.out _).mono ?_
      rintro e w3 ⟨rfl, f⟩
      have G3 := Lib.hid f
      clear f c0 c1 c2 HR
      go_wp2_with fail
      go_ret
      exact ⟨rfl, (Fr.alloc S0 _ _).trans0 (G1.out.trans0 (G2.out.trans0 G3.out))⟩
  · have HN := Lib.hid (fun W => new_no lo hi d W hmay hh)
    have HR := Lib.hid (fun W => rshape_no lo hi d W hmay hl hh.2)
    clear hmay hl hh
    go_enter Try.func3, Try.ntmps3
    go_wp2_with fail
    refine (HA.out _).mono ?_
    rintro e w1 ⟨rfl, f⟩
    have G1 := Lib.hid f
    obtain ⟨c0, c1, c2⟩ := (show w1.cell? ⟨w.heap.size, 0, none⟩ = some (.int .i64 lo) ∧ w1.cell? ⟨w.heap.size, 1, none⟩ = some (.int .i64 hi) ∧ w1.cell? ⟨w.heap.size, 2, none⟩ = some (.int .i64 d) from ⟨f.cell HC.out.1 (fun h => h), f.cell HC.out.2.1 (fun h => h), f.cell HC.out.2.2 (fun h => h)⟩)
    have HCB := Lib.hid (fun W (f : Fr S0 w1 W) => (show W.cell? ⟨w.heap.size, 0, none⟩ = some (.int .i64 lo) ∧ W.cell? ⟨w.heap.size, 1, none⟩ = some (.int .i64 hi) ∧ W.cell? ⟨w.heap.size, 2, none⟩ = some (.int .i64 d) from ⟨f.cell c0 (fun h => h), f.cell c1 (fun h => h), f.cell c2 (fun h => h)⟩))
    clear f HC HA
    go_wp2_with fail
    refine (HN.out _).mono ?_
    rintro e w2 ⟨rfl, f⟩
    have G2 := Lib.hid f
    clear c0 c1 c2
    obtain ⟨c0, c1, c2⟩ := HCB.out _ G2.out
    clear f HN HCB
    go_wp2_with fail
    refine (HR.out _).mono ?_
    rintro e w3 ⟨rfl, f⟩
    have G3 := Lib.hid f
    clear f c0 c1 c2 HR
    go_wp2_with fail
    go_ret
    exact ⟨rfl, (Fr.alloc S0 _ _).trans0 (G1.out.trans0 (G2.out.trans0 G3.out))⟩
end Go.Proofs.Ytggpnjiankejmaa
