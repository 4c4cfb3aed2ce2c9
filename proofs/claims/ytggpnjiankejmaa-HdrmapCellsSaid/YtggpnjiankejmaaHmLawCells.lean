/- The law on cells. -/
import Derived.Test.YtggpnjiankejmaaHmAlive
namespace Go.Proofs.Ytggpnjiankejmaa
open Go.RowKit

set_option maxRecDepth 100000 in
set_option maxHeartbeats 1000000 in
theorem law_cells (a d : Nat) (v : Int) (w : World) (hv : v ≤ 9223372036854775807) :
    Calls Try.prog 4 #[.int .u64 (a : Nat), .int .u8 (d : Nat), .int .i64 v] w fun e w' => e = .returned (.bool true) ∧ Fr S0 w w' := by
  have HA := Lib.hid (alive_any w)
  obtain ⟨L, H, D, ⟨l0, lh, hh⟩, ⟨d1, d5⟩, hsum, hsh⟩ := lshape_any a d
  have HSH := Lib.hid hsh
  have HN := Lib.hid (fun W => new_yes L H D W d1 d5 l0 lh hh hsum)
  have HR0 := fun W => rshape_yes L H D W d1 d5 l0 lh hh
  rw [show decide (unt L + mag D ≤ 62) = true from decide_eq_true hsum] at HR0
  have HR := Lib.hid HR0
  have hM := mag_bd D d1 d5
  have hG := mag_ge D (by have : 10 ^ D ≤ 10 ^ 5 := Nat.pow_le_pow_right (by decide) d5; omega) (by omega)
  obtain ⟨u, eU⟩ : ∃ u, unt L = u := ⟨_, rfl⟩
  obtain ⟨m, eM⟩ : ∃ m, mag D = m := ⟨_, rfl⟩
  rw [eU, eM] at HN HR hsum
  rw [eM] at hM hG
  have hm : 1 ≤ m := by omega
  have hm18 := hM.2
  clear eU eM hsh HR0 l0 lh hh hM
  by_cases hneg : v < 0
  · clear hG d1 d5 hv hm hm18 hsum
    go_enter Try.func4, Try.ntmps4
    go_wp2_with fail
    refine HA.out.mono ?_
    rintro e w1 ⟨rfl, f1⟩
    have F1 := Lib.hid f1
    clear f1 HA
    go_wp2_with fail
    refine (HSH.out _).mono ?_
    rintro e w2 ⟨rfl, f2⟩
    have F2 := Lib.hid ((F1.out.trans0 f2).trans0 (Fr.alloc S0 w2 (.cells #[.int .i64 (L : Nat), .int .i64 (H : Nat), .int .i64 (D : Nat)] 23)))
    have HC := Lib.hid (box3 w2 (.int .i64 (L : Nat)) (.int .i64 (H : Nat)) (.int .i64 (D : Nat)) 23)
    clear f2 F1 HSH
    go_wp2_with fail
    refine (HN.out _).mono ?_
    rintro e w3 ⟨g, rfl, hmp⟩
    have F3 := Lib.hid (F2.out.trans0 hmp.fr)
    have HM := Lib.hid (fun W (f : Fr S0 w3 W) => hmp.map.fr0 f)
    obtain ⟨c0, c1, c2⟩ := (show w3.cell? ⟨w2.heap.size, 0, none⟩ = some (.int .i64 (L : Nat)) ∧ w3.cell? ⟨w2.heap.size, 1, none⟩ = some (.int .i64 (H : Nat)) ∧ w3.cell? ⟨w2.heap.size, 2, none⟩ = some (.int .i64 (D : Nat)) from ⟨hmp.fr.cell HC.out.1 (fun h => h), hmp.fr.cell HC.out.2.1 (fun h => h), hmp.fr.cell HC.out.2.2 (fun h => h)⟩)
    clear hmp HN F2 HC
    go_wp2_with fail
    refine (HR.out _).mono ?_
    rintro e w4 ⟨rfl, f⟩
    have G4 := Lib.hid f
    clear f HR c0 c1 c2
    go_wp2_with fail
    refine (index_no g _ v hneg).mono ?_
    rintro e w5 ⟨rfl, f⟩
    have G5 := Lib.hid (G4.out.trans0 f)
    clear f G4
    go_wp2_with fail
    refine (ask_low_no g _ v hneg).mono ?_
    rintro e w6 ⟨rfl, f⟩
    have G6 := Lib.hid (G5.out.trans0 f)
    clear f G5
    go_wp2_with fail
    refine (ask_high_no g _ v hneg).mono ?_
    rintro e w7 ⟨rfl, f⟩
    have G7 := Lib.hid (G6.out.trans0 f)
    clear f G6
    go_wp2_with fail
    refine (ask_size_no g _ v hneg).mono ?_
    rintro e w8 ⟨rfl, f⟩
    have G8 := Lib.hid (G7.out.trans0 f)
    clear f G7
    go_wp2_with fail
    refine (same_neg g _ v hneg).mono ?_
    rintro e w9 ⟨rfl, f⟩
    have G9 := Lib.hid (G8.out.trans0 f)
    clear f G8
    go_wp2_with fail
    go_ret
    exact ⟨rfl, F3.out.trans0 G9.out⟩
  · obtain ⟨n, rfl⟩ : ∃ n : Nat, v = n := ⟨v.toNat, by omega⟩
    have hn : n < 9223372036854775808 := by omega
    have hI := idx_small u m n hm hm18 hsum hn
    have hib := ibk_idx u m n hm (by omega)
    have hbk := bkt_most (u + m) n (by omega) hn
    have hvi := vof_idx u m n hm (by omega)
    have hE := end_le u m n hsum hn
    have p := two_pos (wid u m n)
    have HI := Lib.hid (fun g W (s : MapIs W g (L : Nat) (H : Nat) (D : Nat) u m) => index_any g _ _ _ _ _ W s n hn)
    have HL := Lib.hid (fun g W (s : MapIs W g (L : Nat) (H : Nat) (D : Nat) u m) => ask_low g _ _ _ _ _ W s n hn)
    have HH := Lib.hid (fun g W (s : MapIs W g (L : Nat) (H : Nat) (D : Nat) u m) => ask_high g _ _ _ _ _ W s n hn)
    have HS := Lib.hid (fun g W (s : MapIs W g (L : Nat) (H : Nat) (D : Nat) u m) => ask_size g _ _ _ _ _ W s n hn)
    have HV := Lib.hid (fun g W (s : MapIs W g (L : Nat) (H : Nat) (D : Nat) u m) => value_yes g _ _ _ _ _ W s (idx u m n) (by omega) (by rw [hib]; exact hbk))
    rw [hvi] at HV
    have HRC := Lib.hid (fun W => rcell_any u m n W hm hsum hn)
    have HRI := Lib.hid (fun W => rindex_any u m n W hm hm18 hsum hn)
    obtain ⟨I, eI⟩ : ∃ I, idx u m n = I := ⟨_, rfl⟩
    obtain ⟨B, eB⟩ : ∃ B, beg u m n = B := ⟨_, rfl⟩
    obtain ⟨Z, eZ⟩ : ∃ Z, 2 ^ wid u m n = Z := ⟨_, rfl⟩
    obtain ⟨Y, eY⟩ : ∃ Y, Z - 1 = Y := ⟨_, rfl⟩
    obtain ⟨R, eR⟩ : ∃ R, B + Y = R := ⟨_, rfl⟩
    rw [eI] at HI HV HRI hI
    rw [eB] at HL HH HV HRC hE
    rw [eZ] at HH HS HRC hE p
    rw [eY, eR] at HH
    have e1 : (Z : Int) - 1 = (Y : Int) := by omega
    have e2 : (B : Int) + (Y : Int) = (R : Int) := by omega
    have hR : R ≤ 9223372036854775807 := by omega
    have hY : Y ≤ 9223372036854775807 := by omega
    clear eI eB eZ eY eR hG d1 d5 hn hib hbk hvi hE p hm hm18 hsum
    go_enter Try.func4, Try.ntmps4
    go_wp2_with fail
    refine HA.out.mono ?_
    rintro e w1 ⟨rfl, f1⟩
    have F1 := Lib.hid f1
    clear f1 HA
    go_wp2_with fail
    refine (HSH.out _).mono ?_
    rintro e w2 ⟨rfl, f2⟩
    have F2 := Lib.hid ((F1.out.trans0 f2).trans0 (Fr.alloc S0 w2 (.cells #[.int .i64 (L : Nat), .int .i64 (H : Nat), .int .i64 (D : Nat)] 23)))
    have HC := Lib.hid (box3 w2 (.int .i64 (L : Nat)) (.int .i64 (H : Nat)) (.int .i64 (D : Nat)) 23)
    clear f2 F1 HSH
    go_wp2_with fail
    refine (HN.out _).mono ?_
    rintro e w3 ⟨g, rfl, hmp⟩
    have F3 := Lib.hid (F2.out.trans0 hmp.fr)
    have HM := Lib.hid (fun W (f : Fr S0 w3 W) => hmp.map.fr0 f)
    obtain ⟨c0, c1, c2⟩ := (show w3.cell? ⟨w2.heap.size, 0, none⟩ = some (.int .i64 (L : Nat)) ∧ w3.cell? ⟨w2.heap.size, 1, none⟩ = some (.int .i64 (H : Nat)) ∧ w3.cell? ⟨w2.heap.size, 2, none⟩ = some (.int .i64 (D : Nat)) from ⟨hmp.fr.cell HC.out.1 (fun h => h), hmp.fr.cell HC.out.2.1 (fun h => h), hmp.fr.cell HC.out.2.2 (fun h => h)⟩)
    clear hmp HN F2 HC
    go_wp2_with fail
    refine (HR.out _).mono ?_
    rintro e w4 ⟨rfl, f⟩
    have G4 := Lib.hid f
    clear f HR c0 c1 c2
    go_wp2_with fail
    refine (HI.out _ _ (HM.out _ G4.out)).mono ?_
    rintro e w5 ⟨rfl, f⟩
    have G5 := Lib.hid (G4.out.trans0 f)
    clear f G4
    go_wp2_with fail
    refine (HL.out _ _ (HM.out _ G5.out)).mono ?_
    rintro e w6 ⟨rfl, f⟩
    have G6 := Lib.hid (G5.out.trans0 f)
    clear f G5
    go_wp2_with fail
    refine (HH.out _ _ (HM.out _ G6.out)).mono ?_
    rintro e w7 ⟨rfl, f⟩
    have G7 := Lib.hid (G6.out.trans0 f)
    clear f G6
    go_wp2_with fail
    refine (HS.out _ _ (HM.out _ G7.out)).mono ?_
    rintro e w8 ⟨rfl, f⟩
    have G8 := Lib.hid (G7.out.trans0 f)
    clear f G7
    go_wp2_with fail
    refine (HRC.out _).mono ?_
    rintro e w9 ⟨rfl, rfl⟩
    go_wp2_with fail
    refine (HV.out _ _ (HM.out _ G8.out)).mono ?_
    rintro e w10 ⟨rfl, f⟩
    have G10 := Lib.hid (G8.out.trans0 f)
    clear f G8
    go_wp2_with fail
    refine (HRI.out _).mono ?_
    rintro e w11 ⟨rfl, rfl⟩
    go_wp2_with fail
    go_ret
    exact ⟨rfl, F3.out.trans0 G10.out⟩
end Go.Proofs.Ytggpnjiankejmaa
