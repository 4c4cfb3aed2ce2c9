/- The law on indexes. -/
import Derived.Test.YtggpnjiankejmaaHmAlive
namespace Go.Proofs.Ytggpnjiankejmaa
open Go.RowKit

theorem rvalue_yes (u m n : Nat) (w : World) (hm : 1 ≤ m) (hx : m ≤ 18) (hs : u + m ≤ 62) (h : ibk m n ≤ 63 - (u + m)) :
    Calls Try.prog 23 #[.int .i64 (u : Nat), .int .i64 (m : Nat), .int .i64 (n : Nat)] w fun e w' => e = .returned (.tuple #[.int .i64 (vof u m n : Nat), .bool true]) ∧ w' = w := by
  have p := two_pos (m - 1)
  have h0 : n < 66 * 2 ^ (m - 1) := by
    rw [← Nat.div_lt_iff_lt_mul p]; rw [ibk] at h; generalize n / 2 ^ (m - 1) = Q at *; omega
  have hl := vof_lt u m n hm (by omega) h
  have hp := two_pos (u + ibk m n)
  refine (rvalue_any u m n w hm hx hs h0).mono ?_
  rintro e w' ⟨⟨-, rfl⟩ | ⟨hno, -⟩, rfl⟩
  · exact ⟨rfl, rfl⟩
  · omega
theorem rvalue_no (u m n : Nat) (w : World) (hm : 1 ≤ m) (hx : m ≤ 18) (hs : u + m ≤ 62) (h : 63 - (u + m) < ibk m n) :
    Calls Try.prog 23 #[.int .i64 (u : Nat), .int .i64 (m : Nat), .int .i64 (n : Nat)] w fun e w' => e = .returned (.tuple #[.int .i64 0, .bool false]) ∧ w' = w := by
  by_cases h0 : n < 66 * 2 ^ (m - 1)
  · have hl := vof_ge u m n hm h
    refine (rvalue_any u m n w hm hx hs h0).mono ?_
    rintro e w' ⟨⟨hno, -⟩ | ⟨-, rfl⟩, rfl⟩
    · omega
    · exact ⟨rfl, rfl⟩
  · exact rvalue_big u m n w hm hx (by omega)

set_option maxRecDepth 100000 in
set_option maxHeartbeats 1000000 in
theorem law_indexes (a d : Nat) (i : Int) (w : World) (hi0 : -9223372036854775808 ≤ i) (hi1 : i ≤ 9223372036854775807) :
    Calls Try.prog 5 #[.int .u64 (a : Nat), .int .u8 (d : Nat), .int .i64 i] w fun e w' => e = .returned (.bool true) ∧ Fr S0 w w' := by
  have HA := Lib.hid (alive_any w)
  obtain ⟨L, H, D, ⟨l0, lh, hh⟩, ⟨d1, d5⟩, hsum, hsh⟩ := lshape_any a d
  have HSH := Lib.hid hsh
  have HN := Lib.hid (fun W => new_yes L H D W d1 d5 l0 lh hh hsum)
  have HR0 := fun W => rshape_yes L H D W d1 d5 l0 lh hh
  rw [show decide (unt L + mag D ≤ 62) = true from decide_eq_true hsum] at HR0
  have HR := Lib.hid HR0
  have hM := mag_bd D d1 d5
  have hG := mag_ge D (by have : 10 ^ D ≤ 10 ^ 5 := Nat.pow_le_pow_right (by decide) d5; omega) (by omega)
  obtain ⟨u, eU⟩ : ∃ u, unt L = u := ⟨_, rfl⟩
  obtain ⟨m, eM⟩ : ∃ m, mag D = m := ⟨_, rfl⟩
  rw [eU, eM] at HN HR hsum
  rw [eM] at hM hG
  have hm : 1 ≤ m := by omega
  have hm18 := hM.2
  clear eU eM hsh HR0 l0 lh hh hM
  by_cases hneg : i < 0
  · have HV := Lib.hid (fun g W (s : MapIs W g (L : Nat) (H : Nat) (D : Nat) u m) => value_neg g _ _ _ _ _ W s i hneg hi0)
    have HRV := Lib.hid (fun W => rvalue_neg u m i W hm hm18 hneg)
    clear hG d1 d5 hi0 hi1 hm hm18 hsum
    go_enter Try.func5, Try.ntmps5
    go_wp2_with fail
    refine HA.out.mono ?_
    rintro e w1 ⟨rfl, f1⟩
    have F1 := Lib.hid f1
    clear f1 HA
    go_wp2_with fail
    refine (HSH.out _).mono ?_
    rintro e w2 ⟨rfl, f2⟩
    have F2 := Lib.hid ((F1.out.trans0 f2).trans0 (Fr.alloc S0 w2 (.cells #[.int .i64 (L : Nat), .int .i64 (H : Nat), .int .i64 (D : Nat)] 23)))
    have HC := Lib.hid (box3 w2 (.int .i64 (L : Nat)) (.int .i64 (H : Nat)) (.int .i64 (D : Nat)) 23)
    clear f2 F1 HSH
    go_wp2_with fail
    refine (HN.out _).mono ?_
    rintro e w3 ⟨g, rfl, hmp⟩
    have F3 := Lib.hid (F2.out.trans0 hmp.fr)
    have HM := Lib.hid (fun W (f : Fr S0 w3 W) => hmp.map.fr0 f)
    obtain ⟨c0, c1, c2⟩ := (show w3.cell? ⟨w2.heap.size, 0, none⟩ = some (.int .i64 (L : Nat)) ∧ w3.cell? ⟨w2.heap.size, 1, none⟩ = some (.int .i64 (H : Nat)) ∧ w3.cell? ⟨w2.heap.size, 2, none⟩ = some (.int .i64 (D : Nat)) from ⟨hmp.fr.cell HC.out.1 (fun h => h), hmp.fr.cell HC.out.2.1 (fun h => h), hmp.fr.cell HC.out.2.2 (fun h => h)⟩)
    clear hmp HN F2 HC
    go_wp2_with fail
    refine (HR.out _).mono ?_
    rintro e w4 ⟨rfl, f⟩
    have G4 := Lib.hid f
    clear f HR c0 c1 c2
    go_wp2_with fail
    refine (HV.out _ _ (HM.out _ G4.out)).mono ?_
    rintro e w5 ⟨rfl, f⟩
    have G5 := Lib.hid (G4.out.trans0 f)
    clear f G4
    go_wp2_with fail
    refine (HRV.out _).mono ?_
    rintro e w6 ⟨rfl, rfl⟩
    go_wp2_with fail
    go_ret
    exact ⟨rfl, F3.out.trans0 G5.out⟩
  · obtain ⟨n, rfl⟩ : ∃ n : Nat, i = n := ⟨i.toNat, by omega⟩
    have hn : n < 9223372036854775808 := by omega
    by_cases hbk : 63 - (u + m) < ibk m n
    · have HV := Lib.hid (fun g W (s : MapIs W g (L : Nat) (H : Nat) (D : Nat) u m) => value_no g _ _ _ _ _ W s n hn hbk)
      have HRV := Lib.hid (fun W => rvalue_no u m n W hm hm18 hsum hbk)
      clear hG d1 d5 hi0 hi1 hm hm18 hsum hn hbk hneg
      go_enter Try.func5, Try.ntmps5
      go_wp2_with fail
      refine HA.out.mono ?_
      rintro e w1 ⟨rfl, f1⟩
      have F1 := Lib.hid f1
      clear f1 HA
      go_wp2_with fail
      refine (HSH.out _).mono ?_
      rintro e w2 ⟨rfl, f2⟩
      have F2 := Lib.hid ((F1.out.trans0 f2).trans0 (Fr.alloc S0 w2 (.cells #[.int .i64 (L : Nat), .int .i64 (H : Nat), .int .i64 (D : Nat)] 23)))
      have HC := Lib.hid (box3 w2 (.int .i64 (L : Nat)) (.int .i64 (H : Nat)) (.int .i64 (D : Nat)) 23)
      clear f2 F1 HSH
      go_wp2_with fail
      refine (HN.out _).mono ?_
      rintro e w3 ⟨g, rfl, hmp⟩
      have F3 := Lib.hid (F2.out.trans0 hmp.fr)
      have HM := Lib.hid (fun W (f : Fr S0 w3 W) => hmp.map.fr0 f)
      obtain ⟨c0, c1, c2⟩ := (show w3.cell? ⟨w2.heap.size, 0, none⟩ = some (.int .i64 (L : Nat)) ∧ w3.cell? ⟨w2.heap.size, 1, none⟩ = some (.int .i64 (H : Nat)) ∧ w3.cell? ⟨w2.heap.size, 2, none⟩ = some (.int .i64 (D : Nat)) from ⟨hmp.fr.cell HC.out.1 (fun h => h), hmp.fr.cell HC.out.2.1 (fun h => h), hmp.fr.cell HC.out.2.2 (fun h => h)⟩)
      clear hmp HN F2 HC
      go_wp2_with fail
      refine (HR.out _).mono ?_
      rintro e w4 ⟨rfl, f⟩
      have G4 := Lib.hid f
      clear f HR c0 c1 c2
      go_wp2_with fail
      refine (HV.out _ _ (HM.out _ G4.out)).mono ?_
      rintro e w5 ⟨rfl, f⟩
      have G5 := Lib.hid (G4.out.trans0 f)
      clear f G4
      go_wp2_with fail
      refine (HRV.out _).mono ?_
      rintro e w6 ⟨rfl, rfl⟩
      go_wp2_with fail
      go_ret
      exact ⟨rfl, F3.out.trans0 G5.out⟩
    · have hbk' : ibk m n ≤ 63 - (u + m) := by omega
      have hl := vof_lt u m n hm (by omega) hbk'
      have p := two_pos (u + ibk m n)
      have hnx := vof_next u m n hm
      have hvl : vof u m n < 9223372036854775808 := by omega
      have HV := Lib.hid (fun g W (s : MapIs W g (L : Nat) (H : Nat) (D : Nat) u m) => value_yes g _ _ _ _ _ W s n hn hbk')
      have HRV := Lib.hid (fun W => rvalue_yes u m n W hm hm18 hsum hbk')
      have HI0 := fun g W (s : MapIs W g (L : Nat) (H : Nat) (D : Nat) u m) => index_any g _ _ _ _ _ W s (vof u m n) hvl
      rw [idx_vof u m n hm (by omega) hbk'] at HI0
      have HI := Lib.hid HI0
      have HH0 := fun g W (s : MapIs W g (L : Nat) (H : Nat) (D : Nat) u m) => ask_high g _ _ _ _ _ W s (vof u m n) hvl
      rw [beg_vof u m n hm (by omega) hbk', wid_vof u m n hm (by omega) hbk'] at HH0
      have HH := Lib.hid HH0
      have hib : n ≤ 100000000 := by
        have := idx_small u m (vof u m n) hm hm18 hsum hvl
        rwa [idx_vof u m n hm (by omega) hbk'] at this
      have NO : vof u m n + 2 ^ (u + ibk m n) = 9223372036854775808 → 63 - (u + m) < ibk m (n + 1) := fun he => by
        by_cases hc : ibk m (n + 1) ≤ 63 - (u + m)
        · have a := vof_lt u m (n + 1) hm (by omega) hc
          have b := two_pos (u + ibk m (n + 1))
          omega
        · omega
      have YES : vof u m n + 2 ^ (u + ibk m n) ≠ 9223372036854775808 → ibk m (n + 1) ≤ 63 - (u + m) := fun he => by
        by_cases hc : ibk m (n + 1) ≤ 63 - (u + m)
        · exact hc
        · have a := vof_ge u m (n + 1) hm (by omega)
          omega
      obtain ⟨V, eV⟩ : ∃ V, vof u m n = V := ⟨_, rfl⟩
      obtain ⟨Z, eZ⟩ : ∃ Z, 2 ^ (u + ibk m n) = Z := ⟨_, rfl⟩
      obtain ⟨Y, eY⟩ : ∃ Y, Z - 1 = Y := ⟨_, rfl⟩
      obtain ⟨R, eR⟩ : ∃ R, V + Y = R := ⟨_, rfl⟩
      rw [eV] at HV HRV HI0 HH0 hl hvl hnx NO YES
      rw [eZ] at HH0 hl p hnx NO YES
      rw [eY, eR] at HH0
      have HI := Lib.hid HI0
      have HH := Lib.hid HH0
      obtain ⟨n1, en⟩ : ∃ n1, n + 1 = n1 := ⟨_, rfl⟩
      have e3 : (n : Int) + 1 = (n1 : Int) := by omega
      have hn1 : n1 ≤ 100000001 := by omega
      rw [en] at NO YES hnx
      have hR2 : R + 1 = V + Z := by omega
      have hR : R ≤ 9223372036854775807 := by omega
      by_cases hend : V + Z = 9223372036854775808
      · have HV1 := Lib.hid (fun g W (s : MapIs W g (L : Nat) (H : Nat) (D : Nat) u m) => value_no g _ _ _ _ _ W s n1 (by omega) (NO hend))
        obtain rfl : R = 9223372036854775807 := by omega
        clear eV eZ eY eR hG d1 d5 hi0 hi1 hm hm18 hsum hn hbk hbk' hneg hl p hnx NO YES HI0 HH0 en hR2 hend hib
        go_enter Try.func5, Try.ntmps5
        go_wp2_with fail
        refine HA.out.mono ?_
        rintro e w1 ⟨rfl, f1⟩
        have F1 := Lib.hid f1
        clear f1 HA
        go_wp2_with fail
        refine (HSH.out _).mono ?_
        rintro e w2 ⟨rfl, f2⟩
        have F2 := Lib.hid ((F1.out.trans0 f2).trans0 (Fr.alloc S0 w2 (.cells #[.int .i64 (L : Nat), .int .i64 (H : Nat), .int .i64 (D : Nat)] 23)))
        have HC := Lib.hid (box3 w2 (.int .i64 (L : Nat)) (.int .i64 (H : Nat)) (.int .i64 (D : Nat)) 23)
        clear f2 F1 HSH
        go_wp2_with fail
        refine (HN.out _).mono ?_
        rintro e w3 ⟨g, rfl, hmp⟩
        have F3 := Lib.hid (F2.out.trans0 hmp.fr)
        have HM := Lib.hid (fun W (f : Fr S0 w3 W) => hmp.map.fr0 f)
        obtain ⟨c0, c1, c2⟩ := (show w3.cell? ⟨w2.heap.size, 0, none⟩ = some (.int .i64 (L : Nat)) ∧ w3.cell? ⟨w2.heap.size, 1, none⟩ = some (.int .i64 (H : Nat)) ∧ w3.cell? ⟨w2.heap.size, 2, none⟩ = some (.int .i64 (D : Nat)) from ⟨hmp.fr.cell HC.out.1 (fun h => h), hmp.fr.cell HC.out.2.1 (fun h => h), hmp.fr.cell HC.out.2.2 (fun h => h)⟩)
        clear hmp HN F2 HC
        go_wp2_with fail
        refine (HR.out _).mono ?_
        rintro e w4 ⟨rfl, f⟩
        have G4 := Lib.hid f
        clear f HR c0 c1 c2
        go_wp2_with fail
        refine (HV.out _ _ (HM.out _ G4.out)).mono ?_
        rintro e w5 ⟨rfl, f⟩
        have G5 := Lib.hid (G4.out.trans0 f)
        clear f G4
        go_wp2_with fail
        refine (HRV.out _).mono ?_
        rintro e w6 ⟨rfl, rfl⟩
        go_wp2_with fail
        refine (HI.out _ _ (HM.out _ G5.out)).mono ?_
        rintro e w7 ⟨rfl, f⟩
        have G7 := Lib.hid (G5.out.trans0 f)
        clear f G5
        go_wp2_with fail
        refine (HH.out _ _ (HM.out _ G7.out)).mono ?_
        rintro e w8 ⟨rfl, f⟩
        have G8 := Lib.hid (G7.out.trans0 f)
        clear f G7
        go_wp2_with fail
        refine (HV1.out _ _ (HM.out _ G8.out)).mono ?_
        rintro e w9 ⟨rfl, f⟩
        have G9 := Lib.hid (G8.out.trans0 f)
        clear f G8
        go_wp2_with fail
        go_ret
        exact ⟨rfl, F3.out.trans0 G9.out⟩
      · have HV10 := fun g W (s : MapIs W g (L : Nat) (H : Nat) (D : Nat) u m) => value_yes g _ _ _ _ _ W s n1 (by omega) (YES hend)
        rw [hnx, ← hR2] at HV10
        obtain ⟨X, eX⟩ : ∃ X, R + 1 = X := ⟨_, rfl⟩
        rw [eX] at HV10
        have HV1 := Lib.hid HV10
        have e4 : (R : Int) + 1 = (X : Int) := by omega
        have hX : X ≤ 9223372036854775807 := by omega
        have hne : ((R : Int) == 9223372036854775807) = false := by rw [beq_eq_false_iff_ne]; omega
        clear HV10 eX
        clear eV eZ eY eR hG d1 d5 hi0 hi1 hm hm18 hsum hn hbk hbk' hneg hl p hnx NO YES HI0 HH0 en hR2 hend hib
        go_enter Try.func5, Try.ntmps5
        go_wp2_with fail
        refine HA.out.mono ?_
        rintro e w1 ⟨rfl, f1⟩
        have F1 := Lib.hid f1
        clear f1 HA
        go_wp2_with fail
        refine (HSH.out _).mono ?_
        rintro e w2 ⟨rfl, f2⟩
        have F2 := Lib.hid ((F1.out.trans0 f2).trans0 (Fr.alloc S0 w2 (.cells #[.int .i64 (L : Nat), .int .i64 (H : Nat), .int .i64 (D : Nat)] 23)))
        have HC := Lib.hid (box3 w2 (.int .i64 (L : Nat)) (.int .i64 (H : Nat)) (.int .i64 (D : Nat)) 23)
        clear f2 F1 HSH
        go_wp2_with fail
        refine (HN.out _).mono ?_
        rintro e w3 ⟨g, rfl, hmp⟩
        have F3 := Lib.hid (F2.out.trans0 hmp.fr)
        have HM := Lib.hid (fun W (f : Fr S0 w3 W) => hmp.map.fr0 f)
        obtain ⟨c0, c1, c2⟩ := (show w3.cell? ⟨w2.heap.size, 0, none⟩ = some (.int .i64 (L : Nat)) ∧ w3.cell? ⟨w2.heap.size, 1, none⟩ = some (.int .i64 (H : Nat)) ∧ w3.cell? ⟨w2.heap.size, 2, none⟩ = some (.int .i64 (D : Nat)) from ⟨hmp.fr.cell HC.out.1 (fun h => h), hmp.fr.cell HC.out.2.1 (fun h => h), hmp.fr.cell HC.out.2.2 (fun h => h)⟩)
        clear hmp HN F2 HC
        go_wp2_with fail
        refine (HR.out _).mono ?_
        rintro e w4 ⟨rfl, f⟩
        have G4 := Lib.hid f
        clear f HR c0 c1 c2
        go_wp2_with fail
        refine (HV.out _ _ (HM.out _ G4.out)).mono ?_
        rintro e w5 ⟨rfl, f⟩
        have G5 := Lib.hid (G4.out.trans0 f)
        clear f G4
        go_wp2_with fail
        refine (HRV.out _).mono ?_
        rintro e w6 ⟨rfl, rfl⟩
        go_wp2_with fail
        refine (HI.out _ _ (HM.out _ G5.out)).mono ?_
        rintro e w7 ⟨rfl, f⟩
        have G7 := Lib.hid (G5.out.trans0 f)
        clear f G5
        go_wp2_with fail
        refine (HH.out _ _ (HM.out _ G7.out)).mono ?_
        rintro e w8 ⟨rfl, f⟩
        have G8 := Lib.hid (G7.out.trans0 f)
        clear f G7
        go_wp2_with fail
        refine (HV1.out _ _ (HM.out _ G8.out)).mono ?_
        rintro e w9 ⟨rfl, f⟩
        have G9 := Lib.hid (G8.out.trans0 f)
        clear f G8
        go_wp2_with fail
        go_ret
        exact ⟨rfl, F3.out.trans0 G9.out⟩
end Go.Proofs.Ytggpnjiankejmaa
