/- The law on buckets. -/
import Derived.Test.YtggpnjiankejmaaHmAlive
namespace Go.Proofs.Ytggpnjiankejmaa
open Go.RowKit

theorem bkt_zero (s : Nat) : bkt s 0 = 0 := by rw [bkt, show Lib.bitLen 0 = 0 by decide]; omega
theorem cnt_nat (n : Nat) (h1 : 1 ≤ n) (h2 : n ≤ 64) : cnt (n : Int) = n := by unfold cnt; omega

set_option maxRecDepth 100000 in
set_option maxHeartbeats 1000000 in
theorem law_buckets (a d : Nat) (v n : Int) (w : World) (hv : v ≤ 9223372036854775807) :
    Calls Try.prog 7 #[.int .u64 (a : Nat), .int .u8 (d : Nat), .int .i64 v, .int .i64 n] w fun e w' => e = .returned (.bool true) ∧ Fr S0 w w' := by
  have HA := Lib.hid (alive_any w)
  obtain ⟨L, H, D, ⟨l0, lh, hh⟩, ⟨d1, d5⟩, hsum, hsh⟩ := lshape_any a d
  have HSH := Lib.hid hsh
  have HN := Lib.hid (fun W => new_yes L H D W d1 d5 l0 lh hh hsum)
  have HR0 := fun W => rshape_yes L H D W d1 d5 l0 lh hh
  rw [show decide (unt L + mag D ≤ 62) = true from decide_eq_true hsum] at HR0
  have HR := Lib.hid HR0
  have hM := mag_bd D d1 d5
  have hG := mag_ge D (by have : 10 ^ D ≤ 10 ^ 5 := Nat.pow_le_pow_right (by decide) d5; omega) (by omega)
  obtain ⟨u, eU⟩ : ∃ u, unt L = u := ⟨_, rfl⟩
  obtain ⟨m, eM⟩ : ∃ m, mag D = m := ⟨_, rfl⟩
  rw [eU, eM] at HN HR hsum
  rw [eM] at hM hG
  have hm : 1 ≤ m := by omega
  have hm18 := hM.2
  clear eU eM hsh HR0 l0 lh hh hM
  obtain ⟨V, eV⟩ : ∃ V, v.toNat = V := ⟨_, rfl⟩
  have emax : max v 0 = (V : Int) := by omega
  have hV : V < 9223372036854775808 := by omega
  have hbk := bkt_most (u + m) V (by omega) hV
  have HP := Lib.hid (fun W => rpower_any (m - 1) W (by omega))
  have HRB := Lib.hid (fun W => rbucket_any u m V W hsum hV)
  have HB := Lib.hid (fun g W (s : MapIs W g (L : Nat) (H : Nat) (D : Nat) u m) => buckets_any g _ _ _ _ _ W s v (by omega))
  have HT := Lib.hid (fun g W (s : MapIs W g (L : Nat) (H : Nat) (D : Nat) u m) => top_any g _ _ _ _ _ W s n)
  have HRT := Lib.hid (fun W => rtop_any u m n W hm hsum)
  have HC0 := Lib.hid (fun g W (s : MapIs W g (L : Nat) (H : Nat) (D : Nat) u m) => cells_any g _ _ _ _ _ W s n)
  have HIV := Lib.hid (fun g W (s : MapIs W g (L : Nat) (H : Nat) (D : Nat) u m) => index_any g _ _ _ _ _ W s V hV)
  have htl := top_lt u m (1 + bkt (u + m) V)
  have HIT0 := fun g W (s : MapIs W g (L : Nat) (H : Nat) (D : Nat) u m) => index_any g _ _ _ _ _ W s (top u m (1 + bkt (u + m) V)) htl
  rw [top_idx u m V hm hsum hV] at HIT0
  have HTN0 := fun g W (s : MapIs W g (L : Nat) (H : Nat) (D : Nat) u m) => top_any g _ _ _ _ _ W s ((1 + bkt (u + m) V : Nat) : Int)
  rw [cnt_nat (1 + bkt (u + m) V) (by omega) (by omega)] at HTN0
  have HCN0 := fun g W (s : MapIs W g (L : Nat) (H : Nat) (D : Nat) u m) => cells_any g _ _ _ _ _ W s ((1 + bkt (u + m) V : Nat) : Int)
  rw [cnt_nat (1 + bkt (u + m) V) (by omega) (by omega)] at HCN0
  have HTB0 := fun (hb : 0 < bkt (u + m) V) g W (s : MapIs W g (L : Nat) (H : Nat) (D : Nat) u m) => top_any g _ _ _ _ _ W s ((bkt (u + m) V : Nat) : Int)
  have hcb := fun (hb : 0 < bkt (u + m) V) => cnt_nat (bkt (u + m) V) hb (by omega)
  have hbef := top_before u m V hsum hV
  have hgeV := top_ge u m V hsum hV
  have hil := idx_lt u m V hm (by omega)
  have hzero : V = 0 → bkt (u + m) V = 0 := fun h => by rw [h, bkt_zero]
  have hIs := idx_small u m V hm hm18 hsum hV
  have hH := half_le hm18
  have p := two_pos (m - 1)
  have hcn := cnt_bd n
  obtain ⟨M, hM⟩ : ∃ M, max n 1 = M := ⟨_, rfl⟩
  have eC0 : min M 64 = (cnt n : Int) := by rw [← hM, cnt]; omega
  obtain ⟨T0, eT0⟩ : ∃ T0, top u m (cnt n) = T0 := ⟨_, rfl⟩
  rw [eT0] at HT HRT
  obtain ⟨C, hC⟩ : ∃ C, cnt n = C := ⟨_, rfl⟩
  rw [hC] at eC0 hcn HC0
  obtain ⟨F, eF⟩ : ∃ F, 2 ^ (m - 1) = F := ⟨_, rfl⟩
  rw [eF] at HP HC0 HIT0 HCN0 hil hH p
  obtain ⟨b, eb⟩ : ∃ b, bkt (u + m) V = b := ⟨_, rfl⟩
  rw [eb] at hbk HRB htl HIT0 HTN0 HCN0 HTB0 hcb hbef hgeV hil hzero
  obtain ⟨m1, em⟩ : ∃ m1, m - 1 = m1 := ⟨_, rfl⟩
  rw [em] at HP
  have e1 : (m : Int) - 1 = (m1 : Int) := by omega
  obtain ⟨N, eN⟩ : ∃ N, 1 + b = N := ⟨_, rfl⟩
  have e2 : 1 + (b : Int) = (N : Int) := by omega
  have HB0 := HB.out
  rw [eV, eb, eN] at HB0
  have HB := Lib.hid HB0
  rw [eN] at htl HIT0 HTN0 HCN0 hgeV
  obtain ⟨T, eT⟩ : ∃ T, top u m N = T := ⟨_, rfl⟩
  rw [eT] at htl HIT0 HTN0 hgeV
  obtain ⟨E, eE⟩ : ∃ E, C + 1 = E := ⟨_, rfl⟩
  have e3 : (C : Int) + 1 = (E : Int) := by omega
  rw [eE] at HC0
  obtain ⟨R0, eR0⟩ : ∃ R0, E * F = R0 := ⟨_, rfl⟩
  rw [eR0] at HC0
  have e4 : (E : Int) * (F : Int) = (R0 : Int) := by rw [← eR0, Int.natCast_mul]
  have hR0 : R0 ≤ 65 * 131072 := by rw [← eR0]; exact Nat.mul_le_mul (by omega) hH
  obtain ⟨R, eR⟩ : ∃ R, (N + 1) * F = R := ⟨_, rfl⟩
  have eR2 : (2 + b) * F = R := by rw [← eR, ← eN]; congr 1; omega
  rw [eR2] at HIT0 hil
  rw [eR] at HCN0
  have hR : R ≤ 66 * 131072 := by rw [← eR]; exact Nat.mul_le_mul (by omega) hH
  have hR1 : 1 ≤ R := by rw [← eR]; exact Nat.mul_pos (by omega) p
  obtain ⟨Q, eQ⟩ : ∃ Q, R - 1 = Q := ⟨_, rfl⟩
  rw [eQ] at HIT0
  have e5 : (R : Int) - 1 = (Q : Int) := by omega
  obtain ⟨I, eI⟩ : ∃ I, idx u m V = I := ⟨_, rfl⟩
  have HI0 := HIV.out
  rw [eI] at HI0 hil hIs
  have HIV := Lib.hid HI0
  have HIT := Lib.hid HIT0
  have HTN := Lib.hid HTN0
  have HCN := Lib.hid HCN0
  have hN : N ≤ 64 := by omega
  have hE : E ≤ 65 := by omega
  have hm1 : m1 ≤ 17 := by omega
  have hb64 : b ≤ 63 := by omega
  have hQ : Q ≤ 66 * 131072 := by omega
  clear HB0 HI0 HIT0 HTN0 HCN0 hG d1 d5 eT0 hC eF em eE eR0 eR eR2 eQ eI eT hcn hbk p
  by_cases hneg : v < 0
  · obtain rfl : V = 0 := by omega
    obtain rfl : b = 0 := hzero rfl
    obtain rfl : N = 1 := by omega
    clear hzero hbef hcb HTB0 hgeV hil hIs htl eV eb eN hm hm18 hsum hV hR1
    go_enter Try.func7, Try.ntmps7
    go_wp2_with fail
    refine HA.out.mono ?_
    rintro e w1 ⟨rfl, f1⟩
    have F1 := Lib.hid f1
    clear f1 HA
    go_wp2_with fail
    refine (HSH.out _).mono ?_
    rintro e w2 ⟨rfl, f2⟩
    have F2 := Lib.hid ((F1.out.trans0 f2).trans0 (Fr.alloc S0 w2 (.cells #[.int .i64 (L : Nat), .int .i64 (H : Nat), .int .i64 (D : Nat)] 23)))
    have HC := Lib.hid (box3 w2 (.int .i64 (L : Nat)) (.int .i64 (H : Nat)) (.int .i64 (D : Nat)) 23)
    clear f2 F1 HSH
    go_wp2_with fail
    refine (HN.out _).mono ?_
    rintro e w3 ⟨g, rfl, hmp⟩
    have F3 := Lib.hid (F2.out.trans0 hmp.fr)
    have HM := Lib.hid (fun W (f : Fr S0 w3 W) => hmp.map.fr0 f)
    obtain ⟨c0, c1, c2⟩ := (show w3.cell? ⟨w2.heap.size, 0, none⟩ = some (.int .i64 (L : Nat)) ∧ w3.cell? ⟨w2.heap.size, 1, none⟩ = some (.int .i64 (H : Nat)) ∧ w3.cell? ⟨w2.heap.size, 2, none⟩ = some (.int .i64 (D : Nat)) from ⟨hmp.fr.cell HC.out.1 (fun h => h), hmp.fr.cell HC.out.2.1 (fun h => h), hmp.fr.cell HC.out.2.2 (fun h => h)⟩)
    clear hmp HN F2 HC
    go_wp2_with fail
    refine (HR.out _).mono ?_
    rintro e w4 ⟨rfl, f⟩
    have G4 := Lib.hid f
    clear f HR c0 c1 c2
    go_wp2_with fail
    refine (HP.out _).mono ?_
    rintro e w5 ⟨rfl, rfl⟩
    go_wp2_with fail
    refine (HRB.out _).mono ?_
    rintro e w6 ⟨rfl, rfl⟩
    go_wp2_with fail
    refine (HB.out _ _ (HM.out _ G4.out)).mono ?_
    rintro e w7 ⟨rfl, f⟩
    have G7 := Lib.hid (G4.out.trans0 f)
    clear f G4
    go_wp2_with fail
    refine (HT.out _ _ (HM.out _ G7.out)).mono ?_
    rintro e w8 ⟨rfl, f⟩
    have G8 := Lib.hid (G7.out.trans0 f)
    clear f G7
    go_wp2_with fail
    refine (HRT.out _).mono ?_
    rintro e w9 ⟨rfl, rfl⟩
    go_wp2_with fail
    refine (HC0.out _ _ (HM.out _ G8.out)).mono ?_
    rintro e w10 ⟨rfl, f⟩
    have G10 := Lib.hid (G8.out.trans0 f)
    clear f G8
    go_wp2_with fail
    go_ret
    exact ⟨rfl, F3.out.trans0 G10.out⟩
  · have hvV : v = (V : Int) := by omega
    subst hvV
    clear hzero eV
    by_cases hb0 : b = 0
    · obtain rfl : N = 1 := by omega
      subst hb0
      clear hbef hcb HTB0 eb eN hm hm18 hsum hV hR1
      go_enter Try.func7, Try.ntmps7
      go_wp2_with fail
      refine HA.out.mono ?_
      rintro e w1 ⟨rfl, f1⟩
      have F1 := Lib.hid f1
      clear f1 HA
      go_wp2_with fail
      refine (HSH.out _).mono ?_
      rintro e w2 ⟨rfl, f2⟩
      have F2 := Lib.hid ((F1.out.trans0 f2).trans0 (Fr.alloc S0 w2 (.cells #[.int .i64 (L : Nat), .int .i64 (H : Nat), .int .i64 (D : Nat)] 23)))
      have HC := Lib.hid (box3 w2 (.int .i64 (L : Nat)) (.int .i64 (H : Nat)) (.int .i64 (D : Nat)) 23)
      clear f2 F1 HSH
      go_wp2_with fail
      refine (HN.out _).mono ?_
      rintro e w3 ⟨g, rfl, hmp⟩
      have F3 := Lib.hid (F2.out.trans0 hmp.fr)
      have HM := Lib.hid (fun W (f : Fr S0 w3 W) => hmp.map.fr0 f)
      obtain ⟨c0, c1, c2⟩ := (show w3.cell? ⟨w2.heap.size, 0, none⟩ = some (.int .i64 (L : Nat)) ∧ w3.cell? ⟨w2.heap.size, 1, none⟩ = some (.int .i64 (H : Nat)) ∧ w3.cell? ⟨w2.heap.size, 2, none⟩ = some (.int .i64 (D : Nat)) from ⟨hmp.fr.cell HC.out.1 (fun h => h), hmp.fr.cell HC.out.2.1 (fun h => h), hmp.fr.cell HC.out.2.2 (fun h => h)⟩)
      clear hmp HN F2 HC
      go_wp2_with fail
      refine (HR.out _).mono ?_
      rintro e w4 ⟨rfl, f⟩
      have G4 := Lib.hid f
      clear f HR c0 c1 c2
      go_wp2_with fail
      refine (HP.out _).mono ?_
      rintro e w5 ⟨rfl, rfl⟩
      go_wp2_with fail
      refine (HRB.out _).mono ?_
      rintro e w6 ⟨rfl, rfl⟩
      go_wp2_with fail
      refine (HB.out _ _ (HM.out _ G4.out)).mono ?_
      rintro e w7 ⟨rfl, f⟩
      have G7 := Lib.hid (G4.out.trans0 f)
      clear f G4
      go_wp2_with fail
      refine (HT.out _ _ (HM.out _ G7.out)).mono ?_
      rintro e w8 ⟨rfl, f⟩
      have G8 := Lib.hid (G7.out.trans0 f)
      clear f G7
      go_wp2_with fail
      refine (HRT.out _).mono ?_
      rintro e w9 ⟨rfl, rfl⟩
      go_wp2_with fail
      refine (HC0.out _ _ (HM.out _ G8.out)).mono ?_
      rintro e w10 ⟨rfl, f⟩
      have G10 := Lib.hid (G8.out.trans0 f)
      clear f G8
      go_wp2_with fail
      refine (HIV.out _ _ (HM.out _ G10.out)).mono ?_
      rintro e w11 ⟨rfl, f⟩
      have G11 := Lib.hid (G10.out.trans0 f)
      clear f G10
      go_wp2_with fail
      refine (HTN.out _ _ (HM.out _ G11.out)).mono ?_
      rintro e w12 ⟨rfl, f⟩
      have G12 := Lib.hid (G11.out.trans0 f)
      clear f G11
      go_wp2_with fail
      refine (HIT.out _ _ (HM.out _ G12.out)).mono ?_
      rintro e w13 ⟨rfl, f⟩
      have G13 := Lib.hid (G12.out.trans0 f)
      clear f G12
      go_wp2_with fail
      refine (HCN.out _ _ (HM.out _ G13.out)).mono ?_
      rintro e w14 ⟨rfl, f⟩
      have G14 := Lib.hid (G13.out.trans0 f)
      clear f G13
      go_wp2_with fail
      refine (HTN.out _ _ (HM.out _ G14.out)).mono ?_
      rintro e w15 ⟨rfl, f⟩
      have G15 := Lib.hid (G14.out.trans0 f)
      clear f G14
      go_wp2_with fail
      refine (HCN.out _ _ (HM.out _ G15.out)).mono ?_
      rintro e w16 ⟨rfl, f⟩
      have G16 := Lib.hid (G15.out.trans0 f)
      clear f G15
      go_wp2_with fail
      go_ret
      exact ⟨rfl, F3.out.trans0 G16.out⟩
    · have hbp : 0 < b := by omega
      have HTB1 := HTB0 hbp
      rw [hcb hbp] at HTB1
      have hbf := hbef hbp
      obtain ⟨X, eX⟩ : ∃ X, top u m b = X := ⟨_, rfl⟩
      rw [eX] at HTB1 hbf
      have HTB := Lib.hid HTB1
      have e6 : (N : Int) - 1 = (b : Int) := by omega
      have hN1 : ((N : Int) == 1) = false := by rw [beq_eq_false_iff_ne]; omega
      clear hbef hcb HTB0 HTB1 eb eN eX hm hm18 hsum hV hR1
      go_enter Try.func7, Try.ntmps7
      go_wp2_with fail
      refine HA.out.mono ?_
      rintro e w1 ⟨rfl, f1⟩
      have F1 := Lib.hid f1
      clear f1 HA
      go_wp2_with fail
      refine (HSH.out _).mono ?_
      rintro e w2 ⟨rfl, f2⟩
      have F2 := Lib.hid ((F1.out.trans0 f2).trans0 (Fr.alloc S0 w2 (.cells #[.int .i64 (L : Nat), .int .i64 (H : Nat), .int .i64 (D : Nat)] 23)))
      have HC := Lib.hid (box3 w2 (.int .i64 (L : Nat)) (.int .i64 (H : Nat)) (.int .i64 (D : Nat)) 23)
      clear f2 F1 HSH
      go_wp2_with fail
      refine (HN.out _).mono ?_
      rintro e w3 ⟨g, rfl, hmp⟩
      have F3 := Lib.hid (F2.out.trans0 hmp.fr)
      have HM := Lib.hid (fun W (f : Fr S0 w3 W) => hmp.map.fr0 f)
      obtain ⟨c0, c1, c2⟩ := (show w3.cell? ⟨w2.heap.size, 0, none⟩ = some (.int .i64 (L : Nat)) ∧ w3.cell? ⟨w2.heap.size, 1, none⟩ = some (.int .i64 (H : Nat)) ∧ w3.cell? ⟨w2.heap.size, 2, none⟩ = some (.int .i64 (D : Nat)) from ⟨hmp.fr.cell HC.out.1 (fun h => h), hmp.fr.cell HC.out.2.1 (fun h => h), hmp.fr.cell HC.out.2.2 (fun h => h)⟩)
      clear hmp HN F2 HC
      go_wp2_with fail
      refine (HR.out _).mono ?_
      rintro e w4 ⟨rfl, f⟩
      have G4 := Lib.hid f
      clear f HR c0 c1 c2
      go_wp2_with fail
      refine (HP.out _).mono ?_
      rintro e w5 ⟨rfl, rfl⟩
      go_wp2_with fail
      refine (HRB.out _).mono ?_
      rintro e w6 ⟨rfl, rfl⟩
      go_wp2_with fail
      refine (HB.out _ _ (HM.out _ G4.out)).mono ?_
      rintro e w7 ⟨rfl, f⟩
      have G7 := Lib.hid (G4.out.trans0 f)
      clear f G4
      go_wp2_with fail
      refine (HT.out _ _ (HM.out _ G7.out)).mono ?_
      rintro e w8 ⟨rfl, f⟩
      have G8 := Lib.hid (G7.out.trans0 f)
      clear f G7
      go_wp2_with fail
      refine (HRT.out _).mono ?_
      rintro e w9 ⟨rfl, rfl⟩
      go_wp2_with fail
      refine (HC0.out _ _ (HM.out _ G8.out)).mono ?_
      rintro e w10 ⟨rfl, f⟩
      have G10 := Lib.hid (G8.out.trans0 f)
      clear f G8
      go_wp2_with fail
      refine (HIV.out _ _ (HM.out _ G10.out)).mono ?_
      rintro e w11 ⟨rfl, f⟩
      have G11 := Lib.hid (G10.out.trans0 f)
      clear f G10
      go_wp2_with fail
      refine (HTN.out _ _ (HM.out _ G11.out)).mono ?_
      rintro e w12 ⟨rfl, f⟩
      have G12 := Lib.hid (G11.out.trans0 f)
      clear f G11
      go_wp2_with fail
      refine (HIT.out _ _ (HM.out _ G12.out)).mono ?_
      rintro e w13 ⟨rfl, f⟩
      have G13 := Lib.hid (G12.out.trans0 f)
      clear f G12
      go_wp2_with fail
      refine (HCN.out _ _ (HM.out _ G13.out)).mono ?_
      rintro e w14 ⟨rfl, f⟩
      have G14 := Lib.hid (G13.out.trans0 f)
      clear f G13
      go_wp2_with fail
      refine (HTN.out _ _ (HM.out _ G14.out)).mono ?_
      rintro e w15 ⟨rfl, f⟩
      have G15 := Lib.hid (G14.out.trans0 f)
      clear f G14
      go_wp2_with fail
      refine (HCN.out _ _ (HM.out _ G15.out)).mono ?_
      rintro e w16 ⟨rfl, f⟩
      have G16 := Lib.hid (G15.out.trans0 f)
      clear f G15
      go_wp2_with fail
      refine (HTB.out _ _ (HM.out _ G16.out)).mono ?_
      rintro e w17 ⟨rfl, f⟩
      have G17 := Lib.hid (G16.out.trans0 f)
      clear f G16
      go_wp2_with fail
      go_ret
      exact ⟨rfl, F3.out.trans0 G17.out⟩
end Go.Proofs.Ytggpnjiankejmaa
