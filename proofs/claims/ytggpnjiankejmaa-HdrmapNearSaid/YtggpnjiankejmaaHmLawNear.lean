/- The law on what is near. -/
import Derived.Test.YtggpnjiankejmaaHmAlive
namespace Go.Proofs.Ytggpnjiankejmaa
open Go.RowKit

set_option maxRecDepth 100000 in
set_option maxHeartbeats 1000000 in
theorem law_near (a d : Nat) (v x : Int) (w : World) (hv : v ≤ 9223372036854775807) (hx : x ≤ 9223372036854775807) :
    Calls Try.prog 6 #[.int .u64 (a : Nat), .int .u8 (d : Nat), .int .i64 v, .int .i64 x] w fun e w' => e = .returned (.bool true) ∧ Fr S0 w w' := by
  have HA := Lib.hid (alive_any w)
  obtain ⟨L, H, D, ⟨l0, lh, hh⟩, ⟨d1, d5⟩, hsum, hsh⟩ := lshape_any a d
  have HSH := Lib.hid hsh
  have HN := Lib.hid (fun W => new_yes L H D W d1 d5 l0 lh hh hsum)
  have HR0 := fun W => rshape_yes L H D W d1 d5 l0 lh hh
  rw [show decide (unt L + mag D ≤ 62) = true from decide_eq_true hsum] at HR0
  have HR := Lib.hid HR0
  have hM := mag_bd D d1 d5
  have hG := mag_ge D (by have : 10 ^ D ≤ 10 ^ 5 := Nat.pow_le_pow_right (by decide) d5; omega) (by omega)
  obtain ⟨u, eU⟩ : ∃ u, unt L = u := ⟨_, rfl⟩
  obtain ⟨m, eM⟩ : ∃ m, mag D = m := ⟨_, rfl⟩
  rw [eU, eM] at HN HR hsum
  rw [eM] at hM hG
  have hm : 1 ≤ m := by omega
  have hm18 := hM.2
  clear eU eM hsh HR0 l0 lh hh hM
  by_cases hneg : v < 0
  · clear hG d1 d5 hv hx hm hm18 hsum HR
    go_enter Try.func6, Try.ntmps6
    go_wp2_with fail
    refine HA.out.mono ?_
    rintro e w1 ⟨rfl, f1⟩
    have F1 := Lib.hid f1
    clear f1 HA
    go_wp2_with fail
    refine (HSH.out _).mono ?_
    rintro e w2 ⟨rfl, f2⟩
    have F2 := Lib.hid ((F1.out.trans0 f2).trans0 (Fr.alloc S0 w2 (.cells #[.int .i64 (L : Nat), .int .i64 (H : Nat), .int .i64 (D : Nat)] 23)))
    have HC := Lib.hid (box3 w2 (.int .i64 (L : Nat)) (.int .i64 (H : Nat)) (.int .i64 (D : Nat)) 23)
    clear f2 F1 HSH
    go_wp2_with fail
    refine (HN.out _).mono ?_
    rintro e w3 ⟨g, rfl, hmp⟩
    have F3 := Lib.hid (F2.out.trans0 hmp.fr)
    obtain ⟨c0, c1, c2⟩ := (show w3.cell? ⟨w2.heap.size, 0, none⟩ = some (.int .i64 (L : Nat)) ∧ w3.cell? ⟨w2.heap.size, 1, none⟩ = some (.int .i64 (H : Nat)) ∧ w3.cell? ⟨w2.heap.size, 2, none⟩ = some (.int .i64 (D : Nat)) from ⟨hmp.fr.cell HC.out.1 (fun h => h), hmp.fr.cell HC.out.2.1 (fun h => h), hmp.fr.cell HC.out.2.2 (fun h => h)⟩)
    clear hmp HN F2 HC
    go_wp2_with fail
    go_ret
    exact ⟨rfl, F3.out⟩
  · by_cases hneg2 : x < 0
    · clear hG d1 d5 hv hx hm hm18 hsum HR
      go_enter Try.func6, Try.ntmps6
      go_wp2_with fail
      refine HA.out.mono ?_
      rintro e w1 ⟨rfl, f1⟩
      have F1 := Lib.hid f1
      clear f1 HA
      go_wp2_with fail
      refine (HSH.out _).mono ?_
      rintro e w2 ⟨rfl, f2⟩
      have F2 := Lib.hid ((F1.out.trans0 f2).trans0 (Fr.alloc S0 w2 (.cells #[.int .i64 (L : Nat), .int .i64 (H : Nat), .int .i64 (D : Nat)] 23)))
      have HC := Lib.hid (box3 w2 (.int .i64 (L : Nat)) (.int .i64 (H : Nat)) (.int .i64 (D : Nat)) 23)
      clear f2 F1 HSH
      go_wp2_with fail
      refine (HN.out _).mono ?_
      rintro e w3 ⟨g, rfl, hmp⟩
      have F3 := Lib.hid (F2.out.trans0 hmp.fr)
      obtain ⟨c0, c1, c2⟩ := (show w3.cell? ⟨w2.heap.size, 0, none⟩ = some (.int .i64 (L : Nat)) ∧ w3.cell? ⟨w2.heap.size, 1, none⟩ = some (.int .i64 (H : Nat)) ∧ w3.cell? ⟨w2.heap.size, 2, none⟩ = some (.int .i64 (D : Nat)) from ⟨hmp.fr.cell HC.out.1 (fun h => h), hmp.fr.cell HC.out.2.1 (fun h => h), hmp.fr.cell HC.out.2.2 (fun h => h)⟩)
      clear hmp HN F2 HC
      go_wp2_with fail
      go_ret
      exact ⟨rfl, F3.out⟩
    · obtain ⟨n, rfl⟩ : ∃ n : Nat, v = n := ⟨v.toNat, by omega⟩
      obtain ⟨k, rfl⟩ : ∃ k : Nat, x = k := ⟨x.toNat, by omega⟩
      have hn : n < 9223372036854775808 := by omega
      have hk : k < 9223372036854775808 := by omega
      have hE := end_le u m n hsum hn
      have hble := beg_le u m n
      have hbgt := beg_gt u m n
      have p := two_pos (wid u m n)
      have HI := Lib.hid (fun g W (s : MapIs W g (L : Nat) (H : Nat) (D : Nat) u m) => index_any g _ _ _ _ _ W s n hn)
      have HK := Lib.hid (fun g W (s : MapIs W g (L : Nat) (H : Nat) (D : Nat) u m) => index_any g _ _ _ _ _ W s k hk)
      have HH := Lib.hid (fun g W (s : MapIs W g (L : Nat) (H : Nat) (D : Nat) u m) => ask_high g _ _ _ _ _ W s n hn)
      have HS := Lib.hid (fun g W (s : MapIs W g (L : Nat) (H : Nat) (D : Nat) u m) => same_yes g _ _ _ _ _ W s n k hn hk)
      have HP := Lib.hid (fun W => rpower_any u W (by omega))
      have hord : (n < k ∧ idx u m n ≤ idx u m k) ∨ (k < n ∧ idx u m k ≤ idx u m n) ∨ (n = k ∧ idx u m n = idx u m k) := by
        rcases (by omega : n < k ∨ k < n ∨ n = k) with h | h | h
        · exact Or.inl ⟨h, idx_mono u m n k hm (by omega) (by omega)⟩
        · exact Or.inr (Or.inl ⟨h, idx_mono u m k n hm (by omega) (by omega)⟩)
        · exact Or.inr (Or.inr ⟨h, by rw [h]⟩)
      have hnear : beg u m n + 2 ^ wid u m n - 1 - n < 2 ^ u ∨ (1 ≤ n ∧ beg u m n + 2 ^ wid u m n - 1 - n ≤ (n - 1) / 10 ^ D) := by
        by_cases hb : bkt (u + m) n = 0
        · exact Or.inl (near_first u m n hb)
        · refine Or.inr ⟨?_, near_far u m n (10 ^ D) hm hG (Nat.pow_pos (by decide)) (by omega) (by omega)⟩
          have a := bkt_ge (u + m) n (by omega) (by omega)
          have b := two_pos (u + m + (bkt (u + m) n - 1))
          omega
      have HTEN := Lib.hid (fun i (hi : i ≤ D) => show 10 ^ i ≤ 10 ^ 5 from Nat.pow_le_pow_right (by decide) (by omega))
      obtain ⟨I, eI⟩ : ∃ I, idx u m n = I := ⟨_, rfl⟩
      obtain ⟨K, eK⟩ : ∃ K, idx u m k = K := ⟨_, rfl⟩
      obtain ⟨B, eB⟩ : ∃ B, beg u m n = B := ⟨_, rfl⟩
      obtain ⟨Z, eZ⟩ : ∃ Z, 2 ^ wid u m n = Z := ⟨_, rfl⟩
      obtain ⟨R, eR⟩ : ∃ R, B + (Z - 1) = R := ⟨_, rfl⟩
      obtain ⟨PU, eP⟩ : ∃ PU, 2 ^ u = PU := ⟨_, rfl⟩
      obtain ⟨T, eT⟩ : ∃ T, 10 ^ D = T := ⟨_, rfl⟩
      obtain ⟨F, eF⟩ : ∃ F, R - n = F := ⟨_, rfl⟩
      rw [eI] at HI HS hord
      rw [eK] at HK HS hord
      rw [eB] at HH hnear hE hble hbgt
      rw [eZ] at HH hnear hE p hbgt
      rw [eR] at HH
      rw [eP] at HP hnear
      rw [eT] at hnear
      have HTT := Lib.hid eT
      have hT : 0 < T := by rw [← eT]; exact Nat.pow_pos (by decide)
      have hRn : n ≤ R := by omega
      have hR : R ≤ 9223372036854775807 := by omega
      have e1 : (R : Int) - (n : Int) = (F : Int) := by omega
      have hF : F ≤ 9223372036854775807 := by omega
      rw [show B + Z - 1 - n = F by omega] at hnear
      have HNEAR := Lib.hid hnear
      have HORD := Lib.hid hord
      clear hnear hord eI eK eB eZ eR eP eT eF hG hm hm18 hsum hE hble hbgt p hn hk hneg hneg2
      go_enter Try.func6, Try.ntmps6
      go_wp2_with fail
      refine HA.out.mono ?_
      rintro e w1 ⟨rfl, f1⟩
      have F1 := Lib.hid f1
      clear f1 HA
      go_wp2_with fail
      refine (HSH.out _).mono ?_
      rintro e w2 ⟨rfl, f2⟩
      have F2 := Lib.hid ((F1.out.trans0 f2).trans0 (Fr.alloc S0 w2 (.cells #[.int .i64 (L : Nat), .int .i64 (H : Nat), .int .i64 (D : Nat)] 23)))
      have HC := Lib.hid (box3 w2 (.int .i64 (L : Nat)) (.int .i64 (H : Nat)) (.int .i64 (D : Nat)) 23)
      clear f2 F1 HSH
      go_wp2_with fail
      refine (HN.out _).mono ?_
      rintro e w3 ⟨g, rfl, hmp⟩
      have F3 := Lib.hid (F2.out.trans0 hmp.fr)
      have HM := Lib.hid (fun W (f : Fr S0 w3 W) => hmp.map.fr0 f)
      obtain ⟨c0, c1, c2⟩ := (show w3.cell? ⟨w2.heap.size, 0, none⟩ = some (.int .i64 (L : Nat)) ∧ w3.cell? ⟨w2.heap.size, 1, none⟩ = some (.int .i64 (H : Nat)) ∧ w3.cell? ⟨w2.heap.size, 2, none⟩ = some (.int .i64 (D : Nat)) from ⟨hmp.fr.cell HC.out.1 (fun h => h), hmp.fr.cell HC.out.2.1 (fun h => h), hmp.fr.cell HC.out.2.2 (fun h => h)⟩)
      have HCB := Lib.hid (fun W (f : Fr S0 w3 W) => (show W.cell? ⟨w2.heap.size, 0, none⟩ = some (.int .i64 (L : Nat)) ∧ W.cell? ⟨w2.heap.size, 1, none⟩ = some (.int .i64 (H : Nat)) ∧ W.cell? ⟨w2.heap.size, 2, none⟩ = some (.int .i64 (D : Nat)) from ⟨f.cell c0 (fun h => h), f.cell c1 (fun h => h), f.cell c2 (fun h => h)⟩))
      clear hmp HN F2 HC
      go_wp2_with fail
      refine (HH.out _ _ (HM.out _ (Fr.refl _ _))).mono ?_
      rintro e w4 ⟨rfl, f⟩
      have G4 := Lib.hid f
      clear f c0 c1 c2 HH
      go_wp2_with fail
      refine (HI.out _ _ (HM.out _ G4.out)).mono ?_
      rintro e w5 ⟨rfl, f⟩
      have G5 := Lib.hid (G4.out.trans0 f)
      clear f G4
      go_wp2_with fail
      refine (HK.out _ _ (HM.out _ G5.out)).mono ?_
      rintro e w6 ⟨rfl, f⟩
      have G6 := Lib.hid (G5.out.trans0 f)
      obtain ⟨c0, c1, c2⟩ := HCB.out _ G6.out
      clear f G5 HI HK
      go_wp2_with fail
      refine (HR.out _).mono ?_
      rintro e w7 ⟨rfl, f⟩
      have G7 := Lib.hid (G6.out.trans0 f)
      clear c0 c1 c2
      obtain ⟨c0, c1, c2⟩ := HCB.out _ G7.out
      clear f G6 HR c0 c1 HCB
      go_wp2_with fail
      go_loopw [21, 22] (fun x y wr => ∃ t i : Nat, x = .int .u64 (t : Int) ∧ y = .int .i64 (i : Int) ∧ i ≤ D ∧ Hid (10 ^ i = t) ∧ t ≤ 100000 ∧ w7 = wr) (fun _ y _ => D - (intOf y).toNat)
      case atStart => exact ⟨1, 0, rfl, rfl, by omega, Lib.hid rfl, by omega, rfl⟩
      case round =>
        obtain ⟨t, i, rfl, rfl, hi, ht, ht5, rfl⟩ := hrel
        by_cases hlt : (i : Int) < (D : Int)
        · have h5 := HTEN.out (i + 1) (by omega)
          have HT2 : Hid (10 ^ (i + 1) = 10 * t) := Lib.hid (by rw [← ht.out, Nat.pow_succ]; omega)
          have hb3 : 10 * t ≤ 100000 := by rw [← HT2.out]; omega
          clear ht h5
          go_wp2
          go_roundw
          case rel => exact ⟨10 * t, i + 1, by go_num, by go_num, by omega, HT2, hb3, by trivial⟩
          case measure => simp [intOf]; omega
        · obtain rfl : i = D := by omega
          have htt := ht.out
          rw [HTT.out] at htt
          subst htt
          clear ht HTT HTEN hlt hi
          by_cases hF0 : F = 0
          · subst hF0
            rcases HORD.out with ⟨ho, hIK⟩ | ⟨ho, hIK⟩ | ⟨ho, hIK⟩
            · by_cases hIK2 : I = K
              · have HS2 := HS.out
                subst hIK2
                simp only [decide_true] at HS2
                have HS3 := Lib.hid HS2
                clear HS2 HS HORD HNEAR
                go_wp2_with fail
                refine (HS3.out _ _ (HM.out _ G7.out)).mono ?_
                rintro e w9 ⟨rfl, f⟩
                have G9 := Lib.hid (G7.out.trans0 f)
                clear f
                go_wp2_with fail
                go_ret
                exact ⟨rfl, F3.out.trans0 G9.out⟩
              · have HS2 := HS.out
                rw [decide_eq_false hIK2] at HS2
                have hne : ((I : Int) == (K : Int)) = false := by rw [beq_eq_false_iff_ne]; omega
                have HS3 := Lib.hid HS2
                clear HS2 HS HORD HNEAR
                go_wp2_with fail
                refine (HS3.out _ _ (HM.out _ G7.out)).mono ?_
                rintro e w9 ⟨rfl, f⟩
                have G9 := Lib.hid (G7.out.trans0 f)
                clear f
                go_wp2_with fail
                go_ret
                exact ⟨rfl, F3.out.trans0 G9.out⟩
            · by_cases hIK2 : I = K
              · have HS2 := HS.out
                subst hIK2
                simp only [decide_true] at HS2
                have HS3 := Lib.hid HS2
                clear HS2 HS HORD HNEAR
                go_wp2_with fail
                refine (HS3.out _ _ (HM.out _ G7.out)).mono ?_
                rintro e w9 ⟨rfl, f⟩
                have G9 := Lib.hid (G7.out.trans0 f)
                clear f
                go_wp2_with fail
                go_ret
                exact ⟨rfl, F3.out.trans0 G9.out⟩
              · have HS2 := HS.out
                rw [decide_eq_false hIK2] at HS2
                have hne : ((I : Int) == (K : Int)) = false := by rw [beq_eq_false_iff_ne]; omega
                have HS3 := Lib.hid HS2
                clear HS2 HS HORD HNEAR
                go_wp2_with fail
                refine (HS3.out _ _ (HM.out _ G7.out)).mono ?_
                rintro e w9 ⟨rfl, f⟩
                have G9 := Lib.hid (G7.out.trans0 f)
                clear f
                go_wp2_with fail
                go_ret
                exact ⟨rfl, F3.out.trans0 G9.out⟩
            · subst ho
              have HS2 := HS.out
              subst hIK
              simp only [decide_true] at HS2
              have HS3 := Lib.hid HS2
              clear HS2 HS HORD HNEAR
              go_wp2_with fail
              refine (HS3.out _ _ (HM.out _ G7.out)).mono ?_
              rintro e w9 ⟨rfl, f⟩
              have G9 := Lib.hid (G7.out.trans0 f)
              clear f
              go_wp2_with fail
              go_ret
              exact ⟨rfl, F3.out.trans0 G9.out⟩
          · have hF1 : ((F : Int) == 0) = false := by rw [beq_eq_false_iff_ne]; omega
            by_cases hFP : F < PU
            · rcases HORD.out with ⟨ho, hIK⟩ | ⟨ho, hIK⟩ | ⟨ho, hIK⟩
              · by_cases hIK2 : I = K
                · have HS2 := HS.out
                  subst hIK2
                  simp only [decide_true] at HS2
                  have HS3 := Lib.hid HS2
                  clear HS2 HS HORD HNEAR
                  go_wp2_with fail
                  refine (HP.out _).mono ?_
                  rintro e w8 ⟨rfl, rfl⟩
                  go_wp2_with fail
                  refine (HS3.out _ _ (HM.out _ G7.out)).mono ?_
                  rintro e w9 ⟨rfl, f⟩
                  have G9 := Lib.hid (G7.out.trans0 f)
                  clear f
                  go_wp2_with fail
                  go_ret
                  exact ⟨rfl, F3.out.trans0 G9.out⟩
                · have HS2 := HS.out
                  rw [decide_eq_false hIK2] at HS2
                  have hne : ((I : Int) == (K : Int)) = false := by rw [beq_eq_false_iff_ne]; omega
                  have HS3 := Lib.hid HS2
                  clear HS2 HS HORD HNEAR
                  go_wp2_with fail
                  refine (HP.out _).mono ?_
                  rintro e w8 ⟨rfl, rfl⟩
                  go_wp2_with fail
                  refine (HS3.out _ _ (HM.out _ G7.out)).mono ?_
                  rintro e w9 ⟨rfl, f⟩
                  have G9 := Lib.hid (G7.out.trans0 f)
                  clear f
                  go_wp2_with fail
                  go_ret
                  exact ⟨rfl, F3.out.trans0 G9.out⟩
              · by_cases hIK2 : I = K
                · have HS2 := HS.out
                  subst hIK2
                  simp only [decide_true] at HS2
                  have HS3 := Lib.hid HS2
                  clear HS2 HS HORD HNEAR
                  go_wp2_with fail
                  refine (HP.out _).mono ?_
                  rintro e w8 ⟨rfl, rfl⟩
                  go_wp2_with fail
                  refine (HS3.out _ _ (HM.out _ G7.out)).mono ?_
                  rintro e w9 ⟨rfl, f⟩
                  have G9 := Lib.hid (G7.out.trans0 f)
                  clear f
                  go_wp2_with fail
                  go_ret
                  exact ⟨rfl, F3.out.trans0 G9.out⟩
                · have HS2 := HS.out
                  rw [decide_eq_false hIK2] at HS2
                  have hne : ((I : Int) == (K : Int)) = false := by rw [beq_eq_false_iff_ne]; omega
                  have HS3 := Lib.hid HS2
                  clear HS2 HS HORD HNEAR
                  go_wp2_with fail
                  refine (HP.out _).mono ?_
                  rintro e w8 ⟨rfl, rfl⟩
                  go_wp2_with fail
                  refine (HS3.out _ _ (HM.out _ G7.out)).mono ?_
                  rintro e w9 ⟨rfl, f⟩
                  have G9 := Lib.hid (G7.out.trans0 f)
                  clear f
                  go_wp2_with fail
                  go_ret
                  exact ⟨rfl, F3.out.trans0 G9.out⟩
              · subst ho
                have HS2 := HS.out
                subst hIK
                simp only [decide_true] at HS2
                have HS3 := Lib.hid HS2
                clear HS2 HS HORD HNEAR
                go_wp2_with fail
                refine (HP.out _).mono ?_
                rintro e w8 ⟨rfl, rfl⟩
                go_wp2_with fail
                refine (HS3.out _ _ (HM.out _ G7.out)).mono ?_
                rintro e w9 ⟨rfl, f⟩
                have G9 := Lib.hid (G7.out.trans0 f)
                clear f
                go_wp2_with fail
                go_ret
                exact ⟨rfl, F3.out.trans0 G9.out⟩
            · obtain ⟨h1n, hq⟩ : 1 ≤ n ∧ F ≤ (n - 1) / T := HNEAR.out.resolve_left hFP
              obtain ⟨P, eP⟩ : ∃ P, n - 1 = P := ⟨_, rfl⟩
              obtain ⟨Q, eQ⟩ : ∃ Q, P / T = Q := ⟨_, rfl⟩
              rw [eP, eQ] at hq
              have e2 : (n : Int) - 1 = (P : Int) := by omega
              have hPb : P ≤ 9223372036854775807 := by omega
              have e3 : (P : Int) / (T : Int) = (Q : Int) := by rw [← eQ, Int.natCast_ediv]
              have hQb : Q ≤ 9223372036854775807 := by have := Nat.div_le_self P T; omega
              clear eP eQ
              rcases HORD.out with ⟨ho, hIK⟩ | ⟨ho, hIK⟩ | ⟨ho, hIK⟩
              · by_cases hIK2 : I = K
                · have HS2 := HS.out
                  subst hIK2
                  simp only [decide_true] at HS2
                  have HS3 := Lib.hid HS2
                  clear HS2 HS HORD HNEAR
                  go_wp2_with fail
                  refine (HP.out _).mono ?_
                  rintro e w8 ⟨rfl, rfl⟩
                  go_wp2_with fail
                  refine (HS3.out _ _ (HM.out _ G7.out)).mono ?_
                  rintro e w9 ⟨rfl, f⟩
                  have G9 := Lib.hid (G7.out.trans0 f)
                  clear f
                  go_wp2_with fail
                  go_ret
                  exact ⟨rfl, F3.out.trans0 G9.out⟩
                · have HS2 := HS.out
                  rw [decide_eq_false hIK2] at HS2
                  have hne : ((I : Int) == (K : Int)) = false := by rw [beq_eq_false_iff_ne]; omega
                  have HS3 := Lib.hid HS2
                  clear HS2 HS HORD HNEAR
                  go_wp2_with fail
                  refine (HP.out _).mono ?_
                  rintro e w8 ⟨rfl, rfl⟩
                  go_wp2_with fail
                  refine (HS3.out _ _ (HM.out _ G7.out)).mono ?_
                  rintro e w9 ⟨rfl, f⟩
                  have G9 := Lib.hid (G7.out.trans0 f)
                  clear f
                  go_wp2_with fail
                  go_ret
                  exact ⟨rfl, F3.out.trans0 G9.out⟩
              · by_cases hIK2 : I = K
                · have HS2 := HS.out
                  subst hIK2
                  simp only [decide_true] at HS2
                  have HS3 := Lib.hid HS2
                  clear HS2 HS HORD HNEAR
                  go_wp2_with fail
                  refine (HP.out _).mono ?_
                  rintro e w8 ⟨rfl, rfl⟩
                  go_wp2_with fail
                  refine (HS3.out _ _ (HM.out _ G7.out)).mono ?_
                  rintro e w9 ⟨rfl, f⟩
                  have G9 := Lib.hid (G7.out.trans0 f)
                  clear f
                  go_wp2_with fail
                  go_ret
                  exact ⟨rfl, F3.out.trans0 G9.out⟩
                · have HS2 := HS.out
                  rw [decide_eq_false hIK2] at HS2
                  have hne : ((I : Int) == (K : Int)) = false := by rw [beq_eq_false_iff_ne]; omega
                  have HS3 := Lib.hid HS2
                  clear HS2 HS HORD HNEAR
                  go_wp2_with fail
                  refine (HP.out _).mono ?_
                  rintro e w8 ⟨rfl, rfl⟩
                  go_wp2_with fail
                  refine (HS3.out _ _ (HM.out _ G7.out)).mono ?_
                  rintro e w9 ⟨rfl, f⟩
                  have G9 := Lib.hid (G7.out.trans0 f)
                  clear f
                  go_wp2_with fail
                  go_ret
                  exact ⟨rfl, F3.out.trans0 G9.out⟩
              · subst ho
                have HS2 := HS.out
                subst hIK
                simp only [decide_true] at HS2
                have HS3 := Lib.hid HS2
                clear HS2 HS HORD HNEAR
                go_wp2_with fail
                refine (HP.out _).mono ?_
                rintro e w8 ⟨rfl, rfl⟩
                go_wp2_with fail
                refine (HS3.out _ _ (HM.out _ G7.out)).mono ?_
                rintro e w9 ⟨rfl, f⟩
                have G9 := Lib.hid (G7.out.trans0 f)
                clear f
                go_wp2_with fail
                go_ret
                exact ⟨rfl, F3.out.trans0 G9.out⟩
end Go.Proofs.Ytggpnjiankejmaa
