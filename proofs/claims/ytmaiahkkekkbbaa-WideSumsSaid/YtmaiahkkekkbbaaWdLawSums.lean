/- The law on products, sums, differences, and which number is more. -/
import Derived.Test.YtmaiahkkekkbbaaWdLawDivides
import Derived.Deep.RegionHeld3
namespace Go.Proofs.Ytmaiahkkekkbbaa
open Go.RowKit

theorem num_parts (h l : Nat) (hl : l < 18446744073709551616) : (h * 18446744073709551616 + l) / 18446744073709551616 = h ∧ (h * 18446744073709551616 + l) % 18446744073709551616 = l := by omega
/-- a wide sum that has none -/
theorem add_none (h l h2 l2 : Nat) (w : World) (hl : l < 18446744073709551616) (hl2 : l2 < 18446744073709551616) (hs : ¬ (h * 18446744073709551616 + l) + (h2 * 18446744073709551616 + l2) < 340282366920938463463374607431768211456) :
    Calls Try.prog 11 #[.agg #[.int .u64 (h : Int), .int .u64 (l : Int)], .agg #[.int .u64 (h2 : Int), .int .u64 (l2 : Int)]] w fun e w' =>
      e = .returned (.tuple #[nv 0 0, .int .i64 100]) ∧ Fr S0 w w' := by
  have k := add_any h l h2 l2 _ _ _ _ w rfl rfl rfl rfl hl hl2
  have e : ¬ (h + h2 + (l + l2 + 0) / 18446744073709551616) / 18446744073709551616 = 0 := by omega
  rw [if_neg e, if_neg e] at k
  exact k
theorem add_some (h l h2 l2 : Nat) (w : World) (hl : l < 18446744073709551616) (hl2 : l2 < 18446744073709551616) (hs : (h * 18446744073709551616 + l) + (h2 * 18446744073709551616 + l2) < 340282366920938463463374607431768211456) :
    Calls Try.prog 11 #[.agg #[.int .u64 (h : Int), .int .u64 (l : Int)], .agg #[.int .u64 (h2 : Int), .int .u64 (l2 : Int)]] w fun e w' =>
      e = .returned (.tuple #[nv (((h * 18446744073709551616 + l) + (h2 * 18446744073709551616 + l2)) / 18446744073709551616) (((h * 18446744073709551616 + l) + (h2 * 18446744073709551616 + l2)) % 18446744073709551616), .int .i64 0]) ∧ Fr S0 w w' := by
  have k := add_room (h * 18446744073709551616 + l) (h2 * 18446744073709551616 + l2) w hs
  rw [(num_parts h l hl).1, (num_parts h l hl).2, (num_parts h2 l2 hl2).1, (num_parts h2 l2 hl2).2] at k
  exact k
theorem sub_some (h l h2 l2 : Nat) (w : World) (hh : h < 18446744073709551616) (hl : l < 18446744073709551616) (hl2 : l2 < 18446744073709551616) (hs : h2 * 18446744073709551616 + l2 ≤ h * 18446744073709551616 + l) :
    Calls Try.prog 14 #[.agg #[.int .u64 (h : Int), .int .u64 (l : Int)], .agg #[.int .u64 (h2 : Int), .int .u64 (l2 : Int)]] w fun e w' =>
      e = .returned (.tuple #[nv (((h * 18446744073709551616 + l) - (h2 * 18446744073709551616 + l2)) / 18446744073709551616) (((h * 18446744073709551616 + l) - (h2 * 18446744073709551616 + l2)) % 18446744073709551616), .int .i64 0]) ∧ Fr S0 w w' := by
  have k := sub_any h l h2 l2 _ _ _ _ w rfl rfl rfl rfl
  by_cases c : l < l2 + 0
  · rw [if_pos c] at k
    have e : ¬ h < h2 + 1 := by omega
    rw [if_neg e, if_pos rfl, if_pos rfl, show (h + 18446744073709551616 - h2 - 1) % 18446744073709551616 = ((h * 18446744073709551616 + l) - (h2 * 18446744073709551616 + l2)) / 18446744073709551616 by omega,
      show (l + 18446744073709551616 - l2 - 0) % 18446744073709551616 = ((h * 18446744073709551616 + l) - (h2 * 18446744073709551616 + l2)) % 18446744073709551616 by omega] at k
    exact k
  · rw [if_neg c] at k
    have e : ¬ h < h2 + 0 := by omega
    rw [if_neg e, if_pos rfl, if_pos rfl, show (h + 18446744073709551616 - h2 - 0) % 18446744073709551616 = ((h * 18446744073709551616 + l) - (h2 * 18446744073709551616 + l2)) / 18446744073709551616 by omega,
      show (l + 18446744073709551616 - l2 - 0) % 18446744073709551616 = ((h * 18446744073709551616 + l) - (h2 * 18446744073709551616 + l2)) % 18446744073709551616 by omega] at k
    exact k
theorem sub_none (h l h2 l2 : Nat) (w : World) (hl2 : l2 < 18446744073709551616) (hs : ¬ h2 * 18446744073709551616 + l2 ≤ h * 18446744073709551616 + l) :
    Calls Try.prog 14 #[.agg #[.int .u64 (h : Int), .int .u64 (l : Int)], .agg #[.int .u64 (h2 : Int), .int .u64 (l2 : Int)]] w fun e w' =>
      e = .returned (.tuple #[nv 0 0, .int .i64 100]) ∧ Fr S0 w w' := by
  have k := sub_any h l h2 l2 _ _ _ _ w rfl rfl rfl rfl
  by_cases c : l < l2 + 0
  · rw [if_pos c] at k
    have e : h < h2 + 1 := by omega
    rw [if_pos e, if_neg (by decide), if_neg (by decide)] at k
    exact k
  · rw [if_neg c] at k
    have e : h < h2 + 0 := by omega
    rw [if_pos e, if_neg (by decide), if_neg (by decide)] at k
    exact k

set_option maxRecDepth 100000 in
set_option maxHeartbeats 8000000 in
theorem law_sums (a b h l h2 l2 : Nat) (w : World) (ha : a < 18446744073709551616) (hb : b < 18446744073709551616) (hh : h < 18446744073709551616) (hl : l < 18446744073709551616) (hh2 : h2 < 18446744073709551616) (hl2 : l2 < 18446744073709551616) :
    Calls Try.prog 3 #[.int .u64 (a : Int), .int .u64 (b : Int), .agg #[.int .u64 (h : Int), .int .u64 (l : Int)], .agg #[.int .u64 (h2 : Int), .int .u64 (l2 : Int)]] w fun e w' => e = .returned (.bool true) ∧ Fr S0 w w' := by
  have hw := start
  have HB := Lib.hid (And.intro ha (And.intro hb (And.intro hh (And.intro hl (And.intro hh2 hl2)))))
  obtain ⟨X, hX⟩ : ∃ X, h * 18446744073709551616 + l = X := ⟨_, rfl⟩
  obtain ⟨Y, hY⟩ : ∃ Y, h2 * 18446744073709551616 + l2 = Y := ⟨_, rfl⟩
  have HXY : Hid (X < 340282366920938463463374607431768211456 ∧ Y < 340282366920938463463374607431768211456) := Lib.hid (by omega)
  have HWX := Lib.hid (fun W => rwide_any h l W hh hl)
  have HWY := Lib.hid (fun W => rwide_any h2 l2 W hh2 hl2)
  rw [hX] at HWX
  rw [hY] at HWY
  have HX := Lib.hid hX
  have HY := Lib.hid hY
  clear ha hb hh hl hh2 hl2 hX hY
  go_enter Try.func3, Try.ntmps3
  go_wp2_with fail
  refine hw _ _ ?_
  intro w1 f1
  clear hw
  have BX := Lib.hid (((Blk.new w h l).fr0 (Fr.alloc S0 _ (.cells #[.int .u64 (h2 : Int), .int .u64 (l2 : Int)] 24))).fr0 f1)
  have BY0 := (Blk.new (w.alloc (.cells #[.int .u64 (h : Int), .int .u64 (l : Int)] 24)) h2 l2).fr0 f1
  rw [size_alloc] at BY0
  have BY := Lib.hid BY0
  have F1 : Hid (Fr S0 w w1) := Lib.hid (((Fr.alloc _ _ _).trans0 (Fr.alloc _ _ _)).trans0 f1)
  clear f1 BY0
  obtain ⟨gx, hgx⟩ : ∃ g, w.heap.size = g := ⟨_, rfl⟩
  rw [hgx] at BX BY ⊢
  obtain ⟨gy, hgy⟩ : ∃ g, gx + 1 = g := ⟨_, rfl⟩
  rw [hgy] at BY ⊢
  clear hgx hgy
  obtain ⟨x0, x1⟩ := BX.out.c
  obtain ⟨y0, y1⟩ := BY.out.c
  go_upto_region 3 with fail
  go_cut [9, 10] from 21 to 30 (fun s t wx => ∃ p c q d, s = .slice p 8 c ∧ t = .slice q 8 d ∧ Dig wx p X ∧ Dig wx q Y ∧ Fr S0 w1 wx)
  case first =>
    go_region_held3 (fun w' => w'.cell? ⟨gx, 0, none⟩ = some (.int .u64 (h : Int)) ∧ w'.cell? ⟨gx, 1, none⟩ = some (.int .u64 (l : Int)) ∧ w'.cell? ⟨gy, 0, none⟩ = some (.int .u64 (h2 : Int)) ∧ w'.cell? ⟨gy, 1, none⟩ = some (.int .u64 (l2 : Int)) ∧ Fr S0 w1 w')
      (first
        | (go_split_ands; exact ⟨by assumption, by assumption, by assumption, by assumption, Fr.drew _ _⟩)
        | (go_split_ands; exact ⟨f9.cell (by assumption) (fun h => h), f9.cell (by assumption) (fun h => h), f9.cell (by assumption) (fun h => h), f9.cell (by assumption) (fun h => h), Fr.trans0 (by assumption) f9⟩))
      (first
        | (go_at_call 10; ((with_reducible refine (HWX.out _).mono ?_); rintro _ w3 ⟨v3, rfl, p3, c3, rfl, d3, f9⟩; have DX := Lib.hid d3; have FX := Lib.hid f9))
        | (go_at_call 10; ((with_reducible refine (HWY.out _).mono ?_); rintro _ w4 ⟨v4, rfl, p4, c4, rfl, d4, f9⟩; have DY := Lib.hid d4; have FY := Lib.hid f9)))
    all_goals
      go_wp2_with fail
      go_meet
      exact ⟨p3, c3, p4, c4, rfl, rfl, by first | exact DX.out | exact DX.out.fr0 FY.out, by first | exact DY.out | exact DY.out.fr0 FX.out, by go_split_ands; assumption⟩
  case rest =>
    obtain ⟨p, c, q, d, rfl, rfl, hdx, hdy, f2⟩ := hcut
    have DX := Lib.hid hdx
    have DY := Lib.hid hdy
    have F2 := Lib.hid f2
    clear hdx hdy f2 x0 x1 y0 y1
    obtain ⟨x0, x1⟩ := (BX.out.fr0 F2.out).c
    obtain ⟨y0, y1⟩ := (BY.out.fr0 F2.out).c
    have BXc := Lib.hid (BX.out.fr0 F2.out)
    have BYc := Lib.hid (BY.out.fr0 F2.out)
    have hnX := num_parts h l HB.out.2.2.2.1
    have hnY := num_parts h2 l2 HB.out.2.2.2.2.2
    have kM := fun W => mul_any a b W HB.out.1 HB.out.2.1
    have hpl := prod_lt HB.out.1 HB.out.2.1
    have kR := fun W => rmul_any a b W HB.out.1 HB.out.2.1
    have kI := fun p c W k => is_any p c (a * b / 18446744073709551616) (a * b % 18446744073709551616) (a * b) W k (Nat.mod_eq_of_lt hpl) rfl
    obtain ⟨P1, hP1⟩ : ∃ P, a * b / 18446744073709551616 = P := ⟨_, rfl⟩
    obtain ⟨P0, hP0⟩ : ∃ P, a * b % 18446744073709551616 = P := ⟨_, rfl⟩
    rw [hP1, hP0] at kM kI
    simp only [nv_eq] at kM
    have HMU := Lib.hid kM
    have HRM := Lib.hid kR
    have HIS := Lib.hid kI
    have kc1 := fun W => cmp_any h l h2 l2 W HB.out.2.2.2.1 HB.out.2.2.2.2.2
    have kc2 := fun W => cmp_any h2 l2 h l W HB.out.2.2.2.2.2 HB.out.2.2.2.1
    have krc := fun W k1 k2 => rcmp_any p q c d X Y W k1 k2 HXY.out.1 HXY.out.2
    unfold cmpW at kc1 kc2
    rw [HX.out, HY.out] at kc1 kc2
    have hK : (cmpI X Y = -1 ∧ cmpI Y X = 1) ∨ (cmpI X Y = 0 ∧ cmpI Y X = 0) ∨ (cmpI X Y = 1 ∧ cmpI Y X = -1) := by
      unfold cmpI
      rcases Nat.lt_trichotomy X Y with h | h | h
      · left; rw [if_neg (by omega), if_pos h, if_neg (by omega), if_neg (by omega)]; exact ⟨rfl, rfl⟩
      · right; left; rw [if_pos h, if_pos h.symm]; exact ⟨rfl, rfl⟩
      · right; right; rw [if_neg (by omega), if_neg (by omega), if_neg (by omega), if_pos h]; exact ⟨rfl, rfl⟩
    have krc' : ∀ W, Dig W p X → Dig W q Y → Calls Try.prog 19 #[.slice p 8 c, .slice q 8 d] W fun e w' => e = .returned (.int .i64 (cmpI X Y)) ∧ ∃ n, w' = W.drewN n := krc
    obtain ⟨K1, hK1⟩ : ∃ K, cmpI X Y = K := ⟨_, rfl⟩
    obtain ⟨K2, hK2⟩ : ∃ K, cmpI Y X = K := ⟨_, rfl⟩
    rw [hK1] at kc1 krc' hK
    rw [hK2] at kc2 hK
    have HC1 := Lib.hid kc1
    have HC2 := Lib.hid kc2
    have HRC := Lib.hid krc'
    have HK := Lib.hid hK
    have kra := fun W k1 k2 => radd_any p q c d X Y W k1 k2
    have krs := fun W k1 k2 => rsub_any p q c d X Y W k1 k2 HXY.out.1 HXY.out.2
    clear kM kR kI hP1 hP0 kc1 kc2 krc krc' hK1 hK2 hK hpl hnX hnY
    by_cases ha : X + Y < 340282366920938463463374607431768211456
    · have kad := fun W => add_some h l h2 l2 W HB.out.2.2.2.1 HB.out.2.2.2.2.2 (by rw [HX.out, HY.out]; exact ha)
      have hia := fun p c W k => is_any p c ((X + Y) / 18446744073709551616) ((X + Y) % 18446744073709551616) (X + Y) W k (Nat.mod_eq_of_lt (by omega)) rfl
      rw [HX.out, HY.out] at kad
      obtain ⟨T1, hT1⟩ : ∃ T, (X + Y) / 18446744073709551616 = T := ⟨_, rfl⟩
      obtain ⟨T0, hT0⟩ : ∃ T, (X + Y) % 18446744073709551616 = T := ⟨_, rfl⟩
      rw [hT1, hT0] at kad hia
      rw [show (cy X Y 8 == 0) = true from beq_iff_eq.2 ((cy_end X Y HXY.out.1 HXY.out.2).2 ha)] at kra
      have HAD := Lib.hid kad
      have HIA := Lib.hid hia
      have HRA := Lib.hid kra
      clear kad hia kra hT1 hT0 ha
      by_cases hs : Y ≤ X
      · have ksu := fun W => sub_some h l h2 l2 W HB.out.2.2.1 HB.out.2.2.2.1 HB.out.2.2.2.2.2 (by rw [HX.out, HY.out]; exact hs)
        have his := fun p c W k => is_any p c ((X - Y) / 18446744073709551616) ((X - Y) % 18446744073709551616) (X - Y) W k (Nat.mod_eq_of_lt (by have := HXY.out.1; omega)) rfl
        rw [HX.out, HY.out] at ksu
        obtain ⟨U1, hU1⟩ : ∃ T, (X - Y) / 18446744073709551616 = T := ⟨_, rfl⟩
        obtain ⟨U0, hU0⟩ : ∃ T, (X - Y) % 18446744073709551616 = T := ⟨_, rfl⟩
        rw [hU1, hU0] at ksu his
        have HSU := Lib.hid ksu
        have HIU := Lib.hid his
        have HRS : Hid (∀ W, Dig W p X → Dig W q Y → Calls Try.prog 15 #[.slice p 8 c, .slice q 8 d] W fun e w' => ∃ v, e = .returned (.tuple #[v, .bool true]) ∧ NewDig W w' v (X - Y)) := Lib.hid fun W k1 k2 => (krs W k1 k2).mono fun e w' he => by
          obtain ⟨v, n, he, hn, hx⟩ := he
          rw [decide_eq_true hs] at he
          exact ⟨v, he, by rw [← hx hs]; exact hn⟩
        clear ksu his krs hU1 hU0 hs
        go_wp2_with fail
        refine (HAD.out _).mono ?_
        rintro e w3 ⟨rfl, f3⟩
        rw [nv_eq]
        have G3 : Hid (Fr S0 wc w3) := Lib.hid (f3)
        clear f3 x0 x1 y0 y1
        go_wp2_with fail
        have BS3 : Hid (Blk (w3.alloc (.cells #[.int .u64 (T1 : Int), .int .u64 (T0 : Int)] 24)) w3.heap.size T1 T0) := Lib.hid (Blk.new w3 T1 T0)
        have G3a := Lib.hid (G3.out.trans0 (Fr.alloc S0 w3 (.cells #[.int .u64 (T1 : Int), .int .u64 (T0 : Int)] 24)))
        obtain ⟨gs, hgs⟩ : ∃ g, w3.heap.size = g := ⟨_, rfl⟩
        rw [hgs] at BS3 ⊢
        generalize w3.alloc (.cells #[.int .u64 (T1 : Int), .int .u64 (T0 : Int)] 24) = V3 at BS3 G3a ⊢
        clear hgs G3
        refine (HRA.out _ (DX.out.fr0 G3a.out) (DY.out.fr0 G3a.out)).mono ?_
        rintro e w4 ⟨v4, rfl, p4, c4, rfl, k4, f4⟩
        have K4 := Lib.hid k4
        have G4 := Lib.hid (G3a.out.trans0 f4)
        obtain ⟨s0, s1⟩ := (BS3.out.fr0 f4).c
        clear f4 k4 BS3 G3a
        go_wp2_with fail
        refine (HIA.out _ _ _ K4.out).mono ?_
        rintro e w5 ⟨rfl, f5⟩
        have G5 := Lib.hid (G4.out.trans0 f5)
        clear f5 s0 s1 G4 K4
        obtain ⟨x0, x1⟩ := (BXc.out.fr0 G5.out).c
        obtain ⟨y0, y1⟩ := (BYc.out.fr0 G5.out).c
        go_wp2_with fail
        refine (HSU.out _).mono ?_
        rintro e w6 ⟨rfl, f6⟩
        rw [nv_eq]
        have G6 : Hid (Fr S0 wc w6) := Lib.hid (G5.out.trans0 f6)
        clear f6 x0 x1 y0 y1
        go_wp2_with fail
        have BS6 : Hid (Blk (w6.alloc (.cells #[.int .u64 (U1 : Int), .int .u64 (U0 : Int)] 24)) w6.heap.size U1 U0) := Lib.hid (Blk.new w6 U1 U0)
        have G6a := Lib.hid (G6.out.trans0 (Fr.alloc S0 w6 (.cells #[.int .u64 (U1 : Int), .int .u64 (U0 : Int)] 24)))
        obtain ⟨gd, hgd⟩ : ∃ g, w6.heap.size = g := ⟨_, rfl⟩
        rw [hgd] at BS6 ⊢
        generalize w6.alloc (.cells #[.int .u64 (U1 : Int), .int .u64 (U0 : Int)] 24) = V6 at BS6 G6a ⊢
        clear hgd G6
        refine (HRS.out _ (DX.out.fr0 G6a.out) (DY.out.fr0 G6a.out)).mono ?_
        rintro e w7 ⟨v7, rfl, p7, c7, rfl, k7, f7⟩
        have K7 := Lib.hid k7
        have G7 := Lib.hid (G6a.out.trans0 f7)
        obtain ⟨s0, s1⟩ := (BS6.out.fr0 f7).c
        clear f7 k7 BS6 G6a
        go_wp2_with fail
        refine (HIU.out _ _ _ K7.out).mono ?_
        rintro e w8 ⟨rfl, f8⟩
        have G8 := Lib.hid (G7.out.trans0 f8)
        clear f8 s0 s1 G7 K7
        obtain ⟨x0, x1⟩ := (BXc.out.fr0 G8.out).c
        obtain ⟨y0, y1⟩ := (BYc.out.fr0 G8.out).c
        rcases HK.out with ⟨rfl, rfl⟩ | ⟨rfl, rfl⟩ | ⟨rfl, rfl⟩
        all_goals
          go_wp2_with fail
          go_region_held3 (fun w' => w'.cell? ⟨gx, 0, none⟩ = some (.int .u64 (h : Int)) ∧ w'.cell? ⟨gx, 1, none⟩ = some (.int .u64 (l : Int)) ∧ w'.cell? ⟨gy, 0, none⟩ = some (.int .u64 (h2 : Int)) ∧ w'.cell? ⟨gy, 1, none⟩ = some (.int .u64 (l2 : Int)) ∧ Fr S0 wc w')
            (first | (go_split_ands; exact ⟨by assumption, by assumption, by assumption, by assumption, G8.out.trans0 (Fr.drew S0 _)⟩) | (go_split_ands; exact ⟨f9.cell (by assumption) (fun h => h), f9.cell (by assumption) (fun h => h), f9.cell (by assumption) (fun h => h), f9.cell (by assumption) (fun h => h), Fr.trans0 (by assumption) f9⟩))
            (first
              | (go_at_call 16; ((with_reducible refine (HMU.out _).mono ?_); rintro _ u1 ⟨rfl, f9⟩))
              | (go_at_call 17; ((with_reducible refine (HRM.out _).mono ?_); rintro _ u2 ⟨v2, rfl, pm, cm, rfl, dm, f9⟩; have DM := Lib.hid dm; clear dm))
              | (go_at_call 13; ((with_reducible refine (HIS.out _ _ _ (by first | exact DM.out | exact DM.out.fr0 f9)).mono ?_); rintro _ u3 ⟨rfl, f9⟩))
              | (go_at_call 18; ((with_reducible refine (HC1.out _).mono ?_); rintro _ u4 ⟨rfl, f9⟩))
              | (go_at_call 18; ((with_reducible refine (HC2.out _).mono ?_); rintro _ u6 ⟨rfl, f9⟩))
              | (go_at_call 19; ((with_reducible refine (HRC.out _ (DX.out.fr0 (by go_split_ands; assumption)) (DY.out.fr0 (by go_split_ands; assumption))).mono ?_); rintro _ u5 ⟨rfl, hu⟩; have f9 : Fr S0 _ u5 := (by obtain ⟨nn, rfl⟩ := hu; exact Fr.drewN _ _ _); clear hu)))
          all_goals
            go_wp2_with fail
            go_ret
            exact ⟨rfl, F1.out.trans0 (F2.out.trans0 (by go_split_ands; assumption))⟩
      · have ksu := fun W => sub_none h l h2 l2 W HB.out.2.2.2.2.2 (by rw [HX.out, HY.out]; exact hs)
        have HSU := Lib.hid ksu
        have HRS : Hid (∀ W, Dig W p X → Dig W q Y → Calls Try.prog 15 #[.slice p 8 c, .slice q 8 d] W fun e w' => ∃ v n, e = .returned (.tuple #[v, .bool false]) ∧ NewDig W w' v n) := Lib.hid fun W k1 k2 => (krs W k1 k2).mono fun e w' he => by
          obtain ⟨v, n, he, hn, hx⟩ := he
          rw [decide_eq_false hs] at he
          exact ⟨v, n, he, hn⟩
        clear ksu krs hs
        go_wp2_with fail
        refine (HAD.out _).mono ?_
        rintro e w3 ⟨rfl, f3⟩
        rw [nv_eq]
        have G3 : Hid (Fr S0 wc w3) := Lib.hid (f3)
        clear f3 x0 x1 y0 y1
        go_wp2_with fail
        have BS3 : Hid (Blk (w3.alloc (.cells #[.int .u64 (T1 : Int), .int .u64 (T0 : Int)] 24)) w3.heap.size T1 T0) := Lib.hid (Blk.new w3 T1 T0)
        have G3a := Lib.hid (G3.out.trans0 (Fr.alloc S0 w3 (.cells #[.int .u64 (T1 : Int), .int .u64 (T0 : Int)] 24)))
        obtain ⟨gs, hgs⟩ : ∃ g, w3.heap.size = g := ⟨_, rfl⟩
        rw [hgs] at BS3 ⊢
        generalize w3.alloc (.cells #[.int .u64 (T1 : Int), .int .u64 (T0 : Int)] 24) = V3 at BS3 G3a ⊢
        clear hgs G3
        refine (HRA.out _ (DX.out.fr0 G3a.out) (DY.out.fr0 G3a.out)).mono ?_
        rintro e w4 ⟨v4, rfl, p4, c4, rfl, k4, f4⟩
        have K4 := Lib.hid k4
        have G4 := Lib.hid (G3a.out.trans0 f4)
        obtain ⟨s0, s1⟩ := (BS3.out.fr0 f4).c
        clear f4 k4 BS3 G3a
        go_wp2_with fail
        refine (HIA.out _ _ _ K4.out).mono ?_
        rintro e w5 ⟨rfl, f5⟩
        have G5 := Lib.hid (G4.out.trans0 f5)
        clear f5 s0 s1 G4 K4
        obtain ⟨x0, x1⟩ := (BXc.out.fr0 G5.out).c
        obtain ⟨y0, y1⟩ := (BYc.out.fr0 G5.out).c
        go_wp2_with fail
        refine (HSU.out _).mono ?_
        rintro e w6 ⟨rfl, f6⟩
        rw [nv_eq]
        have G6 : Hid (Fr S0 wc w6) := Lib.hid (G5.out.trans0 f6)
        clear f6 x0 x1 y0 y1
        go_wp2_with fail
        have BS6 : Hid (Blk (w6.alloc (.cells #[.int .u64 0, .int .u64 0] 24)) w6.heap.size 0 0) := Lib.hid (Blk.new w6 0 0)
        have G6a := Lib.hid (G6.out.trans0 (Fr.alloc S0 w6 (.cells #[.int .u64 0, .int .u64 0] 24)))
        obtain ⟨gd, hgd⟩ : ∃ g, w6.heap.size = g := ⟨_, rfl⟩
        rw [hgd] at BS6 ⊢
        generalize w6.alloc (.cells #[.int .u64 0, .int .u64 0] 24) = V6 at BS6 G6a ⊢
        clear hgd G6
        refine (HRS.out _ (DX.out.fr0 G6a.out) (DY.out.fr0 G6a.out)).mono ?_
        rintro e w7 ⟨v7, n7, rfl, p7, c7, rfl, k7, f7⟩
        have K7 := Lib.hid k7
        have G7 := Lib.hid (G6a.out.trans0 f7)
        obtain ⟨s0, s1⟩ := (BS6.out.fr0 f7).c
        clear f7 k7 BS6 G6a
        clear K7
        obtain ⟨x0, x1⟩ := (BXc.out.fr0 G7.out).c
        obtain ⟨y0, y1⟩ := (BYc.out.fr0 G7.out).c
        rcases HK.out with ⟨rfl, rfl⟩ | ⟨rfl, rfl⟩ | ⟨rfl, rfl⟩
        all_goals
          go_wp2_with fail
          go_region_held3 (fun w' => w'.cell? ⟨gx, 0, none⟩ = some (.int .u64 (h : Int)) ∧ w'.cell? ⟨gx, 1, none⟩ = some (.int .u64 (l : Int)) ∧ w'.cell? ⟨gy, 0, none⟩ = some (.int .u64 (h2 : Int)) ∧ w'.cell? ⟨gy, 1, none⟩ = some (.int .u64 (l2 : Int)) ∧ Fr S0 wc w')
            (first | (go_split_ands; exact ⟨by assumption, by assumption, by assumption, by assumption, G7.out.trans0 (Fr.drew S0 _)⟩) | (go_split_ands; exact ⟨f9.cell (by assumption) (fun h => h), f9.cell (by assumption) (fun h => h), f9.cell (by assumption) (fun h => h), f9.cell (by assumption) (fun h => h), Fr.trans0 (by assumption) f9⟩))
            (first
              | (go_at_call 16; ((with_reducible refine (HMU.out _).mono ?_); rintro _ u1 ⟨rfl, f9⟩))
              | (go_at_call 17; ((with_reducible refine (HRM.out _).mono ?_); rintro _ u2 ⟨v2, rfl, pm, cm, rfl, dm, f9⟩; have DM := Lib.hid dm; clear dm))
              | (go_at_call 13; ((with_reducible refine (HIS.out _ _ _ (by first | exact DM.out | exact DM.out.fr0 f9)).mono ?_); rintro _ u3 ⟨rfl, f9⟩))
              | (go_at_call 18; ((with_reducible refine (HC1.out _).mono ?_); rintro _ u4 ⟨rfl, f9⟩))
              | (go_at_call 18; ((with_reducible refine (HC2.out _).mono ?_); rintro _ u6 ⟨rfl, f9⟩))
              | (go_at_call 19; ((with_reducible refine (HRC.out _ (DX.out.fr0 (by go_split_ands; assumption)) (DY.out.fr0 (by go_split_ands; assumption))).mono ?_); rintro _ u5 ⟨rfl, hu⟩; have f9 : Fr S0 _ u5 := (by obtain ⟨nn, rfl⟩ := hu; exact Fr.drewN _ _ _); clear hu)))
          all_goals
            go_wp2_with fail
            go_ret
            exact ⟨rfl, F1.out.trans0 (F2.out.trans0 (by go_split_ands; assumption))⟩
    · have kad := fun W => add_none h l h2 l2 W HB.out.2.2.2.1 HB.out.2.2.2.2.2 (by rw [HX.out, HY.out]; exact ha)
      rw [show (cy X Y 8 == 0) = false from beq_eq_false_iff_ne.2 (fun e => ha ((cy_end X Y HXY.out.1 HXY.out.2).1 e))] at kra
      have HAD := Lib.hid kad
      have HRA := Lib.hid kra
      clear kad kra ha
      by_cases hs : Y ≤ X
      · have ksu := fun W => sub_some h l h2 l2 W HB.out.2.2.1 HB.out.2.2.2.1 HB.out.2.2.2.2.2 (by rw [HX.out, HY.out]; exact hs)
        have his := fun p c W k => is_any p c ((X - Y) / 18446744073709551616) ((X - Y) % 18446744073709551616) (X - Y) W k (Nat.mod_eq_of_lt (by have := HXY.out.1; omega)) rfl
        rw [HX.out, HY.out] at ksu
        obtain ⟨U1, hU1⟩ : ∃ T, (X - Y) / 18446744073709551616 = T := ⟨_, rfl⟩
        obtain ⟨U0, hU0⟩ : ∃ T, (X - Y) % 18446744073709551616 = T := ⟨_, rfl⟩
        rw [hU1, hU0] at ksu his
        have HSU := Lib.hid ksu
        have HIU := Lib.hid his
        have HRS : Hid (∀ W, Dig W p X → Dig W q Y → Calls Try.prog 15 #[.slice p 8 c, .slice q 8 d] W fun e w' => ∃ v, e = .returned (.tuple #[v, .bool true]) ∧ NewDig W w' v (X - Y)) := Lib.hid fun W k1 k2 => (krs W k1 k2).mono fun e w' he => by
          obtain ⟨v, n, he, hn, hx⟩ := he
          rw [decide_eq_true hs] at he
          exact ⟨v, he, by rw [← hx hs]; exact hn⟩
        clear ksu his krs hU1 hU0 hs
        go_wp2_with fail
        refine (HAD.out _).mono ?_
        rintro e w3 ⟨rfl, f3⟩
        rw [nv_eq]
        have G3 : Hid (Fr S0 wc w3) := Lib.hid (f3)
        clear f3 x0 x1 y0 y1
        go_wp2_with fail
        have BS3 : Hid (Blk (w3.alloc (.cells #[.int .u64 0, .int .u64 0] 24)) w3.heap.size 0 0) := Lib.hid (Blk.new w3 0 0)
        have G3a := Lib.hid (G3.out.trans0 (Fr.alloc S0 w3 (.cells #[.int .u64 0, .int .u64 0] 24)))
        obtain ⟨gs, hgs⟩ : ∃ g, w3.heap.size = g := ⟨_, rfl⟩
        rw [hgs] at BS3 ⊢
        generalize w3.alloc (.cells #[.int .u64 0, .int .u64 0] 24) = V3 at BS3 G3a ⊢
        clear hgs G3
        refine (HRA.out _ (DX.out.fr0 G3a.out) (DY.out.fr0 G3a.out)).mono ?_
        rintro e w4 ⟨v4, rfl, p4, c4, rfl, k4, f4⟩
        have K4 := Lib.hid k4
        have G4 := Lib.hid (G3a.out.trans0 f4)
        obtain ⟨s0, s1⟩ := (BS3.out.fr0 f4).c
        clear f4 k4 BS3 G3a
        clear K4
        obtain ⟨x0, x1⟩ := (BXc.out.fr0 G4.out).c
        obtain ⟨y0, y1⟩ := (BYc.out.fr0 G4.out).c
        go_wp2_with fail
        refine (HSU.out _).mono ?_
        rintro e w5 ⟨rfl, f5⟩
        rw [nv_eq]
        have G5 : Hid (Fr S0 wc w5) := Lib.hid (G4.out.trans0 f5)
        clear f5 x0 x1 y0 y1
        go_wp2_with fail
        have BS5 : Hid (Blk (w5.alloc (.cells #[.int .u64 (U1 : Int), .int .u64 (U0 : Int)] 24)) w5.heap.size U1 U0) := Lib.hid (Blk.new w5 U1 U0)
        have G5a := Lib.hid (G5.out.trans0 (Fr.alloc S0 w5 (.cells #[.int .u64 (U1 : Int), .int .u64 (U0 : Int)] 24)))
        obtain ⟨gd, hgd⟩ : ∃ g, w5.heap.size = g := ⟨_, rfl⟩
        rw [hgd] at BS5 ⊢
        generalize w5.alloc (.cells #[.int .u64 (U1 : Int), .int .u64 (U0 : Int)] 24) = V5 at BS5 G5a ⊢
        clear hgd G5
        refine (HRS.out _ (DX.out.fr0 G5a.out) (DY.out.fr0 G5a.out)).mono ?_
        rintro e w6 ⟨v6, rfl, p6, c6, rfl, k6, f6⟩
        have K6 := Lib.hid k6
        have G6 := Lib.hid (G5a.out.trans0 f6)
        obtain ⟨s0, s1⟩ := (BS5.out.fr0 f6).c
        clear f6 k6 BS5 G5a
        go_wp2_with fail
        refine (HIU.out _ _ _ K6.out).mono ?_
        rintro e w7 ⟨rfl, f7⟩
        have G7 := Lib.hid (G6.out.trans0 f7)
        clear f7 s0 s1 G6 K6
        obtain ⟨x0, x1⟩ := (BXc.out.fr0 G7.out).c
        obtain ⟨y0, y1⟩ := (BYc.out.fr0 G7.out).c
        rcases HK.out with ⟨rfl, rfl⟩ | ⟨rfl, rfl⟩ | ⟨rfl, rfl⟩
        all_goals
          go_wp2_with fail
          go_region_held3 (fun w' => w'.cell? ⟨gx, 0, none⟩ = some (.int .u64 (h : Int)) ∧ w'.cell? ⟨gx, 1, none⟩ = some (.int .u64 (l : Int)) ∧ w'.cell? ⟨gy, 0, none⟩ = some (.int .u64 (h2 : Int)) ∧ w'.cell? ⟨gy, 1, none⟩ = some (.int .u64 (l2 : Int)) ∧ Fr S0 wc w')
            (first | (go_split_ands; exact ⟨by assumption, by assumption, by assumption, by assumption, G7.out.trans0 (Fr.drew S0 _)⟩) | (go_split_ands; exact ⟨f9.cell (by assumption) (fun h => h), f9.cell (by assumption) (fun h => h), f9.cell (by assumption) (fun h => h), f9.cell (by assumption) (fun h => h), Fr.trans0 (by assumption) f9⟩))
            (first
              | (go_at_call 16; ((with_reducible refine (HMU.out _).mono ?_); rintro _ u1 ⟨rfl, f9⟩))
              | (go_at_call 17; ((with_reducible refine (HRM.out _).mono ?_); rintro _ u2 ⟨v2, rfl, pm, cm, rfl, dm, f9⟩; have DM := Lib.hid dm; clear dm))
              | (go_at_call 13; ((with_reducible refine (HIS.out _ _ _ (by first | exact DM.out | exact DM.out.fr0 f9)).mono ?_); rintro _ u3 ⟨rfl, f9⟩))
              | (go_at_call 18; ((with_reducible refine (HC1.out _).mono ?_); rintro _ u4 ⟨rfl, f9⟩))
              | (go_at_call 18; ((with_reducible refine (HC2.out _).mono ?_); rintro _ u6 ⟨rfl, f9⟩))
              | (go_at_call 19; ((with_reducible refine (HRC.out _ (DX.out.fr0 (by go_split_ands; assumption)) (DY.out.fr0 (by go_split_ands; assumption))).mono ?_); rintro _ u5 ⟨rfl, hu⟩; have f9 : Fr S0 _ u5 := (by obtain ⟨nn, rfl⟩ := hu; exact Fr.drewN _ _ _); clear hu)))
          all_goals
            go_wp2_with fail
            go_ret
            exact ⟨rfl, F1.out.trans0 (F2.out.trans0 (by go_split_ands; assumption))⟩
      · have ksu := fun W => sub_none h l h2 l2 W HB.out.2.2.2.2.2 (by rw [HX.out, HY.out]; exact hs)
        have HSU := Lib.hid ksu
        have HRS : Hid (∀ W, Dig W p X → Dig W q Y → Calls Try.prog 15 #[.slice p 8 c, .slice q 8 d] W fun e w' => ∃ v n, e = .returned (.tuple #[v, .bool false]) ∧ NewDig W w' v n) := Lib.hid fun W k1 k2 => (krs W k1 k2).mono fun e w' he => by
          obtain ⟨v, n, he, hn, hx⟩ := he
          rw [decide_eq_false hs] at he
          exact ⟨v, n, he, hn⟩
        clear ksu krs hs
        go_wp2_with fail
        refine (HAD.out _).mono ?_
        rintro e w3 ⟨rfl, f3⟩
        rw [nv_eq]
        have G3 : Hid (Fr S0 wc w3) := Lib.hid (f3)
        clear f3 x0 x1 y0 y1
        go_wp2_with fail
        have BS3 : Hid (Blk (w3.alloc (.cells #[.int .u64 0, .int .u64 0] 24)) w3.heap.size 0 0) := Lib.hid (Blk.new w3 0 0)
        have G3a := Lib.hid (G3.out.trans0 (Fr.alloc S0 w3 (.cells #[.int .u64 0, .int .u64 0] 24)))
        obtain ⟨gs, hgs⟩ : ∃ g, w3.heap.size = g := ⟨_, rfl⟩
        rw [hgs] at BS3 ⊢
        generalize w3.alloc (.cells #[.int .u64 0, .int .u64 0] 24) = V3 at BS3 G3a ⊢
        clear hgs G3
        refine (HRA.out _ (DX.out.fr0 G3a.out) (DY.out.fr0 G3a.out)).mono ?_
        rintro e w4 ⟨v4, rfl, p4, c4, rfl, k4, f4⟩
        have K4 := Lib.hid k4
        have G4 := Lib.hid (G3a.out.trans0 f4)
        obtain ⟨s0, s1⟩ := (BS3.out.fr0 f4).c
        clear f4 k4 BS3 G3a
        clear K4
        obtain ⟨x0, x1⟩ := (BXc.out.fr0 G4.out).c
        obtain ⟨y0, y1⟩ := (BYc.out.fr0 G4.out).c
        go_wp2_with fail
        refine (HSU.out _).mono ?_
        rintro e w5 ⟨rfl, f5⟩
        rw [nv_eq]
        have G5 : Hid (Fr S0 wc w5) := Lib.hid (G4.out.trans0 f5)
        clear f5 x0 x1 y0 y1
        go_wp2_with fail
        have BS5 : Hid (Blk (w5.alloc (.cells #[.int .u64 0, .int .u64 0] 24)) w5.heap.size 0 0) := Lib.hid (Blk.new w5 0 0)
        have G5a := Lib.hid (G5.out.trans0 (Fr.alloc S0 w5 (.cells #[.int .u64 0, .int .u64 0] 24)))
        obtain ⟨gd, hgd⟩ : ∃ g, w5.heap.size = g := ⟨_, rfl⟩
        rw [hgd] at BS5 ⊢
        generalize w5.alloc (.cells #[.int .u64 0, .int .u64 0] 24) = V5 at BS5 G5a ⊢
        clear hgd G5
        refine (HRS.out _ (DX.out.fr0 G5a.out) (DY.out.fr0 G5a.out)).mono ?_
        rintro e w6 ⟨v6, n6, rfl, p6, c6, rfl, k6, f6⟩
        have K6 := Lib.hid k6
        have G6 := Lib.hid (G5a.out.trans0 f6)
        obtain ⟨s0, s1⟩ := (BS5.out.fr0 f6).c
        clear f6 k6 BS5 G5a
        clear K6
        obtain ⟨x0, x1⟩ := (BXc.out.fr0 G6.out).c
        obtain ⟨y0, y1⟩ := (BYc.out.fr0 G6.out).c
        rcases HK.out with ⟨rfl, rfl⟩ | ⟨rfl, rfl⟩ | ⟨rfl, rfl⟩
        all_goals
          go_wp2_with fail
          go_region_held3 (fun w' => w'.cell? ⟨gx, 0, none⟩ = some (.int .u64 (h : Int)) ∧ w'.cell? ⟨gx, 1, none⟩ = some (.int .u64 (l : Int)) ∧ w'.cell? ⟨gy, 0, none⟩ = some (.int .u64 (h2 : Int)) ∧ w'.cell? ⟨gy, 1, none⟩ = some (.int .u64 (l2 : Int)) ∧ Fr S0 wc w')
            (first | (go_split_ands; exact ⟨by assumption, by assumption, by assumption, by assumption, G6.out.trans0 (Fr.drew S0 _)⟩) | (go_split_ands; exact ⟨f9.cell (by assumption) (fun h => h), f9.cell (by assumption) (fun h => h), f9.cell (by assumption) (fun h => h), f9.cell (by assumption) (fun h => h), Fr.trans0 (by assumption) f9⟩))
            (first
              | (go_at_call 16; ((with_reducible refine (HMU.out _).mono ?_); rintro _ u1 ⟨rfl, f9⟩))
              | (go_at_call 17; ((with_reducible refine (HRM.out _).mono ?_); rintro _ u2 ⟨v2, rfl, pm, cm, rfl, dm, f9⟩; have DM := Lib.hid dm; clear dm))
              | (go_at_call 13; ((with_reducible refine (HIS.out _ _ _ (by first | exact DM.out | exact DM.out.fr0 f9)).mono ?_); rintro _ u3 ⟨rfl, f9⟩))
              | (go_at_call 18; ((with_reducible refine (HC1.out _).mono ?_); rintro _ u4 ⟨rfl, f9⟩))
              | (go_at_call 18; ((with_reducible refine (HC2.out _).mono ?_); rintro _ u6 ⟨rfl, f9⟩))
              | (go_at_call 19; ((with_reducible refine (HRC.out _ (DX.out.fr0 (by go_split_ands; assumption)) (DY.out.fr0 (by go_split_ands; assumption))).mono ?_); rintro _ u5 ⟨rfl, hu⟩; have f9 : Fr S0 _ u5 := (by obtain ⟨nn, rfl⟩ := hu; exact Fr.drewN _ _ _); clear hu)))
          all_goals
            go_wp2_with fail
            go_ret
            exact ⟨rfl, F1.out.trans0 (F2.out.trans0 (by go_split_ands; assumption))⟩
end Go.Proofs.Ytmaiahkkekkbbaa
