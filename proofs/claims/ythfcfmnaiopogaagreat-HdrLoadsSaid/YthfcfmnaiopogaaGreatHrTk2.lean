/- The landed histograms: Take. -/
import Derived.Test.YthfcfmnaiopogaaGreatHrTk
import Derived.Test.YthfcfmnaiopogaaGreatDnAll
namespace Go.Proofs.YthfcfmnaiopogaaGreat
open Go.RowKit Go.ChangeMaps

section
variable (g : Nat) (w0 : World)
set_option maxRecDepth 100000 in
set_option maxHeartbeats 400000 in
theorem xtake_nil : Calls Tryz.prog 17 #[.pointer (some ⟨g, 0, none⟩), .pointer none] w0 fun e w' => e = .returned (.int .i64 1) ∧ Fr S0 w0 w' := by
  go_enter Tryz.func17, Tryz.ntmps17
  go_wp2_with fail
  go_ret
  exact ⟨rfl, Fr.refl _ _⟩
end
section
variable (g h g2 h2 : Nat) (M G : Hm) (w0 : World) (s : HistIs w0 g h M) (t : HistIs w0 g2 h2 G)
include s t
set_option maxRecDepth 100000 in
set_option maxHeartbeats 1000000 in
theorem xtake_cap (hk : M.like G) (hcap : 4611686018427387904 - ltot M.l < ltot G.l) : Calls Tryz.prog 17 #[.pointer (some ⟨g, 0, none⟩), .pointer (some ⟨g2, 0, none⟩)] w0 fun e w' => e = .returned (.int .i64 6) ∧ Fr S0 w0 w' := by
  have HX := Lib.hid (fun W (f : Fr S0 w0 W) => xshape_any g h M W (s.fr0 f))
  have HY := Lib.hid (fun W (f : Fr S0 w0 W) => xshape_any g2 h2 G W (t.fr0 f))
  have HRM := Lib.hid (fun W (f : Fr S0 w0 W) => xroom_any g h M W (s.fr0 f))
  have HC8 := Lib.hid (fun W (f : Fr S0 w0 W) => (t.fr0 f).c8)
  have c5 := s.c5
  have d5 := t.c5
  obtain ⟨k1, k2, k3, k4⟩ := hk
  rw [k1, k2, k3] at HY
  rw [k4] at d5
  obtain ⟨L, eL⟩ : ∃ L, M.L = L := ⟨_, rfl⟩
  obtain ⟨H, eH⟩ : ∃ H, M.H = H := ⟨_, rfl⟩
  obtain ⟨D, eD⟩ : ∃ D, M.D = D := ⟨_, rfl⟩
  obtain ⟨r, er⟩ : ∃ r, M.gr = r := ⟨_, rfl⟩
  obtain ⟨R, eR⟩ : ∃ R, 4611686018427387904 - ltot M.l = R := ⟨_, rfl⟩
  obtain ⟨U, eU⟩ : ∃ U, ltot G.l = U := ⟨_, rfl⟩
  rw [eL, eH, eD] at HX HY
  rw [er] at c5 d5
  rw [eR] at HRM hcap
  rw [eU] at HC8 hcap
  have hd : decide (R < U) = true := decide_eq_true hcap
  clear s t k1 k2 k3 k4 eL eH eD er eR eU
  go_enter Tryz.func17, Tryz.ntmps17
  go_upto_region 17 with fail
  go_region_held3 (fun w' => w'.cell? ⟨g, 5, none⟩ = some (.bool r) ∧ w'.cell? ⟨g2, 5, none⟩ = some (.bool r) ∧ Fr S0 w0 w')
    (first | (go_split_ands; exact ⟨by assumption, by assumption, by assumption⟩) | exact ⟨c5, d5, Fr.drew _ _⟩ | (go_split_ands; exact ⟨f9.cell (by assumption) (fun h => h), f9.cell (by assumption) (fun h => h), Fr.trans0 (by assumption) f9⟩))
    (first
      | (go_at_call 56; ((with_reducible refine (HY.out _ (by go_split_ands; assumption)).mono ?_); rintro _ w2 ⟨rfl, f9⟩; have FY := Lib.hid f9))
      | (go_at_call 56; ((with_reducible refine (HX.out _ (by go_split_ands; assumption)).mono ?_); rintro _ w3 ⟨rfl, f9⟩; have FX := Lib.hid f9)))
  all_goals
    have F3 := Lib.hid (((Fr.drew S0 w0).trans0 FY.out).trans0 FX.out)
    have d8 := HC8.out _ F3.out
    have HRM3 := Lib.hid (fun n => HRM.out (w3.drewN n) (F3.out.trans0 (Fr.drewN _ _ n)))
    go_upto_region 8 with fail
    go_quiet (first | (exact (HRM3.out _).mono fun _ _ h => ⟨h.1, _, h.2⟩))
    go_wp2_with fail
    go_ret
    exact ⟨rfl, F3.out.trans0 (Fr.drewN _ _ _)⟩
set_option maxRecDepth 100000 in
set_option maxHeartbeats 1000000 in
theorem xtake_yes (hk : M.like G) (hcap : ¬ 4611686018427387904 - ltot M.l < ltot G.l) (hl : G.l.length ≤ 100000) : Calls Tryz.prog 17 #[.pointer (some ⟨g, 0, none⟩), .pointer (some ⟨g2, 0, none⟩)] w0 fun e w' => e = .returned (.int .i64 0) ∧ HistIs w' g h (M.taken G) ∧ Fr (fun k => k = g ∨ k = h) w0 w' := by
  have HX := Lib.hid (fun W (f : Fr S0 w0 W) => xshape_any g h M W (s.fr0 f))
  have HY := Lib.hid (fun W (f : Fr S0 w0 W) => xshape_any g2 h2 G W (t.fr0 f))
  have HRM := Lib.hid (fun W (f : Fr S0 w0 W) => xroom_any g h M W (s.fr0 f))
  have HC8 := Lib.hid (fun W (f : Fr S0 w0 W) => (t.fr0 f).c8)
  have HPAIRS := Lib.hid (fun W (f : Fr S0 w0 W) => xpairs_any g2 h2 G W (t.fr0 f) hl)
  have HGOOD : Hid (M.taken G).Good := Lib.hid (by
    have h1 := s.good.take t.good
    unfold Hm.take at h1
    rwa [if_pos (by unfold Hm.takeE; rw [if_neg (fun hn => hn hk), if_neg hcap])] at h1)
  have HS := Lib.hid s
  have HT := Lib.hid t
  have htm := s.good.tot
  have hne := s.ne
  obtain ⟨es0, clock0, hb0, E0⟩ := s.mp
  obtain ⟨es1, clock1, hb1, E1⟩ := t.mp
  have HBD := Lib.hid E1.bd
  have HPOS := Lib.hid t.good.pos
  obtain ⟨n, hn⟩ : ∃ n, G.l.length = n := ⟨_, rfl⟩
  have HN := Lib.hid hn
  rw [hn] at hl
  have c5 := s.c5
  have d5 := t.c5
  obtain ⟨k1, k2, k3, k4⟩ := hk
  rw [k1, k2, k3] at HY
  rw [k4] at d5
  obtain ⟨L, eL⟩ : ∃ L, M.L = L := ⟨_, rfl⟩
  obtain ⟨H, eH⟩ : ∃ H, M.H = H := ⟨_, rfl⟩
  obtain ⟨D, eD⟩ : ∃ D, M.D = D := ⟨_, rfl⟩
  obtain ⟨r, er⟩ : ∃ r, M.gr = r := ⟨_, rfl⟩
  obtain ⟨R, eR⟩ : ∃ R, 4611686018427387904 - ltot M.l = R := ⟨_, rfl⟩
  obtain ⟨U, eU⟩ : ∃ U, ltot G.l = U := ⟨_, rfl⟩
  rw [eL, eH, eD] at HX HY
  rw [er] at c5 d5
  rw [eR] at HRM hcap
  rw [eU] at HC8 hcap
  have hd : decide (R < U) = false := decide_eq_false hcap
  have HU := Lib.hid eU
  have HCAP : Hid (ltot M.l + ltot G.l ≤ 4611686018427387904) := Lib.hid (by rw [eU]; omega)
  clear hb0 E0 hb1 E1 hn htm hcap s t k1 k2 k3 k4 eL eH eD er eR eU
  go_enter Tryz.func17, Tryz.ntmps17
  go_upto_region 17 with fail
  go_region_held3 (fun w' => w'.cell? ⟨g, 5, none⟩ = some (.bool r) ∧ w'.cell? ⟨g2, 5, none⟩ = some (.bool r) ∧ Fr S0 w0 w')
    (first | (go_split_ands; exact ⟨by assumption, by assumption, by assumption⟩) | exact ⟨c5, d5, Fr.drew _ _⟩ | (go_split_ands; exact ⟨f9.cell (by assumption) (fun h => h), f9.cell (by assumption) (fun h => h), Fr.trans0 (by assumption) f9⟩))
    (first
      | (go_at_call 56; ((with_reducible refine (HY.out _ (by go_split_ands; assumption)).mono ?_); rintro _ w2 ⟨rfl, f9⟩; have FY := Lib.hid f9))
      | (go_at_call 56; ((with_reducible refine (HX.out _ (by go_split_ands; assumption)).mono ?_); rintro _ w3 ⟨rfl, f9⟩; have FX := Lib.hid f9)))
  all_goals
    have F3 := Lib.hid (((Fr.drew S0 w0).trans0 FY.out).trans0 FX.out)
    have d8 := HC8.out _ F3.out
    have HRM3 := Lib.hid (fun n => HRM.out (w3.drewN n) (F3.out.trans0 (Fr.drewN _ _ n)))
    go_upto_region 8 with fail
    go_quiet (first | (exact (HRM3.out _).mono fun _ _ h => ⟨h.1, _, h.2⟩))
    have F4 := Lib.hid (F3.out.trans0 (Fr.drewN S0 w3 nq))
    go_wp2_with fail
    refine (HPAIRS.out _ F4.out).mono ?_
    rintro e w5 ⟨p, c, n', rfl, hsee⟩
    have hnn : n' = n := hsee.len.symm.trans HN.out
    subst hnn
    have HP5 := Lib.hid hsee.pri
    have F5 := Lib.hid (F4.out.trans0 hsee.fr)
    have HOFF : Hid (Off (· = h) p) := Lib.hid fun a ha e => by
      have h1 := hsee.fresh a ha
      have h2 := HS.out.mp.lt
      have h3 := F4.out.size
      have h4 : a.block = h := e
      omega
    clear hsee HPAIRS HRM3 d8 d5 c5 HX HY HRM HC8 FY FX F3
    go_wp2_with fail
    go_loopw [38] (fun a wr => ∃ j : Nat, a = .int .i64 (j : Nat) ∧ j ≤ n' ∧ Hid (MpI wr h (lputs M.l (G.l.take j)) ∧ Fr (· = h) w0 wr ∧ Fr (· = h) w5 wr)) (fun a _ => n' - (intOf a).toNat)
    case atStart => exact ⟨0, rfl, Nat.zero_le _, Lib.hid ⟨HS.out.mp.fr F5.out (fun h => h), F5.out.mono (fun _ _ h => h.elim), Fr.refl _ _⟩⟩
    case round =>
      obtain ⟨j, rfl, hj, HK⟩ := hrel
      by_cases hlt : j < n'
      · have hjl : j < G.l.length := by rw [HN.out]; exact hlt
        have c7 := HK.out.2.1.cell HS.out.c7 hne
        obtain ⟨b, o, rfl, c0, c1⟩ := (HP5.out.fr HK.out.2.2 HOFF.out).at j hjl
        have HSN : Hid (G.l.take (j + 1) = G.l.take j ++ [G.l[j]]) := Lib.hid (List.take_succ_eq_append_getElem hjl)
        have HM := Lib.hid (List.getElem_mem hjl)
        obtain ⟨⟨tk, tn⟩, ht⟩ : ∃ x, G.l[j] = x := ⟨_, rfl⟩
        rw [ht] at c0 c1 HSN HM
        clear ht hjl
        go_upto_region 11 with fail
        obtain ⟨W1, hW1⟩ : ∃ W, wr.alloc (.cells #[.int .i64 tk, .int .u64 (tn : Nat)] 79) = W := ⟨_, rfl⟩
        rw [hW1]
        have f1 : Fr S0 wr W1 := hW1 ▸ Fr.alloc _ _ _
        have k7 := f1.cell c7 fun h => h
        have b0 : W1.cell? ⟨wr.heap.size, 0, none⟩ = some (.int .i64 tk) := by rw [← hW1, World.cell?, heap_alloc_new]; rfl
        have b1 : W1.cell? ⟨wr.heap.size, 1, none⟩ = some (.int .u64 (tn : Nat)) := by rw [← hW1, World.cell?, heap_alloc_new]; rfl
        obtain ⟨es, clock, hb, E⟩ := HK.out.1
        have hb1 : W1.drew.heap[h]? = some (.map es clock) := f1.row hb fun h => h
        have hkey := HBD.out _ HM.out
        have hpos := HPOS.out _ HM.out
        simp only at hkey hpos
        have l1 := E.look h tk hkey W1.drew hb1
        obtain ⟨es2, clock2, E2, hput⟩ := E.put h tk tn hkey hpos
        obtain ⟨C, eC⟩ : ∃ C, cnt (lputs M.l (G.l.take j)) tk = C := ⟨_, rfl⟩
        rw [eC] at l1
        rw [← putAll_snoc _ _ (tk, tn), ← HSN.out] at E2
        rw [eC] at hput
        have htot : C + tn ≤ 4611686018427387904 := by
          have h1 := cnt_tot (lputs M.l (G.l.take j)) tk
          have h2 := tot_putAll (G.l.take (j + 1)) M.l
          rw [HSN.out, putAll_snoc, tot_put, ← HSN.out] at h2
          have h3 : ltot (G.l.take (j + 1)) ≤ ltot G.l := ahd_le _ _
          have h4 := HCAP.out
          simp only at h2
          omega
        obtain ⟨N, eN⟩ : ∃ N, C + tn = N := ⟨_, rfl⟩
        rw [eN] at hput htot
        have e1 : (C : Int) + (tn : Int) = (N : Int) := by omega
        have w1 : IntKind.u64.wrap (N : Int) = (N : Int) := by rw [IntKind.wrap_u64]; omega
        have u1 := hput W1.drew _ rfl hb1
        have hfs := fr_setMap (o' := .map es2 clock2) hb1
        obtain ⟨W2, hW2⟩ : ∃ W, setBlock W1.drew h (.map es2 clock2) = W := ⟨_, rfl⟩
        rw [hW2] at u1 hfs
        have HK2 : Hid (MpI W2 h (lputs M.l (G.l.take (j + 1))) ∧ Fr (· = h) wr W2) := Lib.hid ⟨⟨es2, clock2, hfs.1, E2⟩, ((f1.trans0 (Fr.drew _ _)).mono fun _ _ h => h.elim).trans hfs.2 fun _ _ h => h⟩
        clear hW1 hW2 hfs f1 hb E hb1 hput E2 eC eN hkey hpos htot c0 c1 c7
        go_region
        go_wp2_with fail
        go_roundw
        case rel => exact ⟨j + 1, by go_num, by omega, Lib.hid ⟨HK2.out.1, HK.out.2.1.trans HK2.out.2 (fun _ _ h => h), HK.out.2.2.trans HK2.out.2 fun _ _ h => h⟩⟩
        case measure => simp [intOf]; omega
      · have hjn : j = n' := by omega
        subst hjn
        have hf : decide ((j : Int) < (j : Int)) = false := decide_eq_false (by omega)
        have HALL : Hid (lputs M.l (G.l.take j) = lputs M.l G.l) := Lib.hid (by rw [← HN.out, List.take_length])
        have HB1 : Hid (wr.heap[g]? = w0.heap[g]?) := Lib.hid (HK.out.2.1.block g HS.out.lt hne)
        have HB2 : Hid (wr.heap[g2]? = w0.heap[g2]?) := Lib.hid (HK.out.2.1.block g2 HT.out.lt fun e => by
          obtain ⟨es, clock, hb, -⟩ := HS.out.mp
          have h1 := HT.out.blk
          have h2 : g2 = h := e
          rw [h2, hb] at h1
          cases h1)
        obtain ⟨T, eT⟩ : ∃ T, ltot M.l = T := ⟨_, rfl⟩
        obtain ⟨B, eB⟩ : ∃ B, M.b = B := ⟨_, rfl⟩
        obtain ⟨B2, eB2⟩ : ∃ B, G.b = B := ⟨_, rfl⟩
        obtain ⟨Z, eZ⟩ : ∃ Z, T + U = Z := ⟨_, rfl⟩
        obtain ⟨Y, eY⟩ : ∃ Y, max B B2 = Y := ⟨_, rfl⟩
        have c8 : wr.cell? ⟨g, 8, none⟩ = some (.int .u64 (T : Nat)) := by rw [← eT]; exact (World.cell?_of_block HB1.out).trans HS.out.c8
        have d8 : wr.cell? ⟨g2, 8, none⟩ = some (.int .u64 (U : Nat)) := by rw [← HU.out]; exact (World.cell?_of_block HB2.out).trans HT.out.c8
        have z8 : wr.frozen? ⟨g, 8, none⟩ = false := by simp [World.frozen?, HB1.out, HS.out.blk]
        have hZ : Z ≤ 4611686018427387904 := by have h1 := HCAP.out; rw [eT, HU.out] at h1; omega
        have e1 : (T : Int) + (U : Int) = (Z : Int) := by omega
        have w1 : IntKind.u64.wrap (Z : Int) = (Z : Int) := by rw [IntKind.wrap_u64]; omega
        have e3 : max (B : Int) (B2 : Int) = (Y : Int) := by omega
        have e4 : (if (B : Int) < (B2 : Int) then (B2 : Int) else (B : Int)) = (Y : Int) := by split <;> omega
        have e5 : (if B < B2 then (B2 : Int) else (B : Int)) = (Y : Int) := by split <;> omega
        have HE := Lib.hid (show _ ∧ _ ∧ _ ∧ _ ∧ _ from ⟨eT, eB, eB2, eZ, eY⟩)
        clear eT eB eB2 eZ eY
        go_upto_region 12 with fail
        go_region
        obtain ⟨W3, hW3⟩ : ∃ W, (wr.setCell ⟨g, 8, none⟩ (.int .u64 (Z : Nat))).drew = W := ⟨_, rfl⟩
        rw [hW3]
        have BLK3 : W3.heap[g]? = some (.cells #[.int .i64 (M.L : Nat), .int .i64 (M.H : Nat), .int .i64 (M.D : Nat), .int .i64 (M.u : Nat), .int .i64 (M.m : Nat), .bool M.gr, .int .i64 (B : Nat), .map (some h), .int .u64 (Z : Nat)] 110 (0, 0)) := by
          rw [← hW3]
          refine (heap_setCell_same wr g 8 _ _ _ (HB1.out.trans HS.out.blk)).trans ?_
          rw [← HE.out.2.1]
          rfl
        have HF3 : Hid (Fr (· = g) wr W3) := Lib.hid (hW3 ▸ (fr_cell (w := wr) (.int .u64 (Z : Nat))).trans (Fr.drew (· = g) _) fun _ _ h => h)
        have c6 : W3.cell? ⟨g, 6, none⟩ = some (.int .i64 (B : Nat)) := by simp [World.cell?, BLK3]
        have d6 : W3.cell? ⟨g2, 6, none⟩ = some (.int .i64 (B2 : Nat)) := by
          rw [← HE.out.2.2.1]
          by_cases hgg : g2 = g
          · subst hgg
            have h1 := HS.out.c6
            rw [HT.out.c6] at h1
            rw [h1, c6, HE.out.2.1]
          · exact HF3.out.cell ((World.cell?_of_block HB2.out).trans HT.out.c6) hgg
        have z6 : W3.frozen? ⟨g, 6, none⟩ = false := by simp [World.frozen?, BLK3]
        have HB3 := Lib.hid BLK3
        clear BLK3 hW3 c8 d8 z8
        go_upto_region 13 with fail
        go_region
        go_wp2_with fail
        go_ret
        refine ⟨rfl, ⟨?_, ?_, HGOOD.out⟩, ?_⟩
        · refine (heap_setCell_same W3 g 6 _ _ _ HB3.out).trans ?_
          have h1 : (M.taken G).b = Y := by rw [← HE.out.2.2.2.2, ← HE.out.2.1, ← HE.out.2.2.1]; rfl
          have h2 : ltot (M.taken G).l = Z := by
            rw [← HE.out.2.2.2.1, ← HE.out.1, ← HU.out]
            exact tot_putAll _ _
          rw [h1, h2]
          rfl
        · have hm := HK.out.1
          rw [HALL.out] at hm
          exact ((hm.fr HF3.out fun e => hne e.symm).fr (fr_cell _) fun e => hne e.symm).fr (Fr.drew S0 _) fun h => h
        · exact (((HK.out.2.1.mono fun _ _ h => .inr h).trans HF3.out fun _ _ h => .inl h).trans (fr_cell _) fun _ _ h => .inl h).trans0 (Fr.drew _ _)
theorem xtake_any (hl : G.l.length ≤ 100000) : Calls Tryz.prog 17 #[.pointer (some ⟨g, 0, none⟩), .pointer (some ⟨g2, 0, none⟩)] w0 fun e w' => e = .returned (.int .i64 (M.takeE G : Nat)) ∧ HistIs w' g h (M.take G) ∧ Fr (fun k => k = g ∨ k = h) w0 w' := by
  unfold Hm.take
  by_cases hk : M.like G
  · by_cases hcap : 4611686018427387904 - ltot M.l < ltot G.l
    · rw [show M.takeE G = 6 by unfold Hm.takeE; rw [if_neg (fun hn => hn hk), if_pos hcap], if_neg (by decide)]
      exact (xtake_cap g h g2 h2 M G w0 s t hk hcap).mono fun e w' he => ⟨he.1, s.fr0 he.2, he.2.mono fun _ _ h => h.elim⟩
    · rw [show M.takeE G = 0 by unfold Hm.takeE; rw [if_neg (fun hn => hn hk), if_neg hcap], if_pos rfl]
      exact xtake_yes g h g2 h2 M G w0 s t hk hcap hl
  · rw [show M.takeE G = 3 by unfold Hm.takeE; rw [if_pos hk], if_neg (by decide)]
    exact (xtake_kind g h g2 h2 M G w0 s t hk).mono fun e w' he => ⟨he.1, s.fr0 he.2, he.2.mono fun _ _ h => h.elim⟩
end
end Go.Proofs.YthfcfmnaiopogaaGreat
