/- Cutting changes no total; keys that stay have their counts, but the least one; no rank's key becomes less; what stays of two lists doesn't hang on whether they were cut ahead. -/
import Derived.Test.YtljodghfgnkknaaSpLawOwn
import Derived.Deep.RegionHeld3
namespace Go.Proofs.Ytljodghfgnkknaa
open Go.RowKit

/-- three lists that were counted, and the document's beside the first one -/
theorem Cnt.three {w w1 w2 w3 w4 : World} {g h g2 h2 g3 h3 n n2 n3 : Nat} {q q2 q3 : Option Addr} {l l2 l3 : List Pr} (f : Fr S0 w w1) (c1 : Cnt w1 w2 g h q n l) (c2 : Cnt w2 w3 g2 h2 q2 n2 l2) (c3 : Cnt w3 w4 g3 h3 q3 n3 l3) :
    ∃ own, Cl own 0 w w4 g h l ∧ Cl own 1 w w4 g2 h2 l2 ∧ Cl own 2 w w4 g3 h3 l3 ∧ Ls own 3 w4 q l ∧ Fr S0 w w4 := by
  have s1 := f.size
  have s2 := c1.fr.size
  have s3 := c2.fr.size
  have s4 := c3.fr.size
  have a1 := c1.g0
  have a2 := c1.h0
  have a3 := c1.is.lt
  have a4 := c1.hl
  have b1 := c2.g0
  have b2 := c2.h0
  have b3 := c2.is.lt
  have b4 := c2.hl
  have d1 := c3.g0
  have d2 := c3.h0
  refine ⟨fun y => if y < w2.heap.size then (if y = g ∨ y = h then 0 else 3) else if y < w3.heap.size then 1 else 2, ⟨(c1.is.fr0 c2.fr).fr0 c3.fr, by omega, by omega, by have := c1.hl; omega, ?_, ?_⟩, ⟨c2.is.fr0 c3.fr, by omega, by omega, by have := c2.hl; omega, ?_, ?_⟩, ⟨c3.is, by omega, by omega, c3.hl, ?_, ?_⟩,
    ⟨(c1.pri.fr0 c2.fr).fr0 c3.fr, fun a ha => ⟨?_, by have := (c1.q0 a ha).2.1; omega⟩⟩, ((f.trans0 c1.fr).trans0 c2.fr).trans0 c3.fr⟩
  · exact (if_pos a3).trans (if_pos (.inl rfl))
  · exact (if_pos a4).trans (if_pos (.inr rfl))
  · exact (if_neg (by omega)).trans (if_pos b3)
  · exact (if_neg (by omega)).trans (if_pos b4)
  · exact (if_neg (by omega)).trans (if_neg (by omega))
  · exact (if_neg (by omega)).trans (if_neg (by omega))
  · obtain ⟨-, h2, h3, h4⟩ := c1.q0 a ha
    exact (if_pos h2).trans (if_neg (by omega))
theorem key_stays {l : List Pr} (h : Good l) {m r : Nat} (hm : 1 ≤ m) : keyV l (1 + r % max (ltot l) 1) ≤ keyV (cutN l m) (1 + r % max (ltot l) 1) := by
  have ht := cut_tot h.srt h.pos hm
  by_cases hl : l = []
  · subst hl
    rw [cut_none (by simp)]
    exact Int.le_refl _
  · have hp : 0 < ltot l := by
      cases l with
      | nil => exact absurd rfl hl
      | cons x t => have := (pos_cons.1 h.pos).1; rw [ltot]; omega
    have hr : r % max (ltot l) 1 < ltot l := by rw [Nat.max_eq_left hp]; exact Nat.mod_lt _ hp
    have hc : cutN l m ≠ [] := by intro e; rw [e] at ht; simp only [ltot] at ht; omega
    generalize r % max (ltot l) 1 = X at hr
    have e1 : keyE l (1 + X) = 0 := by unfold keyE; rw [if_neg hl, if_neg (by omega)]
    have e2 : keyE (cutN l m) (1 + X) = 0 := by unfold keyE; rw [if_neg hc, if_neg (by omega)]
    unfold keyV
    rw [if_pos e1, if_pos e2]
    exact cut_key_mono h.srt h.pos hm (by omega) (by omega)

set_option maxRecDepth 100000 in
set_option maxHeartbeats 4000000 in
theorem law_cuts (p p' : Option Addr) (c c' n n' r : Nat) (l l' : List Pr) (m : Int) (w : World) (hn : l.length = n) (h : PrI w p l) (h64 : ∀ x ∈ l, x.2 < 18446744073709551616) (hn' : l'.length = n') (h' : PrI w p' l') (h64' : ∀ x ∈ l', x.2 < 18446744073709551616)
    (hr : r < 18446744073709551616) :
    Calls Try.prog 5 #[.slice p n c, .slice p' n' c', .int .i64 m, .int .u64 (r : Nat)] w fun e w' => e = .returned (.bool true) ∧ Fr S0 w w' := by
  have hw := start w
  have HCA := Lib.hid (fun W (f : Fr S0 w W) => counted_any p c n l W hn (h.fr0 f) h64)
  have HCB := Lib.hid (fun W (f : Fr S0 w W) => counted_any p' c' n' l' W hn' (h'.fr0 f) h64')
  have HGA := Lib.hid (And.intro (cntd_good l) (And.intro (cntd_tot l) (cntd_len l)))
  have HGB := Lib.hid (And.intro (cntd_good l') (And.intro (cntd_tot l') (cntd_len l')))
  have HR64 := Lib.hid hr
  obtain ⟨U, wU, eU⟩ : ∃ u : Nat, IntKind.u64.wrap m = (u : Int) ∧ (u : Int) = m % 18446744073709551616 := ⟨(IntKind.u64.wrap m).toNat, by rw [IntKind.wrap_u64]; omega, by rw [IntKind.wrap_u64]; omega⟩
  obtain ⟨R, hR⟩ : ∃ R, U % 20 = R := ⟨_, rfl⟩
  have eR : (U : Int) % 20 = (R : Int) := by omega
  obtain ⟨M, hM⟩ : ∃ M, 1 + R = M := ⟨_, rfl⟩
  have eM : (1 : Int) + (R : Int) = (M : Int) := by omega
  have hRb : R < 20 := by omega
  have HMB : Hid (1 ≤ M ∧ M ≤ 20 ∧ most (M : Int) = M) := Lib.hid ⟨by omega, by omega, by unfold most; omega⟩
  clear h h64 hn h' h64' hn' eU hR hM hr
  go_enter Try.func5, Try.ntmps5
  go_wp2_with fail
  refine hw _ ?_
  intro w1 f1
  have HF1 := Lib.hid f1
  have HC1 := Lib.hid (HCA.out w1 f1)
  clear hw f1
  go_wp2_with fail
  refine HC1.out.mono ?_
  rintro e w2 ⟨g, gh, q, nq, d0, rfl, ca⟩
  have HA2 := Lib.hid ca
  have HC2 := Lib.hid (HCB.out w2 (HF1.out.trans0 ca.fr))
  clear ca HCB HC1
  go_wp2_with fail
  refine HC2.out.mono ?_
  rintro e w3 ⟨g2, gh2, q2, n2, d2, rfl, cb⟩
  have HB3 := Lib.hid cb
  have HC3 := Lib.hid (HCA.out w3 ((HF1.out.trans0 HA2.out.fr).trans0 cb.fr))
  clear cb HCA HC2
  go_wp2_with fail
  refine HC3.out.mono ?_
  rintro e w4 ⟨g3, gh3, q3, n3, d3, rfl, cc⟩
  obtain ⟨own, k0, k1, k2, k3, k4⟩ := Cnt.three HF1.out HA2.out HB3.out cc
  have HS4 := Lib.hid (And.intro k0 (And.intro k1 (And.intro k2 (And.intro k3 k4))))
  have HQN := Lib.hid HA2.out.len
  clear cc HC3 HF1 HA2 HB3 k0 k1 k2 k3 k4
  obtain ⟨LA, hLA⟩ : ∃ L, cntd l = L := ⟨_, rfl⟩
  obtain ⟨LB, hLB⟩ : ∃ L, cntd l' = L := ⟨_, rfl⟩
  rw [hLA] at HS4 HGA HQN
  rw [hLB] at HS4 HGB
  clear hLA hLB
  have HT4 := Lib.hid (take_any g3 gh3 g2 gh2 LA LB w4 HS4.out.2.2.1.is HS4.out.2.1.is)
  rw [takeE0_small (by have := HGA.out.2; omega) (by have := HGB.out.2.1; omega), take_small (by have := HGA.out.2; omega) (by have := HGB.out.2.1; omega)] at HT4
  obtain ⟨LW, hLW⟩ : ∃ L, lputs LA LB = L := ⟨_, rfl⟩
  rw [hLW] at HT4
  have HLW := Lib.hid hLW
  clear hLW
  go_wp2_with fail
  refine HT4.out.mono ?_
  rintro e w5 ⟨rfl, gh5, t5⟩
  have HS5 := Lib.hid (And.intro (HS4.out.1.other HS4.out.2.2.1 t5 (by decide)) (And.intro (HS4.out.2.1.other HS4.out.2.2.1 t5 (by decide)) (And.intro (HS4.out.2.2.1.turn t5) (And.intro (HS4.out.2.2.2.1.turn HS4.out.2.2.1 t5 (by decide)) (HS4.out.2.2.1.frame t5 HS4.out.2.2.2.2)))))
  clear t5 HT4 HS4
  generalize hue own 2 gh3 gh5 = own5 at HS5
  have HTO := Lib.hid (total_any g gh LA w5 HS5.out.1.is)
  obtain ⟨T, hT⟩ : ∃ T, ltot LA = T := ⟨_, rfl⟩
  obtain ⟨MX, hMX⟩ : ∃ MX, max T 1 = MX := ⟨_, rfl⟩
  obtain ⟨RX, hRX⟩ : ∃ RX, r % MX = RX := ⟨_, rfl⟩
  obtain ⟨X, hX⟩ : ∃ X, 1 + RX = X := ⟨_, rfl⟩
  have hTb : T ≤ 100000 := by rw [← hT]; exact HGA.out.2.1
  have hMX1 : 1 ≤ MX ∧ MX ≤ 100000 := by omega
  have hRXb : RX < MX := by rw [← hRX]; exact Nat.mod_lt _ (by omega)
  have eMX : max (T : Int) 1 = (MX : Int) := by omega
  have eRX : (r : Int) % (MX : Int) = (RX : Int) := by rw [← hRX]; exact (Int.natCast_emod r MX).symm
  have eX : (1 : Int) + (RX : Int) = (X : Int) := by omega
  have HTT := Lib.hid hT
  rw [hT] at HTO
  have hks := key_stays HGA.out.1 (m := M) (r := r) HMB.out.1
  rw [hT, hMX, hRX, hX] at hks
  have HK5 := Lib.hid (fun W (f : Fr S0 w5 W) => key_any g gh X LA W (HS5.out.1.is.fr0 f) (by omega))
  have HC5 := Lib.hid (fun W (f : Fr S0 w5 W) => cut_any g gh (M : Int) LA W (by have := HMB.out; omega) (HS5.out.1.is.fr0 f))
  rw [HMB.out.2.2] at HC5
  have HGC : Hid (Good (cutN LA M) ∧ ltot (cutN LA M) = T ∧ (cutN LA M).length ≤ M) := Lib.hid ⟨HGA.out.1.cut HMB.out.1, by rw [cut_tot HGA.out.1.srt HGA.out.1.pos HMB.out.1, hT], cut_len HGA.out.1.srt HGA.out.1.pos HMB.out.1⟩
  have HCR := Lib.hid (fun i h0 hi => cut_rest HGA.out.1.srt HGA.out.1.pos (m := M) HMB.out.1 i h0 hi)
  obtain ⟨K1, hK1⟩ : ∃ K, keyV LA X = K := ⟨_, rfl⟩
  obtain ⟨E1, hE1⟩ : ∃ K, keyE LA X = K := ⟨_, rfl⟩
  obtain ⟨LC, hLC⟩ : ∃ L, cutN LA M = L := ⟨_, rfl⟩
  rw [hK1, hE1] at HK5
  rw [hK1, hLC] at hks
  rw [hLC] at HC5 HGC HCR
  have HLC := Lib.hid hLC
  clear hK1 hE1 hT hMX hRX hX hLC
  go_wp2_with fail
  refine HTO.out.mono ?_
  rintro e w6 ⟨rfl, f6⟩
  have HF6 := Lib.hid f6
  have HK6 := Lib.hid (HK5.out w6 f6)
  clear HTO f6 HK5
  go_wp2_with fail
  refine HK6.out.mono ?_
  rintro e w7 ⟨rfl, f7⟩
  have HC7 := Lib.hid (HC5.out w7 (HF6.out.trans0 f7))
  have HS7 := Lib.hid (And.intro (HS5.out.1.fr0 (HF6.out.trans0 f7)) (And.intro (HS5.out.2.1.fr0 (HF6.out.trans0 f7)) (And.intro (HS5.out.2.2.1.fr0 (HF6.out.trans0 f7)) (And.intro (HS5.out.2.2.2.1.fr0 (HF6.out.trans0 f7)) (HS5.out.2.2.2.2.trans0 (HF6.out.trans0 f7))))))
  clear HK6 f7 HC5 HS5 HF6
  go_wp2_with fail
  refine HC7.out.mono ?_
  rintro e w8 ⟨rfl, gh8, t8⟩
  have HS8 := Lib.hid (And.intro (HS7.out.1.turn t8) (And.intro (HS7.out.2.1.other HS7.out.1 t8 (by decide)) (And.intro (HS7.out.2.2.1.other HS7.out.1 t8 (by decide)) (And.intro (HS7.out.2.2.2.1.turn HS7.out.1 t8 (by decide)) (HS7.out.1.frame t8 HS7.out.2.2.2.2)))))
  clear t8 HC7 HS7
  generalize hue own5 0 gh gh8 = own8 at HS8
  have HK8 := Lib.hid (key_any g gh8 X LC w8 HS8.out.1.is (by omega))
  obtain ⟨K2, hK2⟩ : ∃ K, keyV LC X = K := ⟨_, rfl⟩
  obtain ⟨E2, hE2⟩ : ∃ K, keyE LC X = K := ⟨_, rfl⟩
  rw [hK2, hE2] at HK8
  rw [hK2] at hks
  clear hK2 hE2
  go_wp2_with fail
  refine HK8.out.mono ?_
  rintro e w9 ⟨rfl, f9⟩
  have HF9 := Lib.hid f9
  have HP9 := Lib.hid (pairs_any g gh8 LC w9 (HS8.out.1.is.fr0 f9))
  clear HK8 f9
  go_wp2_with fail
  refine HP9.out.mono ?_
  rintro e w10 ⟨pp, dp, np, rfl, hp⟩
  have hnp : np ≤ M := by rw [← hp.len]; exact HGC.out.2.2
  have hnp20 : np ≤ 20 := by have := HMB.out; omega
  have HLP := Lib.hid hp.len
  have HPP := Lib.hid (hp.pri (by have := HMB.out; omega))
  have HF10 := Lib.hid (HF9.out.trans0 hp.fr)
  have HTO := Lib.hid (total_any g gh8 LC w10 (HS8.out.1.is.fr0 HF10.out))
  rw [HGC.out.2.1] at HTO
  have hgM : decide (M < np) = false := decide_eq_false (by omega)
  have hgK : decide (K2 < K1) = false := decide_eq_false (by omega)
  clear hp HP9 HF9
  go_wp2_with fail
  refine HTO.out.mono ?_
  rintro e w11 ⟨rfl, f11⟩
  have HF11 := Lib.hid (HF10.out.trans0 f11)
  have HPQ := Lib.hid (HPP.out.fr0 f11)
  clear HTO f11 HF10 HPP
  go_wp2_with fail
  go_loopw [21] (fun x wr => ∃ j : Nat, 1 ≤ j ∧ j ≤ np + 1 ∧ x = .int .i64 j ∧ Hid (Fr S0 w11 wr)) (fun x _ => np + 1 - (intOf x).toNat)
  case atStart => exact ⟨1, by omega, by omega, rfl, Lib.hid (Fr.refl _ _)⟩
  case round =>
    obtain ⟨j, hj1, hj, rfl, hf⟩ := hrel
    by_cases hjn : (j : Int) < (np : Int)
    · have hjl : j < LC.length := by rw [HLP.out]; omega
      obtain ⟨b, o, hpe, c0, c1⟩ := (HPQ.out.fr0 hf.out).at j hjl
      have hcr := HCR.out j hj1 hjl
      have HCN := Lib.hid (fun W (f : Fr S0 wr W) => rcount_any q nq d0 (LC[j]'hjl).1 LA W (((HS8.out.2.2.2.1.pri.fr0 HF11.out).fr0 hf.out).fr0 f) HQN.out)
      rw [← hcr] at HCN
      obtain ⟨⟨ky, nn⟩, hx⟩ : ∃ x, LC[j]'hjl = x := ⟨_, rfl⟩
      rw [hx] at c0 c1 HCN
      simp only at c0 c1 HCN
      subst hpe
      clear hcr hx hks hgM hgK eX eRX eMX eM eR wU
      go_upto_region 21 with fail
      go_region_held3 (fun w' => w'.cell? ⟨b, o + j * 2, none⟩ = some (.int .i64 ky) ∧ w'.cell? ⟨b, o + j * 2 + 1, none⟩ = some (.int .u64 (nn : Int)))
        (first
          | (go_split_ands; exact ⟨by assumption, by assumption⟩)
          | (go_split_ands; exact ⟨f9.cell (by assumption) (fun h => h), f9.cell (by assumption) (fun h => h)⟩))
        (first | (go_at_call 26; ((with_reducible refine (HCN.out _ (Fr.drew _ _)).mono ?_); rintro _ w5 ⟨rfl, f9⟩; have HFC := Lib.hid (hf.out.trans0 ((Fr.drew S0 wr).trans0 f9)))))
      all_goals
        go_wp2_with fail
        refine ⟨⟨j + 1, by omega, by omega, by go_num, HFC⟩, ?_⟩
        simp [intOf]
        omega
    · have HS12 := Lib.hid (And.intro (HS8.out.1.fr0 (HF11.out.trans0 hf.out)) (And.intro (HS8.out.2.1.fr0 (HF11.out.trans0 hf.out)) (And.intro (HS8.out.2.2.1.fr0 (HF11.out.trans0 hf.out)) (HS8.out.2.2.2.2.trans0 (HF11.out.trans0 hf.out)))))
      have HC12 := Lib.hid (cut_any g2 gh2 (M : Int) LB wr (by have := HMB.out; omega) HS12.out.2.1.is)
      rw [HMB.out.2.2] at HC12
      have HGD : Hid (Good (cutN LB M) ∧ ltot (cutN LB M) ≤ 100000) := Lib.hid ⟨HGB.out.1.cut HMB.out.1, by rw [cut_tot HGB.out.1.srt HGB.out.1.pos HMB.out.1]; exact HGB.out.2.1⟩
      have HEQ : Hid (cutN (lputs LC (cutN LB M)) M = cutN LW M) := Lib.hid (by rw [← HLC.out, ← HLW.out]; exact cut_merge HGA.out.1.srt HGA.out.1.pos HGB.out.1.srt HGB.out.1.pos HMB.out.1)
      have HLN : Hid ((cutN LW M).length ≤ 20) := Lib.hid (by
        have h1 := HGA.out.1.puts HGB.out.1 (by have := HGA.out.2.1; have := HGB.out.2.1; omega)
        rw [HLW.out] at h1
        have := cut_len h1.srt h1.pos HMB.out.1
        have := HMB.out
        omega)
      obtain ⟨LD, hLD⟩ : ∃ L, cutN LB M = L := ⟨_, rfl⟩
      obtain ⟨LF, hLF⟩ : ∃ L, cutN LW M = L := ⟨_, rfl⟩
      rw [hLD] at HC12 HGD HEQ
      rw [hLF] at HEQ HLN
      have HLF := Lib.hid hLF
      clear hLD hLF hf HF11 HPQ HS8 hks HCR HLC HLW eX eRX eMX eM eR wU hgM hgK
      go_wp2_with fail
      refine HC12.out.mono ?_
      rintro e w13 ⟨rfl, gh13, t13⟩
      have HS13 := Lib.hid (And.intro (HS12.out.1.other HS12.out.2.1 t13 (by decide)) (And.intro (HS12.out.2.1.turn t13) (And.intro (HS12.out.2.2.1.other HS12.out.2.1 t13 (by decide)) (HS12.out.2.1.frame t13 HS12.out.2.2.2))))
      clear t13 HC12 HS12
      generalize hue own8 1 gh2 gh13 = own13 at HS13
      have HT13 := Lib.hid (take_any g gh8 g2 gh13 LC LD w13 HS13.out.1.is HS13.out.2.1.is)
      rw [takeE0_small (by have := HGC.out; omega) (by have := HGD.out.2; omega), take_small (by have := HGC.out; omega) (by have := HGD.out.2; omega)] at HT13
      obtain ⟨LE, hLE⟩ : ∃ L, lputs LC LD = L := ⟨_, rfl⟩
      rw [hLE] at HT13 HEQ
      clear hLE
      go_wp2_with fail
      refine HT13.out.mono ?_
      rintro e w14 ⟨rfl, gh14, t14⟩
      have HS14 := Lib.hid (And.intro (HS13.out.1.turn t14) (And.intro (HS13.out.2.2.1.other HS13.out.1 t14 (by decide)) (HS13.out.1.frame t14 HS13.out.2.2.2)))
      clear t14 HT13 HS13
      generalize hue own13 0 gh8 gh14 = own14 at HS14
      have HC14 := Lib.hid (cut_any g gh14 (M : Int) LE w14 (by have := HMB.out; omega) HS14.out.1.is)
      rw [HMB.out.2.2, HEQ.out] at HC14
      go_wp2_with fail
      refine HC14.out.mono ?_
      rintro e w15 ⟨rfl, gh15, t15⟩
      have HS15 := Lib.hid (And.intro (HS14.out.1.turn t15) (And.intro (HS14.out.2.1.other HS14.out.1 t15 (by decide)) (HS14.out.1.frame t15 HS14.out.2.2)))
      clear t15 HC14 HS14
      generalize hue own14 0 gh14 gh15 = own15 at HS15
      have HC15 := Lib.hid (cut_any g3 gh5 (M : Int) LW w15 (by have := HMB.out; omega) HS15.out.2.1.is)
      rw [HMB.out.2.2, HLF.out] at HC15
      go_wp2_with fail
      refine HC15.out.mono ?_
      rintro e w16 ⟨rfl, gh16, t16⟩
      have HS16 := Lib.hid (And.intro (HS15.out.1.other HS15.out.2.1 t16 (by decide)) (And.intro (HS15.out.2.1.turn t16) (HS15.out.2.1.frame t16 HS15.out.2.2)))
      clear t16 HC15 HS15
      generalize hue own15 2 gh5 gh16 = own16 at HS16
      have HP16 := Lib.hid (pairs_any g gh15 LF w16 HS16.out.1.is)
      go_wp2_with fail
      refine HP16.out.mono ?_
      rintro e w17 ⟨p17, d17, n17, rfl, hp⟩
      obtain rfl : LF.length = n17 := hp.len
      have HI17 := Lib.hid (hp.pri (by have := HLN.out; omega))
      have HF17 := Lib.hid (HS16.out.2.2.trans0 hp.fr)
      have HP17 := Lib.hid (pairs_any g3 gh16 LF w17 (HS16.out.2.1.is.fr0 hp.fr))
      obtain ⟨N, hN⟩ : ∃ M, LF.length = M := ⟨_, rfl⟩
      have HN := Lib.hid hN
      rw [hN]
      clear hp HP16 HS16 hN
      go_wp2_with fail
      refine HP17.out.mono ?_
      rintro e w18 ⟨p18, d18, n18, rfl, hp⟩
      obtain rfl : N = n18 := HN.out.symm.trans hp.len
      have HSM := Lib.hid (rsame_yes p17 p18 N d17 d18 LF w18 (HI17.out.fr0 hp.fr) (hp.pri (by have := HLN.out; have := HN.out; omega)) HN.out)
      have HF18 := Lib.hid (HF17.out.trans0 hp.fr)
      clear hp HP17
      go_wp2_with fail
      refine HSM.out.mono ?_
      rintro e w19 ⟨rfl, f19⟩
      clear HSM
      go_wp2_with fail
      go_ret
      exact ⟨rfl, HF18.out.trans0 f19⟩
end Go.Proofs.Ytljodghfgnkknaa
