/- The value at any part is as near as the digits say. -/
import Derived.Test.YthfcfmnaiopogaaGreatHrGot
import Derived.Test.YthfcfmnaiopogaaGreatHrRankMath
namespace Go.Proofs.YthfcfmnaiopogaaGreat
open Go.RowKit

/-- what the law says of the answer, in numbers -/
theorem near_num (L H D : Nat) (vs : List Int) (ns : List Nat) (T an ad : Nat) (hT : T ≤ 40) (hvb : ∀ v ∈ vs, -9223372036854775808 ≤ v ∧ v ≤ 9223372036854775807) (d5 : D ≤ 5)
    (g : (recs (Hm.new L H D true) vs ns T).Good) (hE : rkE an ad (ltot (recs (Hm.new L H D true) vs ns T).l) = 0) :
    ∃ V F : Nat, bst vs ns (rkR an ad (ltot (recs (Hm.new L H D true) vs ns T).l)) T T = (V : Int) ∧ V < 9223372036854775808 ∧ V + F = endV (recs (Hm.new L H D true) vs ns T) (recs (Hm.new L H D true) vs ns T).most an ad ∧ (F < 2 ^ unt L ∨ F ≤ (V - 1) / 10 ^ D) := by
  obtain ⟨h1, h2, h3, h4⟩ := rk_yes hE
  have h5 := rnk_all h2 h3
  obtain ⟨e1, e2, -, -⟩ := recs_same (Hm.new L H D true) vs ns T
  have hb := bst_key (Hm.new L H D true) rfl rfl (by rw [← e2]; exact g.m1) vs ns hvb T hT (rnk an ad (ltot (recs (Hm.new L H D true) vs ns T).l)) g.srt h5.1 h5.2
  have hbd := bst_bd vs ns (rnk an ad (ltot (recs (Hm.new L H D true) vs ns T).l)) T hvb T
  obtain ⟨V, hV⟩ : ∃ V : Nat, bst vs ns (rnk an ad (ltot (recs (Hm.new L H D true) vs ns T).l)) T T = V := ⟨_, (Int.toNat_of_nonneg hb.1).symm⟩
  rw [hV, show ((V : Nat) : Int).toNat = V by omega, ← e1, ← e2] at hb
  have hm1 := g.m1
  have hp5 : 10 ^ D ≤ 10 ^ 5 := Nat.pow_le_pow_right (by decide) d5
  have hd10 : 10 ^ D ≤ 2 ^ ((recs (Hm.new L H D true) vs ns T).m - 1) := by
    rw [e2] at hm1 ⊢
    exact mag_ge D (by omega) hm1
  have hn := most_near (recs (Hm.new L H D true) vs ns T) V (10 ^ D) g.m1 hd10 (Nat.pow_pos (by decide)) (by omega)
  unfold endV
  rw [if_pos hE, h4, ← hb.2, hV]
  obtain ⟨Y, eY⟩ : ∃ Y, (recs (Hm.new L H D true) vs ns T).most (idx (recs (Hm.new L H D true) vs ns T).u (recs (Hm.new L H D true) vs ns T).m V : Nat) = Y := ⟨_, rfl⟩
  rw [eY] at hn ⊢
  rw [e1] at hn
  exact ⟨V, Y - V, rfl, by omega, by omega, hn.2⟩

set_option maxRecDepth 100000 in
set_option maxHeartbeats 2000000 in
theorem law_near (a d : Nat) (p : Option Addr) (m c : Nat) (vs : List Int) (q : Option Addr) (k c2 : Nat) (ns : List Nat) (an ad : Nat) (w : World) (had : ad < 18446744073709551616)
    (hm : vs.length = m) (hz : ZI w p vs) (hvb : ∀ v ∈ vs, -9223372036854775808 ≤ v ∧ v ≤ 9223372036854775807) (hk : ns.length = k) (hq : SlI w .u16 q ns) (hnb : ∀ n ∈ ns, n < 65536) :
    Calls Tryz.prog 5 #[.int .u64 (a : Nat), .int .u8 (d : Nat), .slice p m c, .slice q k c2, .int .u64 (an : Nat), .int .u64 (ad : Nat)] w fun e w' => e = .returned (.bool true) ∧ Fr S0 w w' := by
  have HA := Lib.hid (alive_any w)
  obtain ⟨L, H, D, ⟨l0, lh, hh⟩, ⟨d1, d5⟩, hs, hsh⟩ := wshape_any a d 1000000
  have HSH := Lib.hid hsh
  have HR := Lib.hid (fun W (f : Fr S0 w W) => rec_got L H D true p m c vs q k c2 ns W d1 d5 l0 lh hh hs hm (hz.fr0 f) hvb hk (hq.fr0 f) hnb)
  have HRK := Lib.hid (fun r W (f : Fr S0 w W) => ranked_any p m c vs q k c2 ns r W hm (hz.fr0 f) hvb hk (hq.fr0 f) hnb)
  have HRS := Lib.hid (fun W => rshape_yes L H D W d1 d5 l0 lh hh)
  obtain ⟨T, eT⟩ : ∃ T, min m 40 = T := ⟨_, rfl⟩
  have hT40 : T ≤ 40 := by omega
  rw [eT] at HR HRK
  obtain ⟨M, eM⟩ : ∃ M, recs (Hm.new L H D true) vs ns T = M := ⟨_, rfl⟩
  rw [eM] at HR
  have HNUM := Lib.hid (near_num L H D vs ns T an ad hT40 hvb d5)
  rw [eM] at HNUM
  have HD := Lib.hid (show 1 ≤ D ∧ D ≤ 5 ∧ unt L ≤ 62 from ⟨d1, d5, by omega⟩)
  have HAD := Lib.hid had
  have d55 : D ≤ 5 := d5
  clear hsh l0 lh hh hm hz hvb hk hq hnb eT eM hs d1 d5 had
  go_enter Tryz.func5, Tryz.ntmps5
  go_wp2_with fail
  refine HA.out.mono ?_
  rintro e w1 ⟨rfl, f1⟩
  have F1 := Lib.hid f1
  clear f1 HA
  go_wp2_with fail
  refine (HSH.out _).mono ?_
  rintro e w2 ⟨rfl, f2⟩
  have F2 := Lib.hid (F1.out.trans0 f2)
  have HBOX := Lib.hid (box3a w2 (.int .i64 (L : Nat)) (.int .i64 (H : Nat)) (.int .i64 (D : Nat)) 30)
  clear f2 F1 HSH
  go_wp2_with fail
  refine (HR.out _ (F2.out.trans0 (Fr.alloc S0 _ _))).mono ?_
  rintro e w3 ⟨x, h, r, pp, n, cc, rfl, got⟩
  have GOT := Lib.hid got
  have F3 := Lib.hid ((F2.out.trans0 (Fr.alloc S0 _ _)).trans0 got.fr)
  have HB3 := Lib.hid (fun W (f : Fr S0 w3 W) => And.intro ((got.fr.trans0 f).cell HBOX.out.1 (fun h => h)) (And.intro ((got.fr.trans0 f).cell HBOX.out.2.1 (fun h => h)) ((got.fr.trans0 f).cell HBOX.out.2.2 (fun h => h))))
  clear got HR HBOX
  have hgood := GOT.out.hist.good
  have htot := hgood.tot
  have HAT := Lib.hid (fun W (f : Fr S0 w3 W) => xat_any x h M W (GOT.out.hist.fr0 f) an ad HAD.out GOT.out.len)
  have HTO := Lib.hid (fun W (f : Fr S0 w3 W) => xtotal_any x h M W (GOT.out.hist.fr0 f))
  have HRR := Lib.hid (fun W => rrank_any an ad (ltot M.l) W (by omega) HAD.out)
  have HRKR := Lib.hid (fun W f => HRK.out (rkR an ad (ltot M.l)) W f)
  have HYB := Lib.hid (endV_lt hgood an ad)
  have HY0 : Hid (rkE an ad (ltot M.l) ≠ 0 → endV M M.most an ad = 0) := Lib.hid fun hE => if_neg hE
  have HNM := Lib.hid (HNUM.out hgood)
  obtain ⟨TT, eTT⟩ : ∃ T, ltot M.l = T := ⟨_, rfl⟩
  rw [eTT] at HAT HTO HRR HRKR HY0 HNM htot
  obtain ⟨E, eE⟩ : ∃ E, rkE an ad TT = E := ⟨_, rfl⟩
  obtain ⟨RR, eRR⟩ : ∃ R, rkR an ad TT = R := ⟨_, rfl⟩
  obtain ⟨Y, eY⟩ : ∃ Y, endV M M.most an ad = Y := ⟨_, rfl⟩
  simp only [eE, eY] at HAT
  simp only [eE, eRR] at HRR
  rw [eRR] at HRKR HNM
  rw [eE, eY] at HNM HY0
  rw [eY] at HYB
  clear hgood eTT eE eRR eY HRK HNUM
  go_wp2_with fail
  refine (HAT.out _ (Fr.refl _ _)).mono ?_
  rintro e w4 ⟨rfl, f4⟩
  have F4 := Lib.hid f4
  clear f4 HAT
  by_cases hE : E = 0
  · obtain ⟨V, F, hV, hV2, hVF, hfar⟩ := HNM.out hE
    rw [hV] at HRKR
    subst hE
    clear hV HNM HY0
    go_wp2_with fail
    refine (HTO.out _ F4.out).mono ?_
    rintro e w5 ⟨rfl, f5⟩
    have F5 := Lib.hid (F4.out.trans0 f5)
    clear f5 HTO
    go_wp2_with fail
    refine (HRR.out _).mono ?_
    rintro e w6 ⟨rfl, f6⟩
    have F6 := Lib.hid (F5.out.trans0 f6)
    clear f6 HRR
    go_wp2_with fail
    refine (HRKR.out _ (F3.out.trans0 F6.out)).mono ?_
    rintro e w7 ⟨rfl, f7⟩
    have F7 := Lib.hid (F6.out.trans0 f7)
    clear f7 HRKR
    obtain ⟨b0, b1, b2⟩ := HB3.out _ F7.out
    go_wp2_with fail
    refine (HRS.out _).mono ?_
    rintro e w8 ⟨rfl, f8⟩
    have F8 := Lib.hid (F7.out.trans0 f8)
    clear f8 HRS b0 b1 b2
    obtain ⟨U, eU⟩ : ∃ U, unt L = U := ⟨_, rfl⟩
    have HPW := Lib.hid (fun W => rpower_any U W (by have := HD.out; omega))
    obtain ⟨P2, eP2⟩ : ∃ P, 2 ^ U = P := ⟨_, rfl⟩
    rw [eU, eP2] at hfar
    rw [eP2] at HPW
    rw [eU]
    clear eU eP2
    have HFAR := Lib.hid (And.intro hVF hfar)
    clear hVF hfar
    go_wp2_with fail
    go_loopw [24, 25] (fun a b wr => ∃ i : Nat, a = .int .u64 (10 ^ i : Nat) ∧ b = .int .i64 (i : Nat) ∧ i ≤ D ∧ Hid (Fr S0 w3 wr)) (fun _ b _ => D - (intOf b).toNat)
    case atStart => exact ⟨0, rfl, rfl, Nat.zero_le _, F8⟩
    case round =>
      obtain ⟨i, rfl, rfl, hi, hfr⟩ := hrel
      have b2 := (HB3.out _ hfr.out).2.2
      by_cases hlt : i < D
      · have hp : 10 ^ (i + 1) ≤ 10 ^ 5 := Nat.pow_le_pow_right (by decide) (by omega)
        have hps : 10 * 10 ^ i = 10 ^ (i + 1) := by rw [Nat.pow_succ, Nat.mul_comm]
        have HPS := Lib.hid (show ((10 ^ (i + 1) : Nat) : Int) = ((10 ^ (i + 1) : Nat) : Int) from rfl)
        obtain ⟨A, eA⟩ : ∃ A, 10 ^ i = A := ⟨_, rfl⟩
        obtain ⟨A', eA'⟩ : ∃ A, 10 ^ (i + 1) = A := ⟨_, rfl⟩
        have HA' := Lib.hid eA'
        rw [eA, eA'] at hps
        rw [eA'] at hp
        rw [eA]
        have e1 : (10 : Int) * (A : Int) = (A' : Int) := by omega
        have w1 : IntKind.u64.wrap (A' : Int) = (A' : Int) := by rw [IntKind.wrap_u64]; omega
        have hltI : (i : Int) < (D : Int) := by omega
        clear eA eA' hps HPS
        go_wp2_with fail
        go_roundw
        case rel => exact ⟨i + 1, by rw [HA'.out], by go_num, by omega, hfr⟩
        case measure => simp [intOf]; omega
      · have hiD : i = D := by omega
        subst hiD
        have hf : decide ((i : Int) < (i : Int)) = false := decide_eq_false (by omega)
        obtain ⟨P, eP⟩ : ∃ P, 10 ^ i = P := ⟨_, rfl⟩
        have hP0 : 0 < P := by rw [← eP]; exact Nat.pow_pos (by decide)
        have HF2 := HFAR.out
        rw [eP] at HF2 ⊢
        obtain ⟨hVF, hfar⟩ := HF2
        have hYB := HYB.out
        have e1 : (Y : Int) - (V : Int) = (F : Int) := by omega
        have w1 : IntKind.u64.wrap (F : Int) = (F : Int) := by rw [IntKind.wrap_u64]; omega
        have w2 : IntKind.u64.wrap (Y : Int) = (Y : Int) := by rw [IntKind.wrap_u64]; omega
        have w3' : IntKind.u64.wrap (V : Int) = (V : Int) := by rw [IntKind.wrap_u64]; omega
        have hge : (V : Int) ≤ (Y : Int) := by omega
        have hge2 : V ≤ Y := by omega
        have hPn : ¬ (P : Int) = 0 := by omega
        obtain ⟨V1, hV1⟩ : ∃ V1 : Nat, IntKind.u64.wrap ((V : Int) - 1) = (V1 : Int) ∧ V1 < 18446744073709551616 ∧ (V ≠ 0 → V1 = V - 1) := by
          by_cases h0 : V = 0
          · subst h0; exact ⟨18446744073709551615, by rw [IntKind.wrap_u64]; rfl, by decide, fun h => absurd rfl h⟩
          · exact ⟨V - 1, by rw [IntKind.wrap_u64]; omega, by omega, fun _ => rfl⟩
        obtain ⟨X, eX⟩ : ∃ X, V1 / P = X := ⟨_, rfl⟩
        have e2 : (V1 : Int) / (P : Int) = (X : Int) := by rw [← eX, Int.natCast_ediv]
        have hfx : F < P2 ∨ F ≤ X := hfar.imp id fun hf2 => by
          by_cases h0 : V = 0
          · rw [h0, Nat.zero_sub, Nat.zero_div] at hf2; omega
          · rw [← eX, hV1.2.2 h0]; exact hf2
        obtain ⟨hV1, hV1b, -⟩ := hV1
        have hXb : X ≤ V1 := by rw [← eX]; exact Nat.div_le_self _ _
        have wX : IntKind.u64.wrap (X : Int) = (X : Int) := by rw [IntKind.wrap_u64]; omega
        have HFX := Lib.hid hfx
        clear hXb hV1b hfar hfx eX eP hVF hYB hi hlt HFAR HYB HB3
        go_wp2_with fail
        refine (HPW.out _).mono ?_
        rintro e w9 ⟨rfl, rfl⟩
        by_cases hF : F < P2
        · have d1 : decide (F < P2) = true := decide_eq_true hF
          go_wp2_with fail
          go_ret
          exact ⟨rfl, F3.out.trans0 hfr.out⟩
        · have d1 : decide (F < P2) = false := decide_eq_false hF
          have d2 : decide (F ≤ X) = true := decide_eq_true (by have := HFX.out; omega)
          go_wp2_with fail
          go_ret
          exact ⟨rfl, F3.out.trans0 hfr.out⟩
  · have hY := HY0.out hE
    subst hY
    have en : ((E : Int) == 0) = false := by rw [beq_eq_false_iff_ne]; omega
    go_wp2_with fail
    go_ret
    exact ⟨rfl, F3.out.trans0 F4.out⟩
end Go.Proofs.YthfcfmnaiopogaaGreat
