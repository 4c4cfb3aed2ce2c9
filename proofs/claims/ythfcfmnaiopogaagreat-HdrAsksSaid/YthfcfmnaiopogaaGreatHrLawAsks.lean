/- The value at any part, the share up to any value, what is counted in any cell and between any two. -/
import Derived.Test.YthfcfmnaiopogaaGreatHrGot
import Derived.Test.YthfcfmnaiopogaaGreatHrAsk
import Derived.Test.YthfcfmnaiopogaaGreatHrRankMath
import Derived.Test.YthfcfmnaiopogaaGreatHrSteps
namespace Go.Proofs.YthfcfmnaiopogaaGreat
open Go.RowKit

theorem share_cmp (K T : Nat) (hT : 0 < T) : cmpF (K / Nat.gcd K T) (T / Nat.gcd K T) K T = 0 := by
  have hg : 0 < Nat.gcd K T := Nat.gcd_pos_of_pos_right _ hT
  have h1 := Nat.div_mul_cancel (Nat.gcd_dvd_left K T)
  have h2 := Nat.div_mul_cancel (Nat.gcd_dvd_right K T)
  unfold cmpF
  have hb : T / Nat.gcd K T ≠ 0 := by
    have := Nat.div_pos (Nat.gcd_le_right K hT) hg
    omega
  rw [if_neg (by omega)]
  unfold cmpI
  rw [if_pos]
  generalize Nat.gcd K T = G at *
  generalize hA : K / G = A at *
  generalize hB : T / G = B at *
  rw [← h1, ← h2, Nat.mul_comm B G, Nat.mul_assoc, Nat.mul_comm G B]

set_option maxRecDepth 100000 in
set_option maxHeartbeats 4000000 in
theorem law_asks (a d : Nat) (p : Option Addr) (m c : Nat) (vs : List Int) (q : Option Addr) (k c2 : Nat) (ns : List Nat) (an ad : Nat) (v u : Int) (w : World) (had : ad < 18446744073709551616) (hv : -9223372036854775808 ≤ v ∧ v ≤ 9223372036854775807) (hu : -9223372036854775808 ≤ u ∧ u ≤ 9223372036854775807)
    (hm : vs.length = m) (hz : ZI w p vs) (hvb : ∀ v ∈ vs, -9223372036854775808 ≤ v ∧ v ≤ 9223372036854775807) (hk : ns.length = k) (hq : SlI w .u16 q ns) (hnb : ∀ n ∈ ns, n < 65536) :
    Calls Tryz.prog 4 #[.int .u64 (a : Nat), .int .u8 (d : Nat), .slice p m c, .slice q k c2, .int .u64 (an : Nat), .int .u64 (ad : Nat), .int .i64 v, .int .i64 u] w fun e w' => e = .returned (.bool true) ∧ Fr S0 w w' := by
  have HA := Lib.hid (alive_any w)
  obtain ⟨L, H, D, ⟨l0, lh, hh⟩, ⟨d1, d5⟩, hs, hsh⟩ := wshape_any a d 1000000
  have HSH := Lib.hid hsh
  have HR := Lib.hid (fun W (f : Fr S0 w W) => rec_got L H D true p m c vs q k c2 ns W d1 d5 l0 lh hh hs hm (hz.fr0 f) hvb hk (hq.fr0 f) hnb)
  obtain ⟨T, eT⟩ : ∃ T, min m 40 = T := ⟨_, rfl⟩
  have hT40 : T ≤ 40 := by omega
  rw [eT] at HR
  obtain ⟨M, eM⟩ : ∃ M, recs (Hm.new L H D true) vs ns T = M := ⟨_, rfl⟩
  rw [eM] at HR
  have HAD := Lib.hid (And.intro had (And.intro hv hu))
  have hvb1 : v ≤ 9223372036854775807 := hv.2
  clear hsh l0 lh hh hm hz hvb hk hq hnb eT eM hs d1 d5 had hv hu
  go_enter Tryz.func4, Tryz.ntmps4
  go_wp2_with fail
  refine HA.out.mono ?_
  rintro e w1 ⟨rfl, f1⟩
  have F1 := Lib.hid f1
  clear f1 HA
  go_wp2_with fail
  refine (HSH.out _).mono ?_
  rintro e w2 ⟨rfl, f2⟩
  have F2 := Lib.hid (F1.out.trans0 f2)
  clear f2 F1 HSH
  have HBOX := Lib.hid (box3a w2 (.int .i64 (L : Nat)) (.int .i64 (H : Nat)) (.int .i64 (D : Nat)) 30)
  go_wp2_with fail
  refine (HR.out _ (F2.out.trans0 (Fr.alloc S0 _ _))).mono ?_
  rintro e w3 ⟨x, h, r, pp, n, cc, rfl, got⟩
  have GOT := Lib.hid got
  have F3 := Lib.hid ((F2.out.trans0 (Fr.alloc S0 _ _)).trans0 got.fr)
  clear got HR
  have hgood := GOT.out.hist.good
  have htot := hgood.tot
  have hb0 : M.between 0 v ≤ ltot M.l := between_le M 0 v
  have hb1 : M.between v u ≤ ltot M.l := between_le M v u
  have HC7 := Lib.hid (fun W (f : Fr S0 w3 W) => (GOT.out.ref.fr0 f).c7)
  have HTO := Lib.hid (fun W (f : Fr S0 w3 W) => rtotal_any pp n cc M.l W (GOT.out.ref.pri.fr0 f) GOT.out.ref.len (by omega))
  have HAT := Lib.hid (fun W (f : Fr S0 w3 W) => xat_any x h M W (GOT.out.hist.fr0 f) an ad HAD.out.1 GOT.out.len)
  have HRR := Lib.hid (fun W => rrank_any an ad (ltot M.l) W (by omega) HAD.out.1)
  have HRB0 := Lib.hid (fun W (f : Fr S0 w3 W) => hbetween_any r pp n cc M W (GOT.out.ref.fr0 f) 0 v (by omega) HAD.out.2.1.2 (by rw [← GOT.out.ref.len]; exact GOT.out.len))
  have HRB := Lib.hid (fun W (f : Fr S0 w3 W) => hbetween_any r pp n cc M W (GOT.out.ref.fr0 f) v u HAD.out.2.1.2 HAD.out.2.2.2 (by rw [← GOT.out.ref.len]; exact GOT.out.len))
  have HXB := Lib.hid (fun W (f : Fr S0 w3 W) => xbetween_any x h M W (GOT.out.hist.fr0 f) v u (by have := HAD.out.2.1.2; omega) (by have := HAD.out.2.2.2; omega))
  have HSHN := Lib.hid (fun W (f : Fr S0 w3 W) (h0 : ltot M.l = 0) => xshare_no x h M W (GOT.out.hist.fr0 f) v h0)
  have HSHY := Lib.hid (fun W (f : Fr S0 w3 W) (h0 : 0 < ltot M.l) => xshare_yes x h M W (GOT.out.hist.fr0 f) v (by have := HAD.out.2.1.2; omega) h0)
  have HCMP := Lib.hid (fun (h0 : 0 < ltot M.l) W => share_cmp (M.between 0 v) (ltot M.l) h0 ▸ rcmpf_any (M.between 0 v / Nat.gcd (M.between 0 v) (ltot M.l)) (ltot M.l / Nat.gcd (M.between 0 v) (ltot M.l)) (M.between 0 v) (ltot M.l) W (Nat.lt_of_le_of_lt (Nat.div_le_self _ _) (by omega)) (Nat.lt_of_le_of_lt (Nat.div_le_self _ _) (by omega)) (by omega) (by omega))
  have HKEY := Lib.hid (fun (hE : rkE an ad (ltot M.l) = 0) => show ∃ i : Nat, keyW M.l (rkR an ad (ltot M.l)) = (i : Int) ∧ (∀ W, Fr S0 w3 W → Calls Tryz.prog 23 #[.slice pp n cc, .int .u64 (rkR an ad (ltot M.l) : Nat)] W fun e w' => e = .returned (.int .i64 (i : Nat)) ∧ Fr S0 W w') ∧ (∀ W, Fr S0 w3 W → Calls Tryz.prog 22 #[.pointer (some ⟨r, 0, none⟩), .int .i64 (i : Nat)] W fun e w' => e = .returned (.tuple #[.int .i64 (M.least (i : Nat) : Nat), .int .i64 (M.most (i : Nat) : Nat)]) ∧ Fr S0 W w') ∧ endV M M.most an ad = M.most (i : Nat) ∧ 0 < ltot M.l from by
    obtain ⟨h1, h2, h3, h4⟩ := rk_yes hE
    have h5 := rnk_all h2 h3
    obtain ⟨⟨y, hy, hyk⟩, -, -⟩ := keyW_rank hgood.srt h5.1 h5.2
    obtain ⟨i, hi, -, hi3⟩ := hgood.cell hy
    have hkey : keyW M.l (rkR an ad (ltot M.l)) = (i : Int) := by rw [h4, ← hyk, hi]
    refine ⟨i, hkey, fun W f => ?_, fun W f => hends_any r pp n cc M W (GOT.out.ref.fr0 f) i hi3, ?_, h3⟩
    · have := rkey_any pp n cc M.l W (rkR an ad (ltot M.l)) (GOT.out.ref.pri.fr0 f) GOT.out.ref.len hgood.srt (by rw [h4]; exact h5.1) (by rw [h4]; exact h5.2) (by omega)
      rwa [hkey] at this
    · unfold endV
      rw [if_pos hE, hkey])
  have HCN : Hid (v < 0 → ∀ W, Fr S0 w3 W → Calls Tryz.prog 30 #[.pointer (some ⟨x, 0, none⟩), .int .i64 v] W fun e w' => e = .returned (.int .u64 0) ∧ Fr S0 W w') := Lib.hid fun h0 W f => xcount_neg x W v h0
  have HXCY := Lib.hid (fun (V : Nat) (hV : V < 9223372036854775808) W (f : Fr S0 w3 W) => xcount_any x h M W (GOT.out.hist.fr0 f) V hV)
  have HRC := Lib.hid (fun (j : Nat) W (f : Fr S0 w3 W) => rcount_any pp n cc (j : Nat) M.l W (GOT.out.ref.pri.fr0 f) GOT.out.ref.len)
  have HRI := Lib.hid (fun (V : Nat) (hV : V < 9223372036854775808) W => rindex_any M.u M.m V W hgood.m1 hgood.m5.2 hgood.s hV)
  have HC34 := Lib.hid (fun W (f : Fr S0 w3 W) => And.intro (GOT.out.ref.fr0 f).c3 (And.intro (GOT.out.ref.fr0 f).c4 (GOT.out.ref.fr0 f).c7))
  have HY0 : Hid (rkE an ad (ltot M.l) ≠ 0 → endV M M.most an ad = 0) := Lib.hid fun hE => if_neg hE
  have HYB := Lib.hid (endV_lt hgood an ad)
  obtain ⟨TT, eTT⟩ : ∃ T, ltot M.l = T := ⟨_, rfl⟩
  rw [eTT] at HTO HAT HRR HSHN HSHY HCMP HKEY HY0 htot hb0 hb1
  obtain ⟨E, eE⟩ : ∃ E, rkE an ad TT = E := ⟨_, rfl⟩
  obtain ⟨RR, eRR⟩ : ∃ R, rkR an ad TT = R := ⟨_, rfl⟩
  obtain ⟨Y, eY⟩ : ∃ Y, endV M M.most an ad = Y := ⟨_, rfl⟩
  obtain ⟨K0, eK0⟩ : ∃ K, M.between 0 v = K := ⟨_, rfl⟩
  obtain ⟨K1, eK1⟩ : ∃ K, M.between v u = K := ⟨_, rfl⟩
  obtain ⟨X1, eX1⟩ : ∃ X, K0 / Nat.gcd K0 TT = X := ⟨_, rfl⟩
  obtain ⟨X2, eX2⟩ : ∃ X, TT / Nat.gcd K0 TT = X := ⟨_, rfl⟩
  have HX2 : Hid (0 < TT → 0 < X2) := Lib.hid fun h0 => by rw [← eX2]; exact Nat.div_pos (Nat.gcd_le_right K0 h0) (Nat.gcd_pos_of_pos_right _ h0)
  simp only [eE, eY] at HAT
  simp only [eE, eRR] at HRR
  simp only [eE, eRR, eY] at HKEY
  rw [eE, eY] at HY0
  rw [eY] at HYB
  simp only [eK0, eX1, eX2] at HSHY HCMP
  simp only [eK0] at HRB0
  simp only [eK1] at HRB HXB
  rw [eK0] at hb0
  rw [eK1] at hb1
  clear hgood eE eRR eY eK0 eK1 eX1 eX2 eTT
  by_cases hE : E = 0
  · obtain ⟨i, -, hk, hen, hY, hpos⟩ := HKEY.out hE
    have HK := Lib.hid hk
    have HEN := Lib.hid hen
    have HSH := Lib.hid (fun W f => HSHY.out W f hpos)
    have HCM := Lib.hid (fun W => HCMP.out hpos W)
    have x2n : ((X2 : Int) == 0) = false := by rw [beq_eq_false_iff_ne]; have := HX2.out hpos; omega
    have tn : ((TT : Int) == 0) = false := by rw [beq_eq_false_iff_ne]; omega
    have tp : (0 : Int) < (TT : Int) := by omega
    subst hE
    clear hk hen HKEY HSHN HSHY HCMP HY0 HX2 hpos
    rw [hY] at HAT
    by_cases hv0 : v < 0
    · have HXC := Lib.hid (HCN.out hv0)
      have c7 := HC7.out _ (Fr.refl _ _)
      go_wp2_with fail
      refine (HTO.out _ (Fr.refl S0 _)).mono ?_
      rintro e w4 ⟨rfl, f4⟩
      have P4 := Lib.hid (f4)
      clear f4
      clear c7
      go_wp2_with fail
      refine (HAT.out _ P4.out).mono ?_
      rintro e w5 ⟨rfl, f5⟩
      have P5 := Lib.hid (P4.out.trans0 f5)
      clear f5
      go_wp2_with fail
      refine (HRR.out _).mono ?_
      rintro e w6 ⟨rfl, f6⟩
      have P6 := Lib.hid (P5.out.trans0 f6)
      clear f6
      have c7 := HC7.out _ P6.out
      go_wp2_with fail
      refine (HK.out _ P6.out).mono ?_
      rintro e w7 ⟨rfl, f7⟩
      have P7 := Lib.hid (P6.out.trans0 f7)
      clear f7
      clear c7
      go_wp2_with fail
      refine (HEN.out _ P7.out).mono ?_
      rintro e w8 ⟨rfl, f8⟩
      have P8 := Lib.hid (P7.out.trans0 f8)
      clear f8
      go_wp2_with fail
      refine (HSH.out _ P8.out).mono ?_
      rintro e w9 ⟨rfl, f9⟩
      have P9 := Lib.hid (P8.out.trans0 f9)
      clear f9
      go_wp2_with fail
      refine (HRB0.out _ P9.out).mono ?_
      rintro e w10 ⟨rfl, f10⟩
      have P10 := Lib.hid (P9.out.trans0 f10)
      clear f10
      go_wp2_with fail
      refine (HCM.out _).mono ?_
      rintro e w11 ⟨rfl, f11⟩
      have P11 := Lib.hid (P10.out.trans0 f11)
      clear f11
      go_wp2_with fail
      refine (HXB.out _ P11.out).mono ?_
      rintro e w12 ⟨rfl, f12⟩
      have P12 := Lib.hid (P11.out.trans0 f12)
      clear f12
      go_wp2_with fail
      refine (HRB.out _ P12.out).mono ?_
      rintro e w13 ⟨rfl, f13⟩
      have P13 := Lib.hid (P12.out.trans0 f13)
      clear f13
      go_wp2_with fail
      refine (HXC.out _ P13.out).mono ?_
      rintro e w14 ⟨rfl, f14⟩
      have P14 := Lib.hid (P13.out.trans0 f14)
      clear f14
      go_wp2_with fail
      go_ret
      exact ⟨rfl, F3.out.trans0 P14.out⟩
    · obtain ⟨V, rfl⟩ : ∃ V : Nat, v = V := ⟨v.toNat, by omega⟩
      have hV : V < 9223372036854775808 := by omega
      have HXC := Lib.hid (fun W f => HXCY.out V hV W f)
      have HRIV := Lib.hid (fun W => HRI.out V hV W)
      obtain ⟨J, eJ⟩ : ∃ J, idx M.u M.m V = J := ⟨_, rfl⟩
      have HRCV := Lib.hid (fun W f => HRC.out J W f)
      rw [eJ] at HXC HRIV
      obtain ⟨C, eC⟩ : ∃ C, cnt M.l (J : Nat) = C := ⟨_, rfl⟩
      rw [eC] at HXC HRCV
      clear eC eJ HXCY HRC HRI
      have c7 := HC7.out _ (Fr.refl _ _)
      go_wp2_with fail
      refine (HTO.out _ (Fr.refl S0 _)).mono ?_
      rintro e w4 ⟨rfl, f4⟩
      have P4 := Lib.hid (f4)
      clear f4
      clear c7
      go_wp2_with fail
      refine (HAT.out _ P4.out).mono ?_
      rintro e w5 ⟨rfl, f5⟩
      have P5 := Lib.hid (P4.out.trans0 f5)
      clear f5
      go_wp2_with fail
      refine (HRR.out _).mono ?_
      rintro e w6 ⟨rfl, f6⟩
      have P6 := Lib.hid (P5.out.trans0 f6)
      clear f6
      have c7 := HC7.out _ P6.out
      go_wp2_with fail
      refine (HK.out _ P6.out).mono ?_
      rintro e w7 ⟨rfl, f7⟩
      have P7 := Lib.hid (P6.out.trans0 f7)
      clear f7
      clear c7
      go_wp2_with fail
      refine (HEN.out _ P7.out).mono ?_
      rintro e w8 ⟨rfl, f8⟩
      have P8 := Lib.hid (P7.out.trans0 f8)
      clear f8
      go_wp2_with fail
      refine (HSH.out _ P8.out).mono ?_
      rintro e w9 ⟨rfl, f9⟩
      have P9 := Lib.hid (P8.out.trans0 f9)
      clear f9
      go_wp2_with fail
      refine (HRB0.out _ P9.out).mono ?_
      rintro e w10 ⟨rfl, f10⟩
      have P10 := Lib.hid (P9.out.trans0 f10)
      clear f10
      go_wp2_with fail
      refine (HCM.out _).mono ?_
      rintro e w11 ⟨rfl, f11⟩
      have P11 := Lib.hid (P10.out.trans0 f11)
      clear f11
      obtain ⟨k3, k4, k7⟩ := HC34.out _ P11.out
      go_upto_region 16 with fail
      go_region_held3 (fun w' => w'.cell? ⟨r, 3, none⟩ = some (.int .i64 (M.u : Nat)) ∧ w'.cell? ⟨r, 4, none⟩ = some (.int .i64 (M.m : Nat)) ∧ w'.cell? ⟨r, 7, none⟩ = some (.slice pp n cc) ∧ Fr S0 w3 w')
        (first | (go_split_ands; exact ⟨by assumption, by assumption, by assumption, by assumption⟩) | exact ⟨k3, k4, k7, P11.out.trans0 (Fr.drew _ _)⟩ | (go_split_ands; exact ⟨f9.cell (by assumption) (fun h => h), f9.cell (by assumption) (fun h => h), f9.cell (by assumption) (fun h => h), Fr.trans0 (by assumption) f9⟩))
        (first
          | (go_at_call 28; ((with_reducible refine (HRIV.out _).mono ?_); rintro _ _ ⟨rfl, rfl⟩))
          | (go_at_call 27; ((with_reducible refine (HRCV.out _ (by go_split_ands; assumption)).mono ?_); rintro _ wq ⟨rfl, f9⟩; have PQ := Lib.hid ((P11.out.trans0 (Fr.drew _ _)).trans0 f9))))
      have P12 := PQ
      clear PQ k3 k4 k7
      go_wp2_with fail
      refine (HXB.out _ P12.out).mono ?_
      rintro e w13 ⟨rfl, f13⟩
      have P13 := Lib.hid (P12.out.trans0 f13)
      clear f13
      go_wp2_with fail
      refine (HRB.out _ P13.out).mono ?_
      rintro e w14 ⟨rfl, f14⟩
      have P14 := Lib.hid (P13.out.trans0 f14)
      clear f14
      go_wp2_with fail
      refine (HXC.out _ P14.out).mono ?_
      rintro e w15 ⟨rfl, f15⟩
      have P15 := Lib.hid (P14.out.trans0 f15)
      clear f15
      go_wp2_with fail
      go_ret
      exact ⟨rfl, F3.out.trans0 P15.out⟩
  · have hY := HY0.out hE
    subst hY
    have en : ((E : Int) == 0) = false := by rw [beq_eq_false_iff_ne]; omega
    have enn : ¬ E = 0 := hE
    clear HKEY HY0
    by_cases hT0 : TT = 0
    · have HSH := Lib.hid (fun W f => HSHN.out W f hT0)
      subst hT0
      clear HSHN HSHY HCMP HX2
      by_cases hv0 : v < 0
      · have HXC := Lib.hid (HCN.out hv0)
        have c7 := HC7.out _ (Fr.refl _ _)
        go_wp2_with fail
        refine (HTO.out _ (Fr.refl S0 _)).mono ?_
        rintro e w4 ⟨rfl, f4⟩
        have P4 := Lib.hid (f4)
        clear f4
        clear c7
        go_wp2_with fail
        refine (HAT.out _ P4.out).mono ?_
        rintro e w5 ⟨rfl, f5⟩
        have P5 := Lib.hid (P4.out.trans0 f5)
        clear f5
        go_wp2_with fail
        refine (HRR.out _).mono ?_
        rintro e w6 ⟨rfl, f6⟩
        have P6 := Lib.hid (P5.out.trans0 f6)
        clear f6
        go_wp2_with fail
        refine (HSH.out _ P6.out).mono ?_
        rintro e w7 ⟨rfl, f7⟩
        have P7 := Lib.hid (P6.out.trans0 f7)
        clear f7
        go_wp2_with fail
        refine (HXB.out _ P7.out).mono ?_
        rintro e w8 ⟨rfl, f8⟩
        have P8 := Lib.hid (P7.out.trans0 f8)
        clear f8
        go_wp2_with fail
        refine (HRB.out _ P8.out).mono ?_
        rintro e w9 ⟨rfl, f9⟩
        have P9 := Lib.hid (P8.out.trans0 f9)
        clear f9
        go_wp2_with fail
        refine (HXC.out _ P9.out).mono ?_
        rintro e w10 ⟨rfl, f10⟩
        have P10 := Lib.hid (P9.out.trans0 f10)
        clear f10
        go_wp2_with fail
        go_ret
        exact ⟨rfl, F3.out.trans0 P10.out⟩
      · obtain ⟨V, rfl⟩ : ∃ V : Nat, v = V := ⟨v.toNat, by omega⟩
        have hV : V < 9223372036854775808 := by omega
        have HXC := Lib.hid (fun W f => HXCY.out V hV W f)
        have HRIV := Lib.hid (fun W => HRI.out V hV W)
        obtain ⟨J, eJ⟩ : ∃ J, idx M.u M.m V = J := ⟨_, rfl⟩
        have HRCV := Lib.hid (fun W f => HRC.out J W f)
        rw [eJ] at HXC HRIV
        obtain ⟨C, eC⟩ : ∃ C, cnt M.l (J : Nat) = C := ⟨_, rfl⟩
        rw [eC] at HXC HRCV
        clear eC eJ HXCY HRC HRI
        have c7 := HC7.out _ (Fr.refl _ _)
        go_wp2_with fail
        refine (HTO.out _ (Fr.refl S0 _)).mono ?_
        rintro e w4 ⟨rfl, f4⟩
        have P4 := Lib.hid (f4)
        clear f4
        clear c7
        go_wp2_with fail
        refine (HAT.out _ P4.out).mono ?_
        rintro e w5 ⟨rfl, f5⟩
        have P5 := Lib.hid (P4.out.trans0 f5)
        clear f5
        go_wp2_with fail
        refine (HRR.out _).mono ?_
        rintro e w6 ⟨rfl, f6⟩
        have P6 := Lib.hid (P5.out.trans0 f6)
        clear f6
        go_wp2_with fail
        refine (HSH.out _ P6.out).mono ?_
        rintro e w7 ⟨rfl, f7⟩
        have P7 := Lib.hid (P6.out.trans0 f7)
        clear f7
        obtain ⟨k3, k4, k7⟩ := HC34.out _ P7.out
        go_upto_region 16 with fail
        go_region_held3 (fun w' => w'.cell? ⟨r, 3, none⟩ = some (.int .i64 (M.u : Nat)) ∧ w'.cell? ⟨r, 4, none⟩ = some (.int .i64 (M.m : Nat)) ∧ w'.cell? ⟨r, 7, none⟩ = some (.slice pp n cc) ∧ Fr S0 w3 w')
          (first | (go_split_ands; exact ⟨by assumption, by assumption, by assumption, by assumption⟩) | exact ⟨k3, k4, k7, P7.out.trans0 (Fr.drew _ _)⟩ | (go_split_ands; exact ⟨f9.cell (by assumption) (fun h => h), f9.cell (by assumption) (fun h => h), f9.cell (by assumption) (fun h => h), Fr.trans0 (by assumption) f9⟩))
          (first
            | (go_at_call 28; ((with_reducible refine (HRIV.out _).mono ?_); rintro _ _ ⟨rfl, rfl⟩))
            | (go_at_call 27; ((with_reducible refine (HRCV.out _ (by go_split_ands; assumption)).mono ?_); rintro _ wq ⟨rfl, f9⟩; have PQ := Lib.hid ((P7.out.trans0 (Fr.drew _ _)).trans0 f9))))
        have P8 := PQ
        clear PQ k3 k4 k7
        go_wp2_with fail
        refine (HXB.out _ P8.out).mono ?_
        rintro e w9 ⟨rfl, f9⟩
        have P9 := Lib.hid (P8.out.trans0 f9)
        clear f9
        go_wp2_with fail
        refine (HRB.out _ P9.out).mono ?_
        rintro e w10 ⟨rfl, f10⟩
        have P10 := Lib.hid (P9.out.trans0 f10)
        clear f10
        go_wp2_with fail
        refine (HXC.out _ P10.out).mono ?_
        rintro e w11 ⟨rfl, f11⟩
        have P11 := Lib.hid (P10.out.trans0 f11)
        clear f11
        go_wp2_with fail
        go_ret
        exact ⟨rfl, F3.out.trans0 P11.out⟩
    · have hpos : 0 < TT := by omega
      have HSH := Lib.hid (fun W f => HSHY.out W f hpos)
      have HCM := Lib.hid (fun W => HCMP.out hpos W)
      have x2n : ((X2 : Int) == 0) = false := by rw [beq_eq_false_iff_ne]; have := HX2.out hpos; omega
      have tn : ((TT : Int) == 0) = false := by rw [beq_eq_false_iff_ne]; omega
      have tp : (0 : Int) < (TT : Int) := by omega
      clear HSHN HSHY HCMP HX2
      by_cases hv0 : v < 0
      · have HXC := Lib.hid (HCN.out hv0)
        have c7 := HC7.out _ (Fr.refl _ _)
        go_wp2_with fail
        refine (HTO.out _ (Fr.refl S0 _)).mono ?_
        rintro e w4 ⟨rfl, f4⟩
        have P4 := Lib.hid (f4)
        clear f4
        clear c7
        go_wp2_with fail
        refine (HAT.out _ P4.out).mono ?_
        rintro e w5 ⟨rfl, f5⟩
        have P5 := Lib.hid (P4.out.trans0 f5)
        clear f5
        go_wp2_with fail
        refine (HRR.out _).mono ?_
        rintro e w6 ⟨rfl, f6⟩
        have P6 := Lib.hid (P5.out.trans0 f6)
        clear f6
        go_wp2_with fail
        refine (HSH.out _ P6.out).mono ?_
        rintro e w7 ⟨rfl, f7⟩
        have P7 := Lib.hid (P6.out.trans0 f7)
        clear f7
        go_wp2_with fail
        refine (HRB0.out _ P7.out).mono ?_
        rintro e w8 ⟨rfl, f8⟩
        have P8 := Lib.hid (P7.out.trans0 f8)
        clear f8
        go_wp2_with fail
        refine (HCM.out _).mono ?_
        rintro e w9 ⟨rfl, f9⟩
        have P9 := Lib.hid (P8.out.trans0 f9)
        clear f9
        go_wp2_with fail
        refine (HXB.out _ P9.out).mono ?_
        rintro e w10 ⟨rfl, f10⟩
        have P10 := Lib.hid (P9.out.trans0 f10)
        clear f10
        go_wp2_with fail
        refine (HRB.out _ P10.out).mono ?_
        rintro e w11 ⟨rfl, f11⟩
        have P11 := Lib.hid (P10.out.trans0 f11)
        clear f11
        go_wp2_with fail
        refine (HXC.out _ P11.out).mono ?_
        rintro e w12 ⟨rfl, f12⟩
        have P12 := Lib.hid (P11.out.trans0 f12)
        clear f12
        go_wp2_with fail
        go_ret
        exact ⟨rfl, F3.out.trans0 P12.out⟩
      · obtain ⟨V, rfl⟩ : ∃ V : Nat, v = V := ⟨v.toNat, by omega⟩
        have hV : V < 9223372036854775808 := by omega
        have HXC := Lib.hid (fun W f => HXCY.out V hV W f)
        have HRIV := Lib.hid (fun W => HRI.out V hV W)
        obtain ⟨J, eJ⟩ : ∃ J, idx M.u M.m V = J := ⟨_, rfl⟩
        have HRCV := Lib.hid (fun W f => HRC.out J W f)
        rw [eJ] at HXC HRIV
        obtain ⟨C, eC⟩ : ∃ C, cnt M.l (J : Nat) = C := ⟨_, rfl⟩
        rw [eC] at HXC HRCV
        clear eC eJ HXCY HRC HRI
        have c7 := HC7.out _ (Fr.refl _ _)
        go_wp2_with fail
        refine (HTO.out _ (Fr.refl S0 _)).mono ?_
        rintro e w4 ⟨rfl, f4⟩
        have P4 := Lib.hid (f4)
        clear f4
        clear c7
        go_wp2_with fail
        refine (HAT.out _ P4.out).mono ?_
        rintro e w5 ⟨rfl, f5⟩
        have P5 := Lib.hid (P4.out.trans0 f5)
        clear f5
        go_wp2_with fail
        refine (HRR.out _).mono ?_
        rintro e w6 ⟨rfl, f6⟩
        have P6 := Lib.hid (P5.out.trans0 f6)
        clear f6
        go_wp2_with fail
        refine (HSH.out _ P6.out).mono ?_
        rintro e w7 ⟨rfl, f7⟩
        have P7 := Lib.hid (P6.out.trans0 f7)
        clear f7
        go_wp2_with fail
        refine (HRB0.out _ P7.out).mono ?_
        rintro e w8 ⟨rfl, f8⟩
        have P8 := Lib.hid (P7.out.trans0 f8)
        clear f8
        go_wp2_with fail
        refine (HCM.out _).mono ?_
        rintro e w9 ⟨rfl, f9⟩
        have P9 := Lib.hid (P8.out.trans0 f9)
        clear f9
        obtain ⟨k3, k4, k7⟩ := HC34.out _ P9.out
        go_upto_region 16 with fail
        go_region_held3 (fun w' => w'.cell? ⟨r, 3, none⟩ = some (.int .i64 (M.u : Nat)) ∧ w'.cell? ⟨r, 4, none⟩ = some (.int .i64 (M.m : Nat)) ∧ w'.cell? ⟨r, 7, none⟩ = some (.slice pp n cc) ∧ Fr S0 w3 w')
          (first | (go_split_ands; exact ⟨by assumption, by assumption, by assumption, by assumption⟩) | exact ⟨k3, k4, k7, P9.out.trans0 (Fr.drew _ _)⟩ | (go_split_ands; exact ⟨f9.cell (by assumption) (fun h => h), f9.cell (by assumption) (fun h => h), f9.cell (by assumption) (fun h => h), Fr.trans0 (by assumption) f9⟩))
          (first
            | (go_at_call 28; ((with_reducible refine (HRIV.out _).mono ?_); rintro _ _ ⟨rfl, rfl⟩))
            | (go_at_call 27; ((with_reducible refine (HRCV.out _ (by go_split_ands; assumption)).mono ?_); rintro _ wq ⟨rfl, f9⟩; have PQ := Lib.hid ((P9.out.trans0 (Fr.drew _ _)).trans0 f9))))
        have P10 := PQ
        clear PQ k3 k4 k7
        go_wp2_with fail
        refine (HXB.out _ P10.out).mono ?_
        rintro e w11 ⟨rfl, f11⟩
        have P11 := Lib.hid (P10.out.trans0 f11)
        clear f11
        go_wp2_with fail
        refine (HRB.out _ P11.out).mono ?_
        rintro e w12 ⟨rfl, f12⟩
        have P12 := Lib.hid (P11.out.trans0 f12)
        clear f12
        go_wp2_with fail
        refine (HXC.out _ P12.out).mono ?_
        rintro e w13 ⟨rfl, f13⟩
        have P13 := Lib.hid (P12.out.trans0 f13)
        clear f13
        go_wp2_with fail
        go_ret
        exact ⟨rfl, F3.out.trans0 P13.out⟩
end Go.Proofs.YthfcfmnaiopogaaGreat
