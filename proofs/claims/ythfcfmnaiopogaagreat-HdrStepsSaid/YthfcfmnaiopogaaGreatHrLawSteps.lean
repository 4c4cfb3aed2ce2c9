/- The law on steps that are alike, or ever greater. -/
import Derived.Test.YthfcfmnaiopogaaGreatHrStMath
namespace Go.Proofs.YthfcfmnaiopogaaGreat
open Go.RowKit Go.ChangeMaps

/-- the last pair of the document's histogram -/
theorem last_at {W : World} {r n cc : Nat} {pp : Option Addr} {M : Hm} (s : RefIs W r pp n cc M) (hn : n ≠ 0) : ∃ b o k1 n1 : Nat, pp = some ⟨b, o, none⟩ ∧ n = k1 + 1 ∧ W.cell? ⟨b, o + k1 * 2, none⟩ = some (.int .i64 (n1 : Nat)) ∧ ibk M.m n1 ≤ 63 - (M.u + M.m) ∧ M.least (n1 : Nat) = endV M M.least 1 1 ∧ rkE 1 1 (ltot M.l) = 0 := by
  have hlen := s.len
  have hne : M.l ≠ [] := fun h => hn (by rw [← hlen, h]; rfl)
  obtain ⟨r1, t, e, e1, e2⟩ := last_of s.good (tot_pos s.good.pos hne)
  have ht : t ∈ M.l := by rw [e]; simp
  obtain ⟨i, hi, h2, h3⟩ := s.good.cell ht
  have hl : r1.length + 1 = n := by rw [← hlen, e]; simp
  have hlt : r1.length < M.l.length := by omega
  have hat : M.l[r1.length]'hlt = t := by
    have h4 : M.l[r1.length]? = some t := by rw [e]; simp
    rw [List.getElem?_eq_getElem hlt] at h4
    exact Option.some.inj h4
  obtain ⟨b, o, hp, hc, -⟩ := s.pri.at r1.length hlt
  rw [hat, hi] at hc
  exact ⟨b, o, r1.length, i, hp, by omega, hc, h3, by unfold endV; rw [if_pos e1, e2, hi], e1⟩
theorem dbl_end70 {M : Hm} (hg : M.Good) {first base : Nat} (h1 : 1 ≤ first) (h2 : first ≤ 9223372036854775808) (hb : 2 ≤ base) : cumU M (tos first (dbl base)) 70 = ltot M.l := by
  have h3 := ends_dbl h1 h2 hb 69
  have h4 := least_lt hg
  rw [show (2 : Nat) ^ 69 = 590295810358705651712 from by decide] at h3
  have h5 : tos first (dbl base) 69 = 9223372036854775807 := by unfold tos; omega
  show upt M.l (M.cell (tos first (dbl base) 69)) = ltot M.l
  rw [h5]
  exact upt_last hg (by omega) (by omega)
theorem StI.fr0 {w w' : World} {p : Option Addr} {l : List StT} (h : StI w p l) (f : Fr S0 w w') : StI w' p l := fun i hi => let ⟨b, o, e, h1, h2, h3⟩ := h i hi; ⟨b, o, e, f.cell h1 (fun h => h), f.cell h2 (fun h => h), f.cell h3 (fun h => h)⟩
/-- the value ahead -/
def atL (tv : Nat → Int) : Nat → Int
  | 0 => -1
  | j + 1 => tv j
theorem atL_lin {Wd : Nat} (hw1 : 1 ≤ Wd) (hw : Wd < 9223372036854775808) : ∀ j, (atL (tos Wd (fun e => e + Wd)) j ≤ 9223372036854775807 ∧ -1 ≤ atL (tos Wd (fun e => e + Wd)) j) ∧ (9223372036854775807 - (Wd : Int) < atL (tos Wd (fun e => e + Wd)) j → tos Wd (fun e => e + Wd) j = 9223372036854775807) ∧ (¬ 9223372036854775807 - (Wd : Int) < atL (tos Wd (fun e => e + Wd)) j → tos Wd (fun e => e + Wd) j = atL (tos Wd (fun e => e + Wd)) j + Wd)
  | 0 => by
    have h0 : tos Wd (fun e => e + Wd) 0 = (min ((0 + 1) * Wd) 9223372036854775808 - 1 : Nat) := by unfold tos; rw [ends_lin hw]
    rw [h0, show atL (tos Wd (fun e => e + Wd)) 0 = -1 from rfl, show (0 + 1) * Wd = Wd by omega]
    exact ⟨⟨by omega, by omega⟩, fun h => by omega, fun h => by omega⟩
  | j + 1 => by
    have h0 : tos Wd (fun e => e + Wd) j = (min ((j + 1) * Wd) 9223372036854775808 - 1 : Nat) := by unfold tos; rw [ends_lin hw]
    have h1 : tos Wd (fun e => e + Wd) (j + 1) = (min ((j + 1 + 1) * Wd) 9223372036854775808 - 1 : Nat) := by unfold tos; rw [ends_lin hw]
    rw [show atL (tos Wd (fun e => e + Wd)) (j + 1) = tos Wd (fun e => e + Wd) j from rfl, h0, h1, Nat.add_mul (j + 1) 1]
    have h2 : 1 * 1 ≤ (j + 1) * Wd := Nat.mul_le_mul (by omega) hw1
    generalize (j + 1) * Wd = X at h2 ⊢
    exact ⟨⟨by omega, by omega⟩, fun h => by omega, fun h => by omega⟩
section
variable (a d : Nat) (p : Option Addr) (m c : Nat) (vs : List Int) (q : Option Addr) (k c2 : Nat) (ns : List Nat) (width first base : Int) (w : World)
set_option maxRecDepth 100000 in
set_option maxHeartbeats 4000000 in
theorem law_steps (hm : vs.length = m) (hz : ZI w p vs) (hvb : ∀ v ∈ vs, -9223372036854775808 ≤ v ∧ v ≤ 9223372036854775807) (hk : ns.length = k) (hq : SlI w .u16 q ns) (hnb : ∀ n ∈ ns, n < 65536)
    (hw : -9223372036854775808 ≤ width ∧ width ≤ 9223372036854775807) (hf : -9223372036854775808 ≤ first ∧ first ≤ 9223372036854775807) (hb : -9223372036854775808 ≤ base ∧ base ≤ 9223372036854775807) :
    Calls Tryz.prog 8 #[.int .u64 (a : Nat), .int .u8 (d : Nat), .slice p m c, .slice q k c2, .int .i64 width, .int .i64 first, .int .i64 base] w fun e w' => e = .returned (.bool true) ∧ Fr S0 w w' := by
  have HA := Lib.hid (alive_any w)
  obtain ⟨L, H, D, ⟨l0, lh, hh⟩, ⟨d1, d5⟩, hs, hsh⟩ := wshape_any a d 1000000
  have HSH := Lib.hid hsh
  have HR := Lib.hid (fun W (f : Fr S0 w W) => rec_got L H D true p m c vs q k c2 ns W d1 d5 l0 lh hh hs hm (hz.fr0 f) hvb hk (hq.fr0 f) hnb)
  obtain ⟨T, eT⟩ : ∃ T, min m 40 = T := ⟨_, rfl⟩
  have hT40 : T ≤ 40 := by omega
  rw [eT] at HR
  obtain ⟨M, eM⟩ : ∃ M, recs (Hm.new L H D true) vs ns T = M := ⟨_, rfl⟩
  rw [eM] at HR
  have HWB := Lib.hid hw
  have HFB := Lib.hid (And.intro hf hb)
  clear hsh l0 lh hh hm hz hvb hk hq hnb eT eM hs d1 d5 hw hf hb
  go_enter Tryz.func8, Tryz.ntmps8
  go_wp2_with fail
  refine HA.out.mono ?_
  rintro e w1 ⟨rfl, f1⟩
  have F1 := Lib.hid f1
  clear f1 HA
  go_wp2_with fail
  refine (HSH.out _).mono ?_
  rintro e w2 ⟨rfl, f2⟩
  have F2 := Lib.hid (F1.out.trans0 f2)
  clear f2 F1 HSH
  go_wp2_with fail
  refine (HR.out _ F2.out).mono ?_
  rintro e w3 ⟨x, h, r, pp, n, cc, rfl, got⟩
  have GOT := Lib.hid got
  have F3 := Lib.hid (F2.out.trans0 got.fr)
  clear got HR
  have hgood := GOT.out.hist.good
  have HG := Lib.hid hgood
  have HC7 := Lib.hid (fun W (f : Fr S0 w3 W) => (GOT.out.ref.fr0 f).c7)
  have k7 := HC7.out w3 (Fr.refl _ _)
  have HBL := Lib.hid (least_lt hgood)
  have HBZ : Hid (n = 0 → endV M M.least 1 1 = 0 ∧ ¬ rkE 1 1 (ltot M.l) = 0) := Lib.hid fun hn => by
    have h1 := GOT.out.ref.len
    have h2 : M.l = [] := List.length_eq_zero_iff.1 (by omega)
    unfold endV
    rw [h2, if_neg (by decide)]
    exact ⟨rfl, by decide⟩
  have HLA := Lib.hid (fun hn : n ≠ 0 => last_at GOT.out.ref hn)
  have HEN := Lib.hid (fun (n1 : Nat) (hb : ibk M.m n1 ≤ 63 - (M.u + M.m)) W (f : Fr S0 w3 W) => hends_any r pp n cc M W (GOT.out.ref.fr0 f) n1 hb)
  have HNL : Hid (n ≤ 100000) := Lib.hid (by have h1 := GOT.out.ref.len; have h2 := GOT.out.len; omega)
  obtain ⟨B, eB⟩ : ∃ B, endV M M.least 1 1 = B := ⟨_, rfl⟩
  have HB := Lib.hid eB
  clear hgood
  go_upto_if 46 with fail
  go_cut [17] from 17 to 64 (fun b wx => b = .int .i64 (B : Nat) ∧ Hid (Fr S0 w3 wx))
  case first =>
    by_cases hn : n = 0
    · have hB0 := (HBZ.out hn).1
      rw [eB] at hB0
      subst hn hB0
      clear eB
      go_wp2_with fail
      go_meet
      exact ⟨rfl, Lib.hid (Fr.refl _ _)⟩
    · obtain ⟨b, o, k1, n1, rfl, rfl, hc, hi, hle, -⟩ := HLA.out hn
      have HE := Lib.hid (HEN.out n1 hi)
      rw [hle, eB] at HE
      obtain ⟨X, eX⟩ : ∃ X, M.most (n1 : Nat) = X := ⟨_, rfl⟩
      rw [eX] at HE
      have hkb := HNL.out
      have e1 : ((k1 + 1 : Nat) : Int) - 1 = (k1 : Int) := by omega
      have hkk : (0 : Int) < ((k1 + 1 : Nat) : Int) := by omega
      have hk1k : (k1 : Int) < ((k1 + 1 : Nat) : Int) := by omega
      have wk1 : IntKind.i64.wrap (k1 : Int) = (k1 : Int) := by rw [IntKind.wrap_i64]; omega
      have hdp : decide ((0 : Int) < ((k1 + 1 : Nat) : Int)) = true := decide_eq_true hkk
      obtain ⟨kk, ekk⟩ : ∃ kk, k1 + 1 = kk := ⟨_, rfl⟩
      rw [ekk] at e1 hkk hk1k hdp k7
      have HCE := Lib.hid (And.intro k7 hc)
      clear eX eB hn hle hi ekk hc k7
      go_upto_region 19 with fail
      go_region_held3 (fun w' => w'.cell? ⟨r, 7, none⟩ = some (.slice (some ⟨b, o, none⟩) kk cc) ∧ w'.cell? ⟨b, o + k1 * 2, none⟩ = some (.int .i64 (n1 : Nat)))
        (first
          | (go_split_ands; exact ⟨by assumption, by assumption⟩)
          | exact HCE.out
          | (go_split_ands; exact ⟨f9.cell (by assumption) (fun h => h), f9.cell (by assumption) (fun h => h)⟩)
          | fail)
        (first
          | (go_at_call 22; ((with_reducible refine (HE.out _ (Fr.drew S0 w3)).mono ?_); rintro _ w4 ⟨rfl, f9⟩; have F4 := Lib.hid ((Fr.drew S0 w3).trans0 f9)))
          | fail)
      all_goals
        go_wp2_with fail
        go_meet
        exact ⟨rfl, F4⟩
  case rest =>
    obtain ⟨rfl, hfr⟩ := hcut
    have F4 := Lib.hid hfr.out
    clear hfr k7
    rw [eB] at HBL HBZ HLA
    clear HEN
    by_cases hw1 : width < 1
    · have HLN := Lib.hid (fun W => xlinear_no x W width hw1)
      have hd1 : decide (width < 1) = true := decide_eq_true hw1
      go_wp2_with fail
      refine (HLN.out _).mono ?_
      rintro e w5 ⟨rfl, f5⟩
      have F5 := Lib.hid (F4.out.trans0 f5)
      clear f5 HLN
      go_wp2_with fail
      clear HLA HBZ HBL
      by_cases hno : first < 1 ∨ base < 2 ∨ 2147483648 < base
      · refine (xdoubling_no x w5 first base hno).mono ?_
        rintro e w8 ⟨rfl, f8⟩
        have F8 := Lib.hid (F3.out.trans0 (F5.out.trans0 f8))
        clear f8
        by_cases n1 : first < 1
        · have e1 : decide (first < 1) = true := decide_eq_true n1
          go_wp2_with fail
          go_ret
          exact ⟨rfl, F8.out⟩
        · have e1 : decide (first < 1) = false := decide_eq_false n1
          by_cases n2 : base < 2
          · have e2 : decide (base < 2) = true := decide_eq_true n2
            go_wp2_with fail
            go_ret
            exact ⟨rfl, F8.out⟩
          · have e2 : decide (base < 2) = false := decide_eq_false n2
            have e3 : decide (2147483648 < base) = true := decide_eq_true (by omega)
            go_wp2_with fail
            go_ret
            exact ⟨rfl, F8.out⟩
      · obtain ⟨fi, rfl⟩ : ∃ N : Nat, first = N := ⟨first.toNat, by omega⟩
        obtain ⟨ba, rfl⟩ : ∃ N : Nat, base = N := ⟨base.toNat, by omega⟩
        have i1 : 1 ≤ fi := by omega
        have i2 : fi < 9223372036854775808 := by have := HFB.out; omega
        have i3 : 2 ≤ ba := by omega
        have i4 : ba ≤ 2147483648 := by omega
        have j1 : decide ((fi : Int) < 1) = false := decide_eq_false (by omega)
        have j2 : decide ((ba : Int) < 2) = false := decide_eq_false (by omega)
        have j3 : decide (2147483648 < (ba : Int)) = false := decide_eq_false (by omega)
        have wf : IntKind.i64.wrap ((fi : Int) - 1) = (fi : Int) - 1 := by rw [IntKind.wrap_i64]; omega
        refine (xdoubling_any x h M w5 (GOT.out.hist.fr0 F5.out) GOT.out.len fi ba i1 i2 i3 i4).mono ?_
        rintro e w8 ⟨nd, pd, cd, rfl, hnd, hsd, hld, hed, f8⟩
        have F8 := Lib.hid (F5.out.trans0 f8)
        have HD := Lib.hid (And.intro hnd (And.intro hsd (And.intro hld hed)))
        clear f8 hnd hsd hld hed hno
        go_wp2_with fail
        go_loopw [25, 26, 27] (fun tl z i wr => ∃ j : Nat, i = .int .i64 (j : Nat) ∧ z = .int .i64 (tos fi (dbl ba) j) ∧ j ≤ 70 ∧ Hid (AccZ w8 wr tl j (tzs (tos fi (dbl ba)) j))) (fun _ _ i _ => 70 - (intOf i).toNat)
        case atStart => exact ⟨0, rfl, by unfold tos; simp only [ends]; congr 1; omega, by omega, Lib.hid (AccZ.none _ _ (Fr.refl _ _))⟩
        case round =>
          obtain ⟨jd, rfl, rfl, hjd, hd⟩ := hrel
          obtain ⟨pv2, cv2, rfl⟩ := slFormN hd.out.own
          by_cases hlt : jd < 70
          · have HTZ2 := Lib.hid (tzs_succ (tos fi (dbl ba)) jd)
            have HR2 : Hid (Room (jd + 1)) := Lib.hid (Room.mk (by omega))
            have HTI := Lib.hid (dbl_times i1 i2 i3 jd)
            have hbd := dbl_bd i1 i2 i3 jd
            obtain ⟨V2, eV2⟩ : ∃ V : Nat, tos fi (dbl ba) jd = V := ⟨(tos fi (dbl ba) jd).toNat, by omega⟩
            have HV2 : Hid (ends fi (dbl ba) jd - 1 = V2) := Lib.hid (by have h1 : tos fi (dbl ba) jd = (ends fi (dbl ba) jd - 1 : Nat) := rfl; omega)
            have HTM := Lib.hid (fun W => htimes_any V2 ba W (by omega) i3 i4)
            rw [eV2] at HTZ2 ⊢
            clear eV2 hbd
            go_wp2_with ((with_reducible show wpList _ _ _ (Oper.mk (some 165) _ _ _ _ _ :: _) _ _); refine app_one elZ (.tmp 162) (.tmp 164) rfl hd.out.own rfl rfl rfl rfl rfl one8 HR2.out ?_; intro g1 cap1 w9 hown hgrow hat hlt9; have HA9 := Lib.hid (hd.out.app hown hgrow hat); clear hown hgrow hat hlt9)
            refine (HTM.out _).mono ?_
            rintro e w10 ⟨rfl, f10⟩
            have FT := Lib.hid f10
            clear f10
            go_wp2_with fail
            go_roundw
            case rel => exact ⟨jd + 1, by first | rfl | go_num, by rw [HTI.out, HV2.out], by omega, Lib.hid (by rw [HTZ2.out]; exact HA9.out.fr0 FT.out)⟩
            case measure => simp [intOf] <;> omega
          · obtain rfl : jd = 70 := by omega
            have HST2 := Lib.hid (fun W (f : Fr S0 wr W) => steps_any readsX x _ r pp n cc M W (.of (GOT.out.hist.fr0 ((F8.out.trans0 hd.out.fr).trans0 f)) GOT.out.len) (GOT.out.ref.fr0 ((F8.out.trans0 hd.out.fr).trans0 f)) HNL.out pd nd cd _ pv2 70 cv2 _ (stL_len M (tos fi (dbl ba)) nd) (HD.out.2.1.fr0 (hd.out.fr.trans0 f)) (tzs_len _ _) ((ZI.ofOwns hd.out.own).fr0 f) (tzs_bd (dbl_bd i1 i2 i3) 70) (stp_of HG.out (dbl_bd i1 i2 i3) (cumU_up HG.out (dbl_bd i1 i2 i3) (dbl_up2 i1 i2 i3)) (dbl_end70 HG.out i1 (Nat.le_of_lt i2) i3) HD.out.2.2.1 HD.out.2.2.2) (by have := HD.out.1; omega))
            simp only [show ((70 : Nat) : Int) = 70 from rfl] at HST2 ⊢
            go_wp2_with fail
            refine (HST2.out _ (Fr.refl _ _)).mono ?_
            rintro e w9 ⟨rfl, f9⟩
            have F9 := Lib.hid (F3.out.trans0 ((F8.out.trans0 hd.out.fr).trans0 f9))
            clear f9 HST2
            go_wp2_with fail
            go_ret
            exact ⟨rfl, F9.out⟩
    · obtain ⟨Wd, rfl⟩ : ∃ N : Nat, width = N := ⟨width.toNat, by omega⟩
      have hw2 : Wd < 9223372036854775808 := by have := HWB.out; omega
      have hd1 : decide ((Wd : Int) < 1) = false := decide_eq_false hw1
      have hwd0 : (Wd : Int) ≠ 0 := by omega
      have hwd1 : 1 ≤ Wd := by omega
      have HLN := Lib.hid (fun W (f : Fr S0 w3 W) => xlinear_any x h M W (GOT.out.hist.fr0 f) GOT.out.len Wd (by omega) hw2)
      have HFAR : Hid (LinFar M Wd ↔ (rkE 1 1 (ltot M.l) = 0 ∧ 4096 ≤ B / Wd)) := Lib.hid (by unfold LinFar; rw [eB])
      obtain ⟨Q, eQ⟩ : ∃ Q, B / Wd = Q := ⟨_, rfl⟩
      rw [eQ] at HFAR
      have hq : (B : Int).tdiv (Wd : Int) = (Q : Int) := by rw [← eQ]; rfl
      have hwq : IntKind.i64.wrap (Q : Int) = (Q : Int) := by have := HBL.out; have h2 := Nat.div_le_self B Wd; rw [IntKind.wrap_i64]; omega
      clear eQ
      go_wp2_with fail
      refine (HLN.out _ F4.out).mono ?_
      rintro e w5 ⟨f5, ⟨hfar, rfl⟩ | ⟨hfar, ns2, ps, cs, rfl, hres⟩⟩
      · have F5 := Lib.hid (F4.out.trans0 f5)
        have h3 := HFAR.out.1 hfar
        have hn0 : n ≠ 0 := fun e => (HBZ.out e).2 h3.1
        have hnp : decide (0 < n) = true := decide_eq_true (by omega)
        have hdq : (4096 : Int) ≤ (Q : Int) := by omega
        have hdq2 : decide ((4096 : Int) ≤ (Q : Int)) = true := decide_eq_true hdq
        have k7 := HC7.out _ F5.out
        clear f5 HLN h3 hfar
        go_wp2_with fail
        clear HLA HBZ HBL
        by_cases hno : first < 1 ∨ base < 2 ∨ 2147483648 < base
        · refine (xdoubling_no x w5 first base hno).mono ?_
          rintro e w8 ⟨rfl, f8⟩
          have F8 := Lib.hid (F3.out.trans0 (F5.out.trans0 f8))
          clear f8
          by_cases n1 : first < 1
          · have e1 : decide (first < 1) = true := decide_eq_true n1
            go_wp2_with fail
            go_ret
            exact ⟨rfl, F8.out⟩
          · have e1 : decide (first < 1) = false := decide_eq_false n1
            by_cases n2 : base < 2
            · have e2 : decide (base < 2) = true := decide_eq_true n2
              go_wp2_with fail
              go_ret
              exact ⟨rfl, F8.out⟩
            · have e2 : decide (base < 2) = false := decide_eq_false n2
              have e3 : decide (2147483648 < base) = true := decide_eq_true (by omega)
              go_wp2_with fail
              go_ret
              exact ⟨rfl, F8.out⟩
        · obtain ⟨fi, rfl⟩ : ∃ N : Nat, first = N := ⟨first.toNat, by omega⟩
          obtain ⟨ba, rfl⟩ : ∃ N : Nat, base = N := ⟨base.toNat, by omega⟩
          have i1 : 1 ≤ fi := by omega
          have i2 : fi < 9223372036854775808 := by have := HFB.out; omega
          have i3 : 2 ≤ ba := by omega
          have i4 : ba ≤ 2147483648 := by omega
          have j1 : decide ((fi : Int) < 1) = false := decide_eq_false (by omega)
          have j2 : decide ((ba : Int) < 2) = false := decide_eq_false (by omega)
          have j3 : decide (2147483648 < (ba : Int)) = false := decide_eq_false (by omega)
          have wf : IntKind.i64.wrap ((fi : Int) - 1) = (fi : Int) - 1 := by rw [IntKind.wrap_i64]; omega
          refine (xdoubling_any x h M w5 (GOT.out.hist.fr0 F5.out) GOT.out.len fi ba i1 i2 i3 i4).mono ?_
          rintro e w8 ⟨nd, pd, cd, rfl, hnd, hsd, hld, hed, f8⟩
          have F8 := Lib.hid (F5.out.trans0 f8)
          have HD := Lib.hid (And.intro hnd (And.intro hsd (And.intro hld hed)))
          clear f8 hnd hsd hld hed hno
          go_wp2_with fail
          go_loopw [25, 26, 27] (fun tl z i wr => ∃ j : Nat, i = .int .i64 (j : Nat) ∧ z = .int .i64 (tos fi (dbl ba) j) ∧ j ≤ 70 ∧ Hid (AccZ w8 wr tl j (tzs (tos fi (dbl ba)) j))) (fun _ _ i _ => 70 - (intOf i).toNat)
          case atStart => exact ⟨0, rfl, by unfold tos; simp only [ends]; congr 1; omega, by omega, Lib.hid (AccZ.none _ _ (Fr.refl _ _))⟩
          case round =>
            obtain ⟨jd, rfl, rfl, hjd, hd⟩ := hrel
            obtain ⟨pv2, cv2, rfl⟩ := slFormN hd.out.own
            by_cases hlt : jd < 70
            · have HTZ2 := Lib.hid (tzs_succ (tos fi (dbl ba)) jd)
              have HR2 : Hid (Room (jd + 1)) := Lib.hid (Room.mk (by omega))
              have HTI := Lib.hid (dbl_times i1 i2 i3 jd)
              have hbd := dbl_bd i1 i2 i3 jd
              obtain ⟨V2, eV2⟩ : ∃ V : Nat, tos fi (dbl ba) jd = V := ⟨(tos fi (dbl ba) jd).toNat, by omega⟩
              have HV2 : Hid (ends fi (dbl ba) jd - 1 = V2) := Lib.hid (by have h1 : tos fi (dbl ba) jd = (ends fi (dbl ba) jd - 1 : Nat) := rfl; omega)
              have HTM := Lib.hid (fun W => htimes_any V2 ba W (by omega) i3 i4)
              rw [eV2] at HTZ2 ⊢
              clear eV2 hbd
              go_wp2_with ((with_reducible show wpList _ _ _ (Oper.mk (some 165) _ _ _ _ _ :: _) _ _); refine app_one elZ (.tmp 162) (.tmp 164) rfl hd.out.own rfl rfl rfl rfl rfl one8 HR2.out ?_; intro g1 cap1 w9 hown hgrow hat hlt9; have HA9 := Lib.hid (hd.out.app hown hgrow hat); clear hown hgrow hat hlt9)
              refine (HTM.out _).mono ?_
              rintro e w10 ⟨rfl, f10⟩
              have FT := Lib.hid f10
              clear f10
              go_wp2_with fail
              go_roundw
              case rel => exact ⟨jd + 1, by first | rfl | go_num, by rw [HTI.out, HV2.out], by omega, Lib.hid (by rw [HTZ2.out]; exact HA9.out.fr0 FT.out)⟩
              case measure => simp [intOf] <;> omega
            · obtain rfl : jd = 70 := by omega
              have HST2 := Lib.hid (fun W (f : Fr S0 wr W) => steps_any readsX x _ r pp n cc M W (.of (GOT.out.hist.fr0 ((F8.out.trans0 hd.out.fr).trans0 f)) GOT.out.len) (GOT.out.ref.fr0 ((F8.out.trans0 hd.out.fr).trans0 f)) HNL.out pd nd cd _ pv2 70 cv2 _ (stL_len M (tos fi (dbl ba)) nd) (HD.out.2.1.fr0 (hd.out.fr.trans0 f)) (tzs_len _ _) ((ZI.ofOwns hd.out.own).fr0 f) (tzs_bd (dbl_bd i1 i2 i3) 70) (stp_of HG.out (dbl_bd i1 i2 i3) (cumU_up HG.out (dbl_bd i1 i2 i3) (dbl_up2 i1 i2 i3)) (dbl_end70 HG.out i1 (Nat.le_of_lt i2) i3) HD.out.2.2.1 HD.out.2.2.2) (by have := HD.out.1; omega))
              simp only [show ((70 : Nat) : Int) = 70 from rfl] at HST2 ⊢
              go_wp2_with fail
              refine (HST2.out _ (Fr.refl _ _)).mono ?_
              rintro e w9 ⟨rfl, f9⟩
              have F9 := Lib.hid (F3.out.trans0 ((F8.out.trans0 hd.out.fr).trans0 f9))
              clear f9 HST2
              go_wp2_with fail
              go_ret
              exact ⟨rfl, F9.out⟩
      · have F5 := Lib.hid (F4.out.trans0 f5)
        have HRES := Lib.hid hres
        have HNF := Lib.hid hfar
        have k7 := HC7.out _ F5.out
        clear f5 HLN hres hfar
        have HNP : n = 0 ∨ (0 < n ∧ ¬ 4096 ≤ Q) := by
          by_cases hn : n = 0
          · exact .inl hn
          · exact .inr ⟨by omega, fun h => HNF.out (HFAR.out.2 ⟨(HLA.out hn).choose_spec.choose_spec.choose_spec.choose_spec.2.2.2.2.2, h⟩)⟩
        rcases HNP with hn | ⟨hn, hq4⟩
        case' inl => have hnp : decide (0 < n) = false := decide_eq_false (by omega)
        case' inr => have hnp : decide (0 < n) = true := decide_eq_true hn; have hdq : decide ((4096 : Int) ≤ (Q : Int)) = false := decide_eq_false (by omega)
        all_goals
          go_wp2_with fail
          clear k7 hnp
          go_loopw [20, 21, 22] (fun tl z i wr => ∃ j : Nat, i = .int .i64 (j : Nat) ∧ z = .int .i64 (atL (tos Wd (fun e => e + Wd)) j) ∧ j ≤ 4096 ∧ Hid (AccZ w5 wr tl j (tzs (tos Wd (fun e => e + Wd)) j))) (fun _ _ i _ => 4096 - (intOf i).toNat)
          case atStart => exact ⟨0, rfl, rfl, by omega, Lib.hid (AccZ.none _ _ (Fr.refl _ _))⟩
          case round =>
            obtain ⟨j, rfl, rfl, hj, ha⟩ := hrel
            obtain ⟨pv, cv, rfl⟩ := slFormN ha.out.own
            by_cases hgo : j < 4096 ∧ (j = 0 ∨ atL (tos Wd (fun e => e + Wd)) j < (B : Int))
            · obtain ⟨hj4, hor⟩ := hgo
              have HAL := Lib.hid (atL_lin hwd1 hw2 j)
              have HTZ := Lib.hid (tzs_succ (tos Wd (fun e => e + Wd)) j)
              have HSU := Lib.hid (show atL (tos Wd (fun e => e + Wd)) (j + 1) = tos Wd (fun e => e + Wd) j from rfl)
              have HR : Hid (Room (j + 1)) := Lib.hid (Room.mk (by omega))
              obtain ⟨AT, eAT⟩ : ∃ A, atL (tos Wd (fun e => e + Wd)) j = A := ⟨_, rfl⟩
              obtain ⟨V, eV⟩ : ∃ V, tos Wd (fun e => e + Wd) j = V := ⟨_, rfl⟩
              rw [eAT, eV] at HAL
              rw [eV] at HTZ HSU
              rw [eAT] at hor ⊢
              have hAT := HAL.out.1
              have ws : IntKind.i64.wrap (9223372036854775807 - (Wd : Int)) = 9223372036854775807 - (Wd : Int) := by rw [IntKind.wrap_i64]; omega
              have HCV : Hid (j = 0 ∨ ∃ b o k, j = k + 1 ∧ pv = some ⟨b, o, none⟩ ∧ wr.cell? ⟨b, o + k, none⟩ = some (.int .i64 AT)) := Lib.hid (by
                rcases Nat.eq_zero_or_pos j with h1 | h1
                · exact .inl h1
                · obtain ⟨k, rfl⟩ : ∃ k, j = k + 1 := ⟨j - 1, by omega⟩
                  obtain ⟨b, o, e1, e2⟩ := ZI.ofOwns ha.out.own k (by rw [tzs_len]; omega)
                  refine .inr ⟨b, o, k, rfl, e1, ?_⟩
                  rw [e2, ← eAT]
                  simp [tzs, atL])
              clear eAT eV
              by_cases hj0 : j = 0
              · subst hj0
                by_cases hov : 9223372036854775807 - (Wd : Int) < AT
                · obtain rfl := HAL.out.2.1 hov
                  clear HCV hAT
                  go_wp2_with ((with_reducible show wpList _ _ _ (Oper.mk (some 121) _ _ _ _ _ :: _) _ _); refine app_one elZ (.tmp 118) (.tmp 120) rfl ha.out.own rfl rfl rfl rfl rfl one8 HR.out ?_; intro g1 cap1 w7 hown hgrow hat hlt7; have HA7 := Lib.hid (ha.out.app hown hgrow hat); clear hown hgrow hat hlt7)
                  go_roundw
                  case rel => exact ⟨0 + 1, by first | rfl | go_num, by rw [HSU.out], by omega, by rw [HTZ.out]; exact HA7⟩
                  case measure => simp [intOf] <;> omega
                · obtain rfl := HAL.out.2.2 hov
                  have wv : IntKind.i64.wrap (AT + (Wd : Int)) = AT + (Wd : Int) := by rw [IntKind.wrap_i64]; omega
                  clear HCV hAT
                  go_wp2_with ((with_reducible show wpList _ _ _ (Oper.mk (some 121) _ _ _ _ _ :: _) _ _); refine app_one elZ (.tmp 118) (.tmp 120) rfl ha.out.own rfl rfl rfl rfl rfl one8 HR.out ?_; intro g1 cap1 w7 hown hgrow hat hlt7; have HA7 := Lib.hid (ha.out.app hown hgrow hat); clear hown hgrow hat hlt7)
                  go_roundw
                  case rel => exact ⟨0 + 1, by first | rfl | go_num, by rw [HSU.out], by omega, by rw [HTZ.out]; exact HA7⟩
                  case measure => simp [intOf] <;> omega
              · obtain ⟨b, o, k, rfl, rfl, hck⟩ := HCV.out.resolve_left hj0
                have hAB : AT < (B : Int) := hor.resolve_left hj0
                have jn : (((k + 1 : Nat) : Int) == 0) = false := by rw [beq_eq_false_iff_ne]; omega
                have e1 : ((k + 1 : Nat) : Int) - 1 = (k : Int) := by omega
                have wk : IntKind.i64.wrap (k : Int) = (k : Int) := by rw [IntKind.wrap_i64]; omega
                have hkk : (k : Int) < ((k + 1 : Nat) : Int) := by omega
                clear hor
                by_cases hov : 9223372036854775807 - (Wd : Int) < AT
                · obtain rfl := HAL.out.2.1 hov
                  clear HCV hAT
                  go_wp2_with ((with_reducible show wpList _ _ _ (Oper.mk (some 121) _ _ _ _ _ :: _) _ _); refine app_one elZ (.tmp 118) (.tmp 120) rfl ha.out.own rfl rfl rfl rfl rfl one8 HR.out ?_; intro g1 cap1 w7 hown hgrow hat hlt7; have HA7 := Lib.hid (ha.out.app hown hgrow hat); clear hown hgrow hat hlt7)
                  go_roundw
                  case rel => exact ⟨(k + 1) + 1, by first | rfl | go_num, by rw [HSU.out], by omega, by rw [HTZ.out]; exact HA7⟩
                  case measure => simp [intOf] <;> omega
                · obtain rfl := HAL.out.2.2 hov
                  have wv : IntKind.i64.wrap (AT + (Wd : Int)) = AT + (Wd : Int) := by rw [IntKind.wrap_i64]; omega
                  clear HCV hAT
                  go_wp2_with ((with_reducible show wpList _ _ _ (Oper.mk (some 121) _ _ _ _ _ :: _) _ _); refine app_one elZ (.tmp 118) (.tmp 120) rfl ha.out.own rfl rfl rfl rfl rfl one8 HR.out ?_; intro g1 cap1 w7 hown hgrow hat hlt7; have HA7 := Lib.hid (ha.out.app hown hgrow hat); clear hown hgrow hat hlt7)
                  go_roundw
                  case rel => exact ⟨(k + 1) + 1, by first | rfl | go_num, by rw [HSU.out], by omega, by rw [HTZ.out]; exact HA7⟩
                  case measure => simp [intOf] <;> omega
            · have HEND : Hid (0 < j ∧ cumU M (tos Wd (fun e => e + Wd)) j = ltot M.l) := Lib.hid (by
                by_cases h1 : j = 4096
                · subst h1
                  exact ⟨by decide, lin_end HG.out hw2 (by decide) (near_end HG.out hwd1 hw2 HNF.out)⟩
                · have h2 : j ≠ 0 := fun h => hgo ⟨by omega, .inl h⟩
                  have h3 : ¬ atL (tos Wd (fun e => e + Wd)) j < (B : Int) := fun h => hgo ⟨by omega, .inr h⟩
                  obtain ⟨k, rfl⟩ : ∃ k, j = k + 1 := ⟨j - 1, by omega⟩
                  refine ⟨by omega, lin_end HG.out hw2 (by omega) ?_⟩
                  rw [HB.out]
                  simp only [atL] at h3
                  rw [Nat.add_sub_cancel]
                  omega)
              have hj0 := HEND.out.1
              have HST := Lib.hid (fun W (f : Fr S0 wr W) => steps_any readsX x _ r pp n cc M W (.of (GOT.out.hist.fr0 ((F5.out.trans0 ha.out.fr).trans0 f)) GOT.out.len) (GOT.out.ref.fr0 ((F5.out.trans0 ha.out.fr).trans0 f)) HNL.out ps ns2 cs _ pv j cv _ (stL_len M (tos Wd (fun e => e + Wd)) ns2) (HRES.out.2.1.fr0 (ha.out.fr.trans0 f)) (tzs_len _ _) ((ZI.ofOwns ha.out.own).fr0 f) (tzs_bd (lin_bd Wd hw2) j) (stp_of HG.out (lin_bd Wd hw2) (cumU_up HG.out (lin_bd Wd hw2) (lin_up Wd hw2)) HEND.out.2 HRES.out.2.2.1 HRES.out.2.2.2) (by
                have h1 : ns2 ≤ j := by
                  rcases Nat.lt_or_ge j ns2 with h1 | h1
                  · have := HRES.out.2.2.1 j h1
                    have := HEND.out.2
                    omega
                  · exact h1
                omega))
              by_cases h4 : j = 4096
              · subst h4
                go_wp2_with fail
                refine (HST.out _ (Fr.refl _ _)).mono ?_
                rintro e w7 ⟨rfl, f7⟩
                have F7 := Lib.hid ((F5.out.trans0 ha.out.fr).trans0 f7)
                clear f7 HST hj0
                go_wp2_with fail
                clear HLA HBZ HBL
                by_cases hno : first < 1 ∨ base < 2 ∨ 2147483648 < base
                · refine (xdoubling_no x w7 first base hno).mono ?_
                  rintro e w8 ⟨rfl, f8⟩
                  have F8 := Lib.hid (F3.out.trans0 (F7.out.trans0 f8))
                  clear f8
                  by_cases n1 : first < 1
                  · have e1 : decide (first < 1) = true := decide_eq_true n1
                    go_wp2_with fail
                    go_ret
                    exact ⟨rfl, F8.out⟩
                  · have e1 : decide (first < 1) = false := decide_eq_false n1
                    by_cases n2 : base < 2
                    · have e2 : decide (base < 2) = true := decide_eq_true n2
                      go_wp2_with fail
                      go_ret
                      exact ⟨rfl, F8.out⟩
                    · have e2 : decide (base < 2) = false := decide_eq_false n2
                      have e3 : decide (2147483648 < base) = true := decide_eq_true (by omega)
                      go_wp2_with fail
                      go_ret
                      exact ⟨rfl, F8.out⟩
                · obtain ⟨fi, rfl⟩ : ∃ N : Nat, first = N := ⟨first.toNat, by omega⟩
                  obtain ⟨ba, rfl⟩ : ∃ N : Nat, base = N := ⟨base.toNat, by omega⟩
                  have i1 : 1 ≤ fi := by omega
                  have i2 : fi < 9223372036854775808 := by have := HFB.out; omega
                  have i3 : 2 ≤ ba := by omega
                  have i4 : ba ≤ 2147483648 := by omega
                  have j1 : decide ((fi : Int) < 1) = false := decide_eq_false (by omega)
                  have j2 : decide ((ba : Int) < 2) = false := decide_eq_false (by omega)
                  have j3 : decide (2147483648 < (ba : Int)) = false := decide_eq_false (by omega)
                  have wf : IntKind.i64.wrap ((fi : Int) - 1) = (fi : Int) - 1 := by rw [IntKind.wrap_i64]; omega
                  refine (xdoubling_any x h M w7 (GOT.out.hist.fr0 F7.out) GOT.out.len fi ba i1 i2 i3 i4).mono ?_
                  rintro e w8 ⟨nd, pd, cd, rfl, hnd, hsd, hld, hed, f8⟩
                  have F8 := Lib.hid (F7.out.trans0 f8)
                  have HD := Lib.hid (And.intro hnd (And.intro hsd (And.intro hld hed)))
                  clear f8 hnd hsd hld hed hno
                  go_wp2_with fail
                  go_loopw [25, 26, 27] (fun tl z i wr => ∃ j : Nat, i = .int .i64 (j : Nat) ∧ z = .int .i64 (tos fi (dbl ba) j) ∧ j ≤ 70 ∧ Hid (AccZ w8 wr tl j (tzs (tos fi (dbl ba)) j))) (fun _ _ i _ => 70 - (intOf i).toNat)
                  case atStart => exact ⟨0, rfl, by unfold tos; simp only [ends]; congr 1; omega, by omega, Lib.hid (AccZ.none _ _ (Fr.refl _ _))⟩
                  case round =>
                    obtain ⟨jd, rfl, rfl, hjd, hd⟩ := hrel
                    obtain ⟨pv2, cv2, rfl⟩ := slFormN hd.out.own
                    by_cases hlt : jd < 70
                    · have HTZ2 := Lib.hid (tzs_succ (tos fi (dbl ba)) jd)
                      have HR2 : Hid (Room (jd + 1)) := Lib.hid (Room.mk (by omega))
                      have HTI := Lib.hid (dbl_times i1 i2 i3 jd)
                      have hbd := dbl_bd i1 i2 i3 jd
                      obtain ⟨V2, eV2⟩ : ∃ V : Nat, tos fi (dbl ba) jd = V := ⟨(tos fi (dbl ba) jd).toNat, by omega⟩
                      have HV2 : Hid (ends fi (dbl ba) jd - 1 = V2) := Lib.hid (by have h1 : tos fi (dbl ba) jd = (ends fi (dbl ba) jd - 1 : Nat) := rfl; omega)
                      have HTM := Lib.hid (fun W => htimes_any V2 ba W (by omega) i3 i4)
                      rw [eV2] at HTZ2 ⊢
                      clear eV2 hbd
                      go_wp2_with ((with_reducible show wpList _ _ _ (Oper.mk (some 165) _ _ _ _ _ :: _) _ _); refine app_one elZ (.tmp 162) (.tmp 164) rfl hd.out.own rfl rfl rfl rfl rfl one8 HR2.out ?_; intro g1 cap1 w9 hown hgrow hat hlt9; have HA9 := Lib.hid (hd.out.app hown hgrow hat); clear hown hgrow hat hlt9)
                      refine (HTM.out _).mono ?_
                      rintro e w10 ⟨rfl, f10⟩
                      have FT := Lib.hid f10
                      clear f10
                      go_wp2_with fail
                      go_roundw
                      case rel => exact ⟨jd + 1, by first | rfl | go_num, by rw [HTI.out, HV2.out], by omega, Lib.hid (by rw [HTZ2.out]; exact HA9.out.fr0 FT.out)⟩
                      case measure => simp [intOf] <;> omega
                    · obtain rfl : jd = 70 := by omega
                      have HST2 := Lib.hid (fun W (f : Fr S0 wr W) => steps_any readsX x _ r pp n cc M W (.of (GOT.out.hist.fr0 ((F8.out.trans0 hd.out.fr).trans0 f)) GOT.out.len) (GOT.out.ref.fr0 ((F8.out.trans0 hd.out.fr).trans0 f)) HNL.out pd nd cd _ pv2 70 cv2 _ (stL_len M (tos fi (dbl ba)) nd) (HD.out.2.1.fr0 (hd.out.fr.trans0 f)) (tzs_len _ _) ((ZI.ofOwns hd.out.own).fr0 f) (tzs_bd (dbl_bd i1 i2 i3) 70) (stp_of HG.out (dbl_bd i1 i2 i3) (cumU_up HG.out (dbl_bd i1 i2 i3) (dbl_up2 i1 i2 i3)) (dbl_end70 HG.out i1 (Nat.le_of_lt i2) i3) HD.out.2.2.1 HD.out.2.2.2) (by have := HD.out.1; omega))
                      simp only [show ((70 : Nat) : Int) = 70 from rfl] at HST2 ⊢
                      go_wp2_with fail
                      refine (HST2.out _ (Fr.refl _ _)).mono ?_
                      rintro e w9 ⟨rfl, f9⟩
                      have F9 := Lib.hid (F3.out.trans0 ((F8.out.trans0 hd.out.fr).trans0 f9))
                      clear f9 HST2
                      go_wp2_with fail
                      go_ret
                      exact ⟨rfl, F9.out⟩
              · obtain ⟨k, rfl⟩ : ∃ k, j = k + 1 := ⟨j - 1, by omega⟩
                obtain ⟨b, o, rfl, hck⟩ := ZI.ofOwns ha.out.own k (by rw [tzs_len]; omega)
                have hgt : (tzs (tos Wd (fun e => e + Wd)) (k + 1))[k]'(by rw [tzs_len]; omega) = atL (tos Wd (fun e => e + Wd)) (k + 1) := by simp [tzs, atL]
                rw [hgt] at hck
                have hle : ¬ atL (tos Wd (fun e => e + Wd)) (k + 1) < (B : Int) := fun h => hgo ⟨by omega, .inr h⟩
                obtain ⟨AT, eAT⟩ : ∃ A, atL (tos Wd (fun e => e + Wd)) (k + 1) = A := ⟨_, rfl⟩
                rw [eAT] at hck hle ⊢
                have hk4 : k + 1 < 4096 := by omega
                have jn : (((k + 1 : Nat) : Int) == 0) = false := by rw [beq_eq_false_iff_ne]; omega
                have e1 : ((k + 1 : Nat) : Int) - 1 = (k : Int) := by omega
                have wk : IntKind.i64.wrap (k : Int) = (k : Int) := by rw [IntKind.wrap_i64]; omega
                have hkk : (k : Int) < ((k + 1 : Nat) : Int) := by omega
                clear eAT hgt hgo hj0
                go_wp2_with fail
                refine (HST.out _ (Fr.refl _ _)).mono ?_
                rintro e w7 ⟨rfl, f7⟩
                have F7 := Lib.hid ((F5.out.trans0 ha.out.fr).trans0 f7)
                clear f7 HST
                go_wp2_with fail
                clear HLA HBZ HBL
                by_cases hno : first < 1 ∨ base < 2 ∨ 2147483648 < base
                · refine (xdoubling_no x w7 first base hno).mono ?_
                  rintro e w8 ⟨rfl, f8⟩
                  have F8 := Lib.hid (F3.out.trans0 (F7.out.trans0 f8))
                  clear f8
                  by_cases n1 : first < 1
                  · have e1 : decide (first < 1) = true := decide_eq_true n1
                    go_wp2_with fail
                    go_ret
                    exact ⟨rfl, F8.out⟩
                  · have e1 : decide (first < 1) = false := decide_eq_false n1
                    by_cases n2 : base < 2
                    · have e2 : decide (base < 2) = true := decide_eq_true n2
                      go_wp2_with fail
                      go_ret
                      exact ⟨rfl, F8.out⟩
                    · have e2 : decide (base < 2) = false := decide_eq_false n2
                      have e3 : decide (2147483648 < base) = true := decide_eq_true (by omega)
                      go_wp2_with fail
                      go_ret
                      exact ⟨rfl, F8.out⟩
                · obtain ⟨fi, rfl⟩ : ∃ N : Nat, first = N := ⟨first.toNat, by omega⟩
                  obtain ⟨ba, rfl⟩ : ∃ N : Nat, base = N := ⟨base.toNat, by omega⟩
                  have i1 : 1 ≤ fi := by omega
                  have i2 : fi < 9223372036854775808 := by have := HFB.out; omega
                  have i3 : 2 ≤ ba := by omega
                  have i4 : ba ≤ 2147483648 := by omega
                  have j1 : decide ((fi : Int) < 1) = false := decide_eq_false (by omega)
                  have j2 : decide ((ba : Int) < 2) = false := decide_eq_false (by omega)
                  have j3 : decide (2147483648 < (ba : Int)) = false := decide_eq_false (by omega)
                  have wf : IntKind.i64.wrap ((fi : Int) - 1) = (fi : Int) - 1 := by rw [IntKind.wrap_i64]; omega
                  refine (xdoubling_any x h M w7 (GOT.out.hist.fr0 F7.out) GOT.out.len fi ba i1 i2 i3 i4).mono ?_
                  rintro e w8 ⟨nd, pd, cd, rfl, hnd, hsd, hld, hed, f8⟩
                  have F8 := Lib.hid (F7.out.trans0 f8)
                  have HD := Lib.hid (And.intro hnd (And.intro hsd (And.intro hld hed)))
                  clear f8 hnd hsd hld hed hno
                  go_wp2_with fail
                  go_loopw [25, 26, 27] (fun tl z i wr => ∃ j : Nat, i = .int .i64 (j : Nat) ∧ z = .int .i64 (tos fi (dbl ba) j) ∧ j ≤ 70 ∧ Hid (AccZ w8 wr tl j (tzs (tos fi (dbl ba)) j))) (fun _ _ i _ => 70 - (intOf i).toNat)
                  case atStart => exact ⟨0, rfl, by unfold tos; simp only [ends]; congr 1; omega, by omega, Lib.hid (AccZ.none _ _ (Fr.refl _ _))⟩
                  case round =>
                    obtain ⟨jd, rfl, rfl, hjd, hd⟩ := hrel
                    obtain ⟨pv2, cv2, rfl⟩ := slFormN hd.out.own
                    by_cases hlt : jd < 70
                    · have HTZ2 := Lib.hid (tzs_succ (tos fi (dbl ba)) jd)
                      have HR2 : Hid (Room (jd + 1)) := Lib.hid (Room.mk (by omega))
                      have HTI := Lib.hid (dbl_times i1 i2 i3 jd)
                      have hbd := dbl_bd i1 i2 i3 jd
                      obtain ⟨V2, eV2⟩ : ∃ V : Nat, tos fi (dbl ba) jd = V := ⟨(tos fi (dbl ba) jd).toNat, by omega⟩
                      have HV2 : Hid (ends fi (dbl ba) jd - 1 = V2) := Lib.hid (by have h1 : tos fi (dbl ba) jd = (ends fi (dbl ba) jd - 1 : Nat) := rfl; omega)
                      have HTM := Lib.hid (fun W => htimes_any V2 ba W (by omega) i3 i4)
                      rw [eV2] at HTZ2 ⊢
                      clear eV2 hbd
                      go_wp2_with ((with_reducible show wpList _ _ _ (Oper.mk (some 165) _ _ _ _ _ :: _) _ _); refine app_one elZ (.tmp 162) (.tmp 164) rfl hd.out.own rfl rfl rfl rfl rfl one8 HR2.out ?_; intro g1 cap1 w9 hown hgrow hat hlt9; have HA9 := Lib.hid (hd.out.app hown hgrow hat); clear hown hgrow hat hlt9)
                      refine (HTM.out _).mono ?_
                      rintro e w10 ⟨rfl, f10⟩
                      have FT := Lib.hid f10
                      clear f10
                      go_wp2_with fail
                      go_roundw
                      case rel => exact ⟨jd + 1, by first | rfl | go_num, by rw [HTI.out, HV2.out], by omega, Lib.hid (by rw [HTZ2.out]; exact HA9.out.fr0 FT.out)⟩
                      case measure => simp [intOf] <;> omega
                    · obtain rfl : jd = 70 := by omega
                      have HST2 := Lib.hid (fun W (f : Fr S0 wr W) => steps_any readsX x _ r pp n cc M W (.of (GOT.out.hist.fr0 ((F8.out.trans0 hd.out.fr).trans0 f)) GOT.out.len) (GOT.out.ref.fr0 ((F8.out.trans0 hd.out.fr).trans0 f)) HNL.out pd nd cd _ pv2 70 cv2 _ (stL_len M (tos fi (dbl ba)) nd) (HD.out.2.1.fr0 (hd.out.fr.trans0 f)) (tzs_len _ _) ((ZI.ofOwns hd.out.own).fr0 f) (tzs_bd (dbl_bd i1 i2 i3) 70) (stp_of HG.out (dbl_bd i1 i2 i3) (cumU_up HG.out (dbl_bd i1 i2 i3) (dbl_up2 i1 i2 i3)) (dbl_end70 HG.out i1 (Nat.le_of_lt i2) i3) HD.out.2.2.1 HD.out.2.2.2) (by have := HD.out.1; omega))
                      simp only [show ((70 : Nat) : Int) = 70 from rfl] at HST2 ⊢
                      go_wp2_with fail
                      refine (HST2.out _ (Fr.refl _ _)).mono ?_
                      rintro e w9 ⟨rfl, f9⟩
                      have F9 := Lib.hid (F3.out.trans0 ((F8.out.trans0 hd.out.fr).trans0 f9))
                      clear f9 HST2
                      go_wp2_with fail
                      go_ret
                      exact ⟨rfl, F9.out⟩
end
end Go.Proofs.YthfcfmnaiopogaaGreat
