/- The law on what is loaded: case 1. -/
import Derived.Test.YthfcfmnaiopogaaGreatHrLoadOne
import Derived.Test.YthfcfmnaiopogaaGreatRegCalls
namespace Go.Proofs.YthfcfmnaiopogaaGreat
open Go.RowKit Go.ChangeMaps

section
variable (a d : Nat) (gr : Bool) (p : Option Addr) (m c : Nat) (vs : List Int) (q : Option Addr) (k c2 : Nat) (ns : List Nat) (more key : Int) (w : World)
set_option maxRecDepth 100000 in
set_option maxHeartbeats 40000000 in
theorem law_loads1 (hm : vs.length = m) (hz : ZI w p vs) (hvb : ∀ v ∈ vs, -9223372036854775808 ≤ v ∧ v ≤ 9223372036854775807) (hk : ns.length = k) (hq : SlI w .u16 q ns) (hnb : ∀ n ∈ ns, n < 65536) (hmo : -9223372036854775808 ≤ more ∧ more ≤ 9223372036854775807) (hke : -9223372036854775808 ≤ key ∧ key ≤ 9223372036854775807) (L H D : Nat) (l0 : 0 < L) (lh : 2 * L ≤ H) (hh : H < 9223372036854775808) (d1 : 1 ≤ D) (d5 : D ≤ 5) (hs : unt L + mag D ≤ 62) (hsh : ∀ w, Calls Tryz.prog 13 #[.int .u64 (a : Nat), .int .u8 (d : Nat), .int .u64 (1000000 : Nat)] w fun e w' => e = .returned (.agg #[.int .i64 (L : Nat), .int .i64 (H : Nat), .int .i64 (D : Nat)]) ∧ Fr S0 w w') (hc : ¬ (0 ≤ key ∧ ibk (mag D) key.toNat ≤ 63 - (unt L + mag D))) :
    Calls Tryz.prog 7 #[.int .u64 (a : Nat), .int .u8 (d : Nat), .bool gr, .slice p m c, .slice q k c2, .int .i64 more, .int .i64 key] w fun e w' => e = .returned (.bool true) ∧ Fr S0 w w' := by
  have HA := Lib.hid (alive_any w)
  have HSH := Lib.hid hsh
  have HR := Lib.hid (fun W (f : Fr S0 w W) => rec_got L H D gr p m c vs q k c2 ns W d1 d5 l0 lh hh hs hm (hz.fr0 f) hvb hk (hq.fr0 f) hnb)
  obtain ⟨T, eT⟩ : ∃ T, min m 40 = T := ⟨_, rfl⟩
  have hT40 : T ≤ 40 := by omega
  rw [eT] at HR
  obtain ⟨M, eM⟩ : ∃ M, recs (Hm.new L H D gr) vs ns T = M := ⟨_, rfl⟩
  rw [eM] at HR
  have HOW : Hid (Own M L H D gr ∧ M.l.length ≤ 40) := Lib.hid (by
    obtain ⟨e1, e2, e3⟩ := recs_L (Hm.new L H D gr) vs ns T
    obtain ⟨e4, e5, e6, -⟩ := recs_same (Hm.new L H D gr) vs ns T
    have e7 := recs_len (Hm.new L H D gr) vs ns T
    have e8 := Bq.all (Hm.new_good L H D gr d1 d5 l0 lh hh hs) (bq_new L H D gr) vs ns (fun v hv => (hvb v hv).2) T (by omega)
    rw [eM] at e1 e2 e3 e4 e5 e6 e7 e8
    exact ⟨⟨e8.1, e1, e2, e3, e6⟩, by have : (Hm.new L H D gr).l.length = 0 := rfl; omega⟩)
  have HSP := Lib.hid (And.intro (And.intro d1 d5) (And.intro (And.intro l0 (And.intro lh hh)) hs))
  have HMK := Lib.hid (And.intro hmo hke)
  have HC0 := Lib.hid hc
  clear hc hsh l0 lh hh hm hz hvb hk hq hnb eT eM hs d1 d5 hmo hke
  go_enter Tryz.func7, Tryz.ntmps7
  go_wp2_with fail
  refine HA.out.mono ?_
  rintro e w1 ⟨rfl, f1⟩
  have F1 := Lib.hid f1
  clear f1 HA
  go_wp2_with fail
  refine (HSH.out _).mono ?_
  rintro e w2 ⟨rfl, f2⟩
  have F2 := Lib.hid (F1.out.trans0 f2)
  clear f2 F1 HSH
  have HBOX := Lib.hid (box3a w2 (.int .i64 (L : Nat)) (.int .i64 (H : Nat)) (.int .i64 (D : Nat)) 30)
  go_wp2_with fail
  refine (HR.out _ (F2.out.trans0 (Fr.alloc S0 _ _))).mono ?_
  rintro e w3 ⟨x, h, r, pp, n, cc, rfl, got⟩
  have GOT := Lib.hid got
  have F3 := Lib.hid ((F2.out.trans0 (Fr.alloc S0 _ _)).trans0 got.fr)
  clear got HR
  have HG := Lib.hid GOT.out.hist.good
  have HCB := Lib.hid (fun W (f : Fr S0 w3 W) => And.intro ((GOT.out.fr.trans0 f).cell HBOX.out.1 (fun h => h)) (And.intro ((GOT.out.fr.trans0 f).cell HBOX.out.2.1 (fun h => h)) ((GOT.out.fr.trans0 f).cell HBOX.out.2.2 (fun h => h))))
  have HBK := Lib.hid (fun W (f : Fr S0 w3 W) => xbuckets_any x h M W (GOT.out.hist.fr0 f))
  have HPR := Lib.hid (fun W (f : Fr S0 w3 W) => xpairs_any x h M W (GOT.out.hist.fr0 f) GOT.out.len)
  have HLY := Lib.hid (fun p2 c2 n2 W W2 (hp : PrsSee W W2 p2 c2 n2 M.l) => load_yes HOW.out.1 HG.out GOT.out.len p2 n2 c2 hp.len W2 hp.pri)
  have HLB := Lib.hid (fun (bk : Int) (hb : bk ≠ (M.b : Nat)) p2 c2 n2 W W2 (hp : PrsSee W W2 p2 c2 n2 M.l) => load_bad HOW.out.1 HG.out GOT.out.len p2 n2 c2 hp.len W2 hp.pri bk hb)
  have hbb : M.b ≤ 64 := by have := HG.out.b1; omega
  obtain ⟨B, eB⟩ : ∃ B, M.b = B := ⟨_, rfl⟩
  have HB := Lib.hid eB
  simp only [eB] at HBK HLY HLB
  rw [eB] at hbb
  clear eB
  have b1 : IntKind.i64.wrap ((B : Int) + 1) = (B : Int) + 1 := by rw [IntKind.wrap_i64]; omega
  have b2 : IntKind.i64.wrap ((B : Int) - 1) = (B : Int) - 1 := by rw [IntKind.wrap_i64]; omega
  have HB1 : Hid ((B : Int) + 1 ≠ (B : Nat)) := Lib.hid (by omega)
  have HB2 : Hid ((B : Int) - 1 ≠ (B : Nat)) := Lib.hid (by omega)
  obtain ⟨c0, c1, c2'⟩ := HCB.out w3 (Fr.refl _ _)
  go_upto_region 12 with fail
  go_region_held3 (fun w' => w'.cell? ⟨w2.heap.size, 0, none⟩ = some (.int .i64 (L : Nat)) ∧ w'.cell? ⟨w2.heap.size, 1, none⟩ = some (.int .i64 (H : Nat)) ∧ w'.cell? ⟨w2.heap.size, 2, none⟩ = some (.int .i64 (D : Nat)) ∧ Fr S0 w3 w')
    (first
      | (go_split_ands; exact ⟨by assumption, by assumption, by assumption, by assumption⟩)
      | exact ⟨c0, c1, c2', Fr.drew _ _⟩
      | (go_split_ands; exact ⟨f9.cell (by assumption) (fun h => h), f9.cell (by assumption) (fun h => h), f9.cell (by assumption) (fun h => h), Fr.trans0 (by assumption) f9⟩))
    (first
      | (go_at_call 36; ((with_reducible refine (HBK.out _ (by go_split_ands; assumption)).mono ?_); rintro _ u1 ⟨rfl, f9⟩))
      | (go_at_call 37; (have HF8 := Lib.hid (show Fr S0 w3 _ by go_split_ands; assumption)); ((with_reducible refine (HPR.out _ HF8.out).mono ?_); rintro _ u2 ⟨p2, c2p, n2, rfl, hp⟩; have HP := Lib.hid hp; have f9 := hp.fr; have FP := Lib.hid (HF8.out.trans0 hp.fr); clear hp))
      | (go_at_call 35; ((with_reducible refine (HLY.out _ _ _ _ _ HP.out).mono ?_); rintro _ u3 ⟨y, hy, rfl, sy, y1, y2, f9⟩; have HY := Lib.hid (And.intro sy (And.intro (Nat.le_trans FP.out.size y1) (Nat.le_trans FP.out.size y2))); have F4 := Lib.hid (FP.out.trans0 f9); clear sy y1 y2)))
  clear c0 c1 c2'
  have G4 := Lib.hid (Fr.refl S0 u3)
  obtain ⟨c0, c1, c2'⟩ := HCB.out _ (F4.out.trans0 G4.out)
  go_upto_region 13 with fail
  go_region_held3 (fun w' => w'.cell? ⟨w2.heap.size, 0, none⟩ = some (.int .i64 (L : Nat)) ∧ w'.cell? ⟨w2.heap.size, 1, none⟩ = some (.int .i64 (H : Nat)) ∧ w'.cell? ⟨w2.heap.size, 2, none⟩ = some (.int .i64 (D : Nat)) ∧ Fr S0 u3 w')
    (first
      | (go_split_ands; exact ⟨by assumption, by assumption, by assumption, by assumption⟩)
      | exact ⟨c0, c1, c2', G4.out.trans0 (Fr.drew _ _)⟩
      | (go_split_ands; exact ⟨f9.cell (by assumption) (fun h => h), f9.cell (by assumption) (fun h => h), f9.cell (by assumption) (fun h => h), Fr.trans0 (by assumption) f9⟩))
    (first
      | (go_at_call 36; ((with_reducible refine (HBK.out _ (F4.out.trans0 (by go_split_ands; assumption))).mono ?_); rintro _ v1 ⟨rfl, f9⟩))
      | (go_at_call 37; (have HF8 := Lib.hid (show Fr S0 u3 _ by go_split_ands; assumption)); ((with_reducible refine (HPR.out _ (F4.out.trans0 HF8.out)).mono ?_); rintro _ v2 ⟨p4, c4p, n4, rfl, hp⟩; have HP4 := Lib.hid hp; have f9 := hp.fr; have FP4 := Lib.hid (HF8.out.trans0 hp.fr); clear hp))
      | (go_at_call 35; ((with_reducible refine (HLB.out _ HB1.out _ _ _ _ _ HP4.out).mono ?_); rintro _ v3 ⟨rfl, f9⟩; have G5 := Lib.hid (FP4.out.trans0 f9))))
  clear c0 c1 c2'
  obtain ⟨c0, c1, c2'⟩ := HCB.out _ (F4.out.trans0 G5.out)
  go_upto_region 13 with fail
  go_region_held3 (fun w' => w'.cell? ⟨w2.heap.size, 0, none⟩ = some (.int .i64 (L : Nat)) ∧ w'.cell? ⟨w2.heap.size, 1, none⟩ = some (.int .i64 (H : Nat)) ∧ w'.cell? ⟨w2.heap.size, 2, none⟩ = some (.int .i64 (D : Nat)) ∧ Fr S0 u3 w')
    (first
      | (go_split_ands; exact ⟨by assumption, by assumption, by assumption, by assumption⟩)
      | exact ⟨c0, c1, c2', G5.out.trans0 (Fr.drew _ _)⟩
      | (go_split_ands; exact ⟨f9.cell (by assumption) (fun h => h), f9.cell (by assumption) (fun h => h), f9.cell (by assumption) (fun h => h), Fr.trans0 (by assumption) f9⟩))
    (first
      | (go_at_call 36; ((with_reducible refine (HBK.out _ (F4.out.trans0 (by go_split_ands; assumption))).mono ?_); rintro _ x1 ⟨rfl, f9⟩))
      | (go_at_call 37; (have HF8 := Lib.hid (show Fr S0 u3 _ by go_split_ands; assumption)); ((with_reducible refine (HPR.out _ (F4.out.trans0 HF8.out)).mono ?_); rintro _ x2 ⟨p5, c5p, n5, rfl, hp⟩; have HP5 := Lib.hid hp; have f9 := hp.fr; have FP5 := Lib.hid (HF8.out.trans0 hp.fr); clear hp))
      | (go_at_call 35; ((with_reducible refine (HLB.out _ HB2.out _ _ _ _ _ HP5.out).mono ?_); rintro _ x3 ⟨rfl, f9⟩; have G6 := Lib.hid (FP5.out.trans0 f9))))
  clear c0 c1 c2'
  have F6 := Lib.hid (F4.out.trans0 G6.out)
  have HY6 := Lib.hid (HY.out.1.fr0 G6.out)
  have HK : Hid (n ≤ 40) := Lib.hid (by have h1 := GOT.out.ref.len; have h2 := HOW.out.2; omega)
  have R6 := Lib.hid (GOT.out.ref.fr0 F6.out)
  have HSA := Lib.hid (same_any readsX y _ r pp n cc M x3 (.of HY6.out GOT.out.len) R6.out (by have := HK.out; omega))
  clear HLY HLB HPR b1 b2 HB1 HB2
  go_wp2_with fail
  refine HSA.out.mono ?_
  rintro e w7 ⟨rfl, f7⟩
  have F7 := Lib.hid (F6.out.trans0 f7)
  have HY7 := Lib.hid (HY6.out.fr0 f7)
  have R7 := Lib.hid (R6.out.fr0 f7)
  clear f7 HSA
  have HRY := Lib.hid (xrecord_any y hy M w7 HY7.out more 1 HMK.out.1.1 HMK.out.1.2 (by decide))
  obtain ⟨C, eC⟩ : ∃ C, M.check more 1 = C := ⟨_, rfl⟩
  have HC := Lib.hid eC
  rw [eC] at HRY
  simp only [show ((1 : Nat) : Int) = 1 from rfl] at HRY
  clear eC
  go_wp2_with fail
  refine HRY.out.mono ?_
  rintro e w8 ⟨rfl, s8, f8⟩
  have YN : Hid ((w3.heap.size ≤ y ∧ w3.heap.size ≤ hy) ∧ r < w3.heap.size ∧ (∀ a, pp = some a → a.block < w3.heap.size) ∧ x < w3.heap.size ∧ h < w3.heap.size) := Lib.hid ⟨HY.out.2, GOT.out.ref.lt, fun a ha => (GOT.out.pn a ha).2.1, GOT.out.hist.lt, GOT.out.hist.mp.lt⟩
  have S8 := Lib.hid s8
  have F8 := Lib.hid (F7.out.trans f8 fun j hj e => by
    have h1 := YN.out.1
    rcases e with e | e <;> omega)
  have R8 := Lib.hid (GOT.out.ref.fr0 F8.out)
  have HRW := Lib.hid (hrecord_any r pp n cc M w8 R8.out more 1 HMK.out.1.2 (by decide) (by have := HK.out; omega))
  rw [HC.out] at HRW
  simp only [show ((1 : Nat) : Int) = 1 from rfl] at HRW
  clear s8 f8 HRY
  go_wp2_with fail
  refine HRW.out.mono ?_
  rintro e w9 ⟨rfl, p9, n9, c9, t9⟩
  have HRN : Hid (w2.heap.size < r ∧ w.heap.size ≤ w2.heap.size) := Lib.hid (by
    have h1 := GOT.out.xn.2.2
    have h2 := F2.out.size
    rw [size_alloc] at h1
    omega)
  have HYR : Hid (y ≠ r ∧ hy ≠ r) := Lib.hid (by have h1 := YN.out; omega)
  have FF : Hid (Fr S0 w w9) := Lib.hid ((F3.out.trans0 F8.out).trans t9.fr fun j hj e => by
    have h1 := HRN.out
    have h2 : j = r := e
    omega)
  have SX := Lib.hid ((GOT.out.hist.fr0 F8.out).fr t9.fr GOT.out.ne.1 GOT.out.ne.2)
  have SY := Lib.hid (S8.out.fr t9.fr HYR.out.1 HYR.out.2)
  have SR := Lib.hid t9.is
  have HCB9 : Hid (∀ W, Fr S0 w9 W → W.cell? ⟨w2.heap.size, 0, none⟩ = some (.int .i64 (L : Nat)) ∧ W.cell? ⟨w2.heap.size, 1, none⟩ = some (.int .i64 (H : Nat)) ∧ W.cell? ⟨w2.heap.size, 2, none⟩ = some (.int .i64 (D : Nat))) := Lib.hid fun W f => by
    obtain ⟨k0, k1, k2⟩ := HCB.out w8 F8.out
    have hne : ¬ (fun b => b = r) w2.heap.size := fun e => by have h1 := HRN.out; have h2 : w2.heap.size = r := e; omega
    exact ⟨f.cell (t9.fr.cell k0 hne) (fun h => h), f.cell (t9.fr.cell k1 hne) (fun h => h), f.cell (t9.fr.cell k2 hne) (fun h => h)⟩
  have HL9 : Hid ((M.record more 1).l.length ≤ 100000 ∧ n9 ≤ 100000) := Lib.hid (by
    have h1 := record_len M more 1
    have h2 := HOW.out.2
    have h3 := t9.is.len
    omega)
  have HS9 := Lib.hid (same_any readsX y _ r p9 n9 c9 (M.record more 1) w9 (.of SY.out HL9.out.1) SR.out HL9.out.2)
  have HBK9 := Lib.hid (fun W (f : Fr S0 w9 W) => xbuckets_any x h M W (SX.out.fr0 f))
  rw [HB.out] at HBK9
  have e0 : ((C : Int) == (C : Int)) = true := by simp
  clear t9 HRW HCB HBK HY6 HY7 R6 R7 R8
  go_wp2_with fail
  refine HS9.out.mono ?_
  rintro e w10 ⟨rfl, f10⟩
  have FA := Lib.hid f10
  clear f10 HS9
  have hum : (M.record more 1).u = unt L ∧ (M.record more 1).m = mag D := by
    have e1 : M.u = unt L := by rw [HG.out.eu, HOW.out.1.l]
    have e2 : M.m = mag D := by rw [HG.out.em, HOW.out.1.d]
    unfold Hm.record
    split
    · exact ⟨e1, e2⟩
    · exact ⟨e1, e2⟩
  have HR34 := Lib.hid (fun W (f : Fr S0 w9 W) => show W.cell? ⟨r, 3, none⟩ = some (.int .i64 (unt L : Nat)) ∧ W.cell? ⟨r, 4, none⟩ = some (.int .i64 (mag D : Nat)) from by
    have h1 := (SR.out.fr0 f).c3
    have h2 := (SR.out.fr0 f).c4
    rw [hum.1] at h1
    rw [hum.2] at h2
    exact ⟨h1, h2⟩)
  obtain ⟨⟨d1, d5⟩, ⟨l0, lh, hh⟩, hs⟩ := HSP.out
  have hNg := Hm.new_good L H D false d1 d5 l0 lh hh hs
  have HLD := Lib.hid (fun p c W (hl : PrI W p [(key, 1)]) => load_one L H D W d1 d5 l0 lh hh hs p c key HMK.out.2.1 HMK.out.2.2 hl (B : Nat))
  have HNW := Lib.hid (fun W => hnew_yes L H D false W d1 d5 l0 lh hh hs)
  have HF1 : Hid (1 ≤ 1 + bkt (unt L + mag D) H ∧ 1 + bkt (unt L + mag D) H ≤ 64) := Lib.hid (by
    have h1 := hNg.b1
    have h2 : (Hm.new L H D false).b = 1 + bkt (unt L + mag D) H := rfl
    omega)
  have HVY := Lib.hid (fun (K : Nat) (hK : ibk (mag D) K ≤ 63 - (unt L + mag D)) W => rvalue_yes (unt L) (mag D) K W hNg.m1 hNg.m5.2 hs hK)
  have HVN := Lib.hid (fun (K : Nat) (hK : 63 - (unt L + mag D) < ibk (mag D) K) W => rvalue_no (unt L) (mag D) K W hNg.m1 hNg.m5.2 hs hK)
  have HTP := Lib.hid (fun (z : Int) W => rtop_any (unt L) (mag D) z W hNg.m1 hs)
  have hft : Fit L H D key ↔ (0 ≤ key ∧ ibk (mag D) key.toNat ≤ 63 - (unt L + mag D)) ∧ vof (unt L) (mag D) key.toNat ≤ top (unt L) (mag D) (1 + bkt (unt L + mag D) H) := Iff.rfl
  have HN6 : Hid ((Hm.new L H D false).b = 1 + bkt (unt L + mag D) H) := Lib.hid rfl
  obtain ⟨Ff, eFf⟩ : ∃ Ff, 1 + bkt (unt L + mag D) H = Ff := ⟨_, rfl⟩
  have HFf := Lib.hid eFf
  simp only [eFf] at HLD HF1 hft HN6
  have hcnt : cntB (Ff : Int) = Ff := by unfold cntB; have := HF1.out; omega
  have HTP : Hid (∀ W, Calls Tryz.prog 42 #[.int .i64 (unt L : Nat), .int .i64 (mag D : Nat), .int .i64 (Ff : Nat)] W fun e w' => e = .returned (.int .i64 (top (unt L) (mag D) Ff : Nat)) ∧ w' = W) := Lib.hid fun W => by
    have h1 := HTP.out (Ff : Nat) W
    rw [hcnt] at h1
    exact h1
  have HTL : Hid (top (unt L) (mag D) Ff < 9223372036854775808) := Lib.hid (top_lt _ _ _)
  obtain ⟨U, eU⟩ : ∃ U, unt L = U := ⟨_, rfl⟩
  obtain ⟨Mg, eMg⟩ : ∃ m, mag D = m := ⟨_, rfl⟩
  obtain ⟨TP, eTP⟩ : ∃ P, top U Mg Ff = P := ⟨_, rfl⟩
  have HC1 := Lib.hid HC0.out
  simp only [eU, eMg, eTP] at HR34 HVY HVN HTP HTL hft HC1
  obtain ⟨c0, c1, c2'⟩ := HCB9.out _ FA.out
  have x0 := fun o => (Fr.alloc S0 w10 o).cell c0 (fun h => h)
  have x1 := fun o => (Fr.alloc S0 w10 o).cell c1 (fun h => h)
  have x2 := fun o => (Fr.alloc S0 w10 o).cell c2' (fun h => h)
  have HMG : Hid (1 ≤ Mg ∧ U + Mg ≤ 62 ∧ Mg ≤ 18) := Lib.hid ⟨eMg ▸ hNg.m1, by rw [← eU, ← eMg]; exact hs, eMg ▸ hNg.m5.2⟩
  clear hum d1 d5 l0 lh hh hs hNg eFf hcnt eU eMg eTP
  have HCASE : ¬ Fit L H D key ∧ ∀ W, Calls Tryz.prog 40 #[.int .i64 (U : Nat), .int .i64 (Mg : Nat), .int .i64 key] W fun e w' => e = .returned (.tuple #[.int .i64 0, .bool false]) ∧ w' = W := by
    have hv := HC1.out
    refine ⟨fun h => hv (hft.1 h).1, fun W => ?_⟩
    by_cases hn : key < 0
    · exact rvalue_neg U Mg key W HMG.out.1 HMG.out.2.2 hn
    · obtain ⟨K, hK⟩ : ∃ K : Nat, key = K := ⟨key.toNat, by omega⟩
      have hkn : key.toNat = K := by omega
      rw [hkn] at hv
      rw [hK]
      exact HVN.out K (by have h3 : ¬ ibk Mg K ≤ 63 - (U + Mg) := fun h => hv ⟨by omega, h⟩; omega) W
  clear HVY HVN hft
  have HLNIL : Hid (¬ (Fit L H D key ∧ (B : Int) = (Ff : Nat)) → ∀ p c W, PrI W p [(key, 1)] → Calls Tryz.prog 35 #[.agg #[.int .i64 (L : Nat), .int .i64 (H : Nat), .int .i64 (D : Nat)], .bool false, .int .i64 (B : Nat), .slice p 1 c] W fun e w' => e = .returned (.tuple #[.pointer none, .int .i64 1]) ∧ Fr S0 W w') := Lib.hid fun hn p c W hl => (HLD.out p c W hl).mono fun e w' he => by
    obtain ⟨f, ⟨h1, -⟩ | ⟨-, h1⟩⟩ := he
    · exact absurd h1 hn
    · exact ⟨h1, f⟩
  have HLPTR : Hid ((Fit L H D key ∧ (B : Int) = (Ff : Nat)) → ∀ p c W, PrI W p [(key, 1)] → Calls Tryz.prog 35 #[.agg #[.int .i64 (L : Nat), .int .i64 (H : Nat), .int .i64 (D : Nat)], .bool false, .int .i64 (B : Nat), .slice p 1 c] W fun e w' => ∃ gz, e = .returned (.tuple #[.pointer (some ⟨gz, 0, none⟩), .int .i64 0]) ∧ Fr S0 W w') := Lib.hid fun hn p c W hl => (HLD.out p c W hl).mono fun e w' he => by
    obtain ⟨f, ⟨-, gz, h1⟩ | ⟨h1, -⟩⟩ := he
    · exact ⟨gz, h1, f⟩
    · exact absurd hn h1
  clear HLD
  obtain ⟨hnf, hval⟩ := HCASE
  have HLZ := Lib.hid (HLNIL.out fun h => hnf h.1)
  have HVL := Lib.hid hval
  clear hval HLNIL HLPTR hnf
  go_upto_region 12 with fail
  go_region_law (first
    | (go_simp; go_at_call 36; (with_reducible refine (HBK9.out _ (by first | exact FA.out | exact FA.out.trans0 (Fr.drew S0 _) | exact FA.out.trans0 (Fr.alloc S0 _ _) | exact (FA.out.trans0 (Fr.drew S0 _)).trans0 (Fr.alloc S0 _ _) | exact (FA.out.trans0 (Fr.alloc S0 _ _)).trans0 (Fr.drew S0 _))).mono ?_); rintro _ u9 ⟨rfl, f9⟩; (have FU : Hid (Fr S0 w10 u9) := Lib.hid (by first | exact f9 | exact (Fr.drew S0 w10).trans0 f9 | exact (Fr.alloc S0 w10 _).trans0 f9 | exact ((Fr.drew S0 w10).trans0 (Fr.alloc S0 _ _)).trans0 f9 | exact ((Fr.alloc S0 w10 _).trans0 (Fr.drew S0 _)).trans0 f9)); obtain ⟨d0, d1, d2⟩ := HCB9.out _ (FA.out.trans0 FU.out); have z0 := fun o => (Fr.alloc S0 u9 o).cell d0 (fun h => h); have z1 := fun o => (Fr.alloc S0 u9 o).cell d1 (fun h => h); have z2 := fun o => (Fr.alloc S0 u9 o).cell d2 (fun h => h))
    | (go_simp; go_at_call 35; (with_reducible refine (HLZ.out _ _ _ (by first | exact pri_one (heap_alloc_new _ _) | exact pri_one (f9.row (heap_alloc_new _ _) (fun h => h)))).mono ?_); rintro _ v9 ⟨rfl, f11⟩; (have FV : Hid (Fr S0 w10 v9) := Lib.hid (by first | exact FU.out.trans0 f11 | exact (FU.out.trans0 (Fr.drew S0 _)).trans0 f11 | exact (FU.out.trans0 (Fr.alloc S0 _ _)).trans0 f11 | exact ((FU.out.trans0 (Fr.drew S0 _)).trans0 (Fr.alloc S0 _ _)).trans0 f11 | exact ((FU.out.trans0 (Fr.alloc S0 _ _)).trans0 (Fr.drew S0 _)).trans0 f11)))
    | fail)
  all_goals
    obtain ⟨r3, r4⟩ := HR34.out _ (FA.out.trans0 FV.out)
    go_upto_region 15 with fail
    go_region_held3 (fun w' => w'.cell? ⟨r, 3, none⟩ = some (.int .i64 (U : Nat)) ∧ w'.cell? ⟨r, 4, none⟩ = some (.int .i64 (Mg : Nat)))
      (first | (go_split_ands; exact ⟨by assumption, by assumption⟩) | exact ⟨r3, r4⟩)
      (first | (go_at_call 40; ((with_reducible refine (HVL.out _).mono ?_); rintro _ _ ⟨rfl, rfl⟩)))
    have FD := Lib.hid (FA.out.trans0 (FV.out.trans0 (Fr.drew S0 v9)))
    obtain ⟨o0, o1, o2⟩ := HCB9.out _ FD.out
    go_wp2_with fail
    refine (HNW.out _).mono ?_
    rintro e wN ⟨g2, rfl, sN, -, fN⟩
    have FN := Lib.hid (FD.out.trans0 fN)
    have n6 := sN.c6
    rw [HN6.out] at n6
    obtain ⟨r5, r6⟩ := HR34.out _ FN.out
    have HS0 := Lib.hid (show (wN.cell? ⟨r, 3, none⟩ = some (.int .i64 (U : Nat)) ∧ wN.cell? ⟨r, 4, none⟩ = some (.int .i64 (Mg : Nat)) ∧ wN.cell? ⟨g2, 6, none⟩ = some (.int .i64 (Ff : Nat))) ∧ Fr S0 w9 wN from ⟨⟨r5, r6, n6⟩, FN.out⟩)
    clear sN fN n6 r5 r6 o0 o1 o2 r3 r4
    go_upto_region 28 with fail
    refine wp_region_held_drew (S := fun w' => (w'.cell? ⟨r, 3, none⟩ = some (.int .i64 (U : Nat)) ∧ w'.cell? ⟨r, 4, none⟩ = some (.int .i64 (Mg : Nat)) ∧ w'.cell? ⟨g2, 6, none⟩ = some (.int .i64 (Ff : Nat))) ∧ Fr S0 w9 w') (by as_aux_lemma => kernel_rfl) ⟨⟨HS0.out.1.1, HS0.out.1.2.1, HS0.out.1.2.2⟩, HS0.out.2.trans0 (Fr.drew S0 _)⟩ (fun hHeld => ?_)
    refine held_of_any _ _ _ _ hHeld ?_
    clear hHeld
    refine anyS_take (i := 0) (oi := Oper.mk (some 135) _ _ _ _ _) (v := ?_) rfl (by as_aux_lemma => kernel_rfl) (by as_aux_lemma => kernel_rfl) (by as_aux_lemma => kernel_rfl) (fun _ _ _ h => h) (Or.inl ⟨by rfl, ?_⟩) ?_
    rotate_left
    · (intro w hSw; obtain ⟨⟨q3, q4, q6⟩, -⟩ := hSw; go_simp <;> with_reducible rfl)
    simp only [Act.put, List.setIfInBounds_toArray, List.set_cons_zero, List.set_cons_succ]
    refine anyS_take (i := 1) (oi := Oper.mk (some 136) _ _ _ _ _) (v := ?_) rfl (by as_aux_lemma => kernel_rfl) (by as_aux_lemma => kernel_rfl) (by as_aux_lemma => kernel_rfl) (fun _ _ _ h => h) (Or.inl ⟨by rfl, ?_⟩) ?_
    rotate_left
    · (intro w hSw; obtain ⟨⟨q3, q4, q6⟩, -⟩ := hSw; go_simp <;> with_reducible rfl)
    simp only [Act.put, List.setIfInBounds_toArray, List.set_cons_zero, List.set_cons_succ]
    refine anyS_take (i := 2) (oi := Oper.mk (some 137) _ _ _ _ _) (v := undef) rfl (by as_aux_lemma => kernel_rfl) (by as_aux_lemma => kernel_rfl) (by as_aux_lemma => kernel_rfl) (fun _ _ _ h => h) (Or.inr ⟨by rfl, rfl⟩) ?_
    simp only [Act.put, List.setIfInBounds_toArray, List.set_cons_zero, List.set_cons_succ]
    refine anyS_take (i := 3) (oi := Oper.mk (some 138) _ _ _ _ _) (v := undef) rfl (by as_aux_lemma => kernel_rfl) (by as_aux_lemma => kernel_rfl) (by as_aux_lemma => kernel_rfl) (fun _ _ _ h => h) (Or.inr ⟨by rfl, rfl⟩) ?_
    simp only [Act.put, List.setIfInBounds_toArray, List.set_cons_zero, List.set_cons_succ]
    refine anyS_take (i := 4) (oi := Oper.mk (some 139) _ _ _ _ _) (v := undef) rfl (by as_aux_lemma => kernel_rfl) (by as_aux_lemma => kernel_rfl) (by as_aux_lemma => kernel_rfl) (fun _ _ _ h => h) (Or.inr ⟨by rfl, rfl⟩) ?_
    simp only [Act.put, List.setIfInBounds_toArray, List.set_cons_zero, List.set_cons_succ]
    refine anyS_take (i := 5) (oi := Oper.mk (some 140) _ _ _ _ _) (v := undef) rfl (by as_aux_lemma => kernel_rfl) (by as_aux_lemma => kernel_rfl) (by as_aux_lemma => kernel_rfl) (fun _ _ _ h => h) (Or.inr ⟨by rfl, rfl⟩) ?_
    simp only [Act.put, List.setIfInBounds_toArray, List.set_cons_zero, List.set_cons_succ]
    refine anyS_take (i := 6) (oi := Oper.mk (some 141) _ _ _ _ _) (v := undef) rfl (by as_aux_lemma => kernel_rfl) (by as_aux_lemma => kernel_rfl) (by as_aux_lemma => kernel_rfl) (fun _ _ _ h => h) (Or.inr ⟨by rfl, rfl⟩) ?_
    simp only [Act.put, List.setIfInBounds_toArray, List.set_cons_zero, List.set_cons_succ]
    refine anyS_take (i := 7) (oi := Oper.mk (some 142) _ _ _ _ _) (v := undef) rfl (by as_aux_lemma => kernel_rfl) (by as_aux_lemma => kernel_rfl) (by as_aux_lemma => kernel_rfl) (fun _ _ _ h => h) (Or.inr ⟨by rfl, rfl⟩) ?_
    simp only [Act.put, List.setIfInBounds_toArray, List.set_cons_zero, List.set_cons_succ]
    refine anyS_take (i := 8) (oi := Oper.mk (some 143) _ _ _ _ _) (v := undef) rfl (by as_aux_lemma => kernel_rfl) (by as_aux_lemma => kernel_rfl) (by as_aux_lemma => kernel_rfl) (fun _ _ _ h => h) (Or.inr ⟨by rfl, rfl⟩) ?_
    simp only [Act.put, List.setIfInBounds_toArray, List.set_cons_zero, List.set_cons_succ]
    refine anyS_take (i := 9) (oi := Oper.mk (some 144) _ _ _ _ _) (v := undef) rfl (by as_aux_lemma => kernel_rfl) (by as_aux_lemma => kernel_rfl) (by as_aux_lemma => kernel_rfl) (fun _ _ _ h => h) (Or.inr ⟨by rfl, rfl⟩) ?_
    simp only [Act.put, List.setIfInBounds_toArray, List.set_cons_zero, List.set_cons_succ]
    refine anyS_take (i := 10) (oi := Oper.mk (some 145) _ _ _ _ _) (v := undef) rfl (by as_aux_lemma => kernel_rfl) (by as_aux_lemma => kernel_rfl) (by as_aux_lemma => kernel_rfl) (fun _ _ _ h => h) (Or.inr ⟨by rfl, rfl⟩) ?_
    simp only [Act.put, List.setIfInBounds_toArray, List.set_cons_zero, List.set_cons_succ]
    refine anyS_take (i := 11) (oi := Oper.mk (some 146) _ _ _ _ _) (v := undef) rfl (by as_aux_lemma => kernel_rfl) (by as_aux_lemma => kernel_rfl) (by as_aux_lemma => kernel_rfl) (fun _ _ _ h => h) (Or.inr ⟨by rfl, rfl⟩) ?_
    simp only [Act.put, List.setIfInBounds_toArray, List.set_cons_zero, List.set_cons_succ]
    refine anyS_take (i := 12) (oi := Oper.mk (some 147) _ _ _ _ _) (v := undef) rfl (by as_aux_lemma => kernel_rfl) (by as_aux_lemma => kernel_rfl) (by as_aux_lemma => kernel_rfl) (fun _ _ _ h => h) (Or.inr ⟨by rfl, rfl⟩) ?_
    simp only [Act.put, List.setIfInBounds_toArray, List.set_cons_zero, List.set_cons_succ]
    refine anyS_take (i := 13) (oi := Oper.mk (some 148) _ _ _ _ _) (v := undef) rfl (by as_aux_lemma => kernel_rfl) (by as_aux_lemma => kernel_rfl) (by as_aux_lemma => kernel_rfl) (fun _ _ _ h => h) (Or.inr ⟨by rfl, rfl⟩) ?_
    simp only [Act.put, List.setIfInBounds_toArray, List.set_cons_zero, List.set_cons_succ]
    refine anyS_take (i := 14) (oi := Oper.mk (some 149) _ _ _ _ _) (v := undef) rfl (by as_aux_lemma => kernel_rfl) (by as_aux_lemma => kernel_rfl) (by as_aux_lemma => kernel_rfl) (fun _ _ _ h => h) (Or.inr ⟨by rfl, rfl⟩) ?_
    simp only [Act.put, List.setIfInBounds_toArray, List.set_cons_zero, List.set_cons_succ]
    refine anyS_take (i := 15) (oi := Oper.mk (some 150) _ _ _ _ _) (v := undef) rfl (by as_aux_lemma => kernel_rfl) (by as_aux_lemma => kernel_rfl) (by as_aux_lemma => kernel_rfl) (fun _ _ _ h => h) (Or.inr ⟨by rfl, rfl⟩) ?_
    simp only [Act.put, List.setIfInBounds_toArray, List.set_cons_zero, List.set_cons_succ]
    refine anyS_take (i := 16) (oi := Oper.mk (some 151) _ _ _ _ _) (v := undef) rfl (by as_aux_lemma => kernel_rfl) (by as_aux_lemma => kernel_rfl) (by as_aux_lemma => kernel_rfl) (fun _ _ _ h => h) (Or.inr ⟨by rfl, rfl⟩) ?_
    simp only [Act.put, List.setIfInBounds_toArray, List.set_cons_zero, List.set_cons_succ]
    refine anyS_take (i := 17) (oi := Oper.mk (some 152) _ _ _ _ _) (v := ?_) rfl (by as_aux_lemma => kernel_rfl) (by as_aux_lemma => kernel_rfl) (by as_aux_lemma => kernel_rfl) (fun _ _ _ h => h) (Or.inl ⟨by rfl, ?_⟩) ?_
    rotate_left
    · (intro w hSw; obtain ⟨⟨q3, q4, q6⟩, -⟩ := hSw; go_simp <;> with_reducible rfl)
    simp only [Act.put, List.setIfInBounds_toArray, List.set_cons_zero, List.set_cons_succ]
    refine anyS_take (i := 18) (oi := Oper.mk (some 153) _ _ _ _ _) (v := ?_) rfl (by as_aux_lemma => kernel_rfl) (by as_aux_lemma => kernel_rfl) (by as_aux_lemma => kernel_rfl) (fun _ _ _ h => h) (Or.inl ⟨by rfl, ?_⟩) ?_
    rotate_left
    · (intro w hSw; obtain ⟨⟨q3, q4, q6⟩, -⟩ := hSw; go_simp <;> with_reducible rfl)
    simp only [Act.put, List.setIfInBounds_toArray, List.set_cons_zero, List.set_cons_succ]
    refine anyS_take (i := 19) (oi := Oper.mk (some 154) _ _ _ _ _) (v := undef) rfl (by as_aux_lemma => kernel_rfl) (by as_aux_lemma => kernel_rfl) (by as_aux_lemma => kernel_rfl) (fun _ _ _ h => h) (Or.inr ⟨by rfl, rfl⟩) ?_
    simp only [Act.put, List.setIfInBounds_toArray, List.set_cons_zero, List.set_cons_succ]
    refine anyS_take (i := 20) (oi := Oper.mk (some 155) _ _ _ _ _) (v := undef) rfl (by as_aux_lemma => kernel_rfl) (by as_aux_lemma => kernel_rfl) (by as_aux_lemma => kernel_rfl) (fun _ _ _ h => h) (Or.inr ⟨by rfl, rfl⟩) ?_
    simp only [Act.put, List.setIfInBounds_toArray, List.set_cons_zero, List.set_cons_succ]
    refine anyS_take (i := 21) (oi := Oper.mk (some 156) _ _ _ _ _) (v := undef) rfl (by as_aux_lemma => kernel_rfl) (by as_aux_lemma => kernel_rfl) (by as_aux_lemma => kernel_rfl) (fun _ _ _ h => h) (Or.inr ⟨by rfl, rfl⟩) ?_
    simp only [Act.put, List.setIfInBounds_toArray, List.set_cons_zero, List.set_cons_succ]
    refine anyS_take (i := 22) (oi := Oper.mk (some 157) _ _ _ _ _) (v := undef) rfl (by as_aux_lemma => kernel_rfl) (by as_aux_lemma => kernel_rfl) (by as_aux_lemma => kernel_rfl) (fun _ _ _ h => h) (Or.inr ⟨by rfl, rfl⟩) ?_
    simp only [Act.put, List.setIfInBounds_toArray, List.set_cons_zero, List.set_cons_succ]
    refine anyS_take (i := 23) (oi := Oper.mk (some 158) _ _ _ _ _) (v := undef) rfl (by as_aux_lemma => kernel_rfl) (by as_aux_lemma => kernel_rfl) (by as_aux_lemma => kernel_rfl) (fun _ _ _ h => h) (Or.inr ⟨by rfl, rfl⟩) ?_
    simp only [Act.put, List.setIfInBounds_toArray, List.set_cons_zero, List.set_cons_succ]
    refine anyS_take (i := 24) (oi := Oper.mk (some 159) _ _ _ _ _) (v := undef) rfl (by as_aux_lemma => kernel_rfl) (by as_aux_lemma => kernel_rfl) (by as_aux_lemma => kernel_rfl) (fun _ _ _ h => h) (Or.inr ⟨by rfl, rfl⟩) ?_
    simp only [Act.put, List.setIfInBounds_toArray, List.set_cons_zero, List.set_cons_succ]
    refine anyS_take (i := 25) (oi := Oper.mk (some 160) _ _ _ _ _) (v := undef) rfl (by as_aux_lemma => kernel_rfl) (by as_aux_lemma => kernel_rfl) (by as_aux_lemma => kernel_rfl) (fun _ _ _ h => h) (Or.inr ⟨by rfl, rfl⟩) ?_
    simp only [Act.put, List.setIfInBounds_toArray, List.set_cons_zero, List.set_cons_succ]
    refine anyS_take (i := 26) (oi := Oper.mk (some 161) _ _ _ _ _) (v := ?_) rfl (by as_aux_lemma => kernel_rfl) (by as_aux_lemma => kernel_rfl) (by as_aux_lemma => kernel_rfl) (fun _ _ _ h => h) (Or.inl ⟨by rfl, ?_⟩) ?_
    rotate_left
    · (intro w hSw; obtain ⟨⟨q3, q4, q6⟩, -⟩ := hSw; go_simp <;> with_reducible rfl)
    simp only [Act.put, List.setIfInBounds_toArray, List.set_cons_zero, List.set_cons_succ]
    refine anyS_take (i := 27) (oi := Oper.mk (some 29) _ _ _ _ _) (v := ?_) rfl (by as_aux_lemma => kernel_rfl) (by as_aux_lemma => kernel_rfl) (by as_aux_lemma => kernel_rfl) (fun _ _ _ h => h) (Or.inl ⟨by rfl, ?_⟩) ?_
    rotate_left
    · (intro w hSw; obtain ⟨⟨q3, q4, q6⟩, -⟩ := hSw; go_simp <;> with_reducible rfl)
    simp only [Act.put, List.setIfInBounds_toArray, List.set_cons_zero, List.set_cons_succ]
    refine anyS_done (by as_aux_lemma => kernel_rfl) (fun w hSw => ?_) _
    have FZ := Lib.hid hSw.2
    clear hSw
    go_wp2_with fail
    go_ret
    exact ⟨rfl, FF.out.trans0 FZ.out⟩
end
end Go.Proofs.YthfcfmnaiopogaaGreat
