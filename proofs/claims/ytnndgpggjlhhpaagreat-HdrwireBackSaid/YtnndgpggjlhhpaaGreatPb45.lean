/- HwLawBack -/
import Derived.Test.YtnndgpggjlhhpaaGreatPb1
import Derived.Test.YtnndgpggjlhhpaaGreatPb2
import Derived.Test.YtnndgpggjlhhpaaGreatPb3
import Derived.Test.YtnndgpggjlhhpaaGreatPb4
import Derived.Test.YtnndgpggjlhhpaaGreatPb5
import Derived.Test.YtnndgpggjlhhpaaGreatPb6
import Derived.Test.YtnndgpggjlhhpaaGreatPb7
import Derived.Test.YtnndgpggjlhhpaaGreatPb8
import Derived.Test.YtnndgpggjlhhpaaGreatPb9
import Derived.Test.YtnndgpggjlhhpaaGreatPb10
import Derived.Test.YtnndgpggjlhhpaaGreatPb11
import Derived.Test.YtnndgpggjlhhpaaGreatPb12
import Derived.Test.YtnndgpggjlhhpaaGreatPb13
import Derived.Test.YtnndgpggjlhhpaaGreatPb14
import Derived.Test.YtnndgpggjlhhpaaGreatPb15
import Derived.Test.YtnndgpggjlhhpaaGreatPb16
import Derived.Test.YtnndgpggjlhhpaaGreatPb17
import Derived.Test.YtnndgpggjlhhpaaGreatPb18
import Derived.Test.YtnndgpggjlhhpaaGreatPb19
import Derived.Test.YtnndgpggjlhhpaaGreatPb20
import Derived.Test.YtnndgpggjlhhpaaGreatPb21
import Derived.Test.YtnndgpggjlhhpaaGreatPb22
import Derived.Test.YtnndgpggjlhhpaaGreatPb23
import Derived.Test.YtnndgpggjlhhpaaGreatPb24
import Derived.Test.YtnndgpggjlhhpaaGreatPb25
import Derived.Test.YtnndgpggjlhhpaaGreatPb26
import Derived.Test.YtnndgpggjlhhpaaGreatPb27
import Derived.Test.YtnndgpggjlhhpaaGreatPb28
import Derived.Test.YtnndgpggjlhhpaaGreatPb29
import Derived.Test.YtnndgpggjlhhpaaGreatPb30
import Derived.Test.YtnndgpggjlhhpaaGreatPb31
import Derived.Test.YtnndgpggjlhhpaaGreatPb32
import Derived.Test.YtnndgpggjlhhpaaGreatPb33
import Derived.Test.YtnndgpggjlhhpaaGreatPb34
import Derived.Test.YtnndgpggjlhhpaaGreatPb35
import Derived.Test.YtnndgpggjlhhpaaGreatPb36
import Derived.Test.YtnndgpggjlhhpaaGreatPb37
import Derived.Test.YtnndgpggjlhhpaaGreatPb38
import Derived.Test.YtnndgpggjlhhpaaGreatPb39
import Derived.Test.YtnndgpggjlhhpaaGreatPb40
import Derived.Test.YtnndgpggjlhhpaaGreatPb42
import Derived.Test.YtnndgpggjlhhpaaGreatPb43
import Derived.Test.YtnndgpggjlhhpaaGreatPb44
import Derived.BigRegion
import Derived.RangeFuncNested
import Derived.RangeFuncBound
import Derived.RangeFuncCalls
import Derived.RangeFuncLeaves
import Derived.Shelf.Abstract
import Derived.Shelf.RegionOpen
import Derived.WalkKit
import Derived.OwnWalkIn
import Derived.TacticsInMore
import Derived.LoopNIn
import Derived.LoopIn
import Derived.Sort.BigQuietIn
import Derived.Lib.Repeat
import Derived.StillTailTactics
import Derived.Laws.BitsAllLaws
import Derived.Laws.BytesArg
import Derived.Lib.SlBytesConst
import Derived.Maps.AppendAt
import Derived.Laws.AppendOwnNone
import Derived.WalkSpells
import Derived.WalkLawsBesides
import Derived.Deep.QuietTactic
import Derived.BigQuiet
import Derived.RegionTactic
import Derived.Deep.AppendLies
import Derived.Deep.RegionLaw
import Derived.Laws.ResultCell
import Derived.Laws.EntriesVeiled
import Derived.Lib.Hide
import Derived.Test.YtnndgpggjlhhpaaGreatRows
import Derived.Maps.RangeWalk
import Derived.Deep.RegionHeld3
import Derived.Deep.CutBlock
import Derived.Deep.DeepCutAuto
import Derived.Deep.CutRange
import Derived.Lib.BitFns
import Derived.Shelf.Small.Bits
import Derived.Shelf.Strconv.Itoa0
import Derived.Shelf.Bits.Mul64
import Derived.Laws.Externs
import Derived.Shelf.Spec.BitsCarry
import Derived.Shelf.SlSortCmp.WholeK
import Derived.Shelf.Strings.Repeat
import Derived.Lib.AppendZerosOnto
import Derived.Lib.SliceRun
import Derived.Lib.Walk
import Derived.Laws.MakeOwn
import Derived.Laws.OwnMore
import Derived.IntWalk
import Derived.Lib.MakeNoZero
import Derived.Laws.CopyOwn
import Derived.Laws.Tables
import Derived.Defers
import Derived.Recover
import Derived.DeepKeys4
import Derived.WideKeyPair
import Derived.MapKept
import Derived.ChangeMaps
import Derived.Laws.Cover3
import Derived.Stop.BytesEq
/- The law on what is read back. -/
namespace Go.Proofs.YtnndgpggjlhhpaaGreat
open Go.RowKit Go.ChangeMaps

theorem td_back {P : List Nat} {N : Hm} (h : Is19 N P) (hP : P.length ≤ 1000000) {W w' : World} {e : Ending} (t : TdEnds (fun M => Is19 M P) W w' e) :
    ∃ g hm, e = .returned (.tuple #[.pointer (some ⟨g, 0, none⟩), .int .i64 0]) ∧ HistIs w' g hm N ∧ Fr S0 W w' := by
  obtain ⟨f, ⟨M', g, hm, rfl, s, hi, -, -⟩ | ⟨hno, rfl⟩⟩ := t
  · obtain rfl := hi.uniq h hP
    exact ⟨g, hm, rfl, s, f⟩
  · exact absurd ⟨N, h⟩ hno
theorem back_reach {M : Hm} (g : M.Good) : (back M).reach = M.reach := by
  show (if M.b = (back M).first then M.reach else top M.u M.m M.b) = M.reach
  rw [if_pos (back_first g).symm]
/-- what is asked of a histogram that was read back -/
structure Asked (w : World) (g : Nat) (L R D B T : Nat) (l : List Pr) : Prop where
  reach : ∀ W, Fr S0 w W → Calls Tryz.prog 12 #[.pointer (some ⟨g, 0, none⟩)] W fun e w' => e = .returned (.int .i64 (R : Nat)) ∧ Fr S0 W w'
  buckets : ∀ W, Fr S0 w W → Calls Tryz.prog 22 #[.pointer (some ⟨g, 0, none⟩)] W fun e w' => e = .returned (.int .i64 (B : Nat)) ∧ Fr S0 W w'
  total : ∀ W, Fr S0 w W → Calls Tryz.prog 23 #[.pointer (some ⟨g, 0, none⟩)] W fun e w' => e = .returned (.int .u64 (T : Nat)) ∧ Fr S0 W w'
  pairs : ∀ W, Fr S0 w W → Calls Tryz.prog 13 #[.pointer (some ⟨g, 0, none⟩)] W fun e w' => ∃ p c n, e = .returned (.slice p n c) ∧ PrsSee W w' p c n l
theorem asked_of {w : World} {g hm : Nat} {M : Hm} (h : HistIs w g hm M) (hl : M.l.length ≤ 40) : Asked w g M.L M.reach M.D M.b (ltot M.l) M.l where
  reach W f := xreach_any g hm M W (h.fr0 f)
  buckets W f := xbuckets_any g hm M W (h.fr0 f)
  total W f := xtotal_any g hm M W (h.fr0 f)
  pairs W f := xpairs_any g hm M W (h.fr0 f) (by omega)
/-- the same of one that doesn't grow -/
structure AskedBack (w : World) (g : Nat) (L R D B T : Nat) (l : List Pr) (P : List Nat) : Prop extends Asked w g L R D B T l where
  grows : ∀ W, Fr S0 w W → Calls Tryz.prog 21 #[.pointer (some ⟨g, 0, none⟩)] W fun e w' => e = .returned (.bool false) ∧ Fr S0 W w'
  shape : ∀ W, Fr S0 w W → Calls Tryz.prog 25 #[.pointer (some ⟨g, 0, none⟩)] W fun e w' => e = .returned (.agg #[.int .i64 (L : Nat), .int .i64 (R : Nat), .int .i64 (D : Nat)]) ∧ Fr S0 W w'
  write : ∀ W, Fr S0 w W → Calls Tryz.prog 14 #[.pointer (some ⟨g, 0, none⟩)] W fun e w' => ∃ q d, e = .returned (.tuple #[.slice q P.length d, .int .i64 0]) ∧ RowNew W w' (.slice q P.length d) P ∧ Fr S0 W w'
theorem asked_back {w : World} {g hm : Nat} {M : Hm} {P : List Nat} (gd : M.Good) (h : HistIs w g hm (back M)) (hl : M.l.length ≤ 40) (hP : plainB (back M) = P) : AskedBack w g M.L M.reach M.D M.b (ltot M.l) M.l P where
  toAsked := by
    have h1 := asked_of h hl
    rw [back_reach gd] at h1
    exact h1
  grows W f := xgrows_any g hm (back M) W (h.fr0 f)
  shape W f := xshape_any g hm (back M) W (h.fr0 f)
  write W f := by
    have h1 := write_any g hm (back M) W (h.fr0 f) (by show M.l.length ≤ _; omega)
    rwa [hP] at h1
section
variable (a d y : Nat) (gr : Bool) (p : Option Addr) (m c : Nat) (vs : List Int) (q : Option Addr) (k c2 : Nat) (ns : List Nat) (w : World)
set_option maxRecDepth 100000 in
set_option maxHeartbeats 4000000 in
theorem law_back (hm : vs.length = m) (hz : ZI w p vs) (hvb : ∀ v ∈ vs, -9223372036854775808 ≤ v ∧ v ≤ 9223372036854775807) (hk : ns.length = k) (hq : SlI w .u32 q ns) (hnb : ∀ n ∈ ns, n < 4294967296) :
    Calls Tryz.prog 4 #[.int .u64 (a : Nat), .int .u8 (d : Nat), .int .u64 (y : Nat), .bool gr, .slice p m c, .slice q k c2] w fun e w' => e = .returned (.bool true) ∧ Fr S0 w w' := by
  have HA := Lib.hid (alive19_any w)
  obtain ⟨L, H, D, ⟨l0, lh, hh⟩, ⟨d1, d5⟩, hs, hsh⟩ := wshape_any a d y
  have HSH := Lib.hid hsh
  have HR := Lib.hid (fun W (f : Fr S0 w W) => recorded19_any L H D gr p m c vs q k c2 ns W d1 d5 l0 lh hh hs hm (hz.fr0 f) hvb hk (hq.fr0 f) hnb)
  obtain ⟨M, eM, hg, ho, hl⟩ := recs19_is (gr := gr) d1 d5 l0 lh hh hs vs ns hvb hm
  rw [eM] at HR
  have HIS := Lib.hid (back_is hg ho)
  have HLD : Hid (M.L = L ∧ M.D = D) := Lib.hid ⟨ho.l, ho.d⟩
  have HPL := Lib.hid (And.intro (plain_len40 hl) (plainB_256 M))
  clear hsh l0 lh hh hm hz hvb hk hq hnb eM hs d1 d5 ho
  go_enter Tryz.func4, Tryz.ntmps4
  go_wp2_with fail
  refine HA.out.mono ?_
  rintro e w1 ⟨rfl, f1⟩
  have F1 := Lib.hid f1
  clear f1 HA
  go_wp2_with fail
  refine (HSH.out _).mono ?_
  rintro e w2 ⟨rfl, f2⟩
  have F2 := Lib.hid (F1.out.trans0 f2)
  clear f2 F1 HSH
  go_wp2_with fail
  have FB : Hid (Fr S0 w (w2.alloc (.cells #[.int .i64 (L : Nat), .int .i64 (H : Nat), .int .i64 (D : Nat)] 27))) := Lib.hid (F2.out.trans0 (Fr.alloc _ _ _))
  have HBX := Lib.hid (box3a w2 (.int .i64 (L : Nat)) (.int .i64 (H : Nat)) (.int .i64 (D : Nat)) 27)
  refine (HR.out _ FB.out).mono ?_
  rintro e w3 ⟨x, h, rfl, s3, -, -, f3⟩
  have F3 := Lib.hid (FB.out.trans0 f3)
  have HX := Lib.hid s3
  have HC := Lib.hid (fun W (f : Fr S0 w3 W) => And.intro ((f3.trans0 f).cell HBX.out.1 fun h => h) (And.intro ((f3.trans0 f).cell HBX.out.2.1 fun h => h) ((f3.trans0 f).cell HBX.out.2.2 fun h => h)))
  obtain ⟨k0, k1, k2⟩ := HC.out _ (Fr.refl _ _)
  clear s3 f3 F2 HR FB HBX
  have HLL := Lib.hid hl
  have HWR := Lib.hid (fun W (f : Fr S0 w3 W) => write_any x h M W (HX.out.fr0 f) (by have := HLL.out; omega))
  have HPK := Lib.hid (fun W (f : Fr S0 w3 W) => pack19_any x h M W (HX.out.fr0 f) (by have := HLL.out; omega))
  obtain ⟨P, eP⟩ : ∃ P, plainB M = P := ⟨_, rfl⟩
  rw [eP] at HPL HWR HPK HIS
  have HEP := Lib.hid eP
  have HG := Lib.hid hg
  clear hl hg eP k0 k1 k2
  go_wp2_with fail
  refine (HWR.out _ (Fr.refl S0 w3)).mono ?_
  rintro _ w4 ⟨qb, db, rfl, rb, f4⟩
  have F4 := Lib.hid f4
  have HB := Lib.hid rb
  clear rb f4 HWR
  go_wp2_with fail
  refine (HPK.out _ F4.out).mono ?_
  rintro _ w5 ⟨qc, dc, rfl, rc, f5⟩
  have F5 := Lib.hid f5
  have HCC := Lib.hid rc
  clear rc f5 HPK
  have HIP := Lib.hid (HIS.out.eq)
  have HRDB := Lib.hid (fun W (f : Fr S0 w5 W) => (hread_any qb P.length db P W rfl ((HB.out.sli rfl).1.fr0 (F5.out.trans0 f)) HPL.out.2 (HB.out.sli rfl).2.1 (HB.out.sli rfl).2.2.1 (HB.out.sli rfl).2.2.2 (by have := HPL.out.1; omega)).mono fun e w' t => td_back HIS.out (by have := HPL.out.1; omega) t)
  have HOPC := Lib.hid (fun W (f : Fr S0 w5 W) => (open_packed HPL.out.2 (by have := HPL.out.1; omega) rfl HCC.out W f).mono fun e w' t => td_back HIS.out (by have := HPL.out.1; omega) t)
  have HTB := Lib.hid (fun W (f : Fr S0 w5 W) => HB.out.txt rfl (F5.out.trans0 f))
  have HCX := Lib.hid (fun W (f : Fr S0 w5 W) => HC.out W ((F4.out.trans0 F5.out).trans0 f))
  have AX0 := asked_of (HX.out.fr0 (F4.out.trans0 F5.out)) HLL.out
  have ASK0 := fun (g hm : Nat) (W : World) (h : HistIs W g hm (back M)) => asked_back HG.out h HLL.out HIP.out
  rw [HLD.out.1, HLD.out.2] at AX0
  simp only [HLD.out.1, HLD.out.2] at ASK0
  have AX := Lib.hid AX0
  have ASK := Lib.hid ASK0
  have F5W := Lib.hid (F3.out.trans0 (F4.out.trans0 F5.out))
  clear AX0 ASK0
  obtain ⟨R, eR⟩ : ∃ R, M.reach = R := ⟨_, rfl⟩
  obtain ⟨B, eB⟩ : ∃ B, M.b = B := ⟨_, rfl⟩
  obtain ⟨TT, eT⟩ : ∃ T, ltot M.l = T := ⟨_, rfl⟩
  rw [eR, eB, eT] at AX ASK
  clear eR eB eT HIP HIS HEP HG HLD HLL HX HC F3 F4 F5 HPL HB HCC
  go_wp2_with fail
  go_loopw [19] (fun z wr => ∃ i : Nat, z = .int .i64 (i : Int) ∧ i ≤ 2 ∧ Hid (Fr S0 w5 wr)) (fun z _ => 2 - (intOf z).toNat)
  case atStart => exact ⟨0, rfl, by omega, Lib.hid (Fr.refl _ _)⟩
  case round =>
    obtain ⟨i, rfl, hi2, HFR⟩ := hrel
    rcases (by omega : i = 0 ∨ i = 1 ∨ i = 2) with rfl | rfl | rfl
    · have HRD := HRDB.out _ HFR.out
      clear HRDB
      go_wp2_with fail
      refine HRD.mono ?_
      rintro _ v1 ⟨g, hm, rfl, hy, f⟩
      have FX := Lib.hid (HFR.out.trans0 f)
      clear HRD
      have AY := Lib.hid (ASK.out _ _ _ hy)
      have FY := Lib.hid (Fr.refl S0 v1)
      clear f hy ASK
      go_wp2_with fail
      refine (AY.out.grows _ FY.out).mono ?_
      rintro _ u1 ⟨rfl, f1⟩
      have FX1 := Lib.hid (FX.out.trans0 f1)
      have FY1 := Lib.hid (FY.out.trans0 f1)
      clear f1 FX FY
      have FX := FX1
      have FY := FY1
      clear FX1 FY1
      go_wp2_with fail
      refine (AY.out.reach _ FY.out).mono ?_
      rintro _ u2 ⟨rfl, f2⟩
      have FX2 := Lib.hid (FX.out.trans0 f2)
      have FY2 := Lib.hid (FY.out.trans0 f2)
      clear f2 FX FY
      have FX := FX2
      have FY := FY2
      clear FX2 FY2
      go_wp2_with fail
      refine (AX.out.reach _ FX.out).mono ?_
      rintro _ u3 ⟨rfl, f3⟩
      have FX3 := Lib.hid (FX.out.trans0 f3)
      have FY3 := Lib.hid (FY.out.trans0 f3)
      clear f3 FX FY
      have FX := FX3
      have FY := FY3
      clear FX3 FY3
      go_wp2_with fail
      refine (AY.out.buckets _ FY.out).mono ?_
      rintro _ u4 ⟨rfl, f4⟩
      have FX4 := Lib.hid (FX.out.trans0 f4)
      have FY4 := Lib.hid (FY.out.trans0 f4)
      clear f4 FX FY
      have FX := FX4
      have FY := FY4
      clear FX4 FY4
      go_wp2_with fail
      refine (AX.out.buckets _ FX.out).mono ?_
      rintro _ u5 ⟨rfl, f5⟩
      have FX5 := Lib.hid (FX.out.trans0 f5)
      have FY5 := Lib.hid (FY.out.trans0 f5)
      clear f5 FX FY
      have FX := FX5
      have FY := FY5
      clear FX5 FY5
      go_wp2_with fail
      refine (AY.out.total _ FY.out).mono ?_
      rintro _ u6 ⟨rfl, f6⟩
      have FX6 := Lib.hid (FX.out.trans0 f6)
      have FY6 := Lib.hid (FY.out.trans0 f6)
      clear f6 FX FY
      have FX := FX6
      have FY := FY6
      clear FX6 FY6
      go_wp2_with fail
      refine (AX.out.total _ FX.out).mono ?_
      rintro _ u7 ⟨rfl, f7⟩
      have FX7 := Lib.hid (FX.out.trans0 f7)
      have FY7 := Lib.hid (FY.out.trans0 f7)
      clear f7 FX FY
      have FX := FX7
      have FY := FY7
      clear FX7 FY7
      go_wp2_with fail
      refine (AY.out.pairs _ FY.out).mono ?_
      rintro _ u8 ⟨pa, ca, na, rfl, see⟩
      have FX8 := Lib.hid (FX.out.trans0 see.fr)
      have FY8 := Lib.hid (FY.out.trans0 see.fr)
      have HSA := Lib.hid (And.intro see.pri see.len)
      clear see FX FY
      go_wp2_with fail
      refine (AX.out.pairs _ FX8.out).mono ?_
      rintro _ u9 ⟨pb, cb, nb, rfl, see⟩
      obtain rfl : na = nb := HSA.out.2.symm.trans see.len
      have FX := Lib.hid (FX8.out.trans0 see.fr)
      have FY := Lib.hid (FY8.out.trans0 see.fr)
      have HSM := Lib.hid (rsame_yes pa pb na ca cb M.l u9 (HSA.out.1.fr0 see.fr) see.pri HSA.out.2)
      clear see FX8 FY8 HSA
      go_wp2_with fail
      refine HSM.out.mono ?_
      rintro _ u10 ⟨rfl, f10⟩
      have FX10 := Lib.hid (FX.out.trans0 f10)
      have FY10 := Lib.hid (FY.out.trans0 f10)
      clear f10 FX FY HSM
      go_wp2_with fail
      refine (AY.out.shape _ FY10.out).mono ?_
      rintro _ u11 ⟨rfl, f11⟩
      have FX := Lib.hid (FX10.out.trans0 f11)
      have FY := Lib.hid (FY10.out.trans0 f11)
      clear f11 FX10 FY10
      have HB2 := Lib.hid (box3a u11 (.int .i64 (L : Nat)) (.int .i64 (R : Nat)) (.int .i64 (D : Nat)) 27)
      go_wp2_with fail
      refine (AY.out.write _ (FY.out.trans0 (Fr.alloc _ _ _))).mono ?_
      rintro _ u12 ⟨qg, dgg, rfl, rg, f12⟩
      have FX12 := Lib.hid ((FX.out.trans0 (Fr.alloc S0 u11 _)).trans0 f12)
      have HS := Lib.hid (fun W (f : Fr S0 u12 W) => And.intro ((f12.trans0 f).cell HB2.out.1 fun h => h) (And.intro ((f12.trans0 f).cell HB2.out.2.1 fun h => h) (And.intro ((f12.trans0 f).cell HB2.out.2.2 fun h => h) (And.intro (HCX.out W (FX12.out.trans0 f)) (And.intro (rg.txt rfl f) (HTB.out W (FX12.out.trans0 f)))))))
      obtain ⟨s0, s1, s2, ⟨h0, h1, h2⟩, tg, tb⟩ := HS.out _ (Fr.refl S0 u12)
      clear f12 rg HB2 FX FY AY
      go_wp2_with fail
      go_region_held3 (fun w' => w'.cell? ⟨u11.heap.size, 0, none⟩ = some (.int .i64 (L : Nat)) ∧ w'.cell? ⟨u11.heap.size, 1, none⟩ = some (.int .i64 (R : Nat)) ∧ w'.cell? ⟨u11.heap.size, 2, none⟩ = some (.int .i64 (D : Nat)) ∧ (w'.cell? ⟨w2.heap.size, 0, none⟩ = some (.int .i64 (L : Nat)) ∧ w'.cell? ⟨w2.heap.size, 1, none⟩ = some (.int .i64 (H : Nat)) ∧ w'.cell? ⟨w2.heap.size, 2, none⟩ = some (.int .i64 (D : Nat))) ∧ (convert 31 9 (.slice qg P.length dgg)).run Tryz.prog w' = .ok (.string (strB P)) w' ∧ (convert 31 9 (.slice qb P.length db)).run Tryz.prog w' = .ok (.string (strB P)) w')
        (first
          | exact HS.out _ RR.out
          | exact HS.out _ (Fr.drew S0 u12)
          | exact HS.out _ (Fr.refl S0 u12)
          | fail)
        (first
          | (go_at_call 12; ((with_reducible refine (AX.out.reach _ (FX12.out.trans0 (Fr.drew S0 u12))).mono ?_); rintro _ u13 ⟨rfl, f13⟩; have RR := Lib.hid ((Fr.drew S0 u12).trans0 f13); clear f13))
          | fail)
      go_wp2_with fail
      go_roundw
      case rel => exact ⟨1, by go_num, by omega, Lib.hid (FX12.out.trans0 RR.out)⟩
      case measure => simp [intOf] <;> omega
    · have HRD := HRDB.out _ HFR.out
      clear HRDB
      go_wp2_with fail
      refine HRD.mono ?_
      rintro _ v1 ⟨g, hm, rfl, hy, f⟩
      have FX := Lib.hid (HFR.out.trans0 f)
      have HOP := HOPC.out _ FX.out
      clear f hy HRD HOPC
      go_wp2_with fail
      refine HOP.mono ?_
      rintro _ v2 ⟨g2, hm2, rfl, hy, f⟩
      have FX2 := Lib.hid (FX.out.trans0 f)
      clear FX
      have FX := FX2
      clear FX2 HOP
      have AY := Lib.hid (ASK.out _ _ _ hy)
      have FY := Lib.hid (Fr.refl S0 v2)
      clear f hy ASK
      go_wp2_with fail
      refine (AY.out.grows _ FY.out).mono ?_
      rintro _ u1 ⟨rfl, f1⟩
      have FX1 := Lib.hid (FX.out.trans0 f1)
      have FY1 := Lib.hid (FY.out.trans0 f1)
      clear f1 FX FY
      have FX := FX1
      have FY := FY1
      clear FX1 FY1
      go_wp2_with fail
      refine (AY.out.reach _ FY.out).mono ?_
      rintro _ u2 ⟨rfl, f2⟩
      have FX2 := Lib.hid (FX.out.trans0 f2)
      have FY2 := Lib.hid (FY.out.trans0 f2)
      clear f2 FX FY
      have FX := FX2
      have FY := FY2
      clear FX2 FY2
      go_wp2_with fail
      refine (AX.out.reach _ FX.out).mono ?_
      rintro _ u3 ⟨rfl, f3⟩
      have FX3 := Lib.hid (FX.out.trans0 f3)
      have FY3 := Lib.hid (FY.out.trans0 f3)
      clear f3 FX FY
      have FX := FX3
      have FY := FY3
      clear FX3 FY3
      go_wp2_with fail
      refine (AY.out.buckets _ FY.out).mono ?_
      rintro _ u4 ⟨rfl, f4⟩
      have FX4 := Lib.hid (FX.out.trans0 f4)
      have FY4 := Lib.hid (FY.out.trans0 f4)
      clear f4 FX FY
      have FX := FX4
      have FY := FY4
      clear FX4 FY4
      go_wp2_with fail
      refine (AX.out.buckets _ FX.out).mono ?_
      rintro _ u5 ⟨rfl, f5⟩
      have FX5 := Lib.hid (FX.out.trans0 f5)
      have FY5 := Lib.hid (FY.out.trans0 f5)
      clear f5 FX FY
      have FX := FX5
      have FY := FY5
      clear FX5 FY5
      go_wp2_with fail
      refine (AY.out.total _ FY.out).mono ?_
      rintro _ u6 ⟨rfl, f6⟩
      have FX6 := Lib.hid (FX.out.trans0 f6)
      have FY6 := Lib.hid (FY.out.trans0 f6)
      clear f6 FX FY
      have FX := FX6
      have FY := FY6
      clear FX6 FY6
      go_wp2_with fail
      refine (AX.out.total _ FX.out).mono ?_
      rintro _ u7 ⟨rfl, f7⟩
      have FX7 := Lib.hid (FX.out.trans0 f7)
      have FY7 := Lib.hid (FY.out.trans0 f7)
      clear f7 FX FY
      have FX := FX7
      have FY := FY7
      clear FX7 FY7
      go_wp2_with fail
      refine (AY.out.pairs _ FY.out).mono ?_
      rintro _ u8 ⟨pa, ca, na, rfl, see⟩
      have FX8 := Lib.hid (FX.out.trans0 see.fr)
      have FY8 := Lib.hid (FY.out.trans0 see.fr)
      have HSA := Lib.hid (And.intro see.pri see.len)
      clear see FX FY
      go_wp2_with fail
      refine (AX.out.pairs _ FX8.out).mono ?_
      rintro _ u9 ⟨pb, cb, nb, rfl, see⟩
      obtain rfl : na = nb := HSA.out.2.symm.trans see.len
      have FX := Lib.hid (FX8.out.trans0 see.fr)
      have FY := Lib.hid (FY8.out.trans0 see.fr)
      have HSM := Lib.hid (rsame_yes pa pb na ca cb M.l u9 (HSA.out.1.fr0 see.fr) see.pri HSA.out.2)
      clear see FX8 FY8 HSA
      go_wp2_with fail
      refine HSM.out.mono ?_
      rintro _ u10 ⟨rfl, f10⟩
      have FX10 := Lib.hid (FX.out.trans0 f10)
      have FY10 := Lib.hid (FY.out.trans0 f10)
      clear f10 FX FY HSM
      go_wp2_with fail
      refine (AY.out.shape _ FY10.out).mono ?_
      rintro _ u11 ⟨rfl, f11⟩
      have FX := Lib.hid (FX10.out.trans0 f11)
      have FY := Lib.hid (FY10.out.trans0 f11)
      clear f11 FX10 FY10
      have HB2 := Lib.hid (box3a u11 (.int .i64 (L : Nat)) (.int .i64 (R : Nat)) (.int .i64 (D : Nat)) 27)
      go_wp2_with fail
      refine (AY.out.write _ (FY.out.trans0 (Fr.alloc _ _ _))).mono ?_
      rintro _ u12 ⟨qg, dgg, rfl, rg, f12⟩
      have FX12 := Lib.hid ((FX.out.trans0 (Fr.alloc S0 u11 _)).trans0 f12)
      have HS := Lib.hid (fun W (f : Fr S0 u12 W) => And.intro ((f12.trans0 f).cell HB2.out.1 fun h => h) (And.intro ((f12.trans0 f).cell HB2.out.2.1 fun h => h) (And.intro ((f12.trans0 f).cell HB2.out.2.2 fun h => h) (And.intro (HCX.out W (FX12.out.trans0 f)) (And.intro (rg.txt rfl f) (HTB.out W (FX12.out.trans0 f)))))))
      obtain ⟨s0, s1, s2, ⟨h0, h1, h2⟩, tg, tb⟩ := HS.out _ (Fr.refl S0 u12)
      clear f12 rg HB2 FX FY AY
      go_wp2_with fail
      go_region_held3 (fun w' => w'.cell? ⟨u11.heap.size, 0, none⟩ = some (.int .i64 (L : Nat)) ∧ w'.cell? ⟨u11.heap.size, 1, none⟩ = some (.int .i64 (R : Nat)) ∧ w'.cell? ⟨u11.heap.size, 2, none⟩ = some (.int .i64 (D : Nat)) ∧ (w'.cell? ⟨w2.heap.size, 0, none⟩ = some (.int .i64 (L : Nat)) ∧ w'.cell? ⟨w2.heap.size, 1, none⟩ = some (.int .i64 (H : Nat)) ∧ w'.cell? ⟨w2.heap.size, 2, none⟩ = some (.int .i64 (D : Nat))) ∧ (convert 31 9 (.slice qg P.length dgg)).run Tryz.prog w' = .ok (.string (strB P)) w' ∧ (convert 31 9 (.slice qb P.length db)).run Tryz.prog w' = .ok (.string (strB P)) w')
        (first
          | exact HS.out _ RR.out
          | exact HS.out _ (Fr.drew S0 u12)
          | exact HS.out _ (Fr.refl S0 u12)
          | fail)
        (first
          | (go_at_call 12; ((with_reducible refine (AX.out.reach _ (FX12.out.trans0 (Fr.drew S0 u12))).mono ?_); rintro _ u13 ⟨rfl, f13⟩; have RR := Lib.hid ((Fr.drew S0 u12).trans0 f13); clear f13))
          | fail)
      go_wp2_with fail
      go_roundw
      case rel => exact ⟨2, by go_num, by omega, Lib.hid (FX12.out.trans0 RR.out)⟩
      case measure => simp [intOf] <;> omega
    · go_wp2_with fail
      go_ret
      exact ⟨rfl, F5W.out.trans0 HFR.out⟩
end
end Go.Proofs.YtnndgpggjlhhpaaGreat
