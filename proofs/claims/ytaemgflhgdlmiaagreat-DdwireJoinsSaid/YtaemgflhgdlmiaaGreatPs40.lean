/- DwLawJoins -/
import Derived.Test.YtaemgflhgdlmiaaGreatPs1
import Derived.Test.YtaemgflhgdlmiaaGreatPs2
import Derived.Test.YtaemgflhgdlmiaaGreatPs3
import Derived.Test.YtaemgflhgdlmiaaGreatPs4
import Derived.Test.YtaemgflhgdlmiaaGreatPs5
import Derived.Test.YtaemgflhgdlmiaaGreatPs6
import Derived.Test.YtaemgflhgdlmiaaGreatPs7
import Derived.Test.YtaemgflhgdlmiaaGreatPs8
import Derived.Test.YtaemgflhgdlmiaaGreatPs9
import Derived.Test.YtaemgflhgdlmiaaGreatPs10
import Derived.Test.YtaemgflhgdlmiaaGreatPs11
import Derived.Test.YtaemgflhgdlmiaaGreatPs12
import Derived.Test.YtaemgflhgdlmiaaGreatPs13
import Derived.Test.YtaemgflhgdlmiaaGreatPs14
import Derived.Test.YtaemgflhgdlmiaaGreatPs15
import Derived.Test.YtaemgflhgdlmiaaGreatPs16
import Derived.Test.YtaemgflhgdlmiaaGreatPs17
import Derived.Test.YtaemgflhgdlmiaaGreatPs18
import Derived.Test.YtaemgflhgdlmiaaGreatPs19
import Derived.Test.YtaemgflhgdlmiaaGreatPs20
import Derived.Test.YtaemgflhgdlmiaaGreatPs21
import Derived.Test.YtaemgflhgdlmiaaGreatPs22
import Derived.Test.YtaemgflhgdlmiaaGreatPs23
import Derived.Test.YtaemgflhgdlmiaaGreatPs24
import Derived.Test.YtaemgflhgdlmiaaGreatPs25
import Derived.Test.YtaemgflhgdlmiaaGreatPs26
import Derived.Test.YtaemgflhgdlmiaaGreatPs27
import Derived.Test.YtaemgflhgdlmiaaGreatPs28
import Derived.Test.YtaemgflhgdlmiaaGreatPs29
import Derived.Test.YtaemgflhgdlmiaaGreatPs30
import Derived.Test.YtaemgflhgdlmiaaGreatPs31
import Derived.Test.YtaemgflhgdlmiaaGreatPs32
import Derived.Test.YtaemgflhgdlmiaaGreatPs33
import Derived.Test.YtaemgflhgdlmiaaGreatPs34
import Derived.Test.YtaemgflhgdlmiaaGreatPs36
import Derived.Test.YtaemgflhgdlmiaaGreatPs37
import Derived.Test.YtaemgflhgdlmiaaGreatPs38
import Derived.Test.YtaemgflhgdlmiaaGreatPs39
import Derived.Defers
import Derived.Recover
import Derived.Deep.RegionHeld2
import Derived.StillTailTactics
import Derived.WalkKit
import Derived.Laws.BitsAllLaws
import Derived.Laws.BytesArg
import Derived.Lib.SlBytesConst
import Derived.Maps.AppendAt
import Derived.Laws.AppendOwnNone
import Derived.WalkSpells
import Derived.WalkLawsBesides
import Derived.Deep.QuietTactic
import Derived.BigQuiet
import Derived.RegionTactic
import Derived.Deep.AppendLies
import Derived.Deep.RegionLaw
import Derived.Laws.ResultCell
import Derived.Laws.EntriesVeiled
import Derived.Lib.Hide
import Derived.Test.YtaemgflhgdlmiaaGreatRows
import Derived.Deep.RegionHeld3
import Derived.Lib.SliceRun
import Derived.BigRegion
import Derived.Laws.Externs
import Derived.Shelf.Spec.BitsCarry
import Derived.Deep.CutBlock
import Derived.Deep.CutRange
import Derived.Deep.DeepCutAuto
import Derived.Lib.BitFns
import Derived.Shelf.Small.Bits
import Derived.Shelf.Strconv.Itoa0
import Derived.Shelf.Bits.Mul64
import Derived.Lib.AppendZeros
import Derived.Laws.CopyOwn
import Derived.Lib.Overlaps
import Derived.Lib.AppendZerosOnto
import Derived.Laws.OwnMore
import Derived.Shelf.SlSortCmp.WholeK
set_option maxRecDepth 100000
set_option maxHeartbeats 8000000
namespace Go.Proofs.YtaemgflhgdlmiaaGreat
open Go.RowKit
theorem rdOk_one {l : List Nat} {A m f A' m' f' : Nat} {L L' : List Pr} (h : RdOk l A m L f) (k : RdOk l A' m' L' f') : A' = A ∧ m' = m ∧ L' = L ∧ f' = f := by
  have hx := h.1.symm.trans k.1
  simp only [Option.some.injEq, Prod.mk.injEq, and_true] at hx
  obtain ⟨rfl, rfl, rfl, rfl⟩ := hx
  exact ⟨rfl, rfl, rfl, rfl⟩
theorem take_same {a b x y : List Pr} {m : Nat} (ga : Good a) (gb : Good b) (gx : Good x) (gy : Good y) (hm : 1 ≤ m) (e1 : cutN x m = cutN a m) (e2 : cutA x m = cutA a m) (e3 : cutN y m = cutN b m) (e4 : cutA y m = cutA b m) :
    takeE0 x y = takeE0 a b ∧ (takeE0 a b = 0 → cutN (takeL0 x y) m = cutN (takeL0 a b) m ∧ cutA (takeL0 x y) m = cutA (takeL0 a b) m) := by
  have h1 := takeE0_cut ga.srt ga.pos gb.srt gb.pos hm
  have h2 := takeE0_cut gx.srt gx.pos gy.srt gy.pos hm
  rw [e1, e3] at h2
  have h3 : takeE0 x y = takeE0 a b := h2.symm.trans h1
  refine ⟨h3, fun h0 => ?_⟩
  have n1 := cut_merge ga.srt ga.pos gb.srt gb.pos hm
  have n2 := cut_merge gx.srt gx.pos gy.srt gy.pos hm
  rw [e1, e3] at n2
  have n3 : cutN (lputs x y) m = cutN (lputs a b) m := n2.symm.trans n1
  unfold takeL0
  rw [if_pos (h3.trans h0), if_pos h0]
  refine ⟨n3, ?_⟩
  have f1 := fold_step ga.srt ga.pos gb.srt gb.pos hm (k := hk (cutN a m)) (j := hk (cutN b m)) (fun _ => rfl) (fun _ => rfl)
  have f2 := fold_step gx.srt gx.pos gy.srt gy.pos hm (k := hk (cutN a m)) (j := hk (cutN b m)) (fun _ => by rw [e1]) (fun _ => by rw [e3])
  rw [e1, e3, e2, e4, n3] at f2
  exact f2.trans f1.symm
theorem good_len {A : Nat} {l : List Pr} (h : Good l) (a1 : 100 ≤ A) (a2 : A ≤ 5000) (ks : ∀ x ∈ l, - (sN A : Int) ≤ x.1 ∧ x.1 ≤ (sN A : Int)) : l.length ≤ 10000 := by
  have h1 := len_le h.srt ks (by omega)
  have h2 := sN_le a1 a2
  omega
theorem join_ok {A m B n : Nat} {a b : List Pr} (da : DdOk A m (cutN a m) (cutA a m)) (db : DdOk B n (cutN b n) (cutA b n)) (ga : Good a) (gb : Good b) {P1 P2 : List Nat} (e1 : ddB A m (cutN a m) (cutA a m) = P1) (e2 : ddB B n (cutN b n) (cutA b n) = P2)
    (q1 q2 : Option Addr) (d1 n1 d2 n2 : Nat) (W : World) (hn1 : P1.length = n1) (hl1 : SlI W .u8 q1 P1) (hq1 : q1 = none → d1 = 0) (hL1 : n1 ≤ 1000000) (hn2 : P2.length = n2) (hl2 : SlI W .u8 q2 P2) (hq2 : q2 = none → d2 = 0) (hL2 : n2 ≤ 1000000) :
    Calls Tryz.prog 22 #[.slice q1 n1 d1, .slice q2 n2 d2] W fun e w' => (dtE A m B n a b ≠ 0 ∧ e = .returned (.tuple #[.slice none 0 0, .int .i64 (dtE A m B n a b : Nat)]) ∧ Fr S0 W w') ∨ (dtE A m B n a b = 0 ∧ ∃ v, e = .returned (.tuple #[v, .int .i64 0]) ∧ AccB W w' v (ddB A m (cutN (dtL A m B n a b) m) (cutA (dtL A m B n a b) m)).length (ddB A m (cutN (dtL A m B n a b) m) (cutA (dtL A m B n a b) m))) := by
  have r1 : RdOk P1 A m (cutN a m) (cutA a m) := by rw [← e1]; exact (rdOk_iff (ddB_lt _ _ _ _)).2 ⟨rfl, da⟩
  have r2 : RdOk P2 B n (cutN b n) (cutA b n) := by rw [← e2]; exact (rdOk_iff (ddB_lt _ _ _ _)).2 ⟨rfl, db⟩
  refine (djoin_any q1 q2 d1 n1 d2 n2 P1 P2 W hn1 hl1 (by rw [← e1]; exact ddB_lt _ _ _ _) hq1 hL1 hn2 hl2 (by rw [← e2]; exact ddB_lt _ _ _ _) hq2 hL2).mono ?_
  rintro e w' (⟨h | h, -, -⟩ | ⟨A', m', L, f, B', n', L2, f2, x, y, ⟨k1, k2⟩, ⟨gx, x1, x2⟩, ⟨gy, y1, y2⟩, h⟩)
  · exact absurd ⟨_, _, _, _, r1⟩ h
  · exact absurd ⟨_, _, _, _, r2⟩ h
  · obtain ⟨rfl, rfl, rfl, rfl⟩ := rdOk_one r1 k1
    obtain ⟨rfl, rfl, rfl, rfl⟩ := rdOk_one r2 k2
    by_cases hs : B' = A' ∧ n' = m'
    · obtain ⟨rfl, rfl⟩ := hs
      obtain ⟨t1, t2⟩ := take_same ga gb gx gy (by have := da.ld.m2; omega) x1 x2 y1 y2
      rw [(dt_yes B' n' x y).1, (dt_yes B' n' x y).2, t1] at h
      rw [(dt_yes B' n' a b).1, (dt_yes B' n' a b).2]
      refine h.imp id ?_
      rintro ⟨h0, v, e3, acc⟩
      rw [(t2 h0).1, (t2 h0).2] at acc
      exact ⟨h0, v, e3, acc⟩
    · have hs2 : B' ≠ A' ∨ n' ≠ m' := by omega
      rw [(dt_no x y hs2).1, (dt_no x y hs2).2] at h
      rw [(dt_no a b hs2).1, (dt_no a b hs2).2]
      rcases h with ⟨h0, e3, f3⟩ | ⟨h0, -⟩
      · exact .inl ⟨h0, e3, f3⟩
      · omega
theorem join_bad (q1 q2 : Option Addr) (d1 n1 d2 n2 : Nat) (l1 l2 : List Nat) (W : World) (hn1 : l1.length = n1) (hl1 : SlI W .u8 q1 l1) (h81 : ∀ x ∈ l1, x < 256) (hq1 : q1 = none → d1 = 0) (hL1 : n1 ≤ 1000000) (hn2 : l2.length = n2) (hl2 : SlI W .u8 q2 l2) (h82 : ∀ x ∈ l2, x < 256) (hq2 : q2 = none → d2 = 0) (hL2 : n2 ≤ 1000000)
    (h : (¬ ∃ A m L f, RdOk l1 A m L f) ∨ ¬ ∃ A m L f, RdOk l2 A m L f) :
    Calls Tryz.prog 22 #[.slice q1 n1 d1, .slice q2 n2 d2] W fun e w' => e = .returned (.tuple #[.slice none 0 0, .int .i64 9]) ∧ Fr S0 W w' := by
  refine (djoin_any q1 q2 d1 n1 d2 n2 l1 l2 W hn1 hl1 h81 hq1 hL1 hn2 hl2 h82 hq2 hL2).mono ?_
  rintro e w' (⟨-, e1, f⟩ | ⟨A', m', L, f, B', n', L2, f2, x, y, ⟨k1, k2⟩, -⟩)
  · exact ⟨e1, f⟩
  · rcases h with h | h
    · exact absurd ⟨_, _, _, _, k1⟩ h
    · exact absurd ⟨_, _, _, _, k2⟩ h
theorem AccB.off {w w' : World} {q : Option Addr} {n c N : Nat} {L : List Nat} (h : AccB w w' (.slice q n c) N L) {d : Nat} (hd : d < w.heap.size) : Off (· = d) q := by
  intro x hx e
  have h1 := h.fresh x.block (by rw [hx]; rfl)
  have h2 : x.block = d := e
  omega
section
variable (a m : Nat) (p : Option Addr) (n1 c : Nat) (vs : List Int) (p2 : Option Addr) (n2 c2 : Nat) (vs2 : List Int) (q : Option Addr) (k c3 : Nat) (ns : List Nat) (other : Bool) (cut : Int) (w : World)
theorem law_joins (ha : a < 65536) (hm : m < 65536) (hn : vs.length = n1) (hz : ZI w p vs) (hvb : ∀ v ∈ vs, -9223372036854775808 ≤ v ∧ v ≤ 9223372036854775807) (hn2 : vs2.length = n2) (hz2 : ZI w p2 vs2) (hvb2 : ∀ v ∈ vs2, -9223372036854775808 ≤ v ∧ v ≤ 9223372036854775807) (hk : ns.length = k) (hq : SlI w .u16 q ns) (hnb : ∀ n ∈ ns, n < 65536) :
    Calls Tryz.prog 5 #[.int .u16 (a : Nat), .int .u16 (m : Nat), .slice p n1 c, .slice p2 n2 c2, .slice q k c3, .bool other, .int .i64 cut] w fun e w' => e = .returned (.bool true) ∧ Fr S0 w w' := by
  have HA := Lib.hid (alive21_any w)
  have HR := Lib.hid (fun W (f : Fr S0 w W) => added21_any a m p n1 c vs q k c3 ns W ha hm hn (hz.fr0 f) hvb hk (hq.fr0 f) hnb)
  have HR2 := Lib.hid (fun m2 W (hm2 : m2 < 65536) (f : Fr S0 w W) => added21_any a m2 p2 n2 c2 vs2 none 0 0 [] W ha hm2 hn2 (hz2.fr0 f) hvb2 rfl (SlI.nil _ _ _) (fun n h => by cases h))
  have hM := (bud21_in m).2
  have HM2 := Lib.hid (fun m2 => (bud21_in m2).2)
  obtain ⟨A, hA⟩ : ∃ A, acc21 a = A := ⟨_, rfl⟩
  obtain ⟨M, hM2⟩ : ∃ M, bud21 m = M := ⟨_, rfl⟩
  obtain ⟨x1, hx1⟩ : ∃ x, adds A vs ns (min n1 40) = x := ⟨_, rfl⟩
  obtain ⟨x2, hx2⟩ : ∃ x, adds A vs2 [] (min n2 40) = x := ⟨_, rfl⟩
  rw [hA, hM2, hx1] at HR
  rw [hA, hx2] at HR2
  rw [hM2] at hM
  clear ha hn hz hvb hq hk hnb hn2 hz2 hvb2 hA hM2 hx1 hx2
  go_enter Tryz.func5, Tryz.ntmps5
  go_wp2_with fail
  refine HA.out.mono ?_
  rintro e w1 ⟨rfl, f1⟩
  have F1 := Lib.hid f1
  clear f1 HA
  go_wp2_with fail
  refine (HR.out _ F1.out).mono ?_
  rintro e w2 ⟨g1, h1, s1, d1, rfl, b1⟩
  have F2 := Lib.hid (F1.out.trans0 b1.fr)
  have HB1 := Lib.hid b1
  have HF1 := F1
  clear b1 HR
  go_upto_if 44 with fail
  go_cut [17] (fun v wx => (∃ m2 : Nat, v = .int .u16 (m2 : Nat) ∧ m2 < 65536) ∧ wx = w2)
  case first =>
    cases other
    · go_wp2_with fail
      go_meet
      exact ⟨⟨m, rfl, hm⟩, rfl⟩
    · go_wp2_with fail
      go_meet
      refine ⟨⟨(m + 1) % 65536, ?_, by omega⟩, rfl⟩
      have h9 : IntKind.u16.wrap ((m : Int) + 1) = (((m + 1) % 65536 : Nat) : Int) := by
        show ((m : Int) + 1) % 65536 = _
        omega
      rw [h9]
  case rest =>
    obtain ⟨⟨m2, rfl, hm2⟩, rfl⟩ := hcut
    have HRR := Lib.hid (HR2.out m2 wc hm2 F2.out)
    have hN := HM2.out m2
    obtain ⟨M2, hM2⟩ : ∃ M, bud21 m2 = M := ⟨_, rfl⟩
    rw [hM2] at HRR hN
    clear hm2 hm hM2 HR2 HM2
    go_wp2_with fail
    refine HRR.out.mono ?_
    rintro e w3 ⟨g2, h2, s2, d2, rfl, b2⟩
    obtain ⟨P1, eP1, do1, -, hP1, hP18⟩ := both_bytes HB1.out hM
    obtain ⟨P2, eP2, do2, -, hP2, hP28⟩ := both_bytes b2 hN
    have f3 := b2.fr
    have HW1 := Lib.hid (fun W (f : Fr S0 w3 W) => dwrite_any g1 h1 s1 A M x1 W (HB1.out.sk.is.fr0 (f3.trans0 f)))
    have HW2 := Lib.hid (fun W (f : Fr S0 w3 W) => dwrite_any g2 h2 s2 A M2 x2 W (b2.sk.is.fr0 f))
    rw [eP1] at HW1
    rw [eP2] at HW2
    have hd1 := HB1.out.doc.nd
    have hd1w : d1 < w3.heap.size := Nat.lt_of_lt_of_le hd1.2.2.2.2 f3.size
    have hdw : w.heap.size ≤ d1 := Nat.le_trans F1.out.size hd1.2.2.2.1
    have HG := Lib.hid (And.intro (And.intro HB1.out.sk.is.ok HB1.out.sk.is.ks) (And.intro b2.sk.is.ok b2.sk.is.ks))
    have HLN := Lib.hid (And.intro HB1.out.sk.is.len b2.sk.is.len)
    have HTK := Lib.hid (fun W (f : Fr S0 w3 W) => rtake20_any _ _ d1 A M d2 A M2 x1 x2 W (HB1.out.doc.fr0 (f3.trans0 f)) (b2.doc.fr0 f) (Nat.lt_of_lt_of_le hd1w f.size) HG.out.1.1 (by have := HLN.out.1; omega) HG.out.2.1 (by have := HLN.out.2; omega))
    have HDO := Lib.hid (And.intro do1 do2)
    have HPE := Lib.hid (And.intro eP1 eP2)
    have HPL := Lib.hid (And.intro (And.intro hP1 hP18) (And.intro hP2 hP28))
    have F3 := Lib.hid (F2.out.trans0 f3)
    have HD := Lib.hid (And.intro hd1w hdw)
    clear b2 eP1 do1 hP1 hP18 eP2 do2 hP2 hP28 f3 hd1 hd1w hdw HRR HB1 F1 F2 HF1 HLN
    go_wp2_with fail
    refine (HW1.out _ (Fr.refl S0 w3)).mono ?_
    rintro _ w4 ⟨va, rfl, acc1⟩
    have AC1 := Lib.hid acc1
    obtain ⟨qa, da, rfl, sa, ca, -⟩ := acc1.sl
    clear acc1 sa HW1
    go_wp2_with fail
    refine (HW2.out _ AC1.out.fr).mono ?_
    rintro _ w5 ⟨vb, rfl, acc2⟩
    have AC2 := Lib.hid acc2
    obtain ⟨qb, db, rfl, sb, cb, hdb, -⟩ := acc2.sl
    have sa := (AC1.out.sl).choose_spec.choose_spec
    have HSA : Hid (SlI w5 .u8 qa P1) := Lib.hid ((SlI.ofOwns AC1.out.own).fr0 acc2.fr)
    have HSB := Lib.hid sb
    have HCC := Lib.hid (And.intro ca cb)
    clear acc2 sa sb HW2 ca cb
    obtain ⟨N1, hN1⟩ : ∃ N, P1.length = N := ⟨_, rfl⟩
    obtain ⟨N2, hN2⟩ : ∃ N, P2.length = N := ⟨_, rfl⟩
    rw [hN1] at AC1 HPL
    rw [hN2] at AC2 HPL hdb
    have HNN := Lib.hid (And.intro hN1 hN2)
    have HJN := Lib.hid (join_ok HDO.out.1 HDO.out.2 HG.out.1.1 HG.out.2.1 HPE.out.1 HPE.out.2 qa qb da N1 db N2 w5 hN1 HSA.out HCC.out.1 (by have := HPL.out.1.1; omega) hN2 HSB.out HCC.out.2 (by have := HPL.out.2.1; omega))
    have F35 := Lib.hid (AC1.out.fr.trans0 AC2.out.fr)
    rw [hN1, hN2]
    clear hN1 hN2
    have HJC0 : Hid (∀ C, C < N2 → ∀ W, SlI W .u8 qa P1 → SlI W .u8 qb P2 →
        Calls Tryz.prog 22 #[.slice qa N1 da, .slice qb C db] W (fun e w' => e = .returned (.tuple #[.slice none 0 0, .int .i64 9]) ∧ Fr S0 W w') ∧
        Calls Tryz.prog 22 #[.slice qb C db, .slice qa N1 da] W (fun e w' => e = .returned (.tuple #[.slice none 0 0, .int .i64 9]) ∧ Fr S0 W w')) := Lib.hid fun C hC W h1 h2 => by
      have hno : ¬ ∃ A m L f, RdOk (P2.take C) A m L f := by
        rintro ⟨A', m', L', f', h⟩
        rw [← HPE.out.2] at h
        exact rdOk_cut (ddB_lt _ _ _ _) HDO.out.2 (by rw [HPE.out.2, HNN.out.2]; exact hC) h
      have hl : (P2.take C).length = C := by rw [List.length_take, HNN.out.2]; omega
      have h8 : ∀ x ∈ P2.take C, x < 256 := fun x hx => HPL.out.2.2 x (List.mem_of_mem_take hx)
      have hb1 := HPL.out.1.1
      have hb2 := HPL.out.2.1
      exact ⟨join_bad qa qb da N1 db C P1 (P2.take C) W HNN.out.1 h1 HPL.out.1.2 HCC.out.1 (by omega) hl (h2.take C) h8 HCC.out.2 (by omega) (.inr hno),
        join_bad qb qa db C da N1 (P2.take C) P1 W hl (h2.take C) h8 HCC.out.2 (by omega) HNN.out.1 h1 HPL.out.1.2 HCC.out.1 (by omega) (.inl hno)⟩
    have HOFF : Hid (Off (· = d1) qa ∧ Off (· = d1) qb) := Lib.hid ⟨AC1.out.off HD.out.1, AC2.out.off (Nat.lt_of_lt_of_le HD.out.1 AC1.out.fr.size)⟩
    clear HPE HPL HNN HCC AC1 AC2
    obtain ⟨E, hE⟩ : ∃ E, dtE A M A M2 x1 x2 = E := ⟨_, rfl⟩
    have hEb : E < 100 := by
      rw [← hE]
      unfold dtE
      split
      · decide
      · split
        · decide
        · rw [takeE0_eq]
          split <;> omega
    obtain ⟨xs, hxs⟩ : ∃ x, dtL A M A M2 x1 x2 = x := ⟨_, rfl⟩
    have HDX : Hid (E = 0 → Good xs ∧ DdOk A M (cutN xs M) (cutA xs M) ∧ xs.length ≤ 10000) := Lib.hid fun h0 => by
      rw [← hE] at h0
      have hs : M2 = M := by
        apply Classical.byContradiction
        intro h
        rw [(dt_no x1 x2 (.inr h)).1] at h0
        omega
      subst hs
      rw [← hxs, (dt_yes A M2 x1 x2).2]
      have g := HG.out.1.1.takeL HG.out.2.1
      have kk := takeL_keys HG.out.1.2 HG.out.2.2
      have a12 := HDO.out.1
      exact ⟨g, DdOk.of g a12.ld.m2 a12.ld.m3 a12.a1 a12.a2 kk, good_len g a12.a1 a12.a2 kk⟩
    rw [hE, hxs] at HJN
    rw [hE, hxs] at HTK
    clear hE hxs HG HDO
    go_wp2_with fail
    refine HJN.out.mono ?_
    rintro _ w6 (⟨hE0, rfl, f6⟩ | ⟨rfl, vc, rfl, acc⟩)
    · have HT6 := Lib.hid (HTK.out _ (F35.out.trans0 f6))
      have F36 := Lib.hid (F3.out.trans0 (F35.out.trans0 f6))
      have HS6 := Lib.hid (And.intro (HSA.out.fr0 f6) (HSB.out.fr0 f6))
      have hz : ((E : Int) != 0) = true := by rw [bne_iff_ne]; omega
      have hz2 : ((E : Int) == 0) = false := by rw [beq_eq_false_iff_ne]; omega
      have hz3 : ((E : Int) != (E : Int)) = false := by simp
      clear f6 HTK HJN F35 F3 HSA HSB hE0 HDX
      go_wp2_with fail
      refine HT6.out.mono ?_
      rintro _ w7 ⟨rfl, -, f7⟩
      have FZ : Hid (Fr S0 w w7) := Lib.hid (F36.out.trans f7 fun x hx e => by have h1 := HD.out.2; have h2 : x = d1 := e; omega)
      have HJC : Hid (∀ C, C < N2 → ∀ W, Fr S0 w7 W → _) := Lib.hid fun C hC W (f : Fr S0 w7 W) => HJC0.out C hC W ((HS6.out.1.fr f7 fun _ => HOFF.out.1).fr0 f) ((HS6.out.2.fr f7 fun _ => HOFF.out.2).fr0 f)
      clear f7 F36 HS6 HJC0 HT6 HOFF HD hEb
      by_cases hcu : 0 ≤ cut ∧ cut < (N2 : Int)
      · obtain ⟨C, rfl⟩ : ∃ C : Nat, cut = C := ⟨cut.toNat, by omega⟩
        obtain ⟨-, hcu2⟩ := hcu
        have hcd : (C : Int) ≤ (db : Int) := by omega
        have hC2 : C < N2 := by omega
        have HJ1 := Lib.hid (fun W (f : Fr S0 w7 W) => HJC.out C hC2 W f)
        clear HJC
        go_wp2_with fail
        refine (HJ1.out _ (Fr.refl S0 _)).1.mono ?_
        rintro _ w8 ⟨rfl, f8⟩
        have F8 := Lib.hid f8
        clear f8
        go_wp2_with fail
        refine (HJ1.out _ F8.out).2.mono ?_
        rintro _ w9 ⟨rfl, f9⟩
        have F9 := Lib.hid (FZ.out.trans0 (F8.out.trans0 f9))
        clear f9 HJ1 F8
        go_wp2_with fail
        go_ret
        exact ⟨rfl, F9.out⟩
      · have F9 := Lib.hid (FZ.out)
        have hc0 : cut < 0 ∨ (N2 : Int) ≤ cut := by omega
        clear hcu HJC
        by_cases hc1 : cut < 0
        · clear hc0
          go_wp2_with fail
          go_ret
          exact ⟨rfl, F9.out⟩
        · have hc2 : (N2 : Int) ≤ cut := hc0.resolve_left hc1
          clear hc0
          go_wp2_with fail
          go_ret
          exact ⟨rfl, F9.out⟩
    · rw [show ((0 : Nat) : Int) = 0 from rfl] at HTK
      have FACC := Lib.hid acc
      have HT6 := Lib.hid (HTK.out _ (F35.out.trans0 acc.fr))
      have F36 := Lib.hid (F3.out.trans0 (F35.out.trans0 acc.fr))
      have HS6 := Lib.hid (And.intro (HSA.out.fr0 acc.fr) (HSB.out.fr0 acc.fr))
      obtain ⟨-, hdx, hlx⟩ := HDX.out rfl
      obtain ⟨gx, -⟩ := HDX.out rfl
      have HXX := Lib.hid (And.intro gx (And.intro hdx hlx))
      clear hdx hlx gx
      obtain ⟨T, hT⟩ : ∃ T, ddB A M (cutN xs M) (cutA xs M) = T := ⟨_, rfl⟩
      rw [hT] at FACC
      have HTT := Lib.hid hT
      clear acc hT HTK HJN HSA HSB HDX
      obtain ⟨qc, dc, rfl, -⟩ := FACC.out.sl
      have HCO : Hid (Off (· = d1) qc) := Lib.hid (FACC.out.off (Nat.lt_of_lt_of_le HD.out.1 F35.out.size))
      have HCS := Lib.hid (SlI.ofOwns FACC.out.own)
      clear FACC F35 F3
      go_wp2_with fail
      refine HT6.out.mono ?_
      rintro _ w7 ⟨rfl, doc, f7⟩
      have FZ : Hid (Fr S0 w w7) := Lib.hid (F36.out.trans f7 fun x hx e => by have h1 := HD.out.2; have h2 : x = d1 := e; omega)
      have HJC : Hid (∀ C, C < N2 → ∀ W, Fr S0 w7 W → _) := Lib.hid fun C hC W (f : Fr S0 w7 W) => HJC0.out C hC W ((HS6.out.1.fr f7 fun _ => HOFF.out.1).fr0 f) ((HS6.out.2.fr f7 fun _ => HOFF.out.2).fr0 f)
      obtain ⟨qd, cd, pz, nz, cz, hb, -, hpz, hnz, -, -⟩ := doc.ex
      obtain ⟨nc, hnc⟩ : ∃ n, T.length = n := ⟨_, rfl⟩
      have HC := Lib.hid (fun W (f : Fr S0 w7 W) => And.intro (cell_four (f.row hb fun h => h)).2.1 (And.intro (cell_four (f.row hb fun h => h)).2.2.1 (And.intro (cell_four (f.row hb fun h => h)).2.2.2 (sl_txt (((HCS.out.fr f7 fun _ => HCO.out)).fr0 f) hnc (d := dc)))))
      have HOF := Lib.hid (fun W (f : Fr S0 w7 W) => by
        have h := rof_any A M nz cz pz xs W (hpz.fr0 f) hnz (by have := HXX.out.2.2; omega) HXX.out.2.1 (by have := HXX.out.1.tot; omega)
        rw [HTT.out] at h
        exact h)
      rw [hnc]
      clear f7 F36 HS6 HJC0 HT6 HOFF HD hEb hb hpz hnz doc HCO HCS HXX HTT hnc
      go_wp2_with fail
      refine wp_region_noPanic ?_
      refine wp_region_held_drew (S := fun w' => Fr S0 w7 w' ∧ w'.cell? ⟨d1, 1, none⟩ = some (.int .i64 (A : Nat)) ∧ w'.cell? ⟨d1, 2, none⟩ = some (.int .i64 (M : Nat)) ∧ w'.cell? ⟨d1, 3, none⟩ = some (.slice pz nz cz) ∧ (convert 30 9 (.slice qc nc dc)).run Tryz.prog w' = .ok (.string (strB T)) w') (by kernel_rfl) ⟨Fr.drew S0 w7, HC.out _ (Fr.drew S0 w7)⟩ (fun hHeld0 => ?_)
      refine wpAnyH_take (i := 0) (oi := Oper.mk (some 85) _ _ _ _ _) (v := ?_) rfl (by as_aux_lemma => kernel_rfl) (by as_aux_lemma => kernel_rfl) (by as_aux_lemma => kernel_rfl) (fun _ _ _ h => h) (Or.inl ⟨by rfl, ?_⟩) (by assumption) ?_
      rotate_left
      · (intro w hSw; obtain ⟨hf, h1, h2, h3, h4⟩ := hSw; go_simp <;> with_reducible rfl)
      simp only [Act.put, List.setIfInBounds_toArray, List.set_cons_zero, List.set_cons_succ]
      refine wpAnyH_take (i := 1) (oi := Oper.mk (some 86) _ _ _ _ _) (v := ?_) rfl (by as_aux_lemma => kernel_rfl) (by as_aux_lemma => kernel_rfl) (by as_aux_lemma => kernel_rfl) (fun _ _ _ h => h) (Or.inl ⟨by rfl, ?_⟩) (by assumption) ?_
      rotate_left
      · (intro w hSw; obtain ⟨hf, h1, h2, h3, h4⟩ := hSw; go_simp <;> with_reducible rfl)
      simp only [Act.put, List.setIfInBounds_toArray, List.set_cons_zero, List.set_cons_succ]
      refine wpAnyH_take (i := 2) (oi := Oper.mk (some 87) _ _ _ _ _) (v := ?_) rfl (by as_aux_lemma => kernel_rfl) (by as_aux_lemma => kernel_rfl) (by as_aux_lemma => kernel_rfl) (fun _ _ _ h => h) (Or.inl ⟨by rfl, ?_⟩) (by assumption) ?_
      rotate_left
      · (intro w hSw; obtain ⟨hf, h1, h2, h3, h4⟩ := hSw; go_simp <;> with_reducible rfl)
      simp only [Act.put, List.setIfInBounds_toArray, List.set_cons_zero, List.set_cons_succ]
      refine wpAnyH_take (i := 3) (oi := Oper.mk (some 88) _ _ _ _ _) (v := ?_) rfl (by as_aux_lemma => kernel_rfl) (by as_aux_lemma => kernel_rfl) (by as_aux_lemma => kernel_rfl) (fun _ _ _ h => h) (Or.inl ⟨by rfl, ?_⟩) (by assumption) ?_
      rotate_left
      · (intro w hSw; obtain ⟨hf, h1, h2, h3, h4⟩ := hSw; go_simp <;> with_reducible rfl)
      simp only [Act.put, List.setIfInBounds_toArray, List.set_cons_zero, List.set_cons_succ]
      refine wpAnyH_take (i := 4) (oi := Oper.mk (some 89) _ _ _ _ _) (v := ?_) rfl (by as_aux_lemma => kernel_rfl) (by as_aux_lemma => kernel_rfl) (by as_aux_lemma => kernel_rfl) (fun _ _ _ h => h) (Or.inl ⟨by rfl, ?_⟩) (by assumption) ?_
      rotate_left
      · (intro w hSw; obtain ⟨hf, h1, h2, h3, h4⟩ := hSw; go_simp <;> with_reducible rfl)
      simp only [Act.put, List.setIfInBounds_toArray, List.set_cons_zero, List.set_cons_succ]
      refine wpAnyH_take (i := 5) (oi := Oper.mk (some 90) _ _ _ _ _) (v := ?_) rfl (by as_aux_lemma => kernel_rfl) (by as_aux_lemma => kernel_rfl) (by as_aux_lemma => kernel_rfl) (fun _ _ _ h => h) (Or.inl ⟨by rfl, ?_⟩) (by assumption) ?_
      rotate_left
      · (intro w hSw; obtain ⟨hf, h1, h2, h3, h4⟩ := hSw; go_simp <;> with_reducible rfl)
      simp only [Act.put, List.setIfInBounds_toArray, List.set_cons_zero, List.set_cons_succ]
      refine wpAnyH_take (i := 6) (oi := Oper.mk (some 91) _ _ _ _ _) (v := ?_) rfl (by as_aux_lemma => kernel_rfl) (by as_aux_lemma => kernel_rfl) (by as_aux_lemma => kernel_rfl) (fun _ _ _ h => h) (Or.inl ⟨by rfl, ?_⟩) (by assumption) ?_
      rotate_left
      · (intro w hSw; obtain ⟨hf, h1, h2, h3, h4⟩ := hSw; go_simp <;> with_reducible rfl)
      simp only [Act.put, List.setIfInBounds_toArray, List.set_cons_zero, List.set_cons_succ]
      refine wpAnyH_take (i := 7) (oi := Oper.mk (some 92) _ _ _ _ _) (v := ?_) rfl (by as_aux_lemma => kernel_rfl) (by as_aux_lemma => kernel_rfl) (by as_aux_lemma => kernel_rfl) (fun _ _ _ h => h) (Or.inl ⟨by rfl, ?_⟩) (by assumption) ?_
      rotate_left
      · (intro w hSw; obtain ⟨hf, h1, h2, h3, h4⟩ := hSw; go_simp <;> with_reducible rfl)
      simp only [Act.put, List.setIfInBounds_toArray, List.set_cons_zero, List.set_cons_succ]
      refine wpAnyH_take (i := 8) (oi := Oper.mk (some 93) _ _ _ _ _) (v := ?_) rfl (by as_aux_lemma => kernel_rfl) (by as_aux_lemma => kernel_rfl) (by as_aux_lemma => kernel_rfl) (fun _ _ _ h => h) (Or.inl ⟨by rfl, ?_⟩) (by assumption) ?_
      rotate_left
      · (intro w hSw; obtain ⟨hf, h1, h2, h3, h4⟩ := hSw; go_simp <;> with_reducible rfl)
      simp only [Act.put, List.setIfInBounds_toArray, List.set_cons_zero, List.set_cons_succ]
      refine wpAnyH_take (i := 9) (oi := Oper.mk (some 94) _ _ _ _ _) (v := ?_) rfl (by as_aux_lemma => kernel_rfl) (by as_aux_lemma => kernel_rfl) (by as_aux_lemma => kernel_rfl) (fun _ _ _ h => h) (Or.inl ⟨by rfl, ?_⟩) (by assumption) ?_
      rotate_left
      · (intro w hSw; obtain ⟨hf, h1, h2, h3, h4⟩ := hSw; go_simp <;> with_reducible rfl)
      simp only [Act.put, List.setIfInBounds_toArray, List.set_cons_zero, List.set_cons_succ]
      refine wpAnyH_take (i := 10) (oi := Oper.mk (some 95) _ _ _ _ _) (v := ?_) rfl (by as_aux_lemma => kernel_rfl) (by as_aux_lemma => kernel_rfl) (by as_aux_lemma => kernel_rfl) (fun _ _ _ h => h) (Or.inl ⟨by rfl, ?_⟩) (by assumption) ?_
      rotate_left
      · (intro w hSw; obtain ⟨hf, h1, h2, h3, h4⟩ := hSw; go_simp <;> with_reducible rfl)
      simp only [Act.put, List.setIfInBounds_toArray, List.set_cons_zero, List.set_cons_succ]
      refine wpAnyH_take (i := 11) (oi := Oper.mk (some 96) _ _ _ _ _) (v := ?_) rfl (by as_aux_lemma => kernel_rfl) (by as_aux_lemma => kernel_rfl) (by as_aux_lemma => kernel_rfl) (fun _ _ _ h => h) (Or.inl ⟨by rfl, ?_⟩) (by assumption) ?_
      rotate_left
      · (intro w hSw; obtain ⟨hf, h1, h2, h3, h4⟩ := hSw; go_simp <;> with_reducible rfl)
      simp only [Act.put, List.setIfInBounds_toArray, List.set_cons_zero, List.set_cons_succ]
      refine wpAnyH_take (i := 12) (oi := Oper.mk (some 97) _ _ _ _ _) (v := ?_) rfl (by as_aux_lemma => kernel_rfl) (by as_aux_lemma => kernel_rfl) (by as_aux_lemma => kernel_rfl) (fun _ _ _ h => h) (Or.inl ⟨by rfl, ?_⟩) (by assumption) ?_
      rotate_left
      · (intro w hSw; obtain ⟨hf, h1, h2, h3, h4⟩ := hSw; go_simp <;> with_reducible rfl)
      simp only [Act.put, List.setIfInBounds_toArray, List.set_cons_zero, List.set_cons_succ]
      refine wpAnyH_take (i := 13) (oi := Oper.mk (some 98) _ _ _ _ _) (v := ?_) rfl (by as_aux_lemma => kernel_rfl) (by as_aux_lemma => kernel_rfl) (by as_aux_lemma => kernel_rfl) (fun _ _ _ h => h) (Or.inl ⟨by rfl, ?_⟩) (by assumption) ?_
      rotate_left
      · (intro w hSw; obtain ⟨hf, h1, h2, h3, h4⟩ := hSw; go_simp <;> with_reducible rfl)
      simp only [Act.put, List.setIfInBounds_toArray, List.set_cons_zero, List.set_cons_succ]
      refine wpAnyH_take (i := 14) (oi := Oper.mk (some 99) _ _ _ _ _) (v := ?_) rfl (by as_aux_lemma => kernel_rfl) (by as_aux_lemma => kernel_rfl) (by as_aux_lemma => kernel_rfl) (fun _ _ _ h => h) (Or.inl ⟨by rfl, ?_⟩) (by assumption) ?_
      rotate_left
      · (intro w hSw; obtain ⟨hf, h1, h2, h3, h4⟩ := hSw; go_simp <;> with_reducible rfl)
      simp only [Act.put, List.setIfInBounds_toArray, List.set_cons_zero, List.set_cons_succ]
      refine wpAnyH_take (i := 15) (oi := Oper.mk (some 100) _ _ _ _ _) (v := ?_) rfl (by as_aux_lemma => kernel_rfl) (by as_aux_lemma => kernel_rfl) (by as_aux_lemma => kernel_rfl) (fun _ _ _ h => h) (Or.inl ⟨by rfl, ?_⟩) (by assumption) ?_
      rotate_left
      · (intro w hSw; obtain ⟨hf, h1, h2, h3, h4⟩ := hSw; go_simp <;> with_reducible rfl)
      simp only [Act.put, List.setIfInBounds_toArray, List.set_cons_zero, List.set_cons_succ]
      refine wpAnyH_take (i := 16) (oi := Oper.mk (some 101) _ _ _ _ _) (v := ?_) rfl (by as_aux_lemma => kernel_rfl) (by as_aux_lemma => kernel_rfl) (by as_aux_lemma => kernel_rfl) (fun _ _ _ h => h) (Or.inl ⟨by rfl, ?_⟩) (by assumption) ?_
      rotate_left
      · (intro w hSw; obtain ⟨hf, h1, h2, h3, h4⟩ := hSw; go_simp <;> with_reducible rfl)
      simp only [Act.put, List.setIfInBounds_toArray, List.set_cons_zero, List.set_cons_succ]
      refine wpAnyH_ready (rs := [17]) (by kernel_rfl) (by simp) (AllReadyH.cons (o := Oper.mk (some 102) _ _ _ _ _) rfl (fun K hK => ?_) AllReadyH.nil)
      go_simp
      go_at_call 12
      refine (HOF.out _ hHeld0.1).mono ?_
      rintro _ v1 ⟨vw, rfl, acc⟩
      obtain ⟨qw, dw, rfl, sw, -⟩ := acc.sl
      have tw := sl_txt sw rfl (d := dw)
      refine hK.out _ _ ⟨hHeld0.1.trans0 acc.fr, HC.out _ (hHeld0.1.trans0 acc.fr)⟩ (fun hHeld1 => ?_)
      clear hK K hHeld0 acc sw
      try simp only [Act.put, List.setIfInBounds_toArray, List.set_cons_zero, List.set_cons_succ]
      refine wpAnyH_ready (rs := [18]) (by kernel_rfl) (by simp) (AllReadyH.cons (o := Oper.mk (some 103) _ _ _ _ _) rfl (fun K hK => ?_) AllReadyH.nil)
      go_simp
      refine hK.out _ _ hHeld1 (fun hHeld2 => ?_)
      clear hK K hHeld1 tw
      try simp only [Act.put, List.setIfInBounds_toArray, List.set_cons_zero, List.set_cons_succ]
      refine wpAnyH_take (i := 19) (oi := Oper.mk (some 104) _ _ _ _ _) (v := ?_) rfl (by as_aux_lemma => kernel_rfl) (by as_aux_lemma => kernel_rfl) (by as_aux_lemma => kernel_rfl) (fun _ _ _ h => h) (Or.inl ⟨by rfl, ?_⟩) (by assumption) ?_
      rotate_left
      · (intro w hSw; obtain ⟨hf, h1, h2, h3, h4⟩ := hSw; go_simp <;> with_reducible rfl)
      simp only [Act.put, List.setIfInBounds_toArray, List.set_cons_zero, List.set_cons_succ]
      refine wpAnyH_take (i := 20) (oi := Oper.mk (some 105) _ _ _ _ _) (v := ?_) rfl (by as_aux_lemma => kernel_rfl) (by as_aux_lemma => kernel_rfl) (by as_aux_lemma => kernel_rfl) (fun _ _ _ h => h) (Or.inl ⟨by rfl, ?_⟩) (by assumption) ?_
      rotate_left
      · (intro w hSw; obtain ⟨hf, h1, h2, h3, h4⟩ := hSw; go_simp <;> with_reducible rfl)
      simp only [Act.put, List.setIfInBounds_toArray, List.set_cons_zero, List.set_cons_succ]
      have F7 := Lib.hid hHeld2.1
      clear hHeld2
      refine wpAnyH_done (by kernel_rfl) ?_ _
      refine NoPanic.normal ?_
      by_cases hcu : 0 ≤ cut ∧ cut < (N2 : Int)
      · obtain ⟨C, rfl⟩ : ∃ C : Nat, cut = C := ⟨cut.toNat, by omega⟩
        obtain ⟨-, hcu2⟩ := hcu
        have hcd : (C : Int) ≤ (db : Int) := by omega
        have hC2 : C < N2 := by omega
        have HJ1 := Lib.hid (fun W (f : Fr S0 v1 W) => HJC.out C hC2 W (F7.out.trans0 f))
        clear HJC
        go_wp2_with fail
        refine (HJ1.out _ (Fr.refl S0 _)).1.mono ?_
        rintro _ w8 ⟨rfl, f8⟩
        have F8 := Lib.hid f8
        clear f8
        go_wp2_with fail
        refine (HJ1.out _ F8.out).2.mono ?_
        rintro _ w9 ⟨rfl, f9⟩
        have F9 := Lib.hid (FZ.out.trans0 (F7.out.trans0 (F8.out.trans0 f9)))
        clear f9 HJ1 F8
        go_wp2_with fail
        go_ret
        exact ⟨rfl, F9.out⟩
      · have F9 := Lib.hid (FZ.out.trans0 F7.out)
        have hc0 : cut < 0 ∨ (N2 : Int) ≤ cut := by omega
        clear hcu HJC
        by_cases hc1 : cut < 0
        · clear hc0
          go_wp2_with fail
          go_ret
          exact ⟨rfl, F9.out⟩
        · have hc2 : (N2 : Int) ≤ cut := hc0.resolve_left hc1
          clear hc0
          go_wp2_with fail
          go_ret
          exact ⟨rfl, F9.out⟩
end
end Go.Proofs.YtaemgflhgdlmiaaGreat
