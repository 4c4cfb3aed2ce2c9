/- TwLawJoins -/
import Derived.Test.YtmieeoceckcnkaaGreatPz1
import Derived.Test.YtmieeoceckcnkaaGreatPz2
import Derived.Test.YtmieeoceckcnkaaGreatPz3
import Derived.Test.YtmieeoceckcnkaaGreatPz4
import Derived.Test.YtmieeoceckcnkaaGreatPz5
import Derived.Test.YtmieeoceckcnkaaGreatPz6
import Derived.Test.YtmieeoceckcnkaaGreatPz7
import Derived.Test.YtmieeoceckcnkaaGreatPz8
import Derived.Test.YtmieeoceckcnkaaGreatPz9
import Derived.Test.YtmieeoceckcnkaaGreatPz10
import Derived.Test.YtmieeoceckcnkaaGreatPz11
import Derived.Test.YtmieeoceckcnkaaGreatPz12
import Derived.Test.YtmieeoceckcnkaaGreatPz13
import Derived.Test.YtmieeoceckcnkaaGreatPz14
import Derived.Test.YtmieeoceckcnkaaGreatPz15
import Derived.Test.YtmieeoceckcnkaaGreatPz16
import Derived.Test.YtmieeoceckcnkaaGreatPz18
import Derived.Test.YtmieeoceckcnkaaGreatPz19
import Derived.Test.YtmieeoceckcnkaaGreatPz20
import Derived.Test.YtmieeoceckcnkaaGreatPz21
import Derived.Test.YtmieeoceckcnkaaGreatPz22
import Derived.Test.YtmieeoceckcnkaaGreatPz23
import Derived.Test.YtmieeoceckcnkaaGreatPz24
import Derived.Test.YtmieeoceckcnkaaGreatPz25
import Derived.Test.YtmieeoceckcnkaaGreatPz26
import Derived.Test.YtmieeoceckcnkaaGreatPz27
import Derived.Test.YtmieeoceckcnkaaGreatPz29
import Derived.BigQuiet
import Derived.Lib.AppendZerosOnto
import Derived.Lib.SliceRun
import Derived.Lib.Walk
import Derived.StillTailTactics
import Derived.Deep.RegionLaw
import Derived.Deep.RegionHeld3
import Derived.BigRegion
import Derived.Maps.AppendAt
import Derived.Laws.AppendOwnNone
import Derived.Laws.OwnMore
import Derived.Laws.Externs
import Derived.Shelf.Spec.BitsCarry
import Derived.Deep.CutBlock
import Derived.Deep.CutRange
import Derived.Deep.DeepCutAuto
import Derived.Lib.BitFns
import Derived.Shelf.Small.Bits
import Derived.Shelf.Strconv.Itoa0
import Derived.Shelf.Bits.Mul64
import Derived.Test.YtmieeoceckcnkaaGreatRows
import Derived.WalkKit
import Derived.WalkSpells
import Derived.WalkLawsBesides
import Derived.Deep.QuietTactic
import Derived.RegionTactic
import Derived.Deep.AppendLies
import Derived.Laws.ResultCell
import Derived.Laws.EntriesVeiled
import Derived.Lib.Hide
import Derived.Laws.BytesArg
import Derived.Lib.SlBytesConst
import Derived.Defers
import Derived.Recover
import Derived.Deep.RegionHeld2
import Derived.Laws.BitsAllLaws
set_option maxRecDepth 100000
set_option maxHeartbeats 8000000
namespace Go.Proofs.YtmieeoceckcnkaaGreat
open Go.RowKit
theorem AccB.offR {w W : World} {q : Option Addr} {n c : Nat} {l : List Nat} (h : AccB w W (.slice q n c) n l) {S : Nat → Prop} (hS : ∀ b, S b → b < w.heap.size) : Off S q := fun a ha hs => by
  subst ha
  have h1 := h.fresh a.block rfl
  have h2 := hS _ hs
  omega
theorem join_bad (q1 q2 : Option Addr) (d1 n1 d2 n2 : Nat) (l1 l2 : List Nat) (w : World) (hn1 : l1.length = n1) (hl1 : SlI w .u8 q1 l1) (h81 : ∀ x ∈ l1, x < 256) (hq1 : q1 = none → d1 = 0) (hL1 : n1 ≤ 1000000)
    (hn2 : l2.length = n2) (hl2 : SlI w .u8 q2 l2) (h82 : ∀ x ∈ l2, x < 256) (hq2 : q2 = none → d2 = 0) (hL2 : n2 ≤ 1000000) (hno : (¬ ∃ x, RdOk l1 x) ∨ ¬ ∃ x, RdOk l2 x) :
    Calls Tryz.prog 17 #[.slice q1 n1 d1, .slice q2 n2 d2] w fun e w' => e = .returned (.tuple #[.slice none 0 0, .int .i64 9]) ∧ Fr S0 w w' := by
  refine (tjoin_any q1 q2 d1 n1 d2 n2 l1 l2 w hn1 hl1 h81 hq1 hL1 hn2 hl2 h82 hq2 hL2).mono fun e w' h => ?_
  rcases h with ⟨-, h⟩ | ⟨x, y, h1, h2, -⟩
  · exact h
  · rcases hno with h | h
    · exact absurd ⟨_, h1⟩ h
    · exact absurd ⟨_, h2⟩ h
section
variable (d : Nat) (p : Option Addr) (n c : Nat) (vs : List Int) (pk : Option Addr) (nk ck : Nat) (ks : List Int) (q : Option Addr) (k c2 : Nat) (ns : List Nat) (other : Bool) (cut : Int) (w : World)
theorem law_joins (hd : d < 65536) (hn : vs.length = n) (hz : ZI w p vs) (hvb : ∀ v ∈ vs, -9223372036854775808 ≤ v ∧ v ≤ 9223372036854775807) (hnk : ks.length = nk) (hzk : ZI w pk ks) (hkb : ∀ v ∈ ks, -9223372036854775808 ≤ v ∧ v ≤ 9223372036854775807)
    (hk : ns.length = k) (hq : SlI w .u16 q ns) (hb : ∀ n ∈ ns, n < 65536) :
    Calls Tryz.prog 5 #[.int .u16 (d : Nat), .slice p n c, .slice pk nk ck, .slice q k c2, .bool other, .int .i64 cut] w fun e w' => e = .returned (.bool true) ∧ Fr S0 w w' := by
  have HAL := Lib.hid (alive23_any w)
  have HR := Lib.hid (fun W (f : Fr S0 w W) => added23_any d p n c vs q k c2 ns false W hn (hz.fr0 f) hvb hk (hq.fr0 f) hb)
  have HR2 := Lib.hid (fun D2 W (f : Fr S0 w W) => added23_any D2 pk nk ck ks none 0 0 [] true W hnk (hzk.fr0 f) hkb rfl (SlI.nil _ _ _) (fun _ h => by cases h))
  have HM1 := Lib.hid (made_ok (d := d) (ns := ns) (press := false) hvb).1
  have HMD := Lib.hid (fun D2 => (made_ok (d := D2) (ns := []) (press := true) hkb).1)
  obtain ⟨x, ex⟩ : ∃ x, made23 d vs ns false = x := ⟨_, rfl⟩
  rw [ex] at HR HM1
  obtain ⟨D3, eD3⟩ : ∃ D3, (d + 1) % 65536 = D3 := ⟨_, rfl⟩
  have iD3 : ((d : Int) + 1) % 65536 = (D3 : Int) := by omega
  have iD4 : IntKind.u16.wrap ((d : Int) + 1) = (D3 : Int) := by rw [← iD3]; simp [IntKind.wrap, IntKind.bits, IntKind.signed]
  have hdb : (d : Int) < 65536 := by omega
  have hD3b : (D3 : Int) < 65536 := by omega
  clear hn hz hvb hnk hzk hkb hk hq hb ex eD3 hd
  go_enter Tryz.func5, Tryz.ntmps5
  go_wp2_with fail
  refine HAL.out.mono ?_
  rintro e w1 ⟨rfl, f1⟩
  have F1 := Lib.hid f1
  clear f1 HAL
  go_wp2_with fail
  refine (HR.out _ F1.out).mono ?_
  rintro e w2 ⟨g, r, rfl, b⟩
  have HB1 := Lib.hid b
  clear b HR
  cases other with
  | false =>
    have HRR := Lib.hid (HR2.out d)
    have HM2 := Lib.hid (HMD.out d)
    obtain ⟨y, ey⟩ : ∃ y, made23 d ks [] true = y := ⟨_, rfl⟩
    rw [ey] at HRR HM2
    clear ey HR2 HMD
    go_wp2_with fail
    refine (HRR.out _ (F1.out.trans0 HB1.out.fr)).mono ?_
    rintro _ w3 ⟨g2, r2, rfl, b2⟩
    have HB2 := Lib.hid b2
    have F3 := Lib.hid ((F1.out.trans0 HB1.out.fr).trans0 b2.fr)
    have HW1 := Lib.hid (nd_write (HB1.out.fr0 b2.fr).nd (by have := HM1.out.len; omega))
    have HW2 := Lib.hid (fun W (f : Fr S0 w3 W) => nd_write (b2.fr0 f).nd (by have := HM2.out.len; omega))
    obtain ⟨C1, R1, -, hR1, -, -, hR1w⟩ := HB1.out.ex
    obtain ⟨C2, R2, -, hR2, -⟩ := b2.ex
    have HTK := Lib.hid (fun W (f : Fr S0 w3 W) => (let ⟨p1, n1, c1, q1, m1, e1, s1⟩ := hR1.fr0 (b2.fr.trans0 f); let ⟨p2, n2, c2, q2, m2, e2, s2⟩ := hR2.fr0 f; rtake_any r R1 p1 n1 c1 q1 m1 e1 x W r2 R2 p2 n2 c2 q2 m2 e2 y s1 s2 (by have := HM1.out.len; have := HM2.out.len; omega) : Calls Tryz.prog 18 #[.pointer (some ⟨r, 0, none⟩), .pointer (some ⟨r2, 0, none⟩)] W fun e w' => e = .returned (.int .i64 (x.takeE y : Nat)) ∧ RTurn W w' r R1 (x.take y)))
    have HRB : Hid (∀ b, R1 b → b < w3.heap.size ∧ w.heap.size ≤ b) := Lib.hid fun b hb => ⟨Nat.lt_of_lt_of_le (hR1.below b hb) b2.fr.size, by
      have h1 := hR1w b hb
      have h2 := F1.out.size
      omega⟩
    have htl := take_all_len HM1.out.good HM2.out.good
    have HTL : Hid ((x.take y).all.length ≤ 160) := Lib.hid (by have := HM1.out.len; have := HM2.out.len; omega)
    obtain ⟨P1, eP1⟩ : ∃ P, x.bytes = P := ⟨_, rfl⟩
    obtain ⟨P2, eP2⟩ : ∃ P, y.bytes = P := ⟨_, rfl⟩
    have HRK : Hid (RdOk P1 x ∧ RdOk P2 y) := Lib.hid ⟨⟨eP1.symm, HM1.out.good, HM1.out.few⟩, ⟨eP2.symm, HM2.out.good, HM2.out.few⟩⟩
    have HPL : Hid ((P1.length ≤ 5000 ∧ ∀ b ∈ P1, b < 256) ∧ P2.length ≤ 5000 ∧ ∀ b ∈ P2, b < 256) := Lib.hid ⟨⟨by have h1 := bytes_len x; have h2 := HM1.out.len; rw [eP1] at h1; omega, by rw [← eP1]; exact bytes_lt x⟩, by have h1 := bytes_len y; have h2 := HM2.out.len; rw [eP2] at h1; omega, by rw [← eP2]; exact bytes_lt y⟩
    have HPE := Lib.hid eP2
    rw [eP1] at HW1
    rw [eP2] at HW2
    clear b2 hR1 hR2 htl eP1 eP2 HRR HB1 HB2
    go_wp2_with fail
    refine HW1.out.mono ?_
    rintro _ w4 ⟨va, rfl, acc1⟩
    have AC1 := Lib.hid acc1
    obtain ⟨qa, da, rfl, -, ca, -⟩ := acc1.sl
    clear acc1 HW1
    go_wp2_with fail
    refine (HW2.out _ AC1.out.fr).mono ?_
    rintro _ w5 ⟨vb, rfl, acc2⟩
    have AC2 := Lib.hid acc2
    obtain ⟨qb, db, rfl, -, cb, hdb, -⟩ := acc2.sl
    have HSA : Hid (SlI w5 .u8 qa P1) := Lib.hid ((SlI.ofOwns AC1.out.own).fr0 acc2.fr)
    have HSB : Hid (SlI w5 .u8 qb P2) := Lib.hid (SlI.ofOwns acc2.own)
    have HCC := Lib.hid (And.intro ca cb)
    clear acc2 HW2 ca cb
    obtain ⟨N1, hN1⟩ : ∃ N, P1.length = N := ⟨_, rfl⟩
    obtain ⟨N2, hN2⟩ : ∃ N, P2.length = N := ⟨_, rfl⟩
    rw [hN1] at AC1 HPL
    rw [hN2] at AC2 HPL hdb
    have HNN := Lib.hid (And.intro hN1 hN2)
    have HJN := Lib.hid (tjoin_any qa qb da N1 db N2 P1 P2 w5 hN1 HSA.out HPL.out.1.2 HCC.out.1 (by have := HPL.out.1.1; omega) hN2 HSB.out HPL.out.2.2 HCC.out.2 (by have := HPL.out.2.1; omega))
    have F35 := Lib.hid (AC1.out.fr.trans0 AC2.out.fr)
    rw [hN1, hN2]
    clear hN1 hN2
    have HJC0 : Hid (∀ C, C < N2 → ∀ W, SlI W .u8 qa P1 → SlI W .u8 qb P2 →
        Calls Tryz.prog 17 #[.slice qa N1 da, .slice qb C db] W (fun e w' => e = .returned (.tuple #[.slice none 0 0, .int .i64 9]) ∧ Fr S0 W w') ∧
        Calls Tryz.prog 17 #[.slice qb C db, .slice qa N1 da] W (fun e w' => e = .returned (.tuple #[.slice none 0 0, .int .i64 9]) ∧ Fr S0 W w')) := Lib.hid fun C hC W h1 h2 => by
      have hno : ¬ ∃ z, RdOk (P2.take C) z := by
        rintro ⟨z, h⟩
        rw [← HPE.out] at h
        exact rdOk_cut HM2.out.good (by rw [HPE.out, HNN.out.2]; exact hC) h
      have hl : (P2.take C).length = C := by rw [List.length_take, HNN.out.2]; omega
      have h8 : ∀ x ∈ P2.take C, x < 256 := fun x hx => HPL.out.2.2 x (List.mem_of_mem_take hx)
      have hb1 := HPL.out.1.1
      have hb2 := HPL.out.2.1
      exact ⟨join_bad qa qb da N1 db C P1 (P2.take C) W HNN.out.1 h1 HPL.out.1.2 HCC.out.1 (by omega) hl (h2.take C) h8 HCC.out.2 (by omega) (.inr hno),
        join_bad qb qa db C da N1 (P2.take C) P1 W hl (h2.take C) h8 HCC.out.2 (by omega) HNN.out.1 h1 HPL.out.1.2 HCC.out.1 (by omega) (.inl hno)⟩
    have HOFF : Hid (Off R1 qa ∧ Off R1 qb) := Lib.hid ⟨AC1.out.offR fun b hb => (HRB.out b hb).1, AC2.out.offR fun b hb => Nat.lt_of_lt_of_le (HRB.out b hb).1 AC1.out.fr.size⟩
    have H35 : Hid (w3.heap.size ≤ w5.heap.size) := Lib.hid F35.out.size
    obtain ⟨E, hE⟩ : ∃ E, x.takeE y = E := ⟨_, rfl⟩
    have hEb : E < 100 := by
      rw [← hE]
      unfold Dg.takeE
      split
      · decide
      · split
        · decide
        · split <;> decide
    obtain ⟨z, hz⟩ : ∃ z, x.take y = z := ⟨_, rfl⟩
    rw [hE, hz] at HTK
    rw [hz] at HTL
    have HEZ := Lib.hid (And.intro hE hz)
    clear HPE HPL HNN HCC AC1 AC2 hE hz HM1 HM2
    go_wp2_with fail
    refine HJN.out.mono ?_
    rintro _ w6 (⟨hno, -, -⟩ | ⟨x', y', ok1, ok2, hend⟩)
    · exact absurd hno (by rintro (h | h) <;> exact h ⟨_, by first | exact HRK.out.1 | exact HRK.out.2⟩)
    obtain rfl := rdOk_one HRK.out.1 ok1
    obtain rfl := rdOk_one HRK.out.2 ok2
    rw [HEZ.out.1, HEZ.out.2] at hend
    clear ok1 ok2 HRK HEZ HJN
    rcases hend with ⟨hE0, rfl, f6⟩ | ⟨rfl, vc, rfl, acc⟩
    · have HT6 := Lib.hid (HTK.out _ (F35.out.trans0 f6))
      have F36 := Lib.hid (F3.out.trans0 (F35.out.trans0 f6))
      have HS6 := Lib.hid (And.intro (HSA.out.fr0 f6) (HSB.out.fr0 f6))
      have hz : ((E : Int) != 0) = true := by rw [bne_iff_ne]; omega
      have hz2 : ((E : Int) == 0) = false := by rw [beq_eq_false_iff_ne]; omega
      have hz3 : ((E : Int) != (E : Int)) = false := by simp
      clear f6 HTK F35 F3 HSA HSB hE0
      go_wp2_with fail
      refine HT6.out.mono ?_
      rintro _ w7 ⟨rfl, t7⟩
      obtain ⟨-, -, f7, -⟩ := t7
      have FZ : Hid (Fr S0 w w7) := Lib.hid (F36.out.trans f7 fun j hj e => by have := (HRB.out j e).2; omega)
      have HJC : Hid (∀ C, C < N2 → ∀ W, Fr S0 w7 W → _) := Lib.hid fun C hC W (f : Fr S0 w7 W) => HJC0.out C hC W ((HS6.out.1.fr f7 fun _ => HOFF.out.1).fr0 f) ((HS6.out.2.fr f7 fun _ => HOFF.out.2).fr0 f)
      clear f7 F36 HS6 HJC0 HT6 HOFF hEb HRB H35
      go_wp2_with fail
      go_quiet (fail)
      by_cases hcu : 0 ≤ cut ∧ cut < (N2 : Int)
      · obtain ⟨CT, rfl⟩ : ∃ C : Nat, cut = C := ⟨cut.toNat, by omega⟩
        obtain ⟨-, hcu2⟩ := hcu
        have hC2 : CT < N2 := by omega
        have hcd : CT ≤ db := by omega
        have k1 : decide ((CT : Int) < 0) = false := decide_eq_false (by omega)
        have k2 : decide (N2 ≤ CT) = false := decide_eq_false (by omega)
        clear hcu2
        have HJ1 := Lib.hid (fun W (f : Fr S0 (w7.drewN nq) W) => HJC.out CT hC2 W ((Fr.drewN S0 w7 nq).trans0 f))
        clear HJC
        go_wp2_with fail
        refine (HJ1.out _ (Fr.refl S0 _)).1.mono ?_
        rintro _ w8 ⟨rfl, f8⟩
        have F8 := Lib.hid f8
        clear f8
        go_wp2_with fail
        refine (HJ1.out _ F8.out).2.mono ?_
        rintro _ w9 ⟨rfl, f9⟩
        have F9 := Lib.hid (FZ.out.trans0 ((Fr.drewN S0 w7 nq).trans0 (F8.out.trans0 f9)))
        clear f9 HJ1 F8
        go_wp2_with fail
        go_ret
        exact ⟨rfl, F9.out⟩
      · have F9 := Lib.hid (FZ.out.trans0 ((Fr.drewN S0 w7 nq).trans0 (Fr.refl S0 _)))
        have hc0 : cut < 0 ∨ (N2 : Int) ≤ cut := by omega
        clear hcu HJC
        by_cases hc1 : cut < 0
        · clear hc0
          go_wp2_with fail
          go_ret
          exact ⟨rfl, F9.out⟩
        · have hc2 : (N2 : Int) ≤ cut := hc0.resolve_left hc1
          clear hc0
          go_wp2_with fail
          go_ret
          exact ⟨rfl, F9.out⟩
    · rw [show ((0 : Nat) : Int) = 0 from rfl] at HTK
      have AC3 := Lib.hid acc
      have HT6 := Lib.hid (HTK.out _ (F35.out.trans0 acc.fr))
      have F36 := Lib.hid (F3.out.trans0 (F35.out.trans0 acc.fr))
      have HS6 := Lib.hid (And.intro (HSA.out.fr0 acc.fr) (HSB.out.fr0 acc.fr))
      obtain ⟨qc, dc, rfl, sc, -⟩ := acc.sl
      have HOFC : Hid (Off R1 qc) := Lib.hid (AC3.out.offR fun b hb => Nat.lt_of_lt_of_le (HRB.out b hb).1 H35.out)
      obtain ⟨P3, eP3⟩ : ∃ P, z.bytes = P := ⟨_, rfl⟩
      rw [eP3] at sc ⊢
      have HSC := Lib.hid sc
      obtain ⟨N3, hN3⟩ : ∃ N, P3.length = N := ⟨_, rfl⟩
      rw [hN3]
      have HN3 := Lib.hid (And.intro hN3 eP3)
      clear acc sc AC3 HTK F35 F3 HSA HSB hN3 eP3
      go_wp2_with fail
      refine HT6.out.mono ?_
      rintro _ w7 ⟨rfl, t7⟩
      obtain ⟨R3, r7, f7, -⟩ := t7
      have FZ : Hid (Fr S0 w w7) := Lib.hid (F36.out.trans f7 fun j hj e => by have := (HRB.out j e).2; omega)
      have HJC : Hid (∀ C, C < N2 → ∀ W, Fr S0 w7 W → _) := Lib.hid fun C hC W (f : Fr S0 w7 W) => HJC0.out C hC W ((HS6.out.1.fr f7 fun _ => HOFF.out.1).fr0 f) ((HS6.out.2.fr f7 fun _ => HOFF.out.2).fr0 f)
      have HC := Lib.hid (fun W (f : Fr S0 w7 W) => sl_txt ((HSC.out.fr f7 fun _ => HOFC.out).fr0 f) HN3.out.1 (d := dc))
      have HRW := Lib.hid (fun W (f : Fr S0 w7 W) => by
        have h := rwrite_of (r7.fr0 f) (by have := HTL.out; omega)
        rw [HN3.out.2] at h
        exact h)
      clear r7 f7 F36 HS6 HJC0 HT6 HOFF hEb HRB H35 HSC HOFC HTL
      go_wp2_with fail
      refine wp_region_noPanic ?_
      refine wp_region_held_drew (S := fun w' => Fr S0 w7 w' ∧ (convert 30 9 (.slice qc N3 dc)).run Tryz.prog w' = .ok (.string (strB P3)) w') (by kernel_rfl) ⟨Fr.drew S0 w7, HC.out _ (Fr.drew S0 w7)⟩ (fun hHeld0 => ?_)
      refine wpAnyH_take (i := 0) (oi := Oper.mk (some 73) _ _ _ _ _) (v := ?_) rfl (by as_aux_lemma => kernel_rfl) (by as_aux_lemma => kernel_rfl) (by as_aux_lemma => kernel_rfl) (fun _ _ _ h => h) (Or.inl ⟨by rfl, ?_⟩) (by assumption) ?_
      rotate_left
      · (intro w hSw; obtain ⟨hf, h1⟩ := hSw; go_simp <;> with_reducible rfl)
      simp only [Act.put, List.setIfInBounds_toArray, List.set_cons_zero, List.set_cons_succ]
      refine wpAnyH_take (i := 1) (oi := Oper.mk (some 74) _ _ _ _ _) (v := ?_) rfl (by as_aux_lemma => kernel_rfl) (by as_aux_lemma => kernel_rfl) (by as_aux_lemma => kernel_rfl) (fun _ _ _ h => h) (Or.inl ⟨by rfl, ?_⟩) (by assumption) ?_
      rotate_left
      · (intro w hSw; obtain ⟨hf, h1⟩ := hSw; go_simp <;> with_reducible rfl)
      simp only [Act.put, List.setIfInBounds_toArray, List.set_cons_zero, List.set_cons_succ]
      refine wpAnyH_take (i := 2) (oi := Oper.mk (some 75) _ _ _ _ _) (v := ?_) rfl (by as_aux_lemma => kernel_rfl) (by as_aux_lemma => kernel_rfl) (by as_aux_lemma => kernel_rfl) (fun _ _ _ h => h) (Or.inl ⟨by rfl, ?_⟩) (by assumption) ?_
      rotate_left
      · (intro w hSw; obtain ⟨hf, h1⟩ := hSw; go_simp <;> with_reducible rfl)
      simp only [Act.put, List.setIfInBounds_toArray, List.set_cons_zero, List.set_cons_succ]
      refine wpAnyH_take (i := 3) (oi := Oper.mk (some 76) _ _ _ _ _) (v := undef) rfl (by as_aux_lemma => kernel_rfl) (by as_aux_lemma => kernel_rfl) (by as_aux_lemma => kernel_rfl) (fun _ _ _ h => h) (Or.inr ⟨by rfl, rfl⟩) (by assumption) ?_
      simp only [Act.put, List.setIfInBounds_toArray, List.set_cons_zero, List.set_cons_succ]
      refine wpAnyH_take (i := 4) (oi := Oper.mk (some 77) _ _ _ _ _) (v := undef) rfl (by as_aux_lemma => kernel_rfl) (by as_aux_lemma => kernel_rfl) (by as_aux_lemma => kernel_rfl) (fun _ _ _ h => h) (Or.inr ⟨by rfl, rfl⟩) (by assumption) ?_
      simp only [Act.put, List.setIfInBounds_toArray, List.set_cons_zero, List.set_cons_succ]
      refine wpAnyH_take (i := 5) (oi := Oper.mk (some 78) _ _ _ _ _) (v := undef) rfl (by as_aux_lemma => kernel_rfl) (by as_aux_lemma => kernel_rfl) (by as_aux_lemma => kernel_rfl) (fun _ _ _ h => h) (Or.inr ⟨by rfl, rfl⟩) (by assumption) ?_
      simp only [Act.put, List.setIfInBounds_toArray, List.set_cons_zero, List.set_cons_succ]
      refine wpAnyH_take (i := 6) (oi := Oper.mk (some 79) _ _ _ _ _) (v := undef) rfl (by as_aux_lemma => kernel_rfl) (by as_aux_lemma => kernel_rfl) (by as_aux_lemma => kernel_rfl) (fun _ _ _ h => h) (Or.inr ⟨by rfl, rfl⟩) (by assumption) ?_
      simp only [Act.put, List.setIfInBounds_toArray, List.set_cons_zero, List.set_cons_succ]
      refine wpAnyH_take (i := 7) (oi := Oper.mk (some 80) _ _ _ _ _) (v := undef) rfl (by as_aux_lemma => kernel_rfl) (by as_aux_lemma => kernel_rfl) (by as_aux_lemma => kernel_rfl) (fun _ _ _ h => h) (Or.inr ⟨by rfl, rfl⟩) (by assumption) ?_
      simp only [Act.put, List.setIfInBounds_toArray, List.set_cons_zero, List.set_cons_succ]
      refine wpAnyH_take (i := 8) (oi := Oper.mk (some 81) _ _ _ _ _) (v := undef) rfl (by as_aux_lemma => kernel_rfl) (by as_aux_lemma => kernel_rfl) (by as_aux_lemma => kernel_rfl) (fun _ _ _ h => h) (Or.inr ⟨by rfl, rfl⟩) (by assumption) ?_
      simp only [Act.put, List.setIfInBounds_toArray, List.set_cons_zero, List.set_cons_succ]
      refine wpAnyH_take (i := 9) (oi := Oper.mk (some 82) _ _ _ _ _) (v := undef) rfl (by as_aux_lemma => kernel_rfl) (by as_aux_lemma => kernel_rfl) (by as_aux_lemma => kernel_rfl) (fun _ _ _ h => h) (Or.inr ⟨by rfl, rfl⟩) (by assumption) ?_
      simp only [Act.put, List.setIfInBounds_toArray, List.set_cons_zero, List.set_cons_succ]
      refine wpAnyH_take (i := 10) (oi := Oper.mk (some 83) _ _ _ _ _) (v := undef) rfl (by as_aux_lemma => kernel_rfl) (by as_aux_lemma => kernel_rfl) (by as_aux_lemma => kernel_rfl) (fun _ _ _ h => h) (Or.inr ⟨by rfl, rfl⟩) (by assumption) ?_
      simp only [Act.put, List.setIfInBounds_toArray, List.set_cons_zero, List.set_cons_succ]
      refine wpAnyH_take (i := 11) (oi := Oper.mk (some 84) _ _ _ _ _) (v := ?_) rfl (by as_aux_lemma => kernel_rfl) (by as_aux_lemma => kernel_rfl) (by as_aux_lemma => kernel_rfl) (fun _ _ _ h => h) (Or.inl ⟨by rfl, ?_⟩) (by assumption) ?_
      rotate_left
      · (intro w hSw; obtain ⟨hf, h1⟩ := hSw; go_simp <;> with_reducible rfl)
      simp only [Act.put, List.setIfInBounds_toArray, List.set_cons_zero, List.set_cons_succ]
      refine wpAnyH_take (i := 12) (oi := Oper.mk (some 85) _ _ _ _ _) (v := ?_) rfl (by as_aux_lemma => kernel_rfl) (by as_aux_lemma => kernel_rfl) (by as_aux_lemma => kernel_rfl) (fun _ _ _ h => h) (Or.inl ⟨by rfl, ?_⟩) (by assumption) ?_
      rotate_left
      · (intro w hSw; obtain ⟨hf, h1⟩ := hSw; go_simp <;> with_reducible rfl)
      simp only [Act.put, List.setIfInBounds_toArray, List.set_cons_zero, List.set_cons_succ]
      refine wpAnyH_take (i := 13) (oi := Oper.mk (some 86) _ _ _ _ _) (v := ?_) rfl (by as_aux_lemma => kernel_rfl) (by as_aux_lemma => kernel_rfl) (by as_aux_lemma => kernel_rfl) (fun _ _ _ h => h) (Or.inl ⟨by rfl, ?_⟩) (by assumption) ?_
      rotate_left
      · (intro w hSw; obtain ⟨hf, h1⟩ := hSw; go_simp <;> with_reducible rfl)
      simp only [Act.put, List.setIfInBounds_toArray, List.set_cons_zero, List.set_cons_succ]
      refine wpAnyH_take (i := 14) (oi := Oper.mk (some 87) _ _ _ _ _) (v := ?_) rfl (by as_aux_lemma => kernel_rfl) (by as_aux_lemma => kernel_rfl) (by as_aux_lemma => kernel_rfl) (fun _ _ _ h => h) (Or.inl ⟨by rfl, ?_⟩) (by assumption) ?_
      rotate_left
      · (intro w hSw; obtain ⟨hf, h1⟩ := hSw; go_simp <;> with_reducible rfl)
      simp only [Act.put, List.setIfInBounds_toArray, List.set_cons_zero, List.set_cons_succ]
      refine wpAnyH_take (i := 15) (oi := Oper.mk (some 88) _ _ _ _ _) (v := ?_) rfl (by as_aux_lemma => kernel_rfl) (by as_aux_lemma => kernel_rfl) (by as_aux_lemma => kernel_rfl) (fun _ _ _ h => h) (Or.inl ⟨by rfl, ?_⟩) (by assumption) ?_
      rotate_left
      · (intro w hSw; obtain ⟨hf, h1⟩ := hSw; go_simp <;> with_reducible rfl)
      simp only [Act.put, List.setIfInBounds_toArray, List.set_cons_zero, List.set_cons_succ]
      refine wpAnyH_take (i := 16) (oi := Oper.mk (some 89) _ _ _ _ _) (v := ?_) rfl (by as_aux_lemma => kernel_rfl) (by as_aux_lemma => kernel_rfl) (by as_aux_lemma => kernel_rfl) (fun _ _ _ h => h) (Or.inl ⟨by rfl, ?_⟩) (by assumption) ?_
      rotate_left
      · (intro w hSw; obtain ⟨hf, h1⟩ := hSw; go_simp <;> with_reducible rfl)
      simp only [Act.put, List.setIfInBounds_toArray, List.set_cons_zero, List.set_cons_succ]
      refine wpAnyH_take (i := 17) (oi := Oper.mk (some 90) _ _ _ _ _) (v := ?_) rfl (by as_aux_lemma => kernel_rfl) (by as_aux_lemma => kernel_rfl) (by as_aux_lemma => kernel_rfl) (fun _ _ _ h => h) (Or.inl ⟨by rfl, ?_⟩) (by assumption) ?_
      rotate_left
      · (intro w hSw; obtain ⟨hf, h1⟩ := hSw; go_simp <;> with_reducible rfl)
      simp only [Act.put, List.setIfInBounds_toArray, List.set_cons_zero, List.set_cons_succ]
      refine wpAnyH_take (i := 18) (oi := Oper.mk (some 91) _ _ _ _ _) (v := ?_) rfl (by as_aux_lemma => kernel_rfl) (by as_aux_lemma => kernel_rfl) (by as_aux_lemma => kernel_rfl) (fun _ _ _ h => h) (Or.inl ⟨by rfl, ?_⟩) (by assumption) ?_
      rotate_left
      · (intro w hSw; obtain ⟨hf, h1⟩ := hSw; go_simp <;> with_reducible rfl)
      simp only [Act.put, List.setIfInBounds_toArray, List.set_cons_zero, List.set_cons_succ]
      refine wpAnyH_take (i := 19) (oi := Oper.mk (some 92) _ _ _ _ _) (v := ?_) rfl (by as_aux_lemma => kernel_rfl) (by as_aux_lemma => kernel_rfl) (by as_aux_lemma => kernel_rfl) (fun _ _ _ h => h) (Or.inl ⟨by rfl, ?_⟩) (by assumption) ?_
      rotate_left
      · (intro w hSw; obtain ⟨hf, h1⟩ := hSw; go_simp <;> with_reducible rfl)
      simp only [Act.put, List.setIfInBounds_toArray, List.set_cons_zero, List.set_cons_succ]
      refine wpAnyH_take (i := 20) (oi := Oper.mk (some 93) _ _ _ _ _) (v := ?_) rfl (by as_aux_lemma => kernel_rfl) (by as_aux_lemma => kernel_rfl) (by as_aux_lemma => kernel_rfl) (fun _ _ _ h => h) (Or.inl ⟨by rfl, ?_⟩) (by assumption) ?_
      rotate_left
      · (intro w hSw; obtain ⟨hf, h1⟩ := hSw; go_simp <;> with_reducible rfl)
      simp only [Act.put, List.setIfInBounds_toArray, List.set_cons_zero, List.set_cons_succ]
      refine wpAnyH_take (i := 21) (oi := Oper.mk (some 94) _ _ _ _ _) (v := ?_) rfl (by as_aux_lemma => kernel_rfl) (by as_aux_lemma => kernel_rfl) (by as_aux_lemma => kernel_rfl) (fun _ _ _ h => h) (Or.inl ⟨by rfl, ?_⟩) (by assumption) ?_
      rotate_left
      · (intro w hSw; obtain ⟨hf, h1⟩ := hSw; go_simp <;> with_reducible rfl)
      simp only [Act.put, List.setIfInBounds_toArray, List.set_cons_zero, List.set_cons_succ]
      refine wpAnyH_ready (rs := [22]) (by kernel_rfl) (by simp) (AllReadyH.cons (o := Oper.mk (some 95) _ _ _ _ _) rfl (fun K hK => ?_) AllReadyH.nil)
      go_simp
      go_at_call 11
      refine (HRW.out _ hHeld0.1).mono ?_
      rintro _ v22 ⟨vw, rfl, acc⟩
      obtain ⟨qw, dw, rfl, sw, -⟩ := acc.sl
      have tw := sl_txt sw rfl (d := dw)
      refine hK.out _ _ ⟨hHeld0.1.trans0 acc.fr, HC.out _ (hHeld0.1.trans0 acc.fr)⟩ (fun hHeld1 => ?_)
      clear hK K hHeld0 acc sw
      try simp only [Act.put, List.setIfInBounds_toArray, List.set_cons_zero, List.set_cons_succ]
      refine wpAnyH_ready (rs := [23]) (by kernel_rfl) (by simp) (AllReadyH.cons (o := Oper.mk (some 96) _ _ _ _ _) rfl (fun K hK => ?_) AllReadyH.nil)
      go_simp
      refine hK.out _ _ hHeld1 (fun hHeld2 => ?_)
      clear hK K hHeld1 tw
      try simp only [Act.put, List.setIfInBounds_toArray, List.set_cons_zero, List.set_cons_succ]
      refine wpAnyH_take (i := 24) (oi := Oper.mk (some 97) _ _ _ _ _) (v := ?_) rfl (by as_aux_lemma => kernel_rfl) (by as_aux_lemma => kernel_rfl) (by as_aux_lemma => kernel_rfl) (fun _ _ _ h => h) (Or.inl ⟨by rfl, ?_⟩) (by assumption) ?_
      rotate_left
      · (intro w hSw; obtain ⟨hf, h1⟩ := hSw; go_simp <;> with_reducible rfl)
      simp only [Act.put, List.setIfInBounds_toArray, List.set_cons_zero, List.set_cons_succ]
      refine wpAnyH_take (i := 25) (oi := Oper.mk (some 98) _ _ _ _ _) (v := ?_) rfl (by as_aux_lemma => kernel_rfl) (by as_aux_lemma => kernel_rfl) (by as_aux_lemma => kernel_rfl) (fun _ _ _ h => h) (Or.inl ⟨by rfl, ?_⟩) (by assumption) ?_
      rotate_left
      · (intro w hSw; obtain ⟨hf, h1⟩ := hSw; go_simp <;> with_reducible rfl)
      simp only [Act.put, List.setIfInBounds_toArray, List.set_cons_zero, List.set_cons_succ]
      refine wpAnyH_take (i := 26) (oi := Oper.mk (some 99) _ _ _ _ _) (v := ?_) rfl (by as_aux_lemma => kernel_rfl) (by as_aux_lemma => kernel_rfl) (by as_aux_lemma => kernel_rfl) (fun _ _ _ h => h) (Or.inl ⟨by rfl, ?_⟩) (by assumption) ?_
      rotate_left
      · (intro w hSw; obtain ⟨hf, h1⟩ := hSw; go_simp <;> with_reducible rfl)
      simp only [Act.put, List.setIfInBounds_toArray, List.set_cons_zero, List.set_cons_succ]
      refine wpAnyH_take (i := 27) (oi := Oper.mk (some 100) _ _ _ _ _) (v := ?_) rfl (by as_aux_lemma => kernel_rfl) (by as_aux_lemma => kernel_rfl) (by as_aux_lemma => kernel_rfl) (fun _ _ _ h => h) (Or.inl ⟨by rfl, ?_⟩) (by assumption) ?_
      rotate_left
      · (intro w hSw; obtain ⟨hf, h1⟩ := hSw; go_simp <;> with_reducible rfl)
      simp only [Act.put, List.setIfInBounds_toArray, List.set_cons_zero, List.set_cons_succ]
      have F7 := Lib.hid hHeld2.1
      clear hHeld2
      refine wpAnyH_done (by kernel_rfl) ?_ _
      refine NoPanic.normal ?_
      by_cases hcu : 0 ≤ cut ∧ cut < (N2 : Int)
      · obtain ⟨CT, rfl⟩ : ∃ C : Nat, cut = C := ⟨cut.toNat, by omega⟩
        obtain ⟨-, hcu2⟩ := hcu
        have hC2 : CT < N2 := by omega
        have hcd : CT ≤ db := by omega
        have k1 : decide ((CT : Int) < 0) = false := decide_eq_false (by omega)
        have k2 : decide (N2 ≤ CT) = false := decide_eq_false (by omega)
        clear hcu2
        have HJ1 := Lib.hid (fun W (f : Fr S0 v22 W) => HJC.out CT hC2 W (F7.out.trans0 f))
        clear HJC
        go_wp2_with fail
        refine (HJ1.out _ (Fr.refl S0 _)).1.mono ?_
        rintro _ w8 ⟨rfl, f8⟩
        have F8 := Lib.hid f8
        clear f8
        go_wp2_with fail
        refine (HJ1.out _ F8.out).2.mono ?_
        rintro _ w9 ⟨rfl, f9⟩
        have F9 := Lib.hid (FZ.out.trans0 (F7.out.trans0 (F8.out.trans0 f9)))
        clear f9 HJ1 F8
        go_wp2_with fail
        go_ret
        exact ⟨rfl, F9.out⟩
      · have F9 := Lib.hid (FZ.out.trans0 (F7.out.trans0 (Fr.refl S0 _)))
        have hc0 : cut < 0 ∨ (N2 : Int) ≤ cut := by omega
        clear hcu HJC
        by_cases hc1 : cut < 0
        · clear hc0
          go_wp2_with fail
          go_ret
          exact ⟨rfl, F9.out⟩
        · have hc2 : (N2 : Int) ≤ cut := hc0.resolve_left hc1
          clear hc0
          go_wp2_with fail
          go_ret
          exact ⟨rfl, F9.out⟩
  | true =>
    have HRR := Lib.hid (HR2.out D3)
    have HM2 := Lib.hid (HMD.out D3)
    obtain ⟨y, ey⟩ : ∃ y, made23 D3 ks [] true = y := ⟨_, rfl⟩
    rw [ey] at HRR HM2
    clear ey HR2 HMD
    go_wp2_with fail
    refine (HRR.out _ (F1.out.trans0 HB1.out.fr)).mono ?_
    rintro _ w3 ⟨g2, r2, rfl, b2⟩
    have HB2 := Lib.hid b2
    have F3 := Lib.hid ((F1.out.trans0 HB1.out.fr).trans0 b2.fr)
    have HW1 := Lib.hid (nd_write (HB1.out.fr0 b2.fr).nd (by have := HM1.out.len; omega))
    have HW2 := Lib.hid (fun W (f : Fr S0 w3 W) => nd_write (b2.fr0 f).nd (by have := HM2.out.len; omega))
    obtain ⟨C1, R1, -, hR1, -, -, hR1w⟩ := HB1.out.ex
    obtain ⟨C2, R2, -, hR2, -⟩ := b2.ex
    have HTK := Lib.hid (fun W (f : Fr S0 w3 W) => (let ⟨p1, n1, c1, q1, m1, e1, s1⟩ := hR1.fr0 (b2.fr.trans0 f); let ⟨p2, n2, c2, q2, m2, e2, s2⟩ := hR2.fr0 f; rtake_any r R1 p1 n1 c1 q1 m1 e1 x W r2 R2 p2 n2 c2 q2 m2 e2 y s1 s2 (by have := HM1.out.len; have := HM2.out.len; omega) : Calls Tryz.prog 18 #[.pointer (some ⟨r, 0, none⟩), .pointer (some ⟨r2, 0, none⟩)] W fun e w' => e = .returned (.int .i64 (x.takeE y : Nat)) ∧ RTurn W w' r R1 (x.take y)))
    have HRB : Hid (∀ b, R1 b → b < w3.heap.size ∧ w.heap.size ≤ b) := Lib.hid fun b hb => ⟨Nat.lt_of_lt_of_le (hR1.below b hb) b2.fr.size, by
      have h1 := hR1w b hb
      have h2 := F1.out.size
      omega⟩
    have htl := take_all_len HM1.out.good HM2.out.good
    have HTL : Hid ((x.take y).all.length ≤ 160) := Lib.hid (by have := HM1.out.len; have := HM2.out.len; omega)
    obtain ⟨P1, eP1⟩ : ∃ P, x.bytes = P := ⟨_, rfl⟩
    obtain ⟨P2, eP2⟩ : ∃ P, y.bytes = P := ⟨_, rfl⟩
    have HRK : Hid (RdOk P1 x ∧ RdOk P2 y) := Lib.hid ⟨⟨eP1.symm, HM1.out.good, HM1.out.few⟩, ⟨eP2.symm, HM2.out.good, HM2.out.few⟩⟩
    have HPL : Hid ((P1.length ≤ 5000 ∧ ∀ b ∈ P1, b < 256) ∧ P2.length ≤ 5000 ∧ ∀ b ∈ P2, b < 256) := Lib.hid ⟨⟨by have h1 := bytes_len x; have h2 := HM1.out.len; rw [eP1] at h1; omega, by rw [← eP1]; exact bytes_lt x⟩, by have h1 := bytes_len y; have h2 := HM2.out.len; rw [eP2] at h1; omega, by rw [← eP2]; exact bytes_lt y⟩
    have HPE := Lib.hid eP2
    rw [eP1] at HW1
    rw [eP2] at HW2
    clear b2 hR1 hR2 htl eP1 eP2 HRR HB1 HB2
    go_wp2_with fail
    refine HW1.out.mono ?_
    rintro _ w4 ⟨va, rfl, acc1⟩
    have AC1 := Lib.hid acc1
    obtain ⟨qa, da, rfl, -, ca, -⟩ := acc1.sl
    clear acc1 HW1
    go_wp2_with fail
    refine (HW2.out _ AC1.out.fr).mono ?_
    rintro _ w5 ⟨vb, rfl, acc2⟩
    have AC2 := Lib.hid acc2
    obtain ⟨qb, db, rfl, -, cb, hdb, -⟩ := acc2.sl
    have HSA : Hid (SlI w5 .u8 qa P1) := Lib.hid ((SlI.ofOwns AC1.out.own).fr0 acc2.fr)
    have HSB : Hid (SlI w5 .u8 qb P2) := Lib.hid (SlI.ofOwns acc2.own)
    have HCC := Lib.hid (And.intro ca cb)
    clear acc2 HW2 ca cb
    obtain ⟨N1, hN1⟩ : ∃ N, P1.length = N := ⟨_, rfl⟩
    obtain ⟨N2, hN2⟩ : ∃ N, P2.length = N := ⟨_, rfl⟩
    rw [hN1] at AC1 HPL
    rw [hN2] at AC2 HPL hdb
    have HNN := Lib.hid (And.intro hN1 hN2)
    have HJN := Lib.hid (tjoin_any qa qb da N1 db N2 P1 P2 w5 hN1 HSA.out HPL.out.1.2 HCC.out.1 (by have := HPL.out.1.1; omega) hN2 HSB.out HPL.out.2.2 HCC.out.2 (by have := HPL.out.2.1; omega))
    have F35 := Lib.hid (AC1.out.fr.trans0 AC2.out.fr)
    rw [hN1, hN2]
    clear hN1 hN2
    have HJC0 : Hid (∀ C, C < N2 → ∀ W, SlI W .u8 qa P1 → SlI W .u8 qb P2 →
        Calls Tryz.prog 17 #[.slice qa N1 da, .slice qb C db] W (fun e w' => e = .returned (.tuple #[.slice none 0 0, .int .i64 9]) ∧ Fr S0 W w') ∧
        Calls Tryz.prog 17 #[.slice qb C db, .slice qa N1 da] W (fun e w' => e = .returned (.tuple #[.slice none 0 0, .int .i64 9]) ∧ Fr S0 W w')) := Lib.hid fun C hC W h1 h2 => by
      have hno : ¬ ∃ z, RdOk (P2.take C) z := by
        rintro ⟨z, h⟩
        rw [← HPE.out] at h
        exact rdOk_cut HM2.out.good (by rw [HPE.out, HNN.out.2]; exact hC) h
      have hl : (P2.take C).length = C := by rw [List.length_take, HNN.out.2]; omega
      have h8 : ∀ x ∈ P2.take C, x < 256 := fun x hx => HPL.out.2.2 x (List.mem_of_mem_take hx)
      have hb1 := HPL.out.1.1
      have hb2 := HPL.out.2.1
      exact ⟨join_bad qa qb da N1 db C P1 (P2.take C) W HNN.out.1 h1 HPL.out.1.2 HCC.out.1 (by omega) hl (h2.take C) h8 HCC.out.2 (by omega) (.inr hno),
        join_bad qb qa db C da N1 (P2.take C) P1 W hl (h2.take C) h8 HCC.out.2 (by omega) HNN.out.1 h1 HPL.out.1.2 HCC.out.1 (by omega) (.inl hno)⟩
    have HOFF : Hid (Off R1 qa ∧ Off R1 qb) := Lib.hid ⟨AC1.out.offR fun b hb => (HRB.out b hb).1, AC2.out.offR fun b hb => Nat.lt_of_lt_of_le (HRB.out b hb).1 AC1.out.fr.size⟩
    have H35 : Hid (w3.heap.size ≤ w5.heap.size) := Lib.hid F35.out.size
    obtain ⟨E, hE⟩ : ∃ E, x.takeE y = E := ⟨_, rfl⟩
    have hEb : E < 100 := by
      rw [← hE]
      unfold Dg.takeE
      split
      · decide
      · split
        · decide
        · split <;> decide
    obtain ⟨z, hz⟩ : ∃ z, x.take y = z := ⟨_, rfl⟩
    rw [hE, hz] at HTK
    rw [hz] at HTL
    have HEZ := Lib.hid (And.intro hE hz)
    clear HPE HPL HNN HCC AC1 AC2 hE hz HM1 HM2
    go_wp2_with fail
    refine HJN.out.mono ?_
    rintro _ w6 (⟨hno, -, -⟩ | ⟨x', y', ok1, ok2, hend⟩)
    · exact absurd hno (by rintro (h | h) <;> exact h ⟨_, by first | exact HRK.out.1 | exact HRK.out.2⟩)
    obtain rfl := rdOk_one HRK.out.1 ok1
    obtain rfl := rdOk_one HRK.out.2 ok2
    rw [HEZ.out.1, HEZ.out.2] at hend
    clear ok1 ok2 HRK HEZ HJN
    rcases hend with ⟨hE0, rfl, f6⟩ | ⟨rfl, vc, rfl, acc⟩
    · have HT6 := Lib.hid (HTK.out _ (F35.out.trans0 f6))
      have F36 := Lib.hid (F3.out.trans0 (F35.out.trans0 f6))
      have HS6 := Lib.hid (And.intro (HSA.out.fr0 f6) (HSB.out.fr0 f6))
      have hz : ((E : Int) != 0) = true := by rw [bne_iff_ne]; omega
      have hz2 : ((E : Int) == 0) = false := by rw [beq_eq_false_iff_ne]; omega
      have hz3 : ((E : Int) != (E : Int)) = false := by simp
      clear f6 HTK F35 F3 HSA HSB hE0
      go_wp2_with fail
      refine HT6.out.mono ?_
      rintro _ w7 ⟨rfl, t7⟩
      obtain ⟨-, -, f7, -⟩ := t7
      have FZ : Hid (Fr S0 w w7) := Lib.hid (F36.out.trans f7 fun j hj e => by have := (HRB.out j e).2; omega)
      have HJC : Hid (∀ C, C < N2 → ∀ W, Fr S0 w7 W → _) := Lib.hid fun C hC W (f : Fr S0 w7 W) => HJC0.out C hC W ((HS6.out.1.fr f7 fun _ => HOFF.out.1).fr0 f) ((HS6.out.2.fr f7 fun _ => HOFF.out.2).fr0 f)
      clear f7 F36 HS6 HJC0 HT6 HOFF hEb HRB H35
      go_wp2_with fail
      go_quiet (fail)
      by_cases hcu : 0 ≤ cut ∧ cut < (N2 : Int)
      · obtain ⟨CT, rfl⟩ : ∃ C : Nat, cut = C := ⟨cut.toNat, by omega⟩
        obtain ⟨-, hcu2⟩ := hcu
        have hC2 : CT < N2 := by omega
        have hcd : CT ≤ db := by omega
        have k1 : decide ((CT : Int) < 0) = false := decide_eq_false (by omega)
        have k2 : decide (N2 ≤ CT) = false := decide_eq_false (by omega)
        clear hcu2
        have HJ1 := Lib.hid (fun W (f : Fr S0 (w7.drewN nq) W) => HJC.out CT hC2 W ((Fr.drewN S0 w7 nq).trans0 f))
        clear HJC
        go_wp2_with fail
        refine (HJ1.out _ (Fr.refl S0 _)).1.mono ?_
        rintro _ w8 ⟨rfl, f8⟩
        have F8 := Lib.hid f8
        clear f8
        go_wp2_with fail
        refine (HJ1.out _ F8.out).2.mono ?_
        rintro _ w9 ⟨rfl, f9⟩
        have F9 := Lib.hid (FZ.out.trans0 ((Fr.drewN S0 w7 nq).trans0 (F8.out.trans0 f9)))
        clear f9 HJ1 F8
        go_wp2_with fail
        go_ret
        exact ⟨rfl, F9.out⟩
      · have F9 := Lib.hid (FZ.out.trans0 ((Fr.drewN S0 w7 nq).trans0 (Fr.refl S0 _)))
        have hc0 : cut < 0 ∨ (N2 : Int) ≤ cut := by omega
        clear hcu HJC
        by_cases hc1 : cut < 0
        · clear hc0
          go_wp2_with fail
          go_ret
          exact ⟨rfl, F9.out⟩
        · have hc2 : (N2 : Int) ≤ cut := hc0.resolve_left hc1
          clear hc0
          go_wp2_with fail
          go_ret
          exact ⟨rfl, F9.out⟩
    · rw [show ((0 : Nat) : Int) = 0 from rfl] at HTK
      have AC3 := Lib.hid acc
      have HT6 := Lib.hid (HTK.out _ (F35.out.trans0 acc.fr))
      have F36 := Lib.hid (F3.out.trans0 (F35.out.trans0 acc.fr))
      have HS6 := Lib.hid (And.intro (HSA.out.fr0 acc.fr) (HSB.out.fr0 acc.fr))
      obtain ⟨qc, dc, rfl, sc, -⟩ := acc.sl
      have HOFC : Hid (Off R1 qc) := Lib.hid (AC3.out.offR fun b hb => Nat.lt_of_lt_of_le (HRB.out b hb).1 H35.out)
      obtain ⟨P3, eP3⟩ : ∃ P, z.bytes = P := ⟨_, rfl⟩
      rw [eP3] at sc ⊢
      have HSC := Lib.hid sc
      obtain ⟨N3, hN3⟩ : ∃ N, P3.length = N := ⟨_, rfl⟩
      rw [hN3]
      have HN3 := Lib.hid (And.intro hN3 eP3)
      clear acc sc AC3 HTK F35 F3 HSA HSB hN3 eP3
      go_wp2_with fail
      refine HT6.out.mono ?_
      rintro _ w7 ⟨rfl, t7⟩
      obtain ⟨R3, r7, f7, -⟩ := t7
      have FZ : Hid (Fr S0 w w7) := Lib.hid (F36.out.trans f7 fun j hj e => by have := (HRB.out j e).2; omega)
      have HJC : Hid (∀ C, C < N2 → ∀ W, Fr S0 w7 W → _) := Lib.hid fun C hC W (f : Fr S0 w7 W) => HJC0.out C hC W ((HS6.out.1.fr f7 fun _ => HOFF.out.1).fr0 f) ((HS6.out.2.fr f7 fun _ => HOFF.out.2).fr0 f)
      have HC := Lib.hid (fun W (f : Fr S0 w7 W) => sl_txt ((HSC.out.fr f7 fun _ => HOFC.out).fr0 f) HN3.out.1 (d := dc))
      have HRW := Lib.hid (fun W (f : Fr S0 w7 W) => by
        have h := rwrite_of (r7.fr0 f) (by have := HTL.out; omega)
        rw [HN3.out.2] at h
        exact h)
      clear r7 f7 F36 HS6 HJC0 HT6 HOFF hEb HRB H35 HSC HOFC HTL
      go_wp2_with fail
      refine wp_region_noPanic ?_
      refine wp_region_held_drew (S := fun w' => Fr S0 w7 w' ∧ (convert 30 9 (.slice qc N3 dc)).run Tryz.prog w' = .ok (.string (strB P3)) w') (by kernel_rfl) ⟨Fr.drew S0 w7, HC.out _ (Fr.drew S0 w7)⟩ (fun hHeld0 => ?_)
      refine wpAnyH_take (i := 0) (oi := Oper.mk (some 73) _ _ _ _ _) (v := ?_) rfl (by as_aux_lemma => kernel_rfl) (by as_aux_lemma => kernel_rfl) (by as_aux_lemma => kernel_rfl) (fun _ _ _ h => h) (Or.inl ⟨by rfl, ?_⟩) (by assumption) ?_
      rotate_left
      · (intro w hSw; obtain ⟨hf, h1⟩ := hSw; go_simp <;> with_reducible rfl)
      simp only [Act.put, List.setIfInBounds_toArray, List.set_cons_zero, List.set_cons_succ]
      refine wpAnyH_take (i := 1) (oi := Oper.mk (some 74) _ _ _ _ _) (v := ?_) rfl (by as_aux_lemma => kernel_rfl) (by as_aux_lemma => kernel_rfl) (by as_aux_lemma => kernel_rfl) (fun _ _ _ h => h) (Or.inl ⟨by rfl, ?_⟩) (by assumption) ?_
      rotate_left
      · (intro w hSw; obtain ⟨hf, h1⟩ := hSw; go_simp <;> with_reducible rfl)
      simp only [Act.put, List.setIfInBounds_toArray, List.set_cons_zero, List.set_cons_succ]
      refine wpAnyH_take (i := 2) (oi := Oper.mk (some 75) _ _ _ _ _) (v := ?_) rfl (by as_aux_lemma => kernel_rfl) (by as_aux_lemma => kernel_rfl) (by as_aux_lemma => kernel_rfl) (fun _ _ _ h => h) (Or.inl ⟨by rfl, ?_⟩) (by assumption) ?_
      rotate_left
      · (intro w hSw; obtain ⟨hf, h1⟩ := hSw; go_simp <;> with_reducible rfl)
      simp only [Act.put, List.setIfInBounds_toArray, List.set_cons_zero, List.set_cons_succ]
      refine wpAnyH_take (i := 3) (oi := Oper.mk (some 76) _ _ _ _ _) (v := undef) rfl (by as_aux_lemma => kernel_rfl) (by as_aux_lemma => kernel_rfl) (by as_aux_lemma => kernel_rfl) (fun _ _ _ h => h) (Or.inr ⟨by rfl, rfl⟩) (by assumption) ?_
      simp only [Act.put, List.setIfInBounds_toArray, List.set_cons_zero, List.set_cons_succ]
      refine wpAnyH_take (i := 4) (oi := Oper.mk (some 77) _ _ _ _ _) (v := undef) rfl (by as_aux_lemma => kernel_rfl) (by as_aux_lemma => kernel_rfl) (by as_aux_lemma => kernel_rfl) (fun _ _ _ h => h) (Or.inr ⟨by rfl, rfl⟩) (by assumption) ?_
      simp only [Act.put, List.setIfInBounds_toArray, List.set_cons_zero, List.set_cons_succ]
      refine wpAnyH_take (i := 5) (oi := Oper.mk (some 78) _ _ _ _ _) (v := undef) rfl (by as_aux_lemma => kernel_rfl) (by as_aux_lemma => kernel_rfl) (by as_aux_lemma => kernel_rfl) (fun _ _ _ h => h) (Or.inr ⟨by rfl, rfl⟩) (by assumption) ?_
      simp only [Act.put, List.setIfInBounds_toArray, List.set_cons_zero, List.set_cons_succ]
      refine wpAnyH_take (i := 6) (oi := Oper.mk (some 79) _ _ _ _ _) (v := undef) rfl (by as_aux_lemma => kernel_rfl) (by as_aux_lemma => kernel_rfl) (by as_aux_lemma => kernel_rfl) (fun _ _ _ h => h) (Or.inr ⟨by rfl, rfl⟩) (by assumption) ?_
      simp only [Act.put, List.setIfInBounds_toArray, List.set_cons_zero, List.set_cons_succ]
      refine wpAnyH_take (i := 7) (oi := Oper.mk (some 80) _ _ _ _ _) (v := undef) rfl (by as_aux_lemma => kernel_rfl) (by as_aux_lemma => kernel_rfl) (by as_aux_lemma => kernel_rfl) (fun _ _ _ h => h) (Or.inr ⟨by rfl, rfl⟩) (by assumption) ?_
      simp only [Act.put, List.setIfInBounds_toArray, List.set_cons_zero, List.set_cons_succ]
      refine wpAnyH_take (i := 8) (oi := Oper.mk (some 81) _ _ _ _ _) (v := undef) rfl (by as_aux_lemma => kernel_rfl) (by as_aux_lemma => kernel_rfl) (by as_aux_lemma => kernel_rfl) (fun _ _ _ h => h) (Or.inr ⟨by rfl, rfl⟩) (by assumption) ?_
      simp only [Act.put, List.setIfInBounds_toArray, List.set_cons_zero, List.set_cons_succ]
      refine wpAnyH_take (i := 9) (oi := Oper.mk (some 82) _ _ _ _ _) (v := undef) rfl (by as_aux_lemma => kernel_rfl) (by as_aux_lemma => kernel_rfl) (by as_aux_lemma => kernel_rfl) (fun _ _ _ h => h) (Or.inr ⟨by rfl, rfl⟩) (by assumption) ?_
      simp only [Act.put, List.setIfInBounds_toArray, List.set_cons_zero, List.set_cons_succ]
      refine wpAnyH_take (i := 10) (oi := Oper.mk (some 83) _ _ _ _ _) (v := undef) rfl (by as_aux_lemma => kernel_rfl) (by as_aux_lemma => kernel_rfl) (by as_aux_lemma => kernel_rfl) (fun _ _ _ h => h) (Or.inr ⟨by rfl, rfl⟩) (by assumption) ?_
      simp only [Act.put, List.setIfInBounds_toArray, List.set_cons_zero, List.set_cons_succ]
      refine wpAnyH_take (i := 11) (oi := Oper.mk (some 84) _ _ _ _ _) (v := ?_) rfl (by as_aux_lemma => kernel_rfl) (by as_aux_lemma => kernel_rfl) (by as_aux_lemma => kernel_rfl) (fun _ _ _ h => h) (Or.inl ⟨by rfl, ?_⟩) (by assumption) ?_
      rotate_left
      · (intro w hSw; obtain ⟨hf, h1⟩ := hSw; go_simp <;> with_reducible rfl)
      simp only [Act.put, List.setIfInBounds_toArray, List.set_cons_zero, List.set_cons_succ]
      refine wpAnyH_take (i := 12) (oi := Oper.mk (some 85) _ _ _ _ _) (v := ?_) rfl (by as_aux_lemma => kernel_rfl) (by as_aux_lemma => kernel_rfl) (by as_aux_lemma => kernel_rfl) (fun _ _ _ h => h) (Or.inl ⟨by rfl, ?_⟩) (by assumption) ?_
      rotate_left
      · (intro w hSw; obtain ⟨hf, h1⟩ := hSw; go_simp <;> with_reducible rfl)
      simp only [Act.put, List.setIfInBounds_toArray, List.set_cons_zero, List.set_cons_succ]
      refine wpAnyH_take (i := 13) (oi := Oper.mk (some 86) _ _ _ _ _) (v := ?_) rfl (by as_aux_lemma => kernel_rfl) (by as_aux_lemma => kernel_rfl) (by as_aux_lemma => kernel_rfl) (fun _ _ _ h => h) (Or.inl ⟨by rfl, ?_⟩) (by assumption) ?_
      rotate_left
      · (intro w hSw; obtain ⟨hf, h1⟩ := hSw; go_simp <;> with_reducible rfl)
      simp only [Act.put, List.setIfInBounds_toArray, List.set_cons_zero, List.set_cons_succ]
      refine wpAnyH_take (i := 14) (oi := Oper.mk (some 87) _ _ _ _ _) (v := ?_) rfl (by as_aux_lemma => kernel_rfl) (by as_aux_lemma => kernel_rfl) (by as_aux_lemma => kernel_rfl) (fun _ _ _ h => h) (Or.inl ⟨by rfl, ?_⟩) (by assumption) ?_
      rotate_left
      · (intro w hSw; obtain ⟨hf, h1⟩ := hSw; go_simp <;> with_reducible rfl)
      simp only [Act.put, List.setIfInBounds_toArray, List.set_cons_zero, List.set_cons_succ]
      refine wpAnyH_take (i := 15) (oi := Oper.mk (some 88) _ _ _ _ _) (v := ?_) rfl (by as_aux_lemma => kernel_rfl) (by as_aux_lemma => kernel_rfl) (by as_aux_lemma => kernel_rfl) (fun _ _ _ h => h) (Or.inl ⟨by rfl, ?_⟩) (by assumption) ?_
      rotate_left
      · (intro w hSw; obtain ⟨hf, h1⟩ := hSw; go_simp <;> with_reducible rfl)
      simp only [Act.put, List.setIfInBounds_toArray, List.set_cons_zero, List.set_cons_succ]
      refine wpAnyH_take (i := 16) (oi := Oper.mk (some 89) _ _ _ _ _) (v := ?_) rfl (by as_aux_lemma => kernel_rfl) (by as_aux_lemma => kernel_rfl) (by as_aux_lemma => kernel_rfl) (fun _ _ _ h => h) (Or.inl ⟨by rfl, ?_⟩) (by assumption) ?_
      rotate_left
      · (intro w hSw; obtain ⟨hf, h1⟩ := hSw; go_simp <;> with_reducible rfl)
      simp only [Act.put, List.setIfInBounds_toArray, List.set_cons_zero, List.set_cons_succ]
      refine wpAnyH_take (i := 17) (oi := Oper.mk (some 90) _ _ _ _ _) (v := ?_) rfl (by as_aux_lemma => kernel_rfl) (by as_aux_lemma => kernel_rfl) (by as_aux_lemma => kernel_rfl) (fun _ _ _ h => h) (Or.inl ⟨by rfl, ?_⟩) (by assumption) ?_
      rotate_left
      · (intro w hSw; obtain ⟨hf, h1⟩ := hSw; go_simp <;> with_reducible rfl)
      simp only [Act.put, List.setIfInBounds_toArray, List.set_cons_zero, List.set_cons_succ]
      refine wpAnyH_take (i := 18) (oi := Oper.mk (some 91) _ _ _ _ _) (v := ?_) rfl (by as_aux_lemma => kernel_rfl) (by as_aux_lemma => kernel_rfl) (by as_aux_lemma => kernel_rfl) (fun _ _ _ h => h) (Or.inl ⟨by rfl, ?_⟩) (by assumption) ?_
      rotate_left
      · (intro w hSw; obtain ⟨hf, h1⟩ := hSw; go_simp <;> with_reducible rfl)
      simp only [Act.put, List.setIfInBounds_toArray, List.set_cons_zero, List.set_cons_succ]
      refine wpAnyH_take (i := 19) (oi := Oper.mk (some 92) _ _ _ _ _) (v := ?_) rfl (by as_aux_lemma => kernel_rfl) (by as_aux_lemma => kernel_rfl) (by as_aux_lemma => kernel_rfl) (fun _ _ _ h => h) (Or.inl ⟨by rfl, ?_⟩) (by assumption) ?_
      rotate_left
      · (intro w hSw; obtain ⟨hf, h1⟩ := hSw; go_simp <;> with_reducible rfl)
      simp only [Act.put, List.setIfInBounds_toArray, List.set_cons_zero, List.set_cons_succ]
      refine wpAnyH_take (i := 20) (oi := Oper.mk (some 93) _ _ _ _ _) (v := ?_) rfl (by as_aux_lemma => kernel_rfl) (by as_aux_lemma => kernel_rfl) (by as_aux_lemma => kernel_rfl) (fun _ _ _ h => h) (Or.inl ⟨by rfl, ?_⟩) (by assumption) ?_
      rotate_left
      · (intro w hSw; obtain ⟨hf, h1⟩ := hSw; go_simp <;> with_reducible rfl)
      simp only [Act.put, List.setIfInBounds_toArray, List.set_cons_zero, List.set_cons_succ]
      refine wpAnyH_take (i := 21) (oi := Oper.mk (some 94) _ _ _ _ _) (v := ?_) rfl (by as_aux_lemma => kernel_rfl) (by as_aux_lemma => kernel_rfl) (by as_aux_lemma => kernel_rfl) (fun _ _ _ h => h) (Or.inl ⟨by rfl, ?_⟩) (by assumption) ?_
      rotate_left
      · (intro w hSw; obtain ⟨hf, h1⟩ := hSw; go_simp <;> with_reducible rfl)
      simp only [Act.put, List.setIfInBounds_toArray, List.set_cons_zero, List.set_cons_succ]
      refine wpAnyH_ready (rs := [22]) (by kernel_rfl) (by simp) (AllReadyH.cons (o := Oper.mk (some 95) _ _ _ _ _) rfl (fun K hK => ?_) AllReadyH.nil)
      go_simp
      go_at_call 11
      refine (HRW.out _ hHeld0.1).mono ?_
      rintro _ v22 ⟨vw, rfl, acc⟩
      obtain ⟨qw, dw, rfl, sw, -⟩ := acc.sl
      have tw := sl_txt sw rfl (d := dw)
      refine hK.out _ _ ⟨hHeld0.1.trans0 acc.fr, HC.out _ (hHeld0.1.trans0 acc.fr)⟩ (fun hHeld1 => ?_)
      clear hK K hHeld0 acc sw
      try simp only [Act.put, List.setIfInBounds_toArray, List.set_cons_zero, List.set_cons_succ]
      refine wpAnyH_ready (rs := [23]) (by kernel_rfl) (by simp) (AllReadyH.cons (o := Oper.mk (some 96) _ _ _ _ _) rfl (fun K hK => ?_) AllReadyH.nil)
      go_simp
      refine hK.out _ _ hHeld1 (fun hHeld2 => ?_)
      clear hK K hHeld1 tw
      try simp only [Act.put, List.setIfInBounds_toArray, List.set_cons_zero, List.set_cons_succ]
      refine wpAnyH_take (i := 24) (oi := Oper.mk (some 97) _ _ _ _ _) (v := ?_) rfl (by as_aux_lemma => kernel_rfl) (by as_aux_lemma => kernel_rfl) (by as_aux_lemma => kernel_rfl) (fun _ _ _ h => h) (Or.inl ⟨by rfl, ?_⟩) (by assumption) ?_
      rotate_left
      · (intro w hSw; obtain ⟨hf, h1⟩ := hSw; go_simp <;> with_reducible rfl)
      simp only [Act.put, List.setIfInBounds_toArray, List.set_cons_zero, List.set_cons_succ]
      refine wpAnyH_take (i := 25) (oi := Oper.mk (some 98) _ _ _ _ _) (v := ?_) rfl (by as_aux_lemma => kernel_rfl) (by as_aux_lemma => kernel_rfl) (by as_aux_lemma => kernel_rfl) (fun _ _ _ h => h) (Or.inl ⟨by rfl, ?_⟩) (by assumption) ?_
      rotate_left
      · (intro w hSw; obtain ⟨hf, h1⟩ := hSw; go_simp <;> with_reducible rfl)
      simp only [Act.put, List.setIfInBounds_toArray, List.set_cons_zero, List.set_cons_succ]
      refine wpAnyH_take (i := 26) (oi := Oper.mk (some 99) _ _ _ _ _) (v := ?_) rfl (by as_aux_lemma => kernel_rfl) (by as_aux_lemma => kernel_rfl) (by as_aux_lemma => kernel_rfl) (fun _ _ _ h => h) (Or.inl ⟨by rfl, ?_⟩) (by assumption) ?_
      rotate_left
      · (intro w hSw; obtain ⟨hf, h1⟩ := hSw; go_simp <;> with_reducible rfl)
      simp only [Act.put, List.setIfInBounds_toArray, List.set_cons_zero, List.set_cons_succ]
      refine wpAnyH_take (i := 27) (oi := Oper.mk (some 100) _ _ _ _ _) (v := ?_) rfl (by as_aux_lemma => kernel_rfl) (by as_aux_lemma => kernel_rfl) (by as_aux_lemma => kernel_rfl) (fun _ _ _ h => h) (Or.inl ⟨by rfl, ?_⟩) (by assumption) ?_
      rotate_left
      · (intro w hSw; obtain ⟨hf, h1⟩ := hSw; go_simp <;> with_reducible rfl)
      simp only [Act.put, List.setIfInBounds_toArray, List.set_cons_zero, List.set_cons_succ]
      have F7 := Lib.hid hHeld2.1
      clear hHeld2
      refine wpAnyH_done (by kernel_rfl) ?_ _
      refine NoPanic.normal ?_
      by_cases hcu : 0 ≤ cut ∧ cut < (N2 : Int)
      · obtain ⟨CT, rfl⟩ : ∃ C : Nat, cut = C := ⟨cut.toNat, by omega⟩
        obtain ⟨-, hcu2⟩ := hcu
        have hC2 : CT < N2 := by omega
        have hcd : CT ≤ db := by omega
        have k1 : decide ((CT : Int) < 0) = false := decide_eq_false (by omega)
        have k2 : decide (N2 ≤ CT) = false := decide_eq_false (by omega)
        clear hcu2
        have HJ1 := Lib.hid (fun W (f : Fr S0 v22 W) => HJC.out CT hC2 W (F7.out.trans0 f))
        clear HJC
        go_wp2_with fail
        refine (HJ1.out _ (Fr.refl S0 _)).1.mono ?_
        rintro _ w8 ⟨rfl, f8⟩
        have F8 := Lib.hid f8
        clear f8
        go_wp2_with fail
        refine (HJ1.out _ F8.out).2.mono ?_
        rintro _ w9 ⟨rfl, f9⟩
        have F9 := Lib.hid (FZ.out.trans0 (F7.out.trans0 (F8.out.trans0 f9)))
        clear f9 HJ1 F8
        go_wp2_with fail
        go_ret
        exact ⟨rfl, F9.out⟩
      · have F9 := Lib.hid (FZ.out.trans0 (F7.out.trans0 (Fr.refl S0 _)))
        have hc0 : cut < 0 ∨ (N2 : Int) ≤ cut := by omega
        clear hcu HJC
        by_cases hc1 : cut < 0
        · clear hc0
          go_wp2_with fail
          go_ret
          exact ⟨rfl, F9.out⟩
        · have hc2 : (N2 : Int) ≤ cut := hc0.resolve_left hc1
          clear hc0
          go_wp2_with fail
          go_ret
          exact ⟨rfl, F9.out⟩
end
end Go.Proofs.YtmieeoceckcnkaaGreat
