/- TwLawAgain -/
import Derived.Test.YtmieeoceckcnkaaGreatPz1
import Derived.Test.YtmieeoceckcnkaaGreatPz2
import Derived.Test.YtmieeoceckcnkaaGreatPz3
import Derived.Test.YtmieeoceckcnkaaGreatPz4
import Derived.Test.YtmieeoceckcnkaaGreatPz5
import Derived.Test.YtmieeoceckcnkaaGreatPz6
import Derived.Test.YtmieeoceckcnkaaGreatPz7
import Derived.Test.YtmieeoceckcnkaaGreatPz8
import Derived.Test.YtmieeoceckcnkaaGreatPz9
import Derived.Test.YtmieeoceckcnkaaGreatPz10
import Derived.Test.YtmieeoceckcnkaaGreatPz11
import Derived.Test.YtmieeoceckcnkaaGreatPz12
import Derived.Test.YtmieeoceckcnkaaGreatPz13
import Derived.Test.YtmieeoceckcnkaaGreatPz14
import Derived.Test.YtmieeoceckcnkaaGreatPz15
import Derived.Test.YtmieeoceckcnkaaGreatPz16
import Derived.Test.YtmieeoceckcnkaaGreatPz17
import Derived.Test.YtmieeoceckcnkaaGreatPz18
import Derived.Test.YtmieeoceckcnkaaGreatPz19
import Derived.Test.YtmieeoceckcnkaaGreatPz20
import Derived.Test.YtmieeoceckcnkaaGreatPz21
import Derived.Test.YtmieeoceckcnkaaGreatPz22
import Derived.Test.YtmieeoceckcnkaaGreatPz23
import Derived.Test.YtmieeoceckcnkaaGreatPz24
import Derived.Test.YtmieeoceckcnkaaGreatPz25
import Derived.Test.YtmieeoceckcnkaaGreatPz28
import Derived.Test.YtmieeoceckcnkaaGreatPz29
import Derived.Test.YtmieeoceckcnkaaGreatPz30
import Derived.Test.YtmieeoceckcnkaaGreatPz31
import Derived.Test.YtmieeoceckcnkaaGreatPz32
import Derived.BigQuiet
import Derived.Lib.AppendZerosOnto
import Derived.Lib.SliceRun
import Derived.Lib.Walk
import Derived.StillTailTactics
import Derived.Deep.RegionLaw
import Derived.Deep.RegionHeld3
import Derived.BigRegion
import Derived.Maps.AppendAt
import Derived.Laws.AppendOwnNone
import Derived.Laws.OwnMore
import Derived.Laws.Externs
import Derived.Shelf.Spec.BitsCarry
import Derived.Deep.CutBlock
import Derived.Deep.CutRange
import Derived.Deep.DeepCutAuto
import Derived.Lib.BitFns
import Derived.Shelf.Small.Bits
import Derived.Shelf.Strconv.Itoa0
import Derived.Shelf.Bits.Mul64
import Derived.Test.YtmieeoceckcnkaaGreatRows
import Derived.WalkKit
import Derived.WalkSpells
import Derived.WalkLawsBesides
import Derived.Deep.QuietTactic
import Derived.RegionTactic
import Derived.Deep.AppendLies
import Derived.Laws.ResultCell
import Derived.Laws.EntriesVeiled
import Derived.Lib.Hide
import Derived.Laws.BytesArg
import Derived.Lib.SlBytesConst
import Derived.Defers
import Derived.Recover
import Derived.Deep.RegionHeld2
import Derived.Laws.BitsAllLaws
import Derived.Deep.Fields
import Derived.Deep.Matrix
import Derived.OpenShut
set_option maxRecDepth 100000
set_option maxHeartbeats 8000000
namespace Go.Proofs.YtmieeoceckcnkaaGreat
open Go.RowKit
section
variable (d : Nat) (p : Option Addr) (n c : Nat) (vs : List Int) (q : Option Addr) (k c2 : Nat) (ns : List Nat) (po : Option Addr) (m c3 : Nat) (l : List OpT) (w : World)
theorem law_again (hn : vs.length = n) (hz : ZI w p vs) (hvb : ∀ v ∈ vs, -9223372036854775808 ≤ v ∧ v ≤ 9223372036854775807) (hk : ns.length = k) (hq : SlI w .u16 q ns) (hb : ∀ n ∈ ns, n < 65536) (hm : l.length = m) (ho : OpsI w po l) :
    Calls Tryz.prog 4 #[.int .u16 (d : Nat), .slice p n c, .slice q k c2, .slice po m c3] w fun e w' => e = .returned (.bool true) ∧ Fr S0 w w' := by
  have HAL := Lib.hid (alive23_any w)
  have HR := Lib.hid (fun W (f : Fr S0 w W) => added23_any d p n c vs q k c2 ns false W hn (hz.fr0 f) hvb hk (hq.fr0 f) hb)
  have HR2 := Lib.hid (fun W (f : Fr S0 w W) => added23_any d p n c vs none 0 0 [] true W hn (hz.fr0 f) hvb rfl (SlI.nil _ _ _) (fun _ h => by cases h))
  have HM := Lib.hid (made_ok (d := d) (ns := ns) (press := false) hvb)
  have HM2 := Lib.hid (made_ok (d := d) (ns := []) (press := true) hvb)
  obtain ⟨x, ex⟩ : ∃ x, made23 d vs ns false = x := ⟨_, rfl⟩
  obtain ⟨y, ey⟩ : ∃ x, made23 d vs [] true = x := ⟨_, rfl⟩
  rw [ex] at HR HM
  rw [ey] at HR2 HM2
  have HO := Lib.hid ho
  have HL := Lib.hid hm
  clear hn hz hvb hk hq hb ex ey hm ho
  go_enter Tryz.func4, Tryz.ntmps4
  go_wp2_with fail
  refine HAL.out.mono ?_
  rintro e w1 ⟨rfl, f1⟩
  have F1 := Lib.hid f1
  clear f1 HAL
  go_wp2_with fail
  refine (HR.out _ F1.out).mono ?_
  rintro e w2 ⟨g, r, rfl, b⟩
  have HB := Lib.hid b
  have HW := Lib.hid (nd_write b.nd (by have := HM.out.1.len; omega))
  clear b HR
  obtain ⟨P, eP⟩ : ∃ P, x.bytes = P := ⟨_, rfl⟩
  have hRK : RdOk P x := ⟨eP.symm, HM.out.1.good, HM.out.1.few⟩
  have HRK := Lib.hid hRK
  have hPl : P.length ≤ 5000 := by have h1 := bytes_len x; have h2 := HM.out.1.len; rw [eP] at h1; omega
  have HP8 : Hid (∀ y ∈ P, y < 256) := Lib.hid (by rw [← eP]; exact bytes_lt x)
  rw [eP] at HW
  clear eP hRK
  go_wp2_with fail
  refine HW.out.mono ?_
  rintro _ w3 ⟨va, rfl, acc⟩
  obtain ⟨qa, da, rfl, sa, ca, -⟩ := acc.sl
  have F3 := Lib.hid acc.fr
  obtain ⟨N, hN⟩ : ∃ N, P.length = N := ⟨_, rfl⟩
  rw [hN] at hPl ⊢
  have HRD := Lib.hid (tread_any qa da N P w3 hN sa HP8.out ca (by omega))
  clear acc sa ca HW hN hPl
  go_wp2_with fail
  refine HRD.out.mono ?_
  rintro _ w4 (⟨x2, gs, hok, rfl, k4⟩ | ⟨hno, -⟩)
  rotate_left
  · exact absurd ⟨_, HRK.out⟩ hno
  obtain rfl := rdOk_one HRK.out hok
  have K4 := Lib.hid k4
  clear hok k4 HRD HRK HP8
  go_wp2_with fail
  refine (HR2.out _ (((F1.out.trans0 HB.out.fr).trans0 F3.out).trans0 K4.out.fr)).mono ?_
  rintro _ w5 ⟨g2, r2, rfl, b2⟩
  have HF := Lib.hid (five_start HB.out F3.out K4.out b2)
  clear b2 HR2 HB F3 K4
  have HS : Hid (St (fineD d) x ∧ St (fineD d) y) := Lib.hid ⟨by rw [← HM.out.2]; exact HM.out.1.st, by rw [← HM2.out.2]; exact HM2.out.1.st⟩
  clear HM HM2
  go_wp2_with fail
  go_loopw [17] (fun z wr => ∃ (i : Nat) (MA MB : Dg), z = .int .i64 (i : Int) ∧ i ≤ m ∧ i ≤ 30 ∧ Hid (Fv g x w1 wr gs g2 r r2 MA MB ∧ St (fineD d) MA ∧ St (fineD d) MB)) (fun z _ => 30 - (intOf z).toNat)
  case atStart => exact ⟨0, _, _, rfl, by omega, by omega, Lib.hid ⟨HF.out, HS.out.1, HS.out.2⟩⟩
  case round =>
    obtain ⟨i, MA, MB, rfl, hin, hi60, hq⟩ := hrel
    clear HF HS
    by_cases hil : (i : Int) < (m : Int)
    · by_cases hi6 : (i : Int) < 30
      · have hivl : i < l.length := by rw [HL.out]; omega
        have hqd := hq.out.1.quad
        have hrow := ((HO.out.fr0 F1.out).fr0 hqd.fr).at' i hivl
        have hok := HO.out.ok _ (List.getElem_mem hivl)
        obtain ⟨⟨kd, who, v, u⟩, hx⟩ : ∃ t, l[i] = t := ⟨_, rfl⟩
        rw [hx] at hrow hok
        simp only at hrow hok
        obtain ⟨b, o, rfl, c0, c1, c2, c3⟩ := hrow
        have HDO := Lib.hid (do_any hqd kd who v u hq.out.2.1 hq.out.2.2 hok.2.1.1 hok.2.1.2)
        clear hx hok hq hqd
        go_wp2_with fail
        refine HDO.out.mono ?_
        rintro _ w6 ⟨rfl, MA', MB', q6, sA, sB⟩
        have HQ6 := Lib.hid q6
        have HSA := Lib.hid (And.intro sA sB)
        clear q6 sA sB HDO c0 c1 c2 c3
        go_wp2_with fail
        refine (HQ6.out.same HSA.out.1.sm).mono ?_
        rintro _ w7 ⟨rfl, f7⟩
        have HQ7 := Lib.hid (show Fv g x w1 w7 gs g2 r r2 MA' MB' ∧ St (fineD d) MA' ∧ St (fineD d) MB' from ⟨HQ6.out.five.fr0 f7, HSA.out⟩)
        clear f7 HQ6 HSA
        go_wp2_with fail
        go_roundw
        case rel => exact ⟨i + 1, MA', MB', by go_num, by omega, by omega, HQ7⟩
        case measure => first | (simp [intOf]; done) | (simp [intOf]; omega)
      · go_wp2_with fail
        go_ret
        exact ⟨rfl, F1.out.trans0 hq.out.1.fr⟩
    · go_wp2_with fail
      go_ret
      exact ⟨rfl, F1.out.trans0 hq.out.1.fr⟩
end
end Go.Proofs.YtmieeoceckcnkaaGreat
