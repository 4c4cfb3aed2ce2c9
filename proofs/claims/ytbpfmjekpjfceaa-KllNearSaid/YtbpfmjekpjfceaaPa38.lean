/- KlLawNear -/
import Derived.Test.YtbpfmjekpjfceaaPa1
import Derived.Test.YtbpfmjekpjfceaaPa2
import Derived.Test.YtbpfmjekpjfceaaPa3
import Derived.Test.YtbpfmjekpjfceaaPa4
import Derived.Test.YtbpfmjekpjfceaaPa6
import Derived.Test.YtbpfmjekpjfceaaPa7
import Derived.Test.YtbpfmjekpjfceaaPa8
import Derived.Test.YtbpfmjekpjfceaaPa9
import Derived.Test.YtbpfmjekpjfceaaPa10
import Derived.Test.YtbpfmjekpjfceaaPa11
import Derived.Test.YtbpfmjekpjfceaaPa12
import Derived.Test.YtbpfmjekpjfceaaPa13
import Derived.Test.YtbpfmjekpjfceaaPa14
import Derived.Test.YtbpfmjekpjfceaaPa15
import Derived.Test.YtbpfmjekpjfceaaPa16
import Derived.Test.YtbpfmjekpjfceaaPa17
import Derived.Test.YtbpfmjekpjfceaaPa18
import Derived.Test.YtbpfmjekpjfceaaPa19
import Derived.Test.YtbpfmjekpjfceaaPa20
import Derived.Test.YtbpfmjekpjfceaaPa21
import Derived.Test.YtbpfmjekpjfceaaPa22
import Derived.Test.YtbpfmjekpjfceaaPa23
import Derived.Test.YtbpfmjekpjfceaaPa24
import Derived.Test.YtbpfmjekpjfceaaPa25
import Derived.Test.YtbpfmjekpjfceaaPa26
import Derived.Test.YtbpfmjekpjfceaaPa27
import Derived.Test.YtbpfmjekpjfceaaPa28
import Derived.Test.YtbpfmjekpjfceaaPa29
import Derived.Test.YtbpfmjekpjfceaaPa30
import Derived.Test.YtbpfmjekpjfceaaPa31
import Derived.Test.YtbpfmjekpjfceaaPa33
import Derived.Test.YtbpfmjekpjfceaaPa34
import Derived.Test.YtbpfmjekpjfceaaPa35
import Derived.Test.YtbpfmjekpjfceaaPa36
import Derived.Deep.LoopGhost
import Derived.BigQuiet
import Derived.Deep.CutRange
import Derived.Maps.AppendAt
import Derived.Laws.AppendOwnNone
import Derived.Laws.OwnMore
import Derived.Lib.AppendZerosOnto
import Derived.Lib.SliceRun
import Derived.Lib.Walk
import Derived.WalkKit
import Derived.Laws.BytesArg
import Derived.Lib.SlBytesConst
import Derived.WalkSpells
import Derived.WalkLawsBesides
import Derived.Deep.QuietTactic
import Derived.RegionTactic
import Derived.Deep.AppendLies
import Derived.Deep.RegionLaw
import Derived.Laws.ResultCell
import Derived.Laws.EntriesVeiled
import Derived.Lib.Hide
import Derived.Test.YtbpfmjekpjfceaaRows
import Derived.Laws.BitsAllLaws
import Derived.Deep.RegionHeld3
import Derived.BigRegion
import Derived.RangeFuncNested
import Derived.RangeFuncBound
import Derived.RangeFuncCalls
import Derived.RangeFuncLeaves
import Derived.Shelf.Abstract
import Derived.Shelf.RegionOpen
import Derived.OwnWalkIn
import Derived.TacticsInMore
import Derived.LoopNIn
import Derived.LoopIn
import Derived.StillTailTactics
import Derived.Laws.Externs
import Derived.Shelf.Spec.BitsCarry
import Derived.Deep.CutBlock
import Derived.Deep.DeepCutAuto
import Derived.Lib.BitFns
import Derived.Shelf.Small.Bits
import Derived.Shelf.Strconv.Itoa0
import Derived.Shelf.Bits.Mul64
import Derived.Shelf.SlSortCmp.WholeK
set_option maxRecDepth 100000
set_option maxHeartbeats 8000000
namespace Go.Proofs.Ytbpfmjekpjfceaa
open Go.RowKit
section
variable (d : Nat) (q : Option Addr) (n c : Nat) (bs : List Nat) (p : Option Addr) (m cm : Nat) (vs : List Int) (pn : Option Addr) (nn cn : Nat) (ns : List Nat) (num den : Nat) (w : World)
theorem law_near (hn : bs.length = n) (hs : SlI w .u8 q bs) (h8 : ∀ x ∈ bs, x < 256) (hq : q = none → c = 0) (hm : vs.length = m) (hz : ZI w p vs) (hnn : ns.length = nn) (hns : SlI w .u16 pn ns) (hden : den < 18446744073709551616) :
    Calls Try.prog 6 #[.int .u16 (d : Nat), .slice q n c, .slice p m cm, .slice pn nn cn, .int .u64 (num : Nat), .int .u64 (den : Nat)] w fun e w' => e = .returned (.bool true) ∧ Fr S0 w w' := by
  have HAL := Lib.hid (alive_any w)
  by_cases hbig : 500 < n
  · have k1 : decide (500 < n) = true := decide_eq_true hbig
    have k1i : decide ((500 : Int) < (n : Int)) = true := decide_eq_true (by omega)
    clear hn hs h8 hq hbig hm hz hnn hns hden
    go_enter Try.func6, Try.ntmps6
    go_wp2_with fail
    refine HAL.out.mono ?_
    rintro e w1 ⟨rfl, f1⟩
    go_wp2_with fail
    go_ret
    exact ⟨rfl, f1⟩
  have k1 : decide (500 < n) = false := decide_eq_false hbig
  have k1i : decide ((500 : Int) < (n : Int)) = false := decide_eq_false (by omega)
  obtain ⟨d1, d2⟩ := siz_in d
  have HAD := Lib.hid (fun W (f : Fr S0 w W) => added_any d q n c bs p m cm vs pn nn cn ns W ⟨hs.fr0 f, hn, h8, by omega⟩ hq hm (hz.fr0 f) hnn (hns.fr0 f))
  have HDN := Lib.hid hden
  obtain ⟨K, eK⟩ : ∃ K, siz d = K := ⟨_, rfl⟩
  rw [eK] at d1 d2 HAD
  have HNE := Lib.hid (fun r (h1 : 1 ≤ r) (h2 : r ≤ wsum ns (min m 120)) => near_at d1 d2 hn vs ns (by omega : min m 120 ≤ 1000000) h1 h2)
  have HTT := Lib.hid (adds_ok d1 d2 hn vs ns (min m 120) (by omega)).2.1
  have HWT := Lib.hid (fun i W (f : Fr S0 w W) => weight_any pn nn cn ns i W hnn (hns.fr0 f))
  have HZ := Lib.hid hz
  have HML := Lib.hid hm
  obtain ⟨s, es⟩ : ∃ s, adds K bs vs ns (min m 120) = s := ⟨_, rfl⟩
  rw [es] at HAD HNE HTT
  clear hn hs h8 hq hbig hm hz hnn hns eK hden es d1 d2
  go_enter Try.func6, Try.ntmps6
  go_wp2_with fail
  refine HAL.out.mono ?_
  rintro e w1 ⟨rfl, f1⟩
  have F1 := Lib.hid f1
  clear f1 HAL
  go_wp2_with fail
  refine (HAD.out _ F1.out).mono ?_
  rintro e w2 ⟨g, r, gr, r2, rfl, hbo⟩
  have HBO := Lib.hid hbo
  have F2 := Lib.hid (F1.out.trans0 hbo.fr)
  clear hbo HAD
  have hwt := HBO.out.gs.good.fine.wt
  have hled := HBO.out.gs.good.fine.led
  have HAT := Lib.hid (fun W (f : Fr S0 w2 W) => bo_at (HBO.out.fr0 f) num den HDN.out)
  have HTO := Lib.hid (fun W (f : Fr S0 w2 W) => br_total (HBO.out.fr0 f))
  have HRK := Lib.hid (fun W => rrank_any num den (wtL s.1) W (by omega) HDN.out)
  have hrk : rkE num den (wtL s.1) = 0 → 1 ≤ rkR num den (wtL s.1) ∧ rkR num den (wtL s.1) ≤ wtL s.1 := fun h => by
    unfold rkE at h
    unfold rkR
    split at h
    · cases h
    · rename_i h1
      split at h
      · cases h
      · rename_i h2
        rw [if_neg h1, if_neg h2]
        exact rnk_all (by omega) (by omega)
  have HRB := Lib.hid hrk
  rw [atY, atL, atE] at HAT
  obtain ⟨T, eT⟩ : ∃ T, wtL s.1 = T := ⟨_, rfl⟩
  rw [eT] at HAT HTO HRK HTT HRB hwt
  obtain ⟨RR, eRR⟩ : ∃ RR, rkR num den T = RR := ⟨_, rfl⟩
  rw [eRR] at HAT HRK HRB
  obtain ⟨X, eX⟩ : ∃ X, rkE num den T = X := ⟨_, rfl⟩
  rw [eX] at HAT HRK HRB
  obtain ⟨E, eE⟩ : ∃ E, s.2.1 = E := ⟨_, rfl⟩
  rw [eE] at HAT HNE hled
  clear eT eRR eX eE HDN HBO hrk
  go_wp2_with fail
  by_cases hX : X = 0
  · subst hX
    rw [if_pos rfl, if_pos rfl] at HAT
    obtain ⟨hr1, hr2⟩ := HRB.out rfl
    obtain ⟨V, eV, hV1, hV2, hV3⟩ := HNE.out RR hr1 (by rw [← HTT.out]; exact hr2)
    rw [eV] at HAT
    have HV := Lib.hid (And.intro hV1 (And.intro hV2 hV3))
    have hRb : RR ≤ 281474976710656 := by omega
    clear hr1 hr2 eV hV1 hV2 hV3 HNE HTT HRB hwt
    refine (HAT.out _ (Fr.refl _ _)).mono ?_
    rintro e w3 ⟨rfl, f3⟩
    have F3 := Lib.hid f3
    clear f3 HAT
    go_wp2_with fail
    refine (HTO.out _ F3.out).mono ?_
    rintro e w4 ⟨rfl, rfl⟩
    go_wp2_with fail
    refine (HRK.out _).mono ?_
    rintro e w5 ⟨rfl, f5⟩
    have F5 := Lib.hid ((F2.out.trans0 F3.out).trans0 f5)
    clear f5 HTO HRK F3
    go_wp2_with fail
    go_loopw [20, 21, 22, 23] (fun zl zu zt z wr => ∃ i : Nat, zl = .int .u64 (awt (loB V) vs ns i : Nat) ∧ zu = .int .u64 (awt (upB V) vs ns i : Nat) ∧ zt = .bool (cameB V vs i) ∧ z = .int .i64 (i : Nat) ∧ i ≤ m ∧ i ≤ 120 ∧ wr = w5) (fun _ _ _ z _ => 120 - (intOf z).toNat)
    case atStart => exact ⟨0, rfl, rfl, rfl, rfl, by omega, by omega, rfl⟩
    case round =>
      obtain ⟨i, rfl, rfl, rfl, rfl, him, hi, rfl⟩ := hrel
      have hsl := wsum_le ns i
      have ha1 := awt_le (loB V) vs ns i
      have ha2 := awt_le (upB V) vs ns i
      by_cases hin : i < m ∧ i < 120
      · obtain ⟨him2, hi2⟩ := hin
        have hil : (i : Int) < (m : Int) := by omega
        have hi12 : (i : Int) < 120 := by omega
        have hi0 : (0 : Int) ≤ (i : Int) := by omega
        have hivl : i < vs.length := by rw [HML.out]; exact him2
        obtain ⟨b1, o1, rfl, c0⟩ := (HZ.out.fr0 F5.out) i hivl
        have hgd : vs.getD i 0 = vs[i] := by simp [hivl]
        obtain ⟨x, ex⟩ : ∃ x, vs[i] = x := ⟨_, rfl⟩
        rw [ex] at hgd c0
        have HW := Lib.hid (HWT.out i wr F5.out)
        have hb := wgt_bd ns i
        have HAU : Hid (awt (loB V) vs ns (i + 1) = awt (loB V) vs ns i + (if loB V x then wgt ns i else 0)) := Lib.hid (by rw [awt, hgd])
        have HUU : Hid (awt (upB V) vs ns (i + 1) = awt (upB V) vs ns i + (if upB V x then wgt ns i else 0)) := Lib.hid (by rw [awt, hgd])
        have HCU : Hid (cameB V vs (i + 1) = (cameB V vs i || (x == V))) := Lib.hid (by rw [cameB, hgd])
        obtain ⟨U, eU⟩ : ∃ U, wgt ns i = U := ⟨_, rfl⟩
        obtain ⟨A, eA⟩ : ∃ A, awt (loB V) vs ns i = A := ⟨_, rfl⟩
        obtain ⟨B, eB⟩ : ∃ B, awt (upB V) vs ns i = B := ⟨_, rfl⟩
        obtain ⟨CB, eC⟩ : ∃ CB, cameB V vs i = CB := ⟨_, rfl⟩
        rw [eU] at HW HAU HUU hb
        rw [eA] at HAU ha1 ⊢
        rw [eB] at HUU ha2 ⊢
        rw [eC] at HCU ⊢
        have kW1 : IntKind.u64.wrap ((A : Int) + (U : Int)) = (A : Int) + (U : Int) := by rw [IntKind.wrap_u64]; omega
        have kW2 : IntKind.u64.wrap ((B : Int) + (U : Int)) = (B : Int) + (U : Int) := by rw [IntKind.wrap_u64]; omega
        clear eU eA eB eC ex hgd hb hsl ha1 ha2 hivl
        rcases Int.lt_trichotomy x V with hxv | hxv | hxv
        · have kE : (x == V) = false := by simp; omega
          have kL : decide (x < V) = true := decide_eq_true (by omega)
          have kG : decide (x ≤ V) = true := decide_eq_true (by omega)
          have hlo : loB V x = true := kL
          have hup : upB V x = true := kG
          rw [hlo] at HAU
          rw [hup] at HUU
          rw [kE] at HCU
          clear hlo hup hxv
          cases CB
          · go_wp2_with fail
            refine HW.out.mono ?_
            rintro e w7 ⟨rfl, rfl⟩
            go_wp2_with fail
            refine HW.out.mono ?_
            rintro e w7 ⟨rfl, rfl⟩
            go_wp2_with fail
            go_roundw
            case rel => exact ⟨i + 1, by rw [HAU.out]; simp, by rw [HUU.out]; simp, by rw [HCU.out]; simp, by go_num, by omega, by omega, (by first | trivial | rfl)⟩
            case measure => simp [intOf]; omega
          · go_wp2_with fail
            refine HW.out.mono ?_
            rintro e w7 ⟨rfl, rfl⟩
            go_wp2_with fail
            refine HW.out.mono ?_
            rintro e w7 ⟨rfl, rfl⟩
            go_wp2_with fail
            go_roundw
            case rel => exact ⟨i + 1, by rw [HAU.out]; simp, by rw [HUU.out]; simp, by rw [HCU.out]; simp, by go_num, by omega, by omega, (by first | trivial | rfl)⟩
            case measure => simp [intOf]; omega
        · subst hxv
          have kE : (x == x) = true := by simp
          have kL : decide (x < x) = false := decide_eq_false (by omega)
          have kG : decide (x ≤ x) = true := decide_eq_true (by omega)
          have hlo : loB x x = false := kL
          have hup : upB x x = true := kG
          rw [hlo] at HAU
          rw [hup] at HUU
          rw [kE] at HCU
          clear hlo hup
          cases CB
          · go_wp2_with fail
            refine HW.out.mono ?_
            rintro e w7 ⟨rfl, rfl⟩
            go_wp2_with fail
            go_roundw
            case rel => exact ⟨i + 1, by rw [HAU.out]; simp, by rw [HUU.out]; simp, by rw [HCU.out]; simp, by go_num, by omega, by omega, (by first | trivial | rfl)⟩
            case measure => simp [intOf]; omega
          · go_wp2_with fail
            refine HW.out.mono ?_
            rintro e w7 ⟨rfl, rfl⟩
            go_wp2_with fail
            go_roundw
            case rel => exact ⟨i + 1, by rw [HAU.out]; simp, by rw [HUU.out]; simp, by rw [HCU.out]; simp, by go_num, by omega, by omega, (by first | trivial | rfl)⟩
            case measure => simp [intOf]; omega
        · have kE : (x == V) = false := by simp; omega
          have kL : decide (x < V) = false := decide_eq_false (by omega)
          have kG : decide (x ≤ V) = false := decide_eq_false (by omega)
          have hlo : loB V x = false := kL
          have hup : upB V x = false := kG
          rw [hlo] at HAU
          rw [hup] at HUU
          rw [kE] at HCU
          clear hlo hup hxv
          cases CB
          · go_wp2_with fail
            go_roundw
            case rel => exact ⟨i + 1, by rw [HAU.out]; simp, by rw [HUU.out]; simp, by rw [HCU.out]; simp, by go_num, by omega, by omega, (by first | trivial | rfl)⟩
            case measure => simp [intOf]; omega
          · go_wp2_with fail
            go_roundw
            case rel => exact ⟨i + 1, by rw [HAU.out]; simp, by rw [HUU.out]; simp, by rw [HCU.out]; simp, by go_num, by omega, by omega, (by first | trivial | rfl)⟩
            case measure => simp [intOf]; omega
      · have HMI : Hid (min m 120 = i) := Lib.hid (by omega)
        have hV := HV.out
        rw [HMI.out] at hV
        obtain ⟨hV1, hV2, hV3⟩ := hV
        rw [hV1]
        obtain ⟨A, eA⟩ : ∃ A, awt (loB V) vs ns i = A := ⟨_, rfl⟩
        obtain ⟨B, eB⟩ : ∃ B, awt (upB V) vs ns i = B := ⟨_, rfl⟩
        rw [eA] at hV2 ha1 ⊢
        rw [eB] at hV3 ha2 ⊢
        have kW1 : IntKind.u64.wrap ((RR : Int) + (E : Int)) = (RR : Int) + (E : Int) := by rw [IntKind.wrap_u64]; omega
        have kW2 : IntKind.u64.wrap ((B : Int) + (E : Int)) = (B : Int) + (E : Int) := by rw [IntKind.wrap_u64]; omega
        have kA : decide ((A : Int) < (RR : Int) + (E : Int)) = true := decide_eq_true (by omega)
        have kB : decide ((RR : Int) ≤ (B : Int) + (E : Int)) = true := decide_eq_true (by omega)
        have hor : (i = m) ∨ ((i : Int) < (m : Int) ∧ i = 120) := by omega
        clear hin HMI hV1 hV2 hV3 eA eB ha1 ha2 hsl hled hRb
        rcases hor with hor | ⟨hlt, hor⟩
        all_goals
          subst hor
          go_wp2_with fail
          go_ret
          exact ⟨rfl, F5.out⟩
  · rw [if_neg hX, if_neg hX] at HAT
    have kX0 : ((X : Int) != 0) = true := by simp; omega
    clear hX HRB HNE HTT hwt hled
    refine (HAT.out _ (Fr.refl _ _)).mono ?_
    rintro e w3 ⟨rfl, f3⟩
    go_wp2_with fail
    go_ret
    exact ⟨rfl, F2.out.trans0 f3⟩
end
end Go.Proofs.Ytbpfmjekpjfceaa
