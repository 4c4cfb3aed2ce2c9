/- KlLawAsks -/
import Derived.Test.YtbpfmjekpjfceaaPa1
import Derived.Test.YtbpfmjekpjfceaaPa2
import Derived.Test.YtbpfmjekpjfceaaPa3
import Derived.Test.YtbpfmjekpjfceaaPa4
import Derived.Test.YtbpfmjekpjfceaaPa6
import Derived.Test.YtbpfmjekpjfceaaPa7
import Derived.Test.YtbpfmjekpjfceaaPa8
import Derived.Test.YtbpfmjekpjfceaaPa9
import Derived.Test.YtbpfmjekpjfceaaPa10
import Derived.Test.YtbpfmjekpjfceaaPa11
import Derived.Test.YtbpfmjekpjfceaaPa12
import Derived.Test.YtbpfmjekpjfceaaPa13
import Derived.Test.YtbpfmjekpjfceaaPa14
import Derived.Test.YtbpfmjekpjfceaaPa15
import Derived.Test.YtbpfmjekpjfceaaPa16
import Derived.Test.YtbpfmjekpjfceaaPa17
import Derived.Test.YtbpfmjekpjfceaaPa18
import Derived.Test.YtbpfmjekpjfceaaPa19
import Derived.Test.YtbpfmjekpjfceaaPa20
import Derived.Test.YtbpfmjekpjfceaaPa21
import Derived.Test.YtbpfmjekpjfceaaPa22
import Derived.Test.YtbpfmjekpjfceaaPa23
import Derived.Test.YtbpfmjekpjfceaaPa24
import Derived.Test.YtbpfmjekpjfceaaPa25
import Derived.Test.YtbpfmjekpjfceaaPa26
import Derived.Test.YtbpfmjekpjfceaaPa27
import Derived.Test.YtbpfmjekpjfceaaPa28
import Derived.Test.YtbpfmjekpjfceaaPa29
import Derived.Test.YtbpfmjekpjfceaaPa30
import Derived.Test.YtbpfmjekpjfceaaPa31
import Derived.Test.YtbpfmjekpjfceaaPa32
import Derived.Test.YtbpfmjekpjfceaaPa33
import Derived.Test.YtbpfmjekpjfceaaPa34
import Derived.Test.YtbpfmjekpjfceaaPa35
import Derived.Test.YtbpfmjekpjfceaaPa36
import Derived.Deep.LoopGhost
import Derived.BigQuiet
import Derived.Deep.CutRange
import Derived.Maps.AppendAt
import Derived.Laws.AppendOwnNone
import Derived.Laws.OwnMore
import Derived.Lib.AppendZerosOnto
import Derived.Lib.SliceRun
import Derived.Lib.Walk
import Derived.WalkKit
import Derived.Laws.BytesArg
import Derived.Lib.SlBytesConst
import Derived.WalkSpells
import Derived.WalkLawsBesides
import Derived.Deep.QuietTactic
import Derived.RegionTactic
import Derived.Deep.AppendLies
import Derived.Deep.RegionLaw
import Derived.Laws.ResultCell
import Derived.Laws.EntriesVeiled
import Derived.Lib.Hide
import Derived.Test.YtbpfmjekpjfceaaRows
import Derived.Laws.BitsAllLaws
import Derived.Deep.RegionHeld3
import Derived.BigRegion
import Derived.RangeFuncNested
import Derived.RangeFuncBound
import Derived.RangeFuncCalls
import Derived.RangeFuncLeaves
import Derived.Shelf.Abstract
import Derived.Shelf.RegionOpen
import Derived.OwnWalkIn
import Derived.TacticsInMore
import Derived.LoopNIn
import Derived.LoopIn
import Derived.StillTailTactics
import Derived.Laws.Externs
import Derived.Shelf.Spec.BitsCarry
import Derived.Deep.CutBlock
import Derived.Deep.DeepCutAuto
import Derived.Lib.BitFns
import Derived.Shelf.Small.Bits
import Derived.Shelf.Strconv.Itoa0
import Derived.Shelf.Bits.Mul64
import Derived.Shelf.SlSortCmp.WholeK
set_option maxRecDepth 100000
set_option maxHeartbeats 8000000
namespace Go.Proofs.Ytbpfmjekpjfceaa
open Go.RowKit
section
variable (d : Nat) (q : Option Addr) (n c : Nat) (bs : List Nat) (p : Option Addr) (m cm : Nat) (vs : List Int) (pn : Option Addr) (nn cn : Nat) (ns : List Nat) (num den : Nat) (x : Int) (w : World)
theorem law_asks (hn : bs.length = n) (hs : SlI w .u8 q bs) (h8 : ∀ x ∈ bs, x < 256) (hq : q = none → c = 0) (hm : vs.length = m) (hz : ZI w p vs) (hnn : ns.length = nn) (hns : SlI w .u16 pn ns) (hden : den < 18446744073709551616) :
    Calls Try.prog 5 #[.int .u16 (d : Nat), .slice q n c, .slice p m cm, .slice pn nn cn, .int .u64 (num : Nat), .int .u64 (den : Nat), .int .i64 x] w fun e w' => e = .returned (.bool true) ∧ Fr S0 w w' := by
  have HAL := Lib.hid (alive_any w)
  by_cases hbig : 500 < n
  · have k1 : decide (500 < n) = true := decide_eq_true hbig
    have k1i : decide ((500 : Int) < (n : Int)) = true := decide_eq_true (by omega)
    clear hn hs h8 hq hbig hm hz hnn hns hden
    go_enter Try.func5, Try.ntmps5
    go_wp2_with fail
    refine HAL.out.mono ?_
    rintro e w1 ⟨rfl, f1⟩
    go_wp2_with fail
    go_ret
    exact ⟨rfl, f1⟩
  have k1 : decide (500 < n) = false := decide_eq_false hbig
  have k1i : decide ((500 : Int) < (n : Int)) = false := decide_eq_false (by omega)
  obtain ⟨d1, d2⟩ := siz_in d
  have HAD := Lib.hid (fun W (f : Fr S0 w W) => added_any d q n c bs p m cm vs pn nn cn ns W ⟨hs.fr0 f, hn, h8, by omega⟩ hq hm (hz.fr0 f) hnn (hns.fr0 f))
  have HDN := Lib.hid hden
  obtain ⟨K, eK⟩ : ∃ K, siz d = K := ⟨_, rfl⟩
  rw [eK] at d1 d2 HAD
  obtain ⟨s, es⟩ : ∃ s, adds K bs vs ns (min m 120) = s := ⟨_, rfl⟩
  rw [es] at HAD
  clear hn hs h8 hq hbig hm hz hnn hns eK hden es d1 d2
  go_enter Try.func5, Try.ntmps5
  go_wp2_with fail
  refine HAL.out.mono ?_
  rintro e w1 ⟨rfl, f1⟩
  have F1 := Lib.hid f1
  clear f1 HAL
  go_wp2_with fail
  refine (HAD.out _ F1.out).mono ?_
  rintro e w2 ⟨g, r, gr, r2, rfl, hbo⟩
  have HBO := Lib.hid hbo
  have F2 := Lib.hid (F1.out.trans0 hbo.fr)
  clear hbo HAD
  have hwt := HBO.out.gs.good.fine.wt
  have HAT := Lib.hid (fun W (f : Fr S0 w2 W) => bo_at (HBO.out.fr0 f) num den HDN.out)
  have HTO := Lib.hid (fun W (f : Fr S0 w2 W) => br_total (HBO.out.fr0 f))
  have HRK := Lib.hid (fun W => rrank_any num den (wtL s.1) W (by omega) HDN.out)
  have HRA := Lib.hid (fun W (f : Fr S0 w2 W) z hz => br_at (HBO.out.fr0 f) z hz)
  have HBT := Lib.hid (fun W (f : Fr S0 w2 W) => bo_between (HBO.out.fr0 f) x)
  have HRB := Lib.hid (fun W (f : Fr S0 w2 W) => br_between (HBO.out.fr0 f) x)
  have HSM := Lib.hid (fun W (f : Fr S0 w2 W) => by
    have b := HBO.out.fr0 f
    obtain ⟨C, D, h1⟩ := b.code
    obtain ⟨C2, D2, h2⟩ := b.ref
    exact same_any g gr K s.2.1 C D C2 D2 s.1 W h1 h2 b.gs.good)
  have HLE : Hid (∀ W, Fr S0 w2 W → W.cell? ⟨gr, 2, none⟩ = some (.int .u64 (s.2.1 : Nat))) := Lib.hid fun W f => by
    obtain ⟨C2, D2, p2, n2, c2, rs, h2⟩ := (HBO.out.fr0 f).ref
    exact h2.c2
  have hrb : rkR num den (wtL s.1) ≤ 281474976710656 := by
    unfold rkR
    split
    · omega
    · split
      · omega
      · rename_i h1 h2
        have := (rnk_all (a := num) (d := den) (n := wtL s.1) (by omega) (by omega)).2
        omega
  have HRA1 := Lib.hid (fun W f => HRA.out W f _ hrb)
  clear HRA hrb hwt
  rw [atY, atL, atE] at HAT
  obtain ⟨E, eE⟩ : ∃ E, s.2.1 = E := ⟨_, rfl⟩
  rw [eE] at HAT HLE
  obtain ⟨T, eT⟩ : ∃ T, wtL s.1 = T := ⟨_, rfl⟩
  rw [eT] at HAT HTO HRK HRA1
  obtain ⟨RR, eRR⟩ : ∃ RR, rkR num den T = RR := ⟨_, rfl⟩
  rw [eRR] at HAT HRK HRA1
  obtain ⟨V, eV⟩ : ∃ V, atV s.1 RR = V := ⟨_, rfl⟩
  rw [eV] at HAT HRA1
  obtain ⟨X, eX⟩ : ∃ X, rkE num den T = X := ⟨_, rfl⟩
  rw [eX] at HAT HRK
  obtain ⟨L1, eL1⟩ : ∃ L1, cntL (loB x) s.1 = L1 := ⟨_, rfl⟩
  obtain ⟨U1, eU1⟩ : ∃ U1, cntL (upB x) s.1 = U1 := ⟨_, rfl⟩
  rw [eL1, eU1] at HBT HRB
  clear eE eT eRR eV eX eL1 eU1 HDN HBO
  have kX : ((X : Int) != (X : Int)) = false := by simp
  have kV : (V != V) = false := by simp
  have kE : ((E : Int) != (E : Int)) = false := by simp
  have kL : ((L1 : Int) == (L1 : Int)) = true := by simp
  have kU : ((U1 : Int) == (U1 : Int)) = true := by simp
  go_wp2_with fail
  by_cases hX : X = 0
  · subst hX
    rw [if_pos rfl, if_pos rfl] at HAT
    refine (HAT.out _ (Fr.refl _ _)).mono ?_
    rintro e w3 ⟨rfl, f3⟩
    have F3 := Lib.hid f3
    clear f3 HAT
    go_wp2_with fail
    refine (HTO.out _ F3.out).mono ?_
    rintro e w4 ⟨rfl, rfl⟩
    go_wp2_with fail
    refine (HRK.out _).mono ?_
    rintro e w5 ⟨rfl, f5⟩
    have F5 := Lib.hid (F3.out.trans0 f5)
    clear f5
    have c2 := HLE.out _ F5.out
    go_wp2_with fail
    refine (HRA1.out _ F5.out).mono ?_
    rintro e w6 ⟨rfl, rfl⟩
    go_wp2_with fail
    refine (HBT.out _ F5.out).mono ?_
    rintro e w7 ⟨rfl, f7⟩
    have F7 := Lib.hid (F5.out.trans0 f7)
    clear f7 c2
    go_wp2_with fail
    refine (HRB.out _ F7.out).mono ?_
    rintro e w8 ⟨rfl, rfl⟩
    go_wp2_with fail
    refine (HSM.out _ F7.out).mono ?_
    rintro e w9 ⟨rfl, f9⟩
    go_wp2_with fail
    go_ret
    exact ⟨rfl, (F2.out.trans0 F7.out).trans0 f9⟩
  · rw [if_neg hX, if_neg hX] at HAT
    have kX0 : ((X : Int) != 0) = true := by simp; omega
    have kX1 : ((X : Int) == 0) = false := by simp; omega
    clear hX
    refine (HAT.out _ (Fr.refl _ _)).mono ?_
    rintro e w3 ⟨rfl, f3⟩
    have F3 := Lib.hid f3
    clear f3 HAT
    go_wp2_with fail
    refine (HTO.out _ F3.out).mono ?_
    rintro e w4 ⟨rfl, rfl⟩
    go_wp2_with fail
    refine (HRK.out _).mono ?_
    rintro e w5 ⟨rfl, f5⟩
    have F5 := Lib.hid (F3.out.trans0 f5)
    clear f5
    go_wp2_with fail
    refine (HBT.out _ F5.out).mono ?_
    rintro e w7 ⟨rfl, f7⟩
    have F7 := Lib.hid (F5.out.trans0 f7)
    clear f7
    go_wp2_with fail
    refine (HRB.out _ F7.out).mono ?_
    rintro e w8 ⟨rfl, rfl⟩
    go_wp2_with fail
    refine (HSM.out _ F7.out).mono ?_
    rintro e w9 ⟨rfl, f9⟩
    go_wp2_with fail
    go_ret
    exact ⟨rfl, (F2.out.trans0 F7.out).trans0 f9⟩
end
end Go.Proofs.Ytbpfmjekpjfceaa
