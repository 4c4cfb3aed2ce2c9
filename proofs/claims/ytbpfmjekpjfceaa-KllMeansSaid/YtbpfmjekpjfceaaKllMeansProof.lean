/- KllMeansProof -/
import Derived.Test.YtbpfmjekpjfceaaPm1
import Derived.Test.YtbpfmjekpjfceaaPm2
import Derived.Test.YtbpfmjekpjfceaaPm3
import Derived.Test.YtbpfmjekpjfceaaPm4
import Derived.Test.YtbpfmjekpjfceaaPm5
import Derived.Test.YtbpfmjekpjfceaaPm6
import Derived.Test.YtbpfmjekpjfceaaPm7
import Derived.Test.YtbpfmjekpjfceaaPm8
import Derived.Test.YtbpfmjekpjfceaaPm9
import Derived.Test.YtbpfmjekpjfceaaPm10
import Derived.Test.YtbpfmjekpjfceaaPm11
import Derived.Test.YtbpfmjekpjfceaaPm12
import Derived.Test.YtbpfmjekpjfceaaPm13
import Derived.Test.YtbpfmjekpjfceaaPm14
import Derived.Test.YtbpfmjekpjfceaaPm15
import Derived.Test.YtbpfmjekpjfceaaPm16
import Derived.Test.YtbpfmjekpjfceaaPm17
import Derived.Test.YtbpfmjekpjfceaaPm18
import Derived.Test.YtbpfmjekpjfceaaPm19
import Derived.Test.YtbpfmjekpjfceaaPm20
import Derived.Test.YtbpfmjekpjfceaaPm21
import Derived.Test.YtbpfmjekpjfceaaPm22
import Derived.Test.YtbpfmjekpjfceaaPm23
import Derived.Test.YtbpfmjekpjfceaaPm24
import Derived.Test.YtbpfmjekpjfceaaPm25
import Derived.Test.YtbpfmjekpjfceaaPm26
import Derived.Test.YtbpfmjekpjfceaaPm27
import Derived.Test.YtbpfmjekpjfceaaPm28
import Derived.Test.YtbpfmjekpjfceaaPm29
import Derived.Test.YtbpfmjekpjfceaaPm30
import Derived.Test.YtbpfmjekpjfceaaPm31
import Derived.Test.YtbpfmjekpjfceaaPm32
import Derived.Test.YtbpfmjekpjfceaaPm33
import Derived.Test.YtbpfmjekpjfceaaPm34
import Derived.Test.YtbpfmjekpjfceaaPm35
import Derived.Test.YtbpfmjekpjfceaaPm36
import Derived.Test.YtbpfmjekpjfceaaPm37
import Derived.WalkKit
import Derived.ProofKit
import Derived.OpenShut
import Derived.ShutString
import Derived.ChangeOld
import Derived.ChangeArms
import Derived.Below
import Derived.Test.YtbpfmjekpjfceaaRows
import Derived.Deep.Fields
import Derived.Deep.Matrix
import Derived.WalkSpells
import Derived.WalkLawsBesides
import Derived.Deep.QuietTactic
import Derived.BigQuiet
import Derived.RegionTactic
import Derived.Deep.AppendLies
import Derived.Deep.RegionLaw
import Derived.Laws.ResultCell
import Derived.Laws.EntriesVeiled
import Derived.Lib.Hide
import Derived.Maps.AppendAt
import Derived.Laws.AppendOwnNone
import Derived.Laws.OwnMore
import Derived.Lib.AppendZerosOnto
import Derived.Lib.SliceRun
import Derived.Lib.Walk
import Derived.Laws.BytesArg
import Derived.Lib.SlBytesConst
import Derived.Deep.LoopGhost
import Derived.Deep.CutRange
import Derived.Laws.BitsAllLaws
import Derived.Deep.RegionHeld3
import Derived.BigRegion
import Derived.RangeFuncNested
import Derived.RangeFuncBound
import Derived.RangeFuncCalls
import Derived.RangeFuncLeaves
import Derived.Shelf.Abstract
import Derived.Shelf.RegionOpen
import Derived.OwnWalkIn
import Derived.TacticsInMore
import Derived.LoopNIn
import Derived.LoopIn
import Derived.StillTailTactics
import Derived.Laws.Externs
import Derived.Shelf.Spec.BitsCarry
import Derived.Deep.CutBlock
import Derived.Deep.DeepCutAuto
import Derived.Lib.BitFns
import Derived.Shelf.Small.Bits
import Derived.Shelf.Strconv.Itoa0
import Derived.Shelf.Bits.Mul64
import Derived.Shelf.SlSortCmp.WholeK
set_option maxRecDepth 100000
set_option maxHeartbeats 8000000
/- The mean of what is kept is the document's, lies between the least and the greatest value that came, and without packing is the mean of all. -/
namespace Go.Proofs.Ytbpfmjekpjfceaa.kllMeans
open Go.ChangeShapes Go.WideShapes Go.ChangeAt Go.RowKit Go.Deep

theorem own : ownKnob Try.prog.godebug = none := by kernel_rfl
theorem laidOut : laidOutB Try.prog = true := by kernel_rfl

set_option maxRecDepth 100000 in
theorem lifted (os : Os) (started : os.Started) (H : Type) (enc : TypeId × Value → H) :
    ReturnsInHanded {} Try.checked os 11 .any (Rows.kllMeansSpec.pre6 enc Try.prog Try.f11 Rows.kllMeansRow.domain false) (Rows.kllMeansSpec.post enc Try.prog Try.f11 false true false false) := by
  refine returnsInHanded_of_change (C := Try.checked) own started (by kernel_rfl) Try.func11
    (ChangeSpec.witness6 (enc := enc) (C := Try.checked) false ⟨#[], #[.int .u16 0, .slice none 0 0, .slice none 0 0, .slice none 0 0], []⟩ 8 (by kernel_rfl) (by kernel_rfl) (by kernel_rfl) (by kernel_rfl)) ?_
  intro W base args ds gs before hval0 hW hcnd _
  have hval : ∀ (j : Nat) t v, Try.f11.params[j]? = some t → args[j]? = some v → Value.okWide Try.prog W .any base t v := hval0
  have hW' := hW
  obtain ⟨p, q, hA0, hV, rfl, hfz, hnd⟩ := hW
  have hA : DataW.TrodAll enc Try.prog W 0 (fun _ => true) true Try.f11.params.toList args.toList ds p := hA0
  rw [Try.params11] at hA hval
  obtain ⟨v0, vs0, d0, ds0, p0, q0, hargs, rfl, rfl, h0, r0⟩ := trodAll_cons hA
  obtain ⟨v1, vs1, d1, ds1, p1, q1, rfl, rfl, rfl, h1, r1⟩ := trodAll_cons r0
  obtain ⟨v2, vs2, d2, ds2, p2, q2, rfl, rfl, rfl, h2, r2⟩ := trodAll_cons r1
  obtain ⟨v3, vs3, d3, ds3, p3, q3, rfl, rfl, rfl, h3, r3⟩ := trodAll_cons r2
  obtain ⟨rfl, rfl, rfl⟩ := trodAll_nil r3
  obtain rfl : args = #[v0, v1, v2, v3] := by cases args; simp_all
  obtain ⟨rfl, rfl⟩ := trodVars_none hV
  obtain ⟨a0, rfl, rfl, rfl, w0⟩ := open_int Try.underlying22 (hval 0 22 v0 rfl rfl) h0
  have b0 := bounds_u16 w0
  obtain ⟨n0, rfl⟩ : ∃ x : Nat, a0 = x := ⟨a0.toNat, by omega⟩
  obtain ⟨a1, len1, cap1, rfl⟩ := okWide_slice Try.underlying23 (hval 1 23 v1 rfl rfl)
  have k1 := h1
  have lt1 : ∀ x ∈ p1, x.block < W.heap.size := by obtain ⟨m, hm⟩ := k1; exact DataW.trod_lt m _ _ _ hm
  obtain ⟨l1, w1, w1b, w1c, w1d, w1e, w1f⟩ : ∃ l : List Nat, l.length = len1 ∧ SlI W .u8 a1 l ∧ (∀ v ∈ l, v < 256) ∧ (a1 = none → cap1 = 0) ∧ len1 ≤ cap1 ∧ cap1 ≤ maxLen := by
    obtain ⟨fuel, hf⟩ := h1
    exact bsOpen hf
  obtain ⟨a2, len2, cap2, rfl⟩ := okWide_slice Try.underlying53 (hval 2 53 v2 rfl rfl)
  have k2 := h2
  have lt2 : ∀ x ∈ p2, x.block < W.heap.size := by obtain ⟨m, hm⟩ := k2; exact DataW.trod_lt m _ _ _ hm
  obtain ⟨l2, w2, w2b, w2c⟩ : ∃ l : List Int, l.length = len2 ∧ (∀ i, (h : i < l.length) → ∃ b o, a2 = some ⟨b, o, none⟩ ∧ W.cell? ⟨b, o + i, none⟩ = some (.int .i64 l[i])) ∧ ∀ v ∈ l, -9223372036854775808 ≤ v ∧ v ≤ 9223372036854775807 := by
    obtain ⟨fuel, hf⟩ := h2
    exact zsOpen hf
  obtain ⟨a3, len3, cap3, rfl⟩ := okWide_slice Try.underlying54 (hval 3 54 v3 rfl rfl)
  have k3 := h3
  have lt3 : ∀ x ∈ p3, x.block < W.heap.size := by obtain ⟨m, hm⟩ := k3; exact DataW.trod_lt m _ _ _ hm
  obtain ⟨l3, w3, w3b, w3c⟩ : ∃ l : List Nat, l.length = len3 ∧ SlI W .u16 a3 l ∧ ∀ v ∈ l, v < 65536 := by
    obtain ⟨fuel, hf⟩ := h3
    exact hsOpen hf
  clear hA0 hval0
  refine (law_means n0 a1 len1 cap1 l1 a2 len2 cap2 l2 a3 len3 cap3 l3 W w1 w1b w1c w1d w2 w2b w3 w3b w2c).mono fun _ W' he => ?_
  obtain ⟨he, hfr⟩ := he
  have bel := hfr.below
  subst he
  exact ⟨_, rfl, _, _, _, [], _, [], hW', trodAll_mk1 (shut_bool Try.underlying4 _), (trodAll_cons_mk (shut_int Try.underlying22 w0) (trodAll_cons_mk (Below.trod laidOut (by kernel_rfl) (of_decide_eq_true (by kernel_rfl)) k1 bel lt1) (trodAll_cons_mk (Below.trod laidOut (by kernel_rfl) (of_decide_eq_true (by kernel_rfl)) k2 bel lt2) (trodAll_cons_mk (Below.trod laidOut (by kernel_rfl) (of_decide_eq_true (by kernel_rfl)) k3 bel lt3) trodAll_mk0)))), rfl, bel.frame _, fun h => by cases h⟩

theorem over : Rows.kllMeansRow.holds Try.pinned (OpenSpec.ofChange Rows.kllMeansSpec) :=
  OpenClaim.holds_of_wide 11 Try.f11 rfl rfl rfl rfl rfl rfl rfl ⟨rfl, rfl, rfl, rfl, rfl⟩ rfl rfl rfl rfl rfl (by kernel_rfl) Try.func11 (by kernel_rfl)
    (of_decide_eq_true (by kernel_rfl)) (by unfold Func.isWrapper; first | (rw [if_pos (by decide +kernel)]; kernel_rfl) | (rw [if_neg (by decide +kernel)]; exact ⟨rfl, rfl⟩))
    (fun os started H enc _ => lifted os started H enc)

theorem proved : Rows.KllMeansSaid := over
end Go.Proofs.Ytbpfmjekpjfceaa.kllMeans
