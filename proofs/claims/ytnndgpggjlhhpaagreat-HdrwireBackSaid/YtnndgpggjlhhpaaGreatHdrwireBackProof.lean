/- HdrwireBackProof -/
import Derived.Test.YtnndgpggjlhhpaaGreatPb1
import Derived.Test.YtnndgpggjlhhpaaGreatPb2
import Derived.Test.YtnndgpggjlhhpaaGreatPb3
import Derived.Test.YtnndgpggjlhhpaaGreatPb4
import Derived.Test.YtnndgpggjlhhpaaGreatPb5
import Derived.Test.YtnndgpggjlhhpaaGreatPb6
import Derived.Test.YtnndgpggjlhhpaaGreatPb7
import Derived.Test.YtnndgpggjlhhpaaGreatPb8
import Derived.Test.YtnndgpggjlhhpaaGreatPb9
import Derived.Test.YtnndgpggjlhhpaaGreatPb10
import Derived.Test.YtnndgpggjlhhpaaGreatPb11
import Derived.Test.YtnndgpggjlhhpaaGreatPb12
import Derived.Test.YtnndgpggjlhhpaaGreatPb13
import Derived.Test.YtnndgpggjlhhpaaGreatPb14
import Derived.Test.YtnndgpggjlhhpaaGreatPb15
import Derived.Test.YtnndgpggjlhhpaaGreatPb16
import Derived.Test.YtnndgpggjlhhpaaGreatPb17
import Derived.Test.YtnndgpggjlhhpaaGreatPb18
import Derived.Test.YtnndgpggjlhhpaaGreatPb19
import Derived.Test.YtnndgpggjlhhpaaGreatPb20
import Derived.Test.YtnndgpggjlhhpaaGreatPb21
import Derived.Test.YtnndgpggjlhhpaaGreatPb22
import Derived.Test.YtnndgpggjlhhpaaGreatPb23
import Derived.Test.YtnndgpggjlhhpaaGreatPb24
import Derived.Test.YtnndgpggjlhhpaaGreatPb25
import Derived.Test.YtnndgpggjlhhpaaGreatPb26
import Derived.Test.YtnndgpggjlhhpaaGreatPb27
import Derived.Test.YtnndgpggjlhhpaaGreatPb28
import Derived.Test.YtnndgpggjlhhpaaGreatPb29
import Derived.Test.YtnndgpggjlhhpaaGreatPb30
import Derived.Test.YtnndgpggjlhhpaaGreatPb31
import Derived.Test.YtnndgpggjlhhpaaGreatPb32
import Derived.Test.YtnndgpggjlhhpaaGreatPb33
import Derived.Test.YtnndgpggjlhhpaaGreatPb34
import Derived.Test.YtnndgpggjlhhpaaGreatPb35
import Derived.Test.YtnndgpggjlhhpaaGreatPb36
import Derived.Test.YtnndgpggjlhhpaaGreatPb37
import Derived.Test.YtnndgpggjlhhpaaGreatPb38
import Derived.Test.YtnndgpggjlhhpaaGreatPb39
import Derived.Test.YtnndgpggjlhhpaaGreatPb40
import Derived.Test.YtnndgpggjlhhpaaGreatPb41
import Derived.Test.YtnndgpggjlhhpaaGreatPb42
import Derived.Test.YtnndgpggjlhhpaaGreatPb43
import Derived.Test.YtnndgpggjlhhpaaGreatPb44
import Derived.Test.YtnndgpggjlhhpaaGreatPb45
import Derived.WalkKit
import Derived.ProofKit
import Derived.OpenShut
import Derived.ShutString
import Derived.ChangeOld
import Derived.ChangeArms
import Derived.Below
import Derived.Test.YtnndgpggjlhhpaaGreatRows
import Derived.Deep.Fields
import Derived.Deep.Matrix
import Derived.WalkSpells
import Derived.WalkLawsBesides
import Derived.Deep.QuietTactic
import Derived.BigQuiet
import Derived.RegionTactic
import Derived.Deep.AppendLies
import Derived.Deep.RegionLaw
import Derived.Laws.ResultCell
import Derived.Laws.EntriesVeiled
import Derived.Lib.Hide
import Derived.BigRegion
import Derived.RangeFuncNested
import Derived.RangeFuncBound
import Derived.RangeFuncCalls
import Derived.RangeFuncLeaves
import Derived.Shelf.Abstract
import Derived.Shelf.RegionOpen
import Derived.OwnWalkIn
import Derived.TacticsInMore
import Derived.LoopNIn
import Derived.LoopIn
import Derived.Sort.BigQuietIn
import Derived.Lib.Repeat
import Derived.StillTailTactics
import Derived.Laws.BitsAllLaws
import Derived.Laws.BytesArg
import Derived.Lib.SlBytesConst
import Derived.Maps.AppendAt
import Derived.Laws.AppendOwnNone
import Derived.Maps.RangeWalk
import Derived.Deep.RegionHeld3
import Derived.Deep.CutBlock
import Derived.Deep.DeepCutAuto
import Derived.Deep.CutRange
import Derived.Lib.BitFns
import Derived.Shelf.Small.Bits
import Derived.Shelf.Strconv.Itoa0
import Derived.Shelf.Bits.Mul64
import Derived.Laws.Externs
import Derived.Shelf.Spec.BitsCarry
import Derived.Shelf.SlSortCmp.WholeK
import Derived.Shelf.Strings.Repeat
import Derived.Lib.AppendZerosOnto
import Derived.Lib.SliceRun
import Derived.Lib.Walk
import Derived.Laws.MakeOwn
import Derived.Laws.OwnMore
import Derived.IntWalk
import Derived.Lib.MakeNoZero
import Derived.Laws.CopyOwn
import Derived.Laws.Tables
import Derived.Defers
import Derived.Recover
import Derived.DeepKeys4
import Derived.WideKeyPair
import Derived.MapKept
import Derived.ChangeMaps
import Derived.Laws.Cover3
import Derived.Stop.BytesEq
/- The law on what is read back. -/
namespace Go.Proofs.YtnndgpggjlhhpaaGreat.hdrwireBack
open Go.ChangeShapes Go.WideShapes Go.ChangeAt Go.RowKit Go.Deep

theorem own : ownKnob Tryz.prog.godebug = none := by kernel_rfl
theorem laidOut : laidOutB Tryz.prog = true := by kernel_rfl

set_option maxRecDepth 100000 in
theorem lifted (os : Os) (started : os.Started) (H : Type) (enc : TypeId × Value → H) :
    ReturnsInHanded {} Tryz.checked os 4 .any (Rows.hdrwireBackSpec.pre6 enc Tryz.prog Tryz.f4 Rows.hdrwireBackRow.domain false) (Rows.hdrwireBackSpec.post enc Tryz.prog Tryz.f4 false true false false) := by
  refine returnsInHanded_of_change (C := Tryz.checked) own started (by kernel_rfl) Tryz.func4
    (ChangeSpec.witness6 (enc := enc) (C := Tryz.checked) false ⟨#[], #[.int .u64 0, .int .u8 0, .int .u64 0, .bool false, .slice none 0 0, .slice none 0 0], []⟩ 8 (by kernel_rfl) (by kernel_rfl) (by kernel_rfl) (by kernel_rfl)) ?_
  intro W base args ds gs before hval0 hW hcnd _
  have hval : ∀ (j : Nat) t v, Tryz.f4.params[j]? = some t → args[j]? = some v → Value.okWide Tryz.prog W .any base t v := hval0
  have hW' := hW
  obtain ⟨p, q, hA0, hV, rfl, hfz, hnd⟩ := hW
  have hA : DataW.TrodAll enc Tryz.prog W 0 (fun _ => true) true Tryz.f4.params.toList args.toList ds p := hA0
  rw [Tryz.params4] at hA hval
  obtain ⟨v0, vs0, d0, ds0, p0, q0, hargs, rfl, rfl, h0, r0⟩ := trodAll_cons hA
  obtain ⟨v1, vs1, d1, ds1, p1, q1, rfl, rfl, rfl, h1, r1⟩ := trodAll_cons r0
  obtain ⟨v2, vs2, d2, ds2, p2, q2, rfl, rfl, rfl, h2, r2⟩ := trodAll_cons r1
  obtain ⟨v3, vs3, d3, ds3, p3, q3, rfl, rfl, rfl, h3, r3⟩ := trodAll_cons r2
  obtain ⟨v4, vs4, d4, ds4, p4, q4, rfl, rfl, rfl, h4, r4⟩ := trodAll_cons r3
  obtain ⟨v5, vs5, d5, ds5, p5, q5, rfl, rfl, rfl, h5, r5⟩ := trodAll_cons r4
  obtain ⟨rfl, rfl, rfl⟩ := trodAll_nil r5
  obtain rfl : args = #[v0, v1, v2, v3, v4, v5] := by cases args; simp_all
  obtain ⟨rfl, rfl⟩ := trodVars_none hV
  obtain ⟨a0, rfl, rfl, rfl, w0⟩ := open_int Tryz.underlying22 (hval 0 22 v0 rfl rfl) h0
  have b0 := bounds_u64 w0
  obtain ⟨n0, rfl⟩ : ∃ x : Nat, a0 = x := ⟨a0.toNat, by omega⟩
  obtain ⟨a1, rfl, rfl, rfl, w1⟩ := open_int Tryz.underlying5 (hval 1 5 v1 rfl rfl) h1
  have b1 := bounds_u8 w1
  obtain ⟨n1, rfl⟩ : ∃ x : Nat, a1 = x := ⟨a1.toNat, by omega⟩
  obtain ⟨a2, rfl, rfl, rfl, w2⟩ := open_int Tryz.underlying22 (hval 2 22 v2 rfl rfl) h2
  have b2 := bounds_u64 w2
  obtain ⟨n2, rfl⟩ : ∃ x : Nat, a2 = x := ⟨a2.toNat, by omega⟩
  obtain ⟨a3, rfl, rfl, rfl⟩ := open_bool Tryz.underlying4 (hval 3 4 v3 rfl rfl) h3
  obtain ⟨a4, len4, cap4, rfl⟩ := okWide_slice Tryz.underlying23 (hval 4 23 v4 rfl rfl)
  have k4 := h4
  have lt4 : ∀ x ∈ p4, x.block < W.heap.size := by obtain ⟨m, hm⟩ := k4; exact DataW.trod_lt m _ _ _ hm
  obtain ⟨l4, w4, w4b, w4c, w4d⟩ : ∃ l : List Int, l.length = len4 ∧ ZI W a4 l ∧ (∀ v ∈ l, -9223372036854775808 ≤ v ∧ v ≤ 9223372036854775807) ∧ len4 ≤ maxLen := by
    obtain ⟨fuel, hf⟩ := h4
    exact zsOpen hf
  obtain ⟨a5, len5, cap5, rfl⟩ := okWide_slice Tryz.underlying24 (hval 5 24 v5 rfl rfl)
  have k5 := h5
  have lt5 : ∀ x ∈ p5, x.block < W.heap.size := by obtain ⟨m, hm⟩ := k5; exact DataW.trod_lt m _ _ _ hm
  obtain ⟨l5, w5, w5b, w5c⟩ : ∃ l : List Nat, l.length = len5 ∧ SlI W .u32 a5 l ∧ ∀ v ∈ l, v < 4294967296 := by
    obtain ⟨fuel, hf⟩ := h5
    exact wsOpen hf
  clear hA0 hval0
  refine (law_back n0 n1 n2 a3 a4 len4 cap4 l4 a5 len5 cap5 l5 W w4 w4b w4c w5 w5b w5c).mono fun _ W' he => ?_
  obtain ⟨he, hfr⟩ := he
  have bel := hfr.below
  subst he
  exact ⟨_, rfl, _, _, _, [], _, [], hW', trodAll_mk1 (shut_bool Tryz.underlying4 _), (trodAll_cons_mk (shut_int Tryz.underlying22 w0) (trodAll_cons_mk (shut_int Tryz.underlying5 w1) (trodAll_cons_mk (shut_int Tryz.underlying22 w2) (trodAll_cons_mk (shut_bool Tryz.underlying4 _) (trodAll_cons_mk (Below.trod laidOut (by kernel_rfl) (of_decide_eq_true (by kernel_rfl)) k4 bel lt4) (trodAll_cons_mk (Below.trod laidOut (by kernel_rfl) (of_decide_eq_true (by kernel_rfl)) k5 bel lt5) trodAll_mk0)))))), rfl, bel.frame _, fun h => by cases h⟩

theorem over : Rows.hdrwireBackRow.holds Tryz.pinned (OpenSpec.ofChange Rows.hdrwireBackSpec) :=
  OpenClaim.holds_of_wide 4 Tryz.f4 rfl rfl rfl rfl rfl rfl rfl ⟨rfl, rfl, rfl, rfl, rfl⟩ rfl rfl rfl rfl rfl (by kernel_rfl) Tryz.func4 (by kernel_rfl)
    (of_decide_eq_true (by kernel_rfl)) (by unfold Func.isWrapper; first | (rw [if_pos (by decide +kernel)]; kernel_rfl) | (rw [if_neg (by decide +kernel)]; exact ⟨rfl, rfl⟩))
    (fun os started H enc _ => lifted os started H enc)

theorem proved : Rows.HdrwireBackSaid := over
end Go.Proofs.YtnndgpggjlhhpaaGreat.hdrwireBack
