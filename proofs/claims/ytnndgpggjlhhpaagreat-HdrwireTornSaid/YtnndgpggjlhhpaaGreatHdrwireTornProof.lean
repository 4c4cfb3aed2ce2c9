/- HdrwireTornProof -/
import Derived.Test.YtnndgpggjlhhpaaGreatPt1
import Derived.Test.YtnndgpggjlhhpaaGreatPt2
import Derived.Test.YtnndgpggjlhhpaaGreatPt3
import Derived.Test.YtnndgpggjlhhpaaGreatPt4
import Derived.Test.YtnndgpggjlhhpaaGreatPt5
import Derived.Test.YtnndgpggjlhhpaaGreatPt6
import Derived.Test.YtnndgpggjlhhpaaGreatPt7
import Derived.Test.YtnndgpggjlhhpaaGreatPt8
import Derived.Test.YtnndgpggjlhhpaaGreatPt9
import Derived.Test.YtnndgpggjlhhpaaGreatPt10
import Derived.Test.YtnndgpggjlhhpaaGreatPt11
import Derived.Test.YtnndgpggjlhhpaaGreatPt12
import Derived.Test.YtnndgpggjlhhpaaGreatPt13
import Derived.Test.YtnndgpggjlhhpaaGreatPt14
import Derived.Test.YtnndgpggjlhhpaaGreatPt15
import Derived.Test.YtnndgpggjlhhpaaGreatPt16
import Derived.Test.YtnndgpggjlhhpaaGreatPt17
import Derived.Test.YtnndgpggjlhhpaaGreatPt18
import Derived.Test.YtnndgpggjlhhpaaGreatPt19
import Derived.Test.YtnndgpggjlhhpaaGreatPt20
import Derived.Test.YtnndgpggjlhhpaaGreatPt21
import Derived.Test.YtnndgpggjlhhpaaGreatPt22
import Derived.Test.YtnndgpggjlhhpaaGreatPt23
import Derived.Test.YtnndgpggjlhhpaaGreatPt24
import Derived.Test.YtnndgpggjlhhpaaGreatPt25
import Derived.Test.YtnndgpggjlhhpaaGreatPt26
import Derived.Test.YtnndgpggjlhhpaaGreatPt27
import Derived.Test.YtnndgpggjlhhpaaGreatPt28
import Derived.Test.YtnndgpggjlhhpaaGreatPt29
import Derived.Test.YtnndgpggjlhhpaaGreatPt30
import Derived.Test.YtnndgpggjlhhpaaGreatPt31
import Derived.Test.YtnndgpggjlhhpaaGreatPt32
import Derived.Test.YtnndgpggjlhhpaaGreatPt33
import Derived.Test.YtnndgpggjlhhpaaGreatPt34
import Derived.Test.YtnndgpggjlhhpaaGreatPt35
import Derived.Test.YtnndgpggjlhhpaaGreatPt36
import Derived.Test.YtnndgpggjlhhpaaGreatPt37
import Derived.Test.YtnndgpggjlhhpaaGreatPt38
import Derived.Test.YtnndgpggjlhhpaaGreatPt39
import Derived.Test.YtnndgpggjlhhpaaGreatPt40
import Derived.WalkKit
import Derived.ProofKit
import Derived.OpenShut
import Derived.ShutString
import Derived.ChangeOld
import Derived.ChangeArms
import Derived.Below
import Derived.Test.YtnndgpggjlhhpaaGreatRows
import Derived.Deep.Fields
import Derived.Deep.Matrix
import Derived.WalkSpells
import Derived.WalkLawsBesides
import Derived.Deep.QuietTactic
import Derived.BigQuiet
import Derived.RegionTactic
import Derived.Deep.AppendLies
import Derived.Deep.RegionLaw
import Derived.Laws.ResultCell
import Derived.Laws.EntriesVeiled
import Derived.Lib.Hide
import Derived.BigRegion
import Derived.RangeFuncNested
import Derived.RangeFuncBound
import Derived.RangeFuncCalls
import Derived.RangeFuncLeaves
import Derived.Shelf.Abstract
import Derived.Shelf.RegionOpen
import Derived.OwnWalkIn
import Derived.TacticsInMore
import Derived.LoopNIn
import Derived.LoopIn
import Derived.Sort.BigQuietIn
import Derived.Lib.Repeat
import Derived.StillTailTactics
import Derived.Laws.BitsAllLaws
import Derived.Laws.BytesArg
import Derived.Lib.SlBytesConst
import Derived.Maps.AppendAt
import Derived.Laws.AppendOwnNone
import Derived.Maps.RangeWalk
import Derived.Deep.RegionHeld3
import Derived.Deep.CutBlock
import Derived.Deep.DeepCutAuto
import Derived.Deep.CutRange
import Derived.Lib.BitFns
import Derived.Shelf.Small.Bits
import Derived.Shelf.Strconv.Itoa0
import Derived.Shelf.Bits.Mul64
import Derived.Laws.Externs
import Derived.Shelf.Spec.BitsCarry
import Derived.Shelf.SlSortCmp.WholeK
import Derived.Shelf.Strings.Repeat
import Derived.Lib.AppendZerosOnto
import Derived.Lib.SliceRun
import Derived.Lib.Walk
import Derived.Laws.MakeOwn
import Derived.Laws.OwnMore
import Derived.IntWalk
import Derived.Lib.MakeNoZero
import Derived.Laws.CopyOwn
import Derived.Laws.Tables
import Derived.Defers
import Derived.Recover
import Derived.DeepKeys4
import Derived.WideKeyPair
import Derived.MapKept
import Derived.ChangeMaps
import Derived.Laws.Cover3
import Derived.Stop.BytesEq
set_option maxRecDepth 100000
set_option maxHeartbeats 8000000
/- The law on torn packed forms. -/
namespace Go.Proofs.YtnndgpggjlhhpaaGreat.hdrwireTorn
open Go.ChangeShapes Go.WideShapes Go.ChangeAt Go.RowKit Go.Deep

theorem own : ownKnob Tryz.prog.godebug = none := by kernel_rfl
theorem laidOut : laidOutB Tryz.prog = true := by kernel_rfl

set_option maxRecDepth 100000 in
theorem lifted (os : Os) (started : os.Started) (H : Type) (enc : TypeId × Value → H) :
    ReturnsInHanded {} Tryz.checked os 7 .any (Rows.hdrwireTornSpec.pre6 enc Tryz.prog Tryz.f7 Rows.hdrwireTornRow.domain false) (Rows.hdrwireTornSpec.post enc Tryz.prog Tryz.f7 false true false false) := by
  refine returnsInHanded_of_change (C := Tryz.checked) own started (by kernel_rfl) Tryz.func7
    (ChangeSpec.witness6 (enc := enc) (C := Tryz.checked) false ⟨#[], #[.int .u64 0, .int .u8 0, .slice none 0 0, .int .i64 0, .int .u8 0], []⟩ 8 (by kernel_rfl) (by kernel_rfl) (by kernel_rfl) (by kernel_rfl)) ?_
  intro W base args ds gs before hval0 hW hcnd _
  have hval : ∀ (j : Nat) t v, Tryz.f7.params[j]? = some t → args[j]? = some v → Value.okWide Tryz.prog W .any base t v := hval0
  have hW' := hW
  obtain ⟨p, q, hA0, hV, rfl, hfz, hnd⟩ := hW
  have hA : DataW.TrodAll enc Tryz.prog W 0 (fun _ => true) true Tryz.f7.params.toList args.toList ds p := hA0
  rw [Tryz.params7] at hA hval
  obtain ⟨v0, vs0, d0, ds0, p0, q0, hargs, rfl, rfl, h0, r0⟩ := trodAll_cons hA
  obtain ⟨v1, vs1, d1, ds1, p1, q1, rfl, rfl, rfl, h1, r1⟩ := trodAll_cons r0
  obtain ⟨v2, vs2, d2, ds2, p2, q2, rfl, rfl, rfl, h2, r2⟩ := trodAll_cons r1
  obtain ⟨v3, vs3, d3, ds3, p3, q3, rfl, rfl, rfl, h3, r3⟩ := trodAll_cons r2
  obtain ⟨v4, vs4, d4, ds4, p4, q4, rfl, rfl, rfl, h4, r4⟩ := trodAll_cons r3
  obtain ⟨rfl, rfl, rfl⟩ := trodAll_nil r4
  obtain rfl : args = #[v0, v1, v2, v3, v4] := by cases args; simp_all
  obtain ⟨rfl, rfl⟩ := trodVars_none hV
  obtain ⟨a0, rfl, rfl, rfl, w0⟩ := open_int Tryz.underlying22 (hval 0 22 v0 rfl rfl) h0
  have b0 := bounds_u64 w0
  obtain ⟨n0, rfl⟩ : ∃ x : Nat, a0 = x := ⟨a0.toNat, by omega⟩
  obtain ⟨a1, rfl, rfl, rfl, w1⟩ := open_int Tryz.underlying5 (hval 1 5 v1 rfl rfl) h1
  have b1 := bounds_u8 w1
  obtain ⟨n1, rfl⟩ : ∃ x : Nat, a1 = x := ⟨a1.toNat, by omega⟩
  obtain ⟨a2, len2, cap2, rfl⟩ := okWide_slice Tryz.underlying23 (hval 2 23 v2 rfl rfl)
  have k2 := h2
  have lt2 : ∀ x ∈ p2, x.block < W.heap.size := by obtain ⟨m, hm⟩ := k2; exact DataW.trod_lt m _ _ _ hm
  obtain ⟨l2, w2, w2b, w2c, w2d⟩ : ∃ l : List Int, l.length = len2 ∧ ZI W a2 l ∧ (∀ v ∈ l, -9223372036854775808 ≤ v ∧ v ≤ 9223372036854775807) ∧ len2 ≤ maxLen := by
    obtain ⟨fuel, hf⟩ := h2
    exact zsOpen hf
  obtain ⟨a3, rfl, rfl, rfl, w3⟩ := open_int Tryz.underlying3 (hval 3 3 v3 rfl rfl) h3
  have b3 := bounds_i64 w3
  obtain ⟨a4, rfl, rfl, rfl, w4⟩ := open_int Tryz.underlying5 (hval 4 5 v4 rfl rfl) h4
  have b4 := bounds_u8 w4
  obtain ⟨n4, rfl⟩ : ∃ x : Nat, a4 = x := ⟨a4.toNat, by omega⟩
  clear hA0 hval0
  refine (law_torn n0 n1 a2 len2 cap2 l2 a3 n4 W w2 w2b w2c (by omega)).mono fun _ W' he => ?_
  obtain ⟨he, hfr⟩ := he
  have bel := hfr.below
  subst he
  exact ⟨_, rfl, _, _, _, [], _, [], hW', trodAll_mk1 (shut_bool Tryz.underlying4 _), (trodAll_cons_mk (shut_int Tryz.underlying22 w0) (trodAll_cons_mk (shut_int Tryz.underlying5 w1) (trodAll_cons_mk (Below.trod laidOut (by kernel_rfl) (of_decide_eq_true (by kernel_rfl)) k2 bel lt2) (trodAll_cons_mk (shut_int Tryz.underlying3 w3) (trodAll_cons_mk (shut_int Tryz.underlying5 w4) trodAll_mk0))))), rfl, bel.frame _, fun h => by cases h⟩

theorem over : Rows.hdrwireTornRow.holds Tryz.pinned (OpenSpec.ofChange Rows.hdrwireTornSpec) :=
  OpenClaim.holds_of_wide 7 Tryz.f7 rfl rfl rfl rfl rfl rfl rfl ⟨rfl, rfl, rfl, rfl, rfl⟩ rfl rfl rfl rfl rfl (by kernel_rfl) Tryz.func7 (by kernel_rfl)
    (of_decide_eq_true (by kernel_rfl)) (by unfold Func.isWrapper; first | (rw [if_pos (by decide +kernel)]; kernel_rfl) | (rw [if_neg (by decide +kernel)]; exact ⟨rfl, rfl⟩))
    (fun os started H enc _ => lifted os started H enc)

theorem proved : Rows.HdrwireTornSaid := over
end Go.Proofs.YtnndgpggjlhhpaaGreat.hdrwireTorn
