/- DigestPlaysProof -/
import Derived.Test.YticagdppjknlaaaPl1
import Derived.Test.YticagdppjknlaaaPl2
import Derived.Test.YticagdppjknlaaaPl3
import Derived.Test.YticagdppjknlaaaPl4
import Derived.Test.YticagdppjknlaaaPl5
import Derived.Test.YticagdppjknlaaaPl6
import Derived.Test.YticagdppjknlaaaPl7
import Derived.Test.YticagdppjknlaaaPl8
import Derived.Test.YticagdppjknlaaaPl9
import Derived.Test.YticagdppjknlaaaPl10
import Derived.Test.YticagdppjknlaaaPl11
import Derived.Test.YticagdppjknlaaaPl12
import Derived.Test.YticagdppjknlaaaPl13
import Derived.Test.YticagdppjknlaaaPl14
import Derived.Test.YticagdppjknlaaaPl15
import Derived.Test.YticagdppjknlaaaPl16
import Derived.Test.YticagdppjknlaaaPl17
import Derived.Test.YticagdppjknlaaaPl18
import Derived.Test.YticagdppjknlaaaPl19
import Derived.Test.YticagdppjknlaaaPl20
import Derived.Test.YticagdppjknlaaaPl21
import Derived.Test.YticagdppjknlaaaPl22
import Derived.Test.YticagdppjknlaaaPl23
import Derived.Test.YticagdppjknlaaaPl24
import Derived.Test.YticagdppjknlaaaPl25
import Derived.Test.YticagdppjknlaaaPl26
import Derived.Test.YticagdppjknlaaaPl27
import Derived.Test.YticagdppjknlaaaPl28
import Derived.Test.YticagdppjknlaaaPl29
import Derived.WalkKit
import Derived.ProofKit
import Derived.OpenShut
import Derived.ShutString
import Derived.ChangeOld
import Derived.ChangeArms
import Derived.Below
import Derived.Test.YticagdppjknlaaaRows
import Derived.Deep.Fields
import Derived.Deep.Matrix
import Derived.WalkSpells
import Derived.WalkLawsBesides
import Derived.Deep.QuietTactic
import Derived.BigQuiet
import Derived.RegionTactic
import Derived.Deep.AppendLies
import Derived.Deep.RegionLaw
import Derived.Laws.ResultCell
import Derived.Laws.EntriesVeiled
import Derived.Lib.Hide
import Derived.BigRegion
import Derived.Deep.RegionHeld3
import Derived.StillTailTactics
import Derived.Maps.AppendAt
import Derived.Laws.AppendOwnNone
import Derived.Laws.OwnMore
import Derived.Lib.AppendZerosOnto
import Derived.Lib.SliceRun
import Derived.Lib.Walk
import Derived.Laws.Externs
import Derived.Shelf.Spec.BitsCarry
import Derived.Deep.CutBlock
import Derived.Deep.CutRange
import Derived.Deep.DeepCutAuto
import Derived.Lib.BitFns
import Derived.Shelf.Small.Bits
import Derived.Shelf.Strconv.Itoa0
import Derived.Shelf.Bits.Mul64
import Derived.Laws.BytesArg
import Derived.Lib.SlBytesConst
set_option maxRecDepth 100000
set_option maxHeartbeats 8000000
/- Whatever is added, taken together and pressed, each answer, and all means, are the document's: for every number and every list of acts. -/
namespace Go.Proofs.Yticagdppjknlaaa.digestPlays
open Go.ChangeShapes Go.WideShapes Go.ChangeAt Go.RowKit Go.Deep

theorem own : ownKnob Try.prog.godebug = none := by kernel_rfl
theorem laidOut : laidOutB Try.prog = true := by kernel_rfl

set_option maxRecDepth 100000 in
theorem lifted (os : Os) (started : os.Started) (H : Type) (enc : TypeId × Value → H) :
    ReturnsInHanded {} Try.checked os 3 .any (Rows.digestPlaysSpec.pre6 enc Try.prog Try.f3 Rows.digestPlaysRow.domain false) (Rows.digestPlaysSpec.post enc Try.prog Try.f3 false true false false) := by
  refine returnsInHanded_of_change (C := Try.checked) own started (by kernel_rfl) Try.func3
    (ChangeSpec.witness6 (enc := enc) (C := Try.checked) false ⟨#[], #[.int .u16 0, .slice none 0 0], []⟩ 8 (by kernel_rfl) (by kernel_rfl) (by kernel_rfl) (by kernel_rfl)) ?_
  intro W base args ds gs before hval0 hW hcnd _
  have hval : ∀ (j : Nat) t v, Try.f3.params[j]? = some t → args[j]? = some v → Value.okWide Try.prog W .any base t v := hval0
  have hW' := hW
  obtain ⟨p, q, hA0, hV, rfl, hfz, hnd⟩ := hW
  have hA : DataW.TrodAll enc Try.prog W 0 (fun _ => true) true Try.f3.params.toList args.toList ds p := hA0
  rw [Try.params3] at hA hval
  obtain ⟨v0, vs0, d0, ds0, p0, q0, hargs, rfl, rfl, h0, r0⟩ := trodAll_cons hA
  obtain ⟨v1, vs1, d1, ds1, p1, q1, rfl, rfl, rfl, h1, r1⟩ := trodAll_cons r0
  obtain ⟨rfl, rfl, rfl⟩ := trodAll_nil r1
  obtain rfl : args = #[v0, v1] := by cases args; simp_all
  obtain ⟨rfl, rfl⟩ := trodVars_none hV
  obtain ⟨a0, rfl, rfl, rfl, w0⟩ := open_int Try.underlying22 (hval 0 22 v0 rfl rfl) h0
  have b0 := bounds_u16 w0
  obtain ⟨n0, rfl⟩ : ∃ x : Nat, a0 = x := ⟨a0.toNat, by omega⟩
  obtain ⟨a1, len1, cap1, rfl⟩ := okWide_slice Try.underlying23 (hval 1 23 v1 rfl rfl)
  have k1 := h1
  have lt1 : ∀ x ∈ p1, x.block < W.heap.size := by obtain ⟨m, hm⟩ := k1; exact DataW.trod_lt m _ _ _ hm
  obtain ⟨l1, w1, w1b⟩ : ∃ l : List OpT, l.length = len1 ∧ OpsI W a1 l := by
    obtain ⟨fuel, hf⟩ := h1
    exact opsOpen hf
  clear hA0 hval0
  refine (law_plays n0 a1 len1 cap1 l1 W (by omega) w1 w1b).mono fun _ W' he => ?_
  obtain ⟨he, hfr⟩ := he
  have bel := hfr.below
  subst he
  exact ⟨_, rfl, _, _, _, [], _, [], hW', trodAll_mk1 (shut_bool Try.underlying4 _), (trodAll_cons_mk (shut_int Try.underlying22 w0) (trodAll_cons_mk (Below.trod laidOut (by kernel_rfl) (of_decide_eq_true (by kernel_rfl)) k1 bel lt1) trodAll_mk0)), rfl, bel.frame _, fun h => by cases h⟩

theorem over : Rows.digestPlaysRow.holds Try.pinned (OpenSpec.ofChange Rows.digestPlaysSpec) :=
  OpenClaim.holds_of_wide 3 Try.f3 rfl rfl rfl rfl rfl rfl rfl ⟨rfl, rfl, rfl, rfl, rfl⟩ rfl rfl rfl rfl rfl (by kernel_rfl) Try.func3 (by kernel_rfl)
    (of_decide_eq_true (by kernel_rfl)) (by unfold Func.isWrapper; first | (rw [if_pos (by decide +kernel)]; kernel_rfl) | (rw [if_neg (by decide +kernel)]; exact ⟨rfl, rfl⟩))
    (fun os started H enc _ => lifted os started H enc)

theorem proved : Rows.DigestPlaysSaid := over
end Go.Proofs.Yticagdppjknlaaa.digestPlays
