/- Whatever bytes are read: writing what they say makes just these bytes. -/
import Derived.Test.YtaemgflhgdlmiaaGreatRows
import Derived.Test.YtaemgflhgdlmiaaGreatPw1
import Derived.Test.YtaemgflhgdlmiaaGreatPw2
import Derived.Test.YtaemgflhgdlmiaaGreatPw3
import Derived.Test.YtaemgflhgdlmiaaGreatPw4
import Derived.Test.YtaemgflhgdlmiaaGreatPw5
import Derived.Test.YtaemgflhgdlmiaaGreatPw6
import Derived.Test.YtaemgflhgdlmiaaGreatPw7
import Derived.Test.YtaemgflhgdlmiaaGreatPw8
import Derived.Test.YtaemgflhgdlmiaaGreatPw9
import Derived.Test.YtaemgflhgdlmiaaGreatPw10
import Derived.Test.YtaemgflhgdlmiaaGreatPw11
import Derived.Test.YtaemgflhgdlmiaaGreatPw12
import Derived.Test.YtaemgflhgdlmiaaGreatPw13
import Derived.Test.YtaemgflhgdlmiaaGreatPw14
import Derived.Test.YtaemgflhgdlmiaaGreatPw15
import Derived.Test.YtaemgflhgdlmiaaGreatPw16
import Derived.Test.YtaemgflhgdlmiaaGreatPw17
import Derived.Test.YtaemgflhgdlmiaaGreatPw18
import Derived.Test.YtaemgflhgdlmiaaGreatPw19
import Derived.Test.YtaemgflhgdlmiaaGreatPw20
import Derived.Test.YtaemgflhgdlmiaaGreatPw21
import Derived.Test.YtaemgflhgdlmiaaGreatPw22
import Derived.Test.YtaemgflhgdlmiaaGreatPw23
import Derived.Test.YtaemgflhgdlmiaaGreatPw24
import Derived.Test.YtaemgflhgdlmiaaGreatPw25
import Derived.Test.YtaemgflhgdlmiaaGreatPw26
import Derived.Test.YtaemgflhgdlmiaaGreatPw27
import Derived.Test.YtaemgflhgdlmiaaGreatPw28
import Derived.Test.YtaemgflhgdlmiaaGreatPw29
import Derived.Test.YtaemgflhgdlmiaaGreatPw30
import Derived.Test.YtaemgflhgdlmiaaGreatPw31
import Derived.Test.YtaemgflhgdlmiaaGreatPw32
import Derived.Test.YtaemgflhgdlmiaaGreatPw33
import Derived.Test.YtaemgflhgdlmiaaGreatPw34
import Derived.Test.YtaemgflhgdlmiaaGreatPw35
import Derived.Test.YtaemgflhgdlmiaaGreatPw36
import Derived.Test.YtaemgflhgdlmiaaGreatPw37
import Derived.Test.YtaemgflhgdlmiaaGreatPw38
import Derived.Test.YtaemgflhgdlmiaaGreatPw39
import Derived.Test.YtaemgflhgdlmiaaGreatPw40
import Derived.Test.YtaemgflhgdlmiaaGreatPw41
import Derived.Test.YtaemgflhgdlmiaaGreatPw42
import Derived.Test.YtaemgflhgdlmiaaGreatPw43
import Derived.Test.YtaemgflhgdlmiaaGreatPw44
import Derived.Test.YtaemgflhgdlmiaaGreatPw45
import Derived.Test.YtaemgflhgdlmiaaGreatRdOpen
import Derived.Test.YtaemgflhgdlmiaaGreatRdNext
import Derived.Test.YtaemgflhgdlmiaaGreatRdPeek
import Derived.Test.YtaemgflhgdlmiaaGreatRdRight
import Derived.Test.YtaemgflhgdlmiaaGreatRdLaw
import Derived.WalkKit
import Derived.ProofKit
import Derived.OpenShut
import Derived.ShutString
import Derived.ChangeOld
import Derived.ChangeArms
import Derived.Below
namespace Go.Proofs.YtaemgflhgdlmiaaGreat.ddwireReads
open Go.ChangeShapes Go.WideShapes Go.ChangeAt Go.RowKit Go.Deep

theorem own : ownKnob Tryz.prog.godebug = none := by kernel_rfl
theorem laidOut : laidOutB Tryz.prog = true := by kernel_rfl

set_option maxRecDepth 100000 in
theorem lifted (os : Os) (started : os.Started) (H : Type) (enc : TypeId × Value → H) :
    ReturnsInHanded {} Tryz.checked os 4 .any (Rows.ddwireReadsSpec.pre6 enc Tryz.prog Tryz.f4 Rows.ddwireReadsRow.domain false) (Rows.ddwireReadsSpec.post enc Tryz.prog Tryz.f4 false true false false) := by
  refine returnsInHanded_of_change (C := Tryz.checked) own started (by kernel_rfl) Tryz.func4
    (ChangeSpec.witness6 (enc := enc) (C := Tryz.checked) false ⟨#[], #[.slice none 0 0], []⟩ 8 (by kernel_rfl) (by kernel_rfl) (by kernel_rfl) (by kernel_rfl)) ?_
  intro W base args ds gs before hval0 hW hcnd _
  have hval : ∀ (j : Nat) t v, Tryz.f4.params[j]? = some t → args[j]? = some v → Value.okWide Tryz.prog W .any base t v := hval0
  have hW' := hW
  obtain ⟨p, q, hA0, hV, rfl, hfz, hnd⟩ := hW
  have hA : DataW.TrodAll enc Tryz.prog W 0 (fun _ => true) true Tryz.f4.params.toList args.toList ds p := hA0
  rw [Tryz.params4] at hA hval
  obtain ⟨v0, vs0, d0, ds0, p0, q0, hargs, rfl, rfl, h0, r0⟩ := trodAll_cons hA
  obtain ⟨rfl, rfl, rfl⟩ := trodAll_nil r0
  obtain rfl : args = #[v0] := by cases args; simp_all
  obtain ⟨rfl, rfl⟩ := trodVars_none hV
  obtain ⟨a0, len0, cap0, rfl⟩ := okWide_slice Tryz.underlying30 (hval 0 30 v0 rfl rfl)
  have k0 := h0
  have lt0 : ∀ x ∈ p0, x.block < W.heap.size := by obtain ⟨m, hm⟩ := k0; exact DataW.trod_lt m _ _ _ hm
  obtain ⟨l0, w0, w0b, w0c, w0d, w0e, w0f⟩ : ∃ l : List Nat, l.length = len0 ∧ SlI W .u8 a0 l ∧ (∀ v ∈ l, v < 256) ∧ (a0 = none → cap0 = 0) ∧ len0 ≤ cap0 ∧ cap0 ≤ maxLen := by
    obtain ⟨fuel, hf⟩ := h0
    exact bsOpen hf
  clear hA0 hval0
  refine (law_reads a0 len0 cap0 l0 W w0 w0b w0c w0d w0e).mono fun _ W' he => ?_
  obtain ⟨he, hfr⟩ := he
  have bel := hfr.below
  subst he
  exact ⟨_, rfl, _, _, _, [], _, [], hW', trodAll_mk1 (shut_bool Tryz.underlying4 _), (trodAll_cons_mk (Below.trod laidOut (by kernel_rfl) (of_decide_eq_true (by kernel_rfl)) k0 bel lt0) trodAll_mk0), rfl, bel.frame _, fun h => by cases h⟩

theorem over : Rows.ddwireReadsRow.holds Tryz.pinned (OpenSpec.ofChange Rows.ddwireReadsSpec) :=
  OpenClaim.holds_of_wide 4 Tryz.f4 rfl rfl rfl rfl rfl rfl rfl ⟨rfl, rfl, rfl, rfl, rfl⟩ rfl rfl rfl rfl rfl (by kernel_rfl) Tryz.func4 (by kernel_rfl)
    (of_decide_eq_true (by kernel_rfl)) (by unfold Func.isWrapper; first | (rw [if_pos (by decide +kernel)]; kernel_rfl) | (rw [if_neg (by decide +kernel)]; exact ⟨rfl, rfl⟩))
    (fun os started H enc _ => lifted os started H enc)

theorem proved : Rows.DdwireReadsSaid := over
end Go.Proofs.YtaemgflhgdlmiaaGreat.ddwireReads
