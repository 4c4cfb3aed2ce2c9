/- The law on which histograms may be. -/
import Derived.Test.YthfcfmnaiopogaaRows
import Derived.Test.YthfcfmnaiopogaaHrLawMakes
import Derived.WalkKit
import Derived.ProofKit
import Derived.OpenShut
import Derived.ShutString
import Derived.ChangeOld
import Derived.ChangeArms
import Derived.Below
import Derived.ChangeSame
import Derived.Lib.SmallJoins
namespace Go.Proofs.Ythfcfmnaiopogaa.hdrMakes
open Go.ChangeShapes Go.WideShapes Go.ChangeAt Go.RowKit Go.Deep Go.Joins

theorem own : ownKnob Try.prog.godebug = none := by kernel_rfl

theorem cellsHdr : Try.prog.cellsOf 23 = 3 := by kernel_rfl

set_option maxRecDepth 100000 in
theorem lifted (os : Os) (started : os.Started) (H : Type) (enc : TypeId × Value → H) :
    ReturnsInHanded {} Try.checked os 3 .any (Rows.hdrMakesSpec.pre6 enc Try.prog Try.f3 Rows.hdrMakesRow.domain false) (Rows.hdrMakesSpec.post enc Try.prog Try.f3 false true false false) := by
  refine returnsInHanded_of_change (C := Try.checked) own started (by kernel_rfl) Try.func3
    (ChangeSpec.witness6 (enc := enc) (C := Try.checked) false ⟨#[], #[.agg #[.int .i64 0, .int .i64 0, .int .i64 0], .agg #[.int .i64 0, .int .i64 0, .int .i64 0], .bool false, .bool false], []⟩ 8 (by kernel_rfl) (by kernel_rfl) (by kernel_rfl) (by kernel_rfl)) ?_
  intro W base args ds gs before hval0 hW hcnd _
  have hval : ∀ (j : Nat) t v, Try.f3.params[j]? = some t → args[j]? = some v → Value.okWide Try.prog W .any base t v := hval0
  have hW' := hW
  obtain ⟨p, q, hA0, hV, rfl, hfz, hnd⟩ := hW
  have hA : DataW.TrodAll enc Try.prog W 0 (fun _ => true) true Try.f3.params.toList args.toList ds p := hA0
  rw [Try.params3] at hA hval
  obtain ⟨v0, vs0, d0, ds0, p0, q0, hargs, rfl, rfl, h0, r0⟩ := trodAll_cons hA
  obtain ⟨v1, vs1, d1, ds1, p1, q1, rfl, rfl, rfl, h1, r1⟩ := trodAll_cons r0
  obtain ⟨v2, vs2, d2, ds2, p2, q2, rfl, rfl, rfl, h2, r2⟩ := trodAll_cons r1
  obtain ⟨v3, vs3, d3, ds3, p3, q3, rfl, rfl, rfl, h3, r3⟩ := trodAll_cons r2
  obtain ⟨rfl, rfl, rfl⟩ := trodAll_nil r3
  obtain rfl : args = #[v0, v1, v2, v3] := by cases args; simp_all
  obtain ⟨rfl, rfl⟩ := trodVars_none hV
  obtain ⟨c00, c01, c02, y00, y01, y02, m0, rfl, rfl, rfl, hy00, hy01, hy02⟩ := open_agg3 Try.underlying23 (by kernel_rfl) cellsHdr (hval 0 23 v0 rfl rfl) h0
  obtain ⟨sa0, e00, rfl, wsa0⟩ := DataW.trod_int Try.underlying2 hy00
  obtain ⟨sb0, e01, rfl, wsb0⟩ := DataW.trod_int Try.underlying2 hy01
  obtain ⟨sc0, e02, rfl, wsc0⟩ := DataW.trod_int Try.underlying3 hy02
  simp at e00 e01 e02
  subst e00 e01 e02
  have bsa0 := bounds_i64 wsa0
  have bsb0 := bounds_i64 wsb0
  have shut0 : ∀ (W' : World) (sp : Nat → Bool) (held : Bool), DataW.Trod enc Try.prog W' 0 sp held 23 (.agg #[.int .i64 sa0, .int .i64 sb0, .int .i64 sc0]) (.agg [.lit (.int .i64 sa0), .lit (.int .i64 sb0), .lit (.int .i64 sc0)]) [] := fun W' sp held =>
    shut_agg3 (y0 := (.lit (.int .i64 sa0), [])) (y1 := (.lit (.int .i64 sb0), [])) (y2 := (.lit (.int .i64 sc0), [])) Try.underlying23 (by kernel_rfl) cellsHdr ⟨1, by simp [DataW.trod, Try.underlying2, wsa0]⟩ ⟨1, by simp [DataW.trod, Try.underlying2, wsb0]⟩ ⟨1, by simp [DataW.trod, Try.underlying3, wsc0]⟩
  obtain ⟨c10, c11, c12, y10, y11, y12, m1, rfl, rfl, rfl, hy10, hy11, hy12⟩ := open_agg3 Try.underlying23 (by kernel_rfl) cellsHdr (hval 1 23 v1 rfl rfl) h1
  obtain ⟨sa1, e10, rfl, wsa1⟩ := DataW.trod_int Try.underlying2 hy10
  obtain ⟨sb1, e11, rfl, wsb1⟩ := DataW.trod_int Try.underlying2 hy11
  obtain ⟨sc1, e12, rfl, wsc1⟩ := DataW.trod_int Try.underlying3 hy12
  simp at e10 e11 e12
  subst e10 e11 e12
  have bsa1 := bounds_i64 wsa1
  have bsb1 := bounds_i64 wsb1
  have shut1 : ∀ (W' : World) (sp : Nat → Bool) (held : Bool), DataW.Trod enc Try.prog W' 0 sp held 23 (.agg #[.int .i64 sa1, .int .i64 sb1, .int .i64 sc1]) (.agg [.lit (.int .i64 sa1), .lit (.int .i64 sb1), .lit (.int .i64 sc1)]) [] := fun W' sp held =>
    shut_agg3 (y0 := (.lit (.int .i64 sa1), [])) (y1 := (.lit (.int .i64 sb1), [])) (y2 := (.lit (.int .i64 sc1), [])) Try.underlying23 (by kernel_rfl) cellsHdr ⟨1, by simp [DataW.trod, Try.underlying2, wsa1]⟩ ⟨1, by simp [DataW.trod, Try.underlying2, wsb1]⟩ ⟨1, by simp [DataW.trod, Try.underlying3, wsc1]⟩
  obtain ⟨a2, rfl, rfl, rfl⟩ := open_bool Try.underlying4 (hval 2 4 v2 rfl rfl) h2
  obtain ⟨a3, rfl, rfl, rfl⟩ := open_bool Try.underlying4 (hval 3 4 v3 rfl rfl) h3
  clear hA0 hval0
  refine (law_makes sa0 sb0 sc0 sa1 sb1 sc1 a2 a3 W bsa0 bsb0 bsa1 bsb1).mono fun _ W' he => ?_
  obtain ⟨he, hfr⟩ := he
  have bel := hfr.below
  subst he
  exact ⟨_, rfl, _, _, _, [], _, [], hW', trodAll_mk1 (shut_bool Try.underlying4 _), (trodAll_cons_mk (shut0 W' _ _) (trodAll_cons_mk (shut1 W' _ _) (trodAll_cons_mk (shut_bool Try.underlying4 _) (trodAll_cons_mk (shut_bool Try.underlying4 _) trodAll_mk0)))), rfl, bel.frame _, fun h => by cases h⟩

theorem over : Rows.hdrMakesRow.holds Try.pinned (OpenSpec.ofChange Rows.hdrMakesSpec) :=
  OpenClaim.holds_of_wide 3 Try.f3 rfl rfl rfl rfl rfl rfl rfl ⟨rfl, rfl, rfl, rfl, rfl⟩ rfl rfl rfl rfl rfl (by kernel_rfl) Try.func3 (by kernel_rfl)
    (of_decide_eq_true (by kernel_rfl)) (by unfold Func.isWrapper; first | (rw [if_pos (by decide +kernel)]; kernel_rfl) | (rw [if_neg (by decide +kernel)]; exact ⟨rfl, rfl⟩))
    (fun os started H enc _ => lifted os started H enc)

theorem proved : Rows.HdrMakesSaid := over
end Go.Proofs.Ythfcfmnaiopogaa.hdrMakes
