/- Whatever items come in, what was written is read: BitioBack returns true, without a panic, and changes nothing that was there. -/
import Derived.Test.YtijcomakomihbaaRows
import Derived.Test.YtijcomakomihbaaOpenStruct
import Derived.Test.YtijcomakomihbaaBitLawBack
import Derived.WalkKit
import Derived.ProofKit
import Derived.OpenShut
import Derived.ShutString
import Derived.ChangeOld
import Derived.ChangeArms
import Derived.Below
namespace Go.Proofs.Ytijcomakomihbaa.bitioBack
open Go.ChangeShapes Go.WideShapes Go.ChangeAt Go.RowKit Go.Deep
open Go.ChangeMaps (open_string shut_string)

theorem own : ownKnob Try.prog.godebug = none := by kernel_rfl
theorem laidOut : laidOutB Try.prog = true := by kernel_rfl

theorem walk (a0 : Option Addr) (n cap0 : Nat) (it : Nat → Nat × Int × Bool) (w : World) (h : SlS w 3 a0 n (itC it)) (hN : ∀ i, i < n → (it i).1 < 4294967296) :
    Calls Try.prog 5 #[.slice a0 n cap0] w fun e w' => e = .returned (.bool true) ∧ Below w.heap.size w w' :=
  (law_back a0 n cap0 it w h hN).mono fun _ _ h => ⟨h.1, h.2.below⟩

set_option maxRecDepth 100000 in
theorem items {H : Type} {enc : TypeId × Value → H} {W : World} {base : Nat} {spare : Nat → Bool} {held : Bool} {fuel len cap : Nat} {a0 : Option Addr} {x : DataW H × List MemPlace}
    (hf : DataW.trod enc Try.prog W base spare held fuel 53 [.slice a0 len cap] = some x) :
    ∃ it : Nat → Nat × Int × Bool, SlS W 3 a0 len (itC it) ∧ ∀ i, i < len → (it i).1 < 4294967296 := by
  rcases structsOpen (k := 3) Try.underlying53 Try.underlying55 (by kernel_rfl) (by kernel_rfl) hf with hcs | ⟨a, l, c, hcs, hl, hm, hrow⟩
  · simp only [List.cons.injEq, Value.slice.injEq, and_true] at hcs
    obtain ⟨rfl, rfl, rfl⟩ := hcs
    exact ⟨fun _ => (0, 0, false), ⟨by decide, fun h => absurd h (by decide)⟩, fun i h => absurd h (by omega)⟩
  · simp only [List.cons.injEq, Value.slice.injEq, and_true] at hcs
    obtain ⟨rfl, rfl, rfl⟩ := hcs
    have each : ∀ i, i < len → ∃ y : Nat × Int × Bool, W.cell? (a.add (i * 3 + 0)) = some (.int .u32 (y.1 : Nat)) ∧ W.cell? (a.add (i * 3 + 1)) = some (.int .i64 y.2.1) ∧ W.cell? (a.add (i * 3 + 2)) = some (.bool y.2.2) ∧ y.1 < 4294967296 := by
      intro i hi
      obtain ⟨v0, y0, n0, c0, t0⟩ := hrow i hi 0 _ rfl (by decide)
      obtain ⟨v1, y1, n1, c1, t1⟩ := hrow i hi 1 _ rfl (by decide)
      obtain ⟨v2, y2, n2, c2, t2⟩ := hrow i hi 2 _ rfl (by decide)
      obtain ⟨k0, e0, -, w0⟩ := DataW.trod_int Try.underlying28 t0
      obtain ⟨k1, e1, -, w1⟩ := DataW.trod_int Try.underlying3 t1
      obtain ⟨k2, e2, -⟩ := DataW.trod_bool Try.underlying4 t2
      simp only [List.cons.injEq, and_true] at e0 e1 e2
      subst e0 e1 e2
      have b0 := bounds_u32 w0
      exact ⟨(k0.toNat, k1, k2), by rw [c0]; simp only; rw [Int.toNat_of_nonneg (by omega)], c1, c2, by simp only; omega⟩
    obtain ⟨it, hit⟩ := Go.Deep.choose_lt each
    refine ⟨it, ⟨by omega, fun h0 => ?_⟩, fun i hi => (hit i hi).2.2.2⟩
    obtain ⟨b, off, hp⟩ := plainAt (hit 0 h0).1
    obtain ⟨b', off', rfl⟩ : ∃ b off, a = ⟨b, off, none⟩ := by
      have e : a.add (0 * 3 + 0) = a := by simp [Addr.add]
      rw [e] at hp
      exact ⟨b, off, hp⟩
    refine ⟨b', off', rfl, fun i j hi hj => ?_⟩
    obtain ⟨h0, h1, h2, -⟩ := hit i hi
    rw [plainAdd] at h0 h1 h2
    match j, hj with
    | 0, _ => rw [Nat.add_assoc]; exact h0
    | 1, _ => rw [Nat.add_assoc]; exact h1
    | 2, _ => rw [Nat.add_assoc]; exact h2

set_option maxRecDepth 100000 in
theorem lifted (os : Os) (started : os.Started) (H : Type) (enc : TypeId × Value → H) :
    ReturnsInHanded {} Try.checked os 5 .any (Rows.bitioBackSpec.pre6 enc Try.prog Try.f5 Rows.bitioBackRow.domain false) (Rows.bitioBackSpec.post enc Try.prog Try.f5 false true false false) := by
  refine returnsInHanded_of_change (C := Try.checked) own started (by kernel_rfl) Try.func5
    (ChangeSpec.witness6 (enc := enc) (C := Try.checked) false ⟨#[], #[.slice none 0 0], []⟩ 8 (by kernel_rfl) (by kernel_rfl) (by kernel_rfl) (by kernel_rfl)) ?_
  intro W base args ds gs before hval0 hW hcnd _
  have hval : ∀ (j : Nat) t v, Try.f5.params[j]? = some t → args[j]? = some v → Value.okWide Try.prog W .any base t v := hval0
  have hW' := hW
  obtain ⟨p, q, hA0, hV, rfl, hfz, hnd⟩ := hW
  have hA : DataW.TrodAll enc Try.prog W 0 (fun _ => true) true Try.f5.params.toList args.toList ds p := hA0
  rw [Try.params5] at hA hval
  obtain ⟨v0, vs0, d0, ds0, p0, q0, hargs, rfl, rfl, h0, r0⟩ := trodAll_cons hA
  obtain ⟨rfl, rfl, rfl⟩ := trodAll_nil r0
  obtain rfl : args = #[v0] := by cases args; simp_all
  obtain ⟨rfl, rfl⟩ := trodVars_none hV
  obtain ⟨a0, len0, cap0, rfl⟩ := okWide_slice Try.underlying53 (hval 0 53 v0 rfl rfl)
  have k0 := h0
  have lt0 : ∀ x ∈ p0, x.block < W.heap.size := by obtain ⟨m, hm⟩ := k0; exact DataW.trod_lt m _ _ _ hm
  obtain ⟨it, w0, w0b⟩ : ∃ it : Nat → Nat × Int × Bool, SlS W 3 a0 len0 (itC it) ∧ ∀ i, i < len0 → (it i).1 < 4294967296 := by
    obtain ⟨fuel, hf⟩ := h0
    exact items hf
  clear hA0 hval0
  refine (walk a0 len0 cap0 it W w0 w0b).mono fun _ W' ⟨he, bel⟩ => ?_
  subst he
  exact ⟨_, rfl, _, _, _, [], _, [], hW', trodAll_mk1 (shut_bool Try.underlying4 _), (trodAll_cons_mk (Below.trod laidOut (by kernel_rfl) (of_decide_eq_true (by kernel_rfl)) k0 bel lt0) trodAll_mk0), rfl, bel.frame _, fun h => by cases h⟩

theorem over : Rows.bitioBackRow.holds Try.pinned (OpenSpec.ofChange Rows.bitioBackSpec) :=
  OpenClaim.holds_of_wide 5 Try.f5 rfl rfl rfl rfl rfl rfl rfl ⟨rfl, rfl, rfl, rfl, rfl⟩ rfl rfl rfl rfl rfl (by kernel_rfl) Try.func5 (by kernel_rfl)
    (of_decide_eq_true (by kernel_rfl)) (by unfold Func.isWrapper; first | (rw [if_pos (by decide +kernel)]; kernel_rfl) | (rw [if_neg (by decide +kernel)]; exact ⟨rfl, rfl⟩))
    (fun os started H enc _ => lifted os started H enc)

theorem proved : Rows.BitioBackSaid := over
end Go.Proofs.Ytijcomakomihbaa.bitioBack
