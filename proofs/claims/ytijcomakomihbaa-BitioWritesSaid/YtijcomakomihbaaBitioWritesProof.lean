/- Whatever steps come in, what is written is the document's: BitioWrites returns true, without a panic, and changes nothing that was there. -/
import Derived.Test.YtijcomakomihbaaRows
import Derived.Test.YtijcomakomihbaaOpenStruct
import Derived.Test.YtijcomakomihbaaBitLawWrites
import Derived.WalkKit
import Derived.ProofKit
import Derived.OpenShut
import Derived.ShutString
import Derived.ChangeOld
import Derived.ChangeArms
import Derived.Below
namespace Go.Proofs.Ytijcomakomihbaa.bitioWrites
open Go.ChangeShapes Go.WideShapes Go.ChangeAt Go.RowKit Go.Deep
open Go.ChangeMaps (open_string shut_string)

theorem own : ownKnob Try.prog.godebug = none := by kernel_rfl
theorem laidOut : laidOutB Try.prog = true := by kernel_rfl

theorem walk (a0 : Option Addr) (n cap0 : Nat) (it : Nat → PutV) (w : World) (h : SlPut w a0 n it) :
    Calls Try.prog 3 #[.slice a0 n cap0] w fun e w' => e = .returned (.bool true) ∧ Below w.heap.size w w' :=
  (law_writes a0 n cap0 it w h).mono fun _ _ h => ⟨h.1, h.2.below⟩

set_option maxRecDepth 100000 in
theorem text {H : Type} {enc : TypeId × Value → H} {W : World} {fuel : Nat} {v : Value} {x : DataW H × List MemPlace}
    (hf : DataW.trod enc Try.prog W 0 (fun _ => true) true fuel 25 [v] = some x) :
    ∃ (a : Option Addr) (l : List Nat) (c : Nat), v = .slice a l.length c ∧ SlI W .u8 a l ∧ (∀ x ∈ l, x < 256) ∧ (a = none → c = 0) ∧ l.length ≤ c := by
  rcases open_ints Try.underlying25 Try.underlying5 (by kernel_rfl) hf with ⟨hcs, _⟩ | ⟨x, l, c, zs, hcs, _, hl, hm, hz, _, hcell, hwz⟩
  · simp only [List.cons.injEq, and_true] at hcs
    subst hcs
    exact ⟨none, [], 0, rfl, SlI.nil _ _ _, by simp, fun _ => rfl, Nat.le_refl _⟩
  · simp only [List.cons.injEq, and_true] at hcs
    subst hcs
    obtain ⟨bs, hbl, h1, h2, h3, h4⟩ := row8 (w := W) (a := some x) (len := l) (cap := c) (zs := zs) (.inr ⟨_, rfl, hl, hm, by simpa using hz, hcell, hwz⟩)
    subst hbl
    exact ⟨some x, bs, c, rfl, h1, h2, h3, h4⟩

set_option maxRecDepth 100000 in
theorem items {H : Type} {enc : TypeId × Value → H} {W : World} {fuel len cap : Nat} {a0 : Option Addr} {x : DataW H × List MemPlace}
    (hf : DataW.trod enc Try.prog W 0 (fun _ => true) true fuel 22 [.slice a0 len cap] = some x) :
    ∃ it : Nat → PutV, SlPut W a0 len it := by
  rcases structsOpen (k := 4) Try.underlying22 Try.underlying30 (by kernel_rfl) (by kernel_rfl) hf with hcs | ⟨a, l, c, hcs, hl, hm, hrow⟩
  · simp only [List.cons.injEq, Value.slice.injEq, and_true] at hcs
    obtain ⟨rfl, rfl, rfl⟩ := hcs
    exact ⟨fun _ => ⟨0, 0, 0, none, [], 0⟩, by decide, fun h => absurd h (by decide), fun i h => absurd h (by omega)⟩
  · simp only [List.cons.injEq, Value.slice.injEq, and_true] at hcs
    obtain ⟨rfl, rfl, rfl⟩ := hcs
    have each : ∀ i, i < len → ∃ y : PutV, (W.cell? (a.add (i * 4 + 0)) = some (.int .u8 (y.kind : Nat)) ∧ W.cell? (a.add (i * 4 + 1)) = some (.int .u32 (y.num : Nat)) ∧ W.cell? (a.add (i * 4 + 2)) = some (.int .i64 y.cnt) ∧
        W.cell? (a.add (i * 4 + 3)) = some (.slice y.at_ y.bytes.length y.cap)) ∧ y.kind < 256 ∧ y.num < 4294967296 ∧ SlI W .u8 y.at_ y.bytes ∧ (∀ x ∈ y.bytes, x < 256) ∧ (y.at_ = none → y.cap = 0) ∧ y.bytes.length ≤ y.cap := by
      intro i hi
      obtain ⟨v0, y0, n0, c0, t0⟩ := hrow i hi 0 _ rfl (by decide)
      obtain ⟨v1, y1, n1, c1, t1⟩ := hrow i hi 1 _ rfl (by decide)
      obtain ⟨v2, y2, n2, c2, t2⟩ := hrow i hi 2 _ rfl (by decide)
      obtain ⟨v3, y3, n3, c3, t3⟩ := hrow i hi 3 _ rfl (by decide)
      obtain ⟨k0, e0, -, w0⟩ := DataW.trod_int Try.underlying5 t0
      obtain ⟨k1, e1, -, w1⟩ := DataW.trod_int Try.underlying28 t1
      obtain ⟨k2, e2, -, -⟩ := DataW.trod_int Try.underlying3 t2
      obtain ⟨pa, pl, pc, rfl, s1, s2, s3, s4⟩ := text t3
      simp only [List.cons.injEq, and_true] at e0 e1 e2
      subst e0 e1 e2
      have b0 := bounds_u8 w0
      have b1 := bounds_u32 w1
      exact ⟨⟨k0.toNat, k1.toNat, k2, pa, pl, pc⟩, ⟨by rw [c0]; simp only; rw [Int.toNat_of_nonneg (by omega)], by rw [c1]; simp only; rw [Int.toNat_of_nonneg (by omega)], c2, c3⟩, by simp only; omega, by simp only; omega, s1, s2, s3, s4⟩
    have : Inhabited PutV := ⟨⟨0, 0, 0, none, [], 0⟩⟩
    obtain ⟨it, hit⟩ := Go.Deep.choose_lt each
    refine ⟨it, by omega, fun h0 => ?_, fun i hi => (hit i hi).2⟩
    obtain ⟨b, off, hp⟩ := plainAt (hit 0 h0).1.1
    obtain ⟨b', off', rfl⟩ : ∃ b off, a = ⟨b, off, none⟩ := by
      have e : a.add (0 * 4 + 0) = a := by simp [Addr.add]
      rw [e] at hp
      exact ⟨b, off, hp⟩
    refine ⟨b', off', rfl, fun i hi => ?_⟩
    obtain ⟨⟨h0, h1, h2, h3⟩, -⟩ := hit i hi
    rw [plainAdd] at h0 h1 h2 h3
    rw [Nat.add_assoc, Nat.add_assoc, Nat.add_assoc]
    exact ⟨h0, h1, h2, h3⟩

set_option maxRecDepth 100000 in
theorem lifted (os : Os) (started : os.Started) (H : Type) (enc : TypeId × Value → H) :
    ReturnsInHanded {} Try.checked os 3 .any (Rows.bitioWritesSpec.pre6 enc Try.prog Try.f3 Rows.bitioWritesRow.domain false) (Rows.bitioWritesSpec.post enc Try.prog Try.f3 false true false false) := by
  refine returnsInHanded_of_change (C := Try.checked) own started (by kernel_rfl) Try.func3
    (ChangeSpec.witness6 (enc := enc) (C := Try.checked) false ⟨#[], #[.slice none 0 0], []⟩ 8 (by kernel_rfl) (by kernel_rfl) (by kernel_rfl) (by kernel_rfl)) ?_
  intro W base args ds gs before hval0 hW hcnd _
  have hval : ∀ (j : Nat) t v, Try.f3.params[j]? = some t → args[j]? = some v → Value.okWide Try.prog W .any base t v := hval0
  have hW' := hW
  obtain ⟨p, q, hA0, hV, rfl, hfz, hnd⟩ := hW
  have hA : DataW.TrodAll enc Try.prog W 0 (fun _ => true) true Try.f3.params.toList args.toList ds p := hA0
  rw [Try.params3] at hA hval
  obtain ⟨v0, vs0, d0, ds0, p0, q0, hargs, rfl, rfl, h0, r0⟩ := trodAll_cons hA
  obtain ⟨rfl, rfl, rfl⟩ := trodAll_nil r0
  obtain rfl : args = #[v0] := by cases args; simp_all
  obtain ⟨rfl, rfl⟩ := trodVars_none hV
  obtain ⟨a0, len0, cap0, rfl⟩ := okWide_slice Try.underlying22 (hval 0 22 v0 rfl rfl)
  have k0 := h0
  have lt0 : ∀ x ∈ p0, x.block < W.heap.size := by obtain ⟨m, hm⟩ := k0; exact DataW.trod_lt m _ _ _ hm
  obtain ⟨it, w0⟩ : ∃ it : Nat → PutV, SlPut W a0 len0 it := by
    obtain ⟨fuel, hf⟩ := h0
    exact items hf
  clear hA0 hval0
  refine (walk a0 len0 cap0 it W w0).mono fun _ W' ⟨he, bel⟩ => ?_
  subst he
  exact ⟨_, rfl, _, _, _, [], _, [], hW', trodAll_mk1 (shut_bool Try.underlying4 _), (trodAll_cons_mk (Below.trod laidOut (by kernel_rfl) (of_decide_eq_true (by kernel_rfl)) k0 bel lt0) trodAll_mk0), rfl, bel.frame _, fun h => by cases h⟩

theorem over : Rows.bitioWritesRow.holds Try.pinned (OpenSpec.ofChange Rows.bitioWritesSpec) :=
  OpenClaim.holds_of_wide 3 Try.f3 rfl rfl rfl rfl rfl rfl rfl ⟨rfl, rfl, rfl, rfl, rfl⟩ rfl rfl rfl rfl rfl (by kernel_rfl) Try.func3 (by kernel_rfl)
    (of_decide_eq_true (by kernel_rfl)) (by unfold Func.isWrapper; first | (rw [if_pos (by decide +kernel)]; kernel_rfl) | (rw [if_neg (by decide +kernel)]; exact ⟨rfl, rfl⟩))
    (fun os started H enc _ => lifted os started H enc)

theorem proved : Rows.BitioWritesSaid := over
end Go.Proofs.Ytijcomakomihbaa.bitioWrites
