/- TwFive -/
import Derived.Test.YtmieeoceckcnkaaGreatPz1
import Derived.Test.YtmieeoceckcnkaaGreatPz2
import Derived.Test.YtmieeoceckcnkaaGreatPz3
import Derived.Test.YtmieeoceckcnkaaGreatPz4
import Derived.Test.YtmieeoceckcnkaaGreatPz5
import Derived.Test.YtmieeoceckcnkaaGreatPz6
import Derived.Test.YtmieeoceckcnkaaGreatPz7
import Derived.Test.YtmieeoceckcnkaaGreatPz8
import Derived.Test.YtmieeoceckcnkaaGreatPz9
import Derived.Test.YtmieeoceckcnkaaGreatPz10
import Derived.Test.YtmieeoceckcnkaaGreatPz11
import Derived.Test.YtmieeoceckcnkaaGreatPz12
import Derived.Test.YtmieeoceckcnkaaGreatPz13
import Derived.Test.YtmieeoceckcnkaaGreatPz14
import Derived.Test.YtmieeoceckcnkaaGreatPz15
import Derived.Test.YtmieeoceckcnkaaGreatPz16
import Derived.Test.YtmieeoceckcnkaaGreatPz18
import Derived.Test.YtmieeoceckcnkaaGreatPz19
import Derived.Test.YtmieeoceckcnkaaGreatPz20
import Derived.Test.YtmieeoceckcnkaaGreatPz21
import Derived.Test.YtmieeoceckcnkaaGreatPz22
import Derived.Test.YtmieeoceckcnkaaGreatPz23
import Derived.Test.YtmieeoceckcnkaaGreatPz24
import Derived.Test.YtmieeoceckcnkaaGreatPz25
import Derived.Test.YtmieeoceckcnkaaGreatPz28
import Derived.Test.YtmieeoceckcnkaaGreatPz29
import Derived.Test.YtmieeoceckcnkaaGreatPz30
import Derived.Test.YtmieeoceckcnkaaGreatPz31
import Derived.BigQuiet
import Derived.Lib.AppendZerosOnto
import Derived.Lib.SliceRun
import Derived.Lib.Walk
import Derived.StillTailTactics
import Derived.Deep.RegionLaw
import Derived.Deep.RegionHeld3
import Derived.BigRegion
import Derived.Maps.AppendAt
import Derived.Laws.AppendOwnNone
import Derived.Laws.OwnMore
import Derived.Laws.Externs
import Derived.Shelf.Spec.BitsCarry
import Derived.Deep.CutBlock
import Derived.Deep.CutRange
import Derived.Deep.DeepCutAuto
import Derived.Lib.BitFns
import Derived.Shelf.Small.Bits
import Derived.Shelf.Strconv.Itoa0
import Derived.Shelf.Bits.Mul64
import Derived.Test.YtmieeoceckcnkaaGreatRows
import Derived.WalkKit
import Derived.WalkSpells
import Derived.WalkLawsBesides
import Derived.Deep.QuietTactic
import Derived.RegionTactic
import Derived.Deep.AppendLies
import Derived.Laws.ResultCell
import Derived.Laws.EntriesVeiled
import Derived.Lib.Hide
import Derived.Laws.BytesArg
import Derived.Lib.SlBytesConst
import Derived.Defers
import Derived.Recover
import Derived.Deep.RegionHeld2
import Derived.Laws.BitsAllLaws
set_option maxRecDepth 100000
set_option maxHeartbeats 8000000
namespace Go.Proofs.YtmieeoceckcnkaaGreat
open Go.RowKit
structure Fv (xo : Nat) (MO : Dg) (w W : World) (xA xB rA rB : Nat) (MA MB : Dg) : Prop where
  ex : ∃ own iA iB, iA < 2 ∧ iB < 2 ∧ iA ≠ iB ∧ Ho DIs own iA w W xA MA ∧ Ho DIs own iB w W xB MB ∧ Ho RIs own (iA + 2) w W rA MA ∧ Ho RIs own (iB + 2) w W rB MB ∧ Ho DIs own 6 w W xo MO
  fr : Fr S0 w W
section
variable {xo : Nat} {MO : Dg} {w W W' : World} {xA xB rA rB : Nat} {MA MB : Dg}
theorem Fv.fr0 (q : Fv xo MO w W xA xB rA rB MA MB) (f : Fr S0 W W') : Fv xo MO w W' xA xB rA rB MA MB :=
  let ⟨own, iA, iB, h1, h2, h3, h4, h5, h6, h7, h8⟩ := q.ex
  ⟨⟨own, iA, iB, h1, h2, h3, h4.fr0 obD f, h5.fr0 obD f, h6.fr0 obR f, h7.fr0 obR f, h8.fr0 obD f⟩, q.fr.trans0 f⟩
theorem Quad.five {gs gw a b : Nat} (q : Quad xo MO DIs w W gs gw a b xA xB rA rB MA MB MA MB) : Fv xo MO w W xA xB rA rB MA MB :=
  let ⟨own, iA, iB, d⟩ := q
  ⟨⟨own, iA, iB, d.ia, d.ib, d.ne, d.hA, d.hB, d.kA, d.kB, d.hO⟩, d.fr⟩
theorem Ho.repaint {Is : World → Nat → (Nat → Prop) → Dg → Prop} {own own2 : Nat → Nat} {i g : Nat} {M : Dg} (o : Ob Is) (h : Ho Is own i w W g M) (f : Fr S0 W W') (he : ∀ b, b < W.heap.size → own2 b = own b) : Ho Is own2 i w W' g M := by
  obtain ⟨C, h1, h2⟩ := h
  exact ⟨C, o.fr h1 f (fun _ _ h => h), fun b hb => ⟨(h2 b hb).1, by rw [he b (o.lt h1 b hb)]; exact (h2 b hb).2⟩⟩
theorem Fv.quad (q : Fv xo MO w W xA xB rA rB MA MB) :
    Quad xo MO DIs w ((W.alloc (.cells #[.pointer (some ⟨xA, 0, none⟩), .pointer (some ⟨xB, 0, none⟩)] 26)).alloc (.cells #[.pointer (some ⟨rA, 0, none⟩), .pointer (some ⟨rB, 0, none⟩)] 27)) W.heap.size (W.heap.size + 1) 0 1 xA xB rA rB MA MB MA MB := by
  obtain ⟨own, iA, iB, h1, h2, h3, h4, h5, h6, h7, h8⟩ := q.ex
  have hz := q.fr.size
  have f1 : Fr S0 W (W.alloc (.cells #[.pointer (some ⟨xA, 0, none⟩), .pointer (some ⟨xB, 0, none⟩)] 26)) := Fr.alloc _ _ _
  have b1 := heap_alloc_new W (.cells #[.pointer (some ⟨xA, 0, none⟩), .pointer (some ⟨xB, 0, none⟩)] 26)
  have s1 := size_alloc W (.cells #[.pointer (some ⟨xA, 0, none⟩), .pointer (some ⟨xB, 0, none⟩)] 26)
  obtain ⟨U, eU⟩ : ∃ U, W.alloc (.cells #[.pointer (some ⟨xA, 0, none⟩), .pointer (some ⟨xB, 0, none⟩)] 26) = U := ⟨_, rfl⟩
  rw [eU] at f1 b1 s1 ⊢
  have f2 : Fr S0 U (U.alloc (.cells #[.pointer (some ⟨rA, 0, none⟩), .pointer (some ⟨rB, 0, none⟩)] 27)) := Fr.alloc _ _ _
  have b2 := heap_alloc_new U (.cells #[.pointer (some ⟨rA, 0, none⟩), .pointer (some ⟨rB, 0, none⟩)] 27)
  rw [s1] at b2
  have f3 := f1.trans0 f2
  have he : ∀ b, b < W.heap.size → (fun b => if b = W.heap.size then 4 else if b = W.heap.size + 1 then 5 else own b) b = own b := fun b hb => by
    simp only
    rw [if_neg (by omega), if_neg (by omega)]
  refine ⟨fun b => if b = W.heap.size then 4 else if b = W.heap.size + 1 then 5 else own b, iA, iB, h1, h2, h3, by decide, h4.repaint obD f3 he, h5.repaint obD f3 he, h6.repaint obR f3 he, h7.repaint obR f3 he, if_pos rfl, ?_, hz, by omega, ⟨_, f2.row b1 fun h => h, rfl, rfl⟩, ⟨_, b2, rfl, rfl⟩, q.fr.trans0 f3, h8.repaint obD f3 he⟩
  show (if W.heap.size + 1 = W.heap.size then 4 else if W.heap.size + 1 = W.heap.size + 1 then 5 else own (W.heap.size + 1)) = 5
  rw [if_neg (by omega), if_pos rfl]
end
theorem five_start {w w2 w3 w4 w5 : World} {g r gy g2 r2 : Nat} {x m : Dg} (b1 : Both w w2 g r x x) (f : Fr S0 w2 w3) (k : NewD w3 w4 gy x) (b2 : Both w4 w5 g2 r2 m m) : Fv g x w w5 gy g2 r r2 x m := by
  classical
  obtain ⟨C, R, c1, c2, c3, c4, c5⟩ := b1.ex
  obtain ⟨Y, y1, y2⟩ := k.ex
  obtain ⟨C2, R2, e1, e2, e3, e4, e5⟩ := b2.ex
  have z1 := b1.fr.size
  have z2 := f.size
  have z3 := k.fr.size
  have f25 := (f.trans0 k.fr).trans0 b2.fr
  have lC := c1.below
  have lR := c2.below
  have lY := y1.below
  refine ⟨⟨fun b => if C b then 6 else if R b then 2 else if Y b then 0 else if C2 b then 1 else 3, 0, 1, by decide, by decide, by decide, ⟨Y, y1.fr0 b2.fr, fun b hb => ?_⟩, ⟨C2, e1, fun b hb => ?_⟩, ⟨R, c2.fr0 f25, fun b hb => ?_⟩, ⟨R2, e2, fun b hb => ?_⟩, ⟨C, c1.fr0 f25, fun b hb => ?_⟩⟩, b1.fr.trans0 f25⟩
  · have h1 := y2 b hb
    have n1 : ¬ C b := fun h => by have := lC b h; omega
    have n2 : ¬ R b := fun h => by have := lR b h; omega
    exact ⟨by omega, by simp only; rw [if_neg n1, if_neg n2, if_pos hb]⟩
  · have h1 := e4 b hb
    have n1 : ¬ C b := fun h => by have := lC b h; omega
    have n2 : ¬ R b := fun h => by have := lR b h; omega
    have n3 : ¬ Y b := fun h => by have := lY b h; omega
    exact ⟨by omega, by simp only; rw [if_neg n1, if_neg n2, if_neg n3, if_pos hb]⟩
  · have n1 : ¬ C b := fun h => c3 b h hb
    exact ⟨c5 b hb, by simp only; rw [if_neg n1, if_pos hb]⟩
  · have h1 := e5 b hb
    have n1 : ¬ C b := fun h => by have := lC b h; omega
    have n2 : ¬ R b := fun h => by have := lR b h; omega
    have n3 : ¬ Y b := fun h => by have := lY b h; omega
    have n4 : ¬ C2 b := fun h => e3 b h hb
    exact ⟨by omega, by simp only; rw [if_neg n1, if_neg n2, if_neg n3, if_neg n4]⟩
  · exact ⟨c4 b hb, by simp only; rw [if_pos hb]⟩
theorem Made.st {x : Dg} (h : Made x) : St x.d x := ⟨⟨h.d, by have h1 := h.len; unfold Dg.all at h1; rw [List.length_append] at h1; omega, h.few⟩, rfl⟩
end Go.Proofs.YtmieeoceckcnkaaGreat
