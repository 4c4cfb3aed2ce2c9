/- DgOb -/
import Derived.Test.YtmieeoceckcnkaaGreatPz1
import Derived.Test.YtmieeoceckcnkaaGreatPz2
import Derived.Test.YtmieeoceckcnkaaGreatPz3
import Derived.Test.YtmieeoceckcnkaaGreatPz4
import Derived.Test.YtmieeoceckcnkaaGreatPz5
import Derived.Test.YtmieeoceckcnkaaGreatPz6
import Derived.Test.YtmieeoceckcnkaaGreatPz7
import Derived.Test.YtmieeoceckcnkaaGreatPz8
import Derived.Test.YtmieeoceckcnkaaGreatPz9
import Derived.Test.YtmieeoceckcnkaaGreatPz10
import Derived.Test.YtmieeoceckcnkaaGreatPz11
import Derived.Test.YtmieeoceckcnkaaGreatPz12
import Derived.Test.YtmieeoceckcnkaaGreatPz13
import Derived.Test.YtmieeoceckcnkaaGreatPz14
import Derived.Test.YtmieeoceckcnkaaGreatPz15
import Derived.Test.YtmieeoceckcnkaaGreatPz16
import Derived.BigQuiet
import Derived.Lib.AppendZerosOnto
import Derived.Lib.SliceRun
import Derived.Lib.Walk
import Derived.StillTailTactics
import Derived.Deep.RegionLaw
import Derived.Deep.RegionHeld3
import Derived.BigRegion
import Derived.Maps.AppendAt
import Derived.Laws.AppendOwnNone
import Derived.Laws.OwnMore
import Derived.Laws.Externs
import Derived.Shelf.Spec.BitsCarry
import Derived.Deep.CutBlock
import Derived.Deep.CutRange
import Derived.Deep.DeepCutAuto
import Derived.Lib.BitFns
import Derived.Shelf.Small.Bits
import Derived.Shelf.Strconv.Itoa0
import Derived.Shelf.Bits.Mul64
import Derived.Test.YtmieeoceckcnkaaGreatRows
import Derived.WalkKit
import Derived.WalkSpells
import Derived.WalkLawsBesides
import Derived.Deep.QuietTactic
import Derived.RegionTactic
import Derived.Deep.AppendLies
import Derived.Laws.ResultCell
import Derived.Laws.EntriesVeiled
import Derived.Lib.Hide
import Derived.Laws.BytesArg
import Derived.Lib.SlBytesConst
set_option maxRecDepth 100000
set_option maxHeartbeats 8000000
namespace Go.Proofs.YtmieeoceckcnkaaGreat
open Go.RowKit
structure Ob (Is : World → Nat → (Nat → Prop) → Dg → Prop) : Prop where
  fr : ∀ {W W' g C M S}, Is W g C M → Fr S W W' → (∀ b, C b → ¬ S b) → Is W' g C M
  lt : ∀ {W g C M}, Is W g C M → ∀ b, C b → b < W.heap.size
  self : ∀ {W g C M}, Is W g C M → C g
theorem obD : Ob DIs where
  fr := fun h f ho => h.fr f ho
  lt := fun h => h.below
  self := fun ⟨_, _, _, _, _, _, s⟩ => s.self
theorem obR : Ob RIs where
  fr := fun h f ho => h.fr f ho
  lt := fun h => h.below
  self := fun ⟨_, _, _, _, _, _, s⟩ => s.self
def HTurn (Is : World → Nat → (Nat → Prop) → Dg → Prop) (W W' : World) (g : Nat) (C : Nat → Prop) (M' : Dg) : Prop := ∃ C', Is W' g C' M' ∧ Fr C W W' ∧ ∀ b, C' b → C b ∨ W.heap.size ≤ b
def Ho (Is : World → Nat → (Nat → Prop) → Dg → Prop) (own : Nat → Nat) (i : Nat) (w W : World) (g : Nat) (M : Dg) : Prop := ∃ C, Is W g C M ∧ ∀ b, C b → w.heap.size ≤ b ∧ own b = i
def dye (own : Nat → Nat) (j n : Nat) : Nat → Nat := fun y => if n ≤ y then j else own y
theorem dye_below (own : Nat → Nat) (j n y : Nat) (h : y < n) : dye own j n y = own y := if_neg (by omega)
theorem dye_above (own : Nat → Nat) (j n y : Nat) (h : n ≤ y) : dye own j n y = j := if_pos h
section
variable {Is Is2 : World → Nat → (Nat → Prop) → Dg → Prop} {own : Nat → Nat} {i j : Nat} {w W W' : World} {g g2 : Nat} {C : Nat → Prop} {M M' M2 : Dg}
theorem Ho.fr0 (o : Ob Is) (h : Ho Is own i w W g M) (f : Fr S0 W W') : Ho Is own i w W' g M := let ⟨C, h1, h2⟩ := h; ⟨C, o.fr h1 f (fun _ _ h => h), h2⟩
theorem Ho.turned (hC : ∀ b, C b → w.heap.size ≤ b ∧ own b = i) (hl : ∀ b, C b → b < W.heap.size) (f : Fr S0 w W) (t : HTurn Is W W' g C M') : Ho Is (dye own i W.heap.size) i w W' g M' := by
  obtain ⟨C', h1, h2, h3⟩ := t
  refine ⟨C', h1, fun b hb => ?_⟩
  rcases h3 b hb with h | h
  · exact ⟨(hC b h).1, by rw [dye_below _ _ _ _ (hl b h)]; exact (hC b h).2⟩
  · exact ⟨Nat.le_trans f.size h, dye_above _ _ _ _ h⟩
theorem Ho.keep (o : Ob Is2) (h : Ho Is2 own j w W g2 M2) (hC : ∀ b, C b → w.heap.size ≤ b ∧ own b = i) (hij : i ≠ j) (f : Fr C W W') : Ho Is2 (dye own i W.heap.size) j w W' g2 M2 := by
  obtain ⟨C2, h1, h2⟩ := h
  refine ⟨C2, o.fr h1 f fun b hb hc => hij ?_, fun b hb => ⟨(h2 b hb).1, by rw [dye_below _ _ _ _ (o.lt h1 b hb)]; exact (h2 b hb).2⟩⟩
  rw [← (hC b hc).2, (h2 b hb).2]
end
structure Qd (xo : Nat) (MO : Dg) (Is : World → Nat → (Nat → Prop) → Dg → Prop) (own : Nat → Nat) (iA iB : Nat) (w W : World) (gs gw a b xA xB rA rB : Nat) (MA MB NA NB : Dg) : Prop where
  ia : iA < 2
  ib : iB < 2
  ne : iA ≠ iB
  ab : a ≠ b
  hA : Ho Is own iA w W xA MA
  hB : Ho Is own iB w W xB MB
  kA : Ho RIs own (iA + 2) w W rA NA
  kB : Ho RIs own (iB + 2) w W rB NB
  os : own gs = 4
  ow : own gw = 5
  gs0 : w.heap.size ≤ gs
  gw0 : w.heap.size ≤ gw
  bs : ∃ sc, W.heap[gs]? = some (.cells sc 26 (0, 0)) ∧ sc[a]? = some (.pointer (some ⟨xA, 0, none⟩)) ∧ sc[b]? = some (.pointer (some ⟨xB, 0, none⟩))
  bw : ∃ sc, W.heap[gw]? = some (.cells sc 27 (0, 0)) ∧ sc[a]? = some (.pointer (some ⟨rA, 0, none⟩)) ∧ sc[b]? = some (.pointer (some ⟨rB, 0, none⟩))
  fr : Fr S0 w W
  hO : Ho Is own 6 w W xo MO
def Quad (xo : Nat) (MO : Dg) (Is : World → Nat → (Nat → Prop) → Dg → Prop) (w W : World) (gs gw a b xA xB rA rB : Nat) (MA MB NA NB : Dg) : Prop := ∃ own iA iB, Qd xo MO Is own iA iB w W gs gw a b xA xB rA rB MA MB NA NB
section
variable {xo : Nat} {MO : Dg} {Is : World → Nat → (Nat → Prop) → Dg → Prop} {w W W' : World} {gs gw a b xA xB rA rB : Nat} {MA MB NA NB : Dg}
theorem Quad.swap (q : Quad xo MO Is w W gs gw a b xA xB rA rB MA MB NA NB) : Quad xo MO Is w W gs gw b a xB xA rB rA MB MA NB NA :=
  let ⟨own, iA, iB, d⟩ := q
  ⟨own, iB, iA, d.ib, d.ia, d.ne.symm, d.ab.symm, d.hB, d.hA, d.kB, d.kA, d.os, d.ow, d.gs0, d.gw0, let ⟨sc, h1, h2, h3⟩ := d.bs; ⟨sc, h1, h3, h2⟩, let ⟨sc, h1, h2, h3⟩ := d.bw; ⟨sc, h1, h3, h2⟩, d.fr, d.hO⟩
theorem Quad.fr0 (o : Ob Is) (q : Quad xo MO Is w W gs gw a b xA xB rA rB MA MB NA NB) (f : Fr S0 W W') : Quad xo MO Is w W' gs gw a b xA xB rA rB MA MB NA NB :=
  let ⟨own, iA, iB, d⟩ := q
  ⟨own, iA, iB, d.ia, d.ib, d.ne, d.ab, d.hA.fr0 o f, d.hB.fr0 o f, d.kA.fr0 obR f, d.kB.fr0 obR f, d.os, d.ow, d.gs0, d.gw0, let ⟨sc, h1, h2, h3⟩ := d.bs; ⟨sc, f.row h1 (fun h => h), h2, h3⟩, let ⟨sc, h1, h2, h3⟩ := d.bw; ⟨sc, f.row h1 (fun h => h), h2, h3⟩, d.fr.trans0 f, d.hO.fr0 o f⟩
theorem Quad.fr (q : Quad xo MO Is w W gs gw a b xA xB rA rB MA MB NA NB) : Fr S0 w W := let ⟨_, _, _, d⟩ := q; d.fr
theorem Quad.cs (q : Quad xo MO Is w W gs gw a b xA xB rA rB MA MB NA NB) : W.cell? ⟨gs, a, none⟩ = some (.pointer (some ⟨xA, 0, none⟩)) := by
  obtain ⟨own, iA, iB, d⟩ := q
  obtain ⟨sc, h1, h2, -⟩ := d.bs
  simp [World.cell?, h1, h2]
theorem Quad.cw (q : Quad xo MO Is w W gs gw a b xA xB rA rB MA MB NA NB) : W.cell? ⟨gw, a, none⟩ = some (.pointer (some ⟨rA, 0, none⟩)) := by
  obtain ⟨own, iA, iB, d⟩ := q
  obtain ⟨sc, h1, h2, -⟩ := d.bw
  simp [World.cell?, h1, h2]
theorem Quad.other (q : Quad xo MO Is w W gs gw a b xA xB rA rB MA MB NA NB) : ∃ C, Is W xo C MO := let ⟨_, _, _, d⟩ := q; let ⟨C, h, _⟩ := d.hO; ⟨C, h⟩
theorem Qd.others {own : Nat → Nat} {iA iB : Nat} {C : Nat → Prop} {i : Nat} (d : Qd xo MO Is own iA iB w W gs gw a b xA xB rA rB MA MB NA NB) (hC : ∀ y, C y → w.heap.size ≤ y ∧ own y = i) (hi : i < 4) (f : Fr C W W') :
    dye own i W.heap.size gs = 4 ∧ dye own i W.heap.size gw = 5 ∧ (∃ sc, W'.heap[gs]? = some (.cells sc 26 (0, 0)) ∧ sc[a]? = some (.pointer (some ⟨xA, 0, none⟩)) ∧ sc[b]? = some (.pointer (some ⟨xB, 0, none⟩))) ∧
      (∃ sc, W'.heap[gw]? = some (.cells sc 27 (0, 0)) ∧ sc[a]? = some (.pointer (some ⟨rA, 0, none⟩)) ∧ sc[b]? = some (.pointer (some ⟨rB, 0, none⟩))) ∧ Fr S0 w W' := by
  obtain ⟨sc, h1, h2, h3⟩ := d.bs
  obtain ⟨sw, k1, k2, k3⟩ := d.bw
  have l1 := (Array.getElem?_eq_some_iff.1 h1).1
  have l2 := (Array.getElem?_eq_some_iff.1 k1).1
  refine ⟨by rw [dye_below _ _ _ _ l1]; exact d.os, by rw [dye_below _ _ _ _ l2]; exact d.ow, ⟨sc, f.row h1 fun h => ?_, h2, h3⟩, ⟨sw, f.row k1 fun h => ?_, k2, k3⟩, d.fr.trans f fun y hy hc => by have := (hC y hc).1; omega⟩
  · have := (hC gs h).2; rw [d.os] at this; omega
  · have := (hC gw h).2; rw [d.ow] at this; omega
theorem Quad.codeA (o : Ob Is) (q : Quad xo MO Is w W gs gw a b xA xB rA rB MA MB NA NB) :
    ∃ C CB, Is W xA C MA ∧ Is W xB CB MB ∧ (∀ y, C y → ¬ CB y) ∧ ∀ W' M', HTurn Is W W' xA C M' → Quad xo MO Is w W' gs gw a b xA xB rA rB M' MB NA NB := by
  obtain ⟨own, iA, iB, d⟩ := q
  obtain ⟨C, h1, h2⟩ := d.hA
  obtain ⟨CB, k1, k2⟩ := d.hB
  have hia := d.ia
  have hib := d.ib
  have hne := d.ne
  refine ⟨C, CB, h1, k1, fun y hy hz => hne ?_, fun W' M' t => ?_⟩
  · rw [← (h2 y hy).2, (k2 y hz).2]
  · obtain ⟨-, -, hf, -⟩ := id t
    obtain ⟨e1, e2, e3, e4, e5⟩ := d.others h2 (by omega) hf
    exact ⟨dye own iA W.heap.size, iA, iB, d.ia, d.ib, d.ne, d.ab, Ho.turned h2 (o.lt h1) d.fr t, d.hB.keep o h2 hne hf, d.kA.keep obR h2 (by omega) hf, d.kB.keep obR h2 (by omega) hf, e1, e2, d.gs0, d.gw0, e3, e4, e5, d.hO.keep o h2 (by omega) hf⟩
theorem Quad.refA (q : Quad xo MO Is w W gs gw a b xA xB rA rB MA MB NA NB) (o : Ob Is) :
    ∃ C CB, RIs W rA C NA ∧ RIs W rB CB NB ∧ (∀ y, C y → ¬ CB y) ∧ ∀ W' N', HTurn RIs W W' rA C N' → Quad xo MO Is w W' gs gw a b xA xB rA rB MA MB N' NB := by
  obtain ⟨own, iA, iB, d⟩ := q
  obtain ⟨C, h1, h2⟩ := d.kA
  obtain ⟨CB, k1, k2⟩ := d.kB
  have hia := d.ia
  have hib := d.ib
  have hne := d.ne
  refine ⟨C, CB, h1, k1, fun y hy hz => hne ?_, fun W' N' t => ?_⟩
  · have h3 := (h2 y hy).2
    have h4 := (k2 y hz).2
    omega
  · obtain ⟨-, -, hf, -⟩ := id t
    obtain ⟨e1, e2, e3, e4, e5⟩ := d.others h2 (by omega) hf
    exact ⟨dye own (iA + 2) W.heap.size, iA, iB, d.ia, d.ib, d.ne, d.ab, d.hA.keep o h2 (by omega) hf, d.hB.keep o h2 (by omega) hf, Ho.turned h2 (obR.lt h1) d.fr t, d.kB.keep obR h2 (by omega) hf, e1, e2, d.gs0, d.gw0, e3, e4, e5, d.hO.keep o h2 (by omega) hf⟩
end
end Go.Proofs.YtmieeoceckcnkaaGreat
