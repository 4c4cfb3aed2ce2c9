/- DgAdded, DgOb -/
import Derived.Test.YticagdppjknlaaaPl1
import Derived.Test.YticagdppjknlaaaPl2
import Derived.Test.YticagdppjknlaaaPl3
import Derived.Test.YticagdppjknlaaaPl4
import Derived.Test.YticagdppjknlaaaPl5
import Derived.Test.YticagdppjknlaaaPl6
import Derived.Test.YticagdppjknlaaaPl7
import Derived.Test.YticagdppjknlaaaPl8
import Derived.Test.YticagdppjknlaaaPl9
import Derived.Test.YticagdppjknlaaaPl10
import Derived.Test.YticagdppjknlaaaPl11
import Derived.Test.YticagdppjknlaaaPl12
import Derived.Test.YticagdppjknlaaaPl13
import Derived.Test.YticagdppjknlaaaPl14
import Derived.Test.YticagdppjknlaaaPl15
import Derived.Test.YticagdppjknlaaaPl16
import Derived.Test.YticagdppjknlaaaPl17
import Derived.Test.YticagdppjknlaaaPl18
import Derived.Test.YticagdppjknlaaaPl19
import Derived.Test.YticagdppjknlaaaPl20
import Derived.BigQuiet
import Derived.BigRegion
import Derived.Deep.RegionLaw
import Derived.Deep.RegionHeld3
import Derived.StillTailTactics
import Derived.Maps.AppendAt
import Derived.Laws.AppendOwnNone
import Derived.Laws.OwnMore
import Derived.Lib.AppendZerosOnto
import Derived.Lib.SliceRun
import Derived.Lib.Walk
import Derived.Laws.Externs
import Derived.Shelf.Spec.BitsCarry
import Derived.Deep.CutBlock
import Derived.Deep.CutRange
import Derived.Deep.DeepCutAuto
import Derived.Lib.BitFns
import Derived.Shelf.Small.Bits
import Derived.Shelf.Strconv.Itoa0
import Derived.Shelf.Bits.Mul64
import Derived.Test.YticagdppjknlaaaRows
import Derived.WalkKit
import Derived.WalkSpells
import Derived.WalkLawsBesides
import Derived.Deep.QuietTactic
import Derived.RegionTactic
import Derived.Deep.AppendLies
import Derived.Laws.ResultCell
import Derived.Laws.EntriesVeiled
import Derived.Lib.Hide
import Derived.Laws.BytesArg
import Derived.Lib.SlBytesConst
set_option maxRecDepth 100000
set_option maxHeartbeats 8000000
namespace Go.Proofs.Yticagdppjknlaaa
open Go.RowKit
def ZI (w : World) (p : Option Addr) (vs : List Int) : Prop := ∀ i, (h : i < vs.length) → ∃ b o, p = some ⟨b, o, none⟩ ∧ w.cell? ⟨b, o + i, none⟩ = some (.int .i64 vs[i])
theorem ZI.fr0 {w w' : World} {p : Option Addr} {vs : List Int} (h : ZI w p vs) (f : Fr S0 w w') : ZI w' p vs := fun i hi => let ⟨b, o, e, hc⟩ := h i hi; ⟨b, o, e, f.cell hc (fun h => h)⟩
def wt (ns : List Nat) (i : Nat) : Nat := if h : i < ns.length then 1 + ns[i] % 1000 else 1
def fineD (d : Nat) : Nat := 10 + d % 60
theorem fineD_in (d : Nat) : 10 ≤ fineD d ∧ fineD d ≤ 1000 := by unfold fineD; omega
theorem Dg.ref_of {x : Dg} {u : Nat} (h : x.ref u = 0) : 0 < u ∧ x.tot + u ≤ 281474976710656 := by
  unfold Dg.ref at h
  split at h
  · cases h
  · split at h
    · cases h
    · omega
theorem Dg.come_good {x : Dg} {v : Int} {u : Nat} (h : x.Good) (hr : x.ref u = 0) (h1 : -9223372036854775808 ≤ v) (h2 : v ≤ 9223372036854775807) : (x.come [(v, u)] v v).Good := by
  obtain ⟨hu0, hut⟩ := Dg.ref_of hr
  exact h.come (by intro t ht; rw [List.mem_singleton.1 ht]; exact ⟨Int.le_refl _, Int.le_refl _, hu0⟩) (by simp) h1 h2 h1 h2 (by simp [wts]; omega)
theorem Dg.Good.add {x : Dg} {v : Int} {u : Nat} (h : x.Good) (h1 : -9223372036854775808 ≤ v) (h2 : v ≤ 9223372036854775807) : (x.add v u).Good := by
  unfold Dg.add
  split
  · rename_i hr
    exact (Dg.come_good h hr h1 h2).full
  · exact h
def adds (d : Nat) (vs : List Int) (ns : List Nat) : Nat → Dg
  | 0 => Dg.new d
  | i + 1 => (adds d vs ns i).add (vs.getD i 0) (wt ns i)
structure Both (w W : World) (g r : Nat) (x y : Dg) : Prop where
  ex : ∃ C R, DIs W g C x ∧ RIs W r R y ∧ (∀ b, C b → ¬ R b) ∧ (∀ b, C b → w.heap.size ≤ b) ∧ ∀ b, R b → w.heap.size ≤ b
  fr : Fr S0 w W
section
variable {w W W' : World} {g r : Nat} {x y : Dg}
theorem RIs.below {C : Nat → Prop} (s : RIs W r C y) : ∀ b, C b → b < W.heap.size := let ⟨_, _, _, _, _, _, s⟩ := s; s.below
theorem DIs.below {C : Nat → Prop} (s : DIs W g C x) : ∀ b, C b → b < W.heap.size := let ⟨_, _, _, _, _, _, s⟩ := s; s.below
theorem Both.fr0 (k : Both w W g r x y) (f : Fr S0 W W') : Both w W' g r x y := let ⟨C, R, h1, h2, h3, h4, h5⟩ := k.ex; ⟨⟨C, R, h1.fr0 f, h2.fr0 f, h3, h4, h5⟩, k.fr.trans0 f⟩
theorem Both.nd (k : Both w W g r x y) : NewD w W g x := let ⟨C, _, h1, _, _, h4, _⟩ := k.ex; ⟨⟨C, h1, h4⟩, k.fr⟩
theorem Both.good (k : Both w W g r x y) : x.Good := k.nd.good
end
theorem fine_any (d : Nat) (w : World) (_ : d < 65536) : Calls Try.prog 14 #[.int .u16 (d : Nat)] w fun e w' => e = .returned (.int .i64 (fineD d : Nat)) ∧ w = w' := by
  obtain ⟨R, eR⟩ : ∃ R, d % 60 = R := ⟨_, rfl⟩
  have iR : (d : Int) % 60 = (R : Int) := by omega
  have bR : (R : Int) < 60 := by omega
  have e1 : fineD d = 10 + R := by rw [← eR]; rfl
  have i2 : 10 + (R : Int) = ((10 + R : Nat) : Int) := by omega
  rw [e1]
  obtain ⟨Y, eY⟩ : ∃ Y, 10 + R = Y := ⟨_, rfl⟩
  rw [eY] at i2 ⊢
  clear eR e1 eY
  go_enter Try.func14, Try.ntmps14
  go_wp2_with fail
  go_ret
  exact ⟨rfl, rfl⟩
section
variable (d : Nat) (p : Option Addr) (n c : Nat) (vs : List Int) (q : Option Addr) (k c2 : Nat) (ns : List Nat) (w : World)
end
end Go.Proofs.Yticagdppjknlaaa

namespace Go.Proofs.Yticagdppjknlaaa
open Go.RowKit
structure Ob (Is : World → Nat → (Nat → Prop) → Dg → Prop) : Prop where
  fr : ∀ {W W' g C M S}, Is W g C M → Fr S W W' → (∀ b, C b → ¬ S b) → Is W' g C M
  lt : ∀ {W g C M}, Is W g C M → ∀ b, C b → b < W.heap.size
  self : ∀ {W g C M}, Is W g C M → C g
theorem obD : Ob DIs where
  fr := fun h f ho => h.fr f ho
  lt := fun h => h.below
  self := fun ⟨_, _, _, _, _, _, s⟩ => s.self
theorem obR : Ob RIs where
  fr := fun h f ho => h.fr f ho
  lt := fun h => h.below
  self := fun ⟨_, _, _, _, _, _, s⟩ => s.self
def HTurn (Is : World → Nat → (Nat → Prop) → Dg → Prop) (W W' : World) (g : Nat) (C : Nat → Prop) (M' : Dg) : Prop := ∃ C', Is W' g C' M' ∧ Fr C W W' ∧ ∀ b, C' b → C b ∨ W.heap.size ≤ b
def Ho (Is : World → Nat → (Nat → Prop) → Dg → Prop) (own : Nat → Nat) (i : Nat) (w W : World) (g : Nat) (M : Dg) : Prop := ∃ C, Is W g C M ∧ ∀ b, C b → w.heap.size ≤ b ∧ own b = i
def dye (own : Nat → Nat) (j n : Nat) : Nat → Nat := fun y => if n ≤ y then j else own y
theorem dye_below (own : Nat → Nat) (j n y : Nat) (h : y < n) : dye own j n y = own y := if_neg (by omega)
theorem dye_above (own : Nat → Nat) (j n y : Nat) (h : n ≤ y) : dye own j n y = j := if_pos h
section
variable {Is Is2 : World → Nat → (Nat → Prop) → Dg → Prop} {own : Nat → Nat} {i j : Nat} {w W W' : World} {g g2 : Nat} {C : Nat → Prop} {M M' M2 : Dg}
theorem Ho.fr0 (o : Ob Is) (h : Ho Is own i w W g M) (f : Fr S0 W W') : Ho Is own i w W' g M := let ⟨C, h1, h2⟩ := h; ⟨C, o.fr h1 f (fun _ _ h => h), h2⟩
theorem Ho.turned (hC : ∀ b, C b → w.heap.size ≤ b ∧ own b = i) (hl : ∀ b, C b → b < W.heap.size) (f : Fr S0 w W) (t : HTurn Is W W' g C M') : Ho Is (dye own i W.heap.size) i w W' g M' := by
  obtain ⟨C', h1, h2, h3⟩ := t
  refine ⟨C', h1, fun b hb => ?_⟩
  rcases h3 b hb with h | h
  · exact ⟨(hC b h).1, by rw [dye_below _ _ _ _ (hl b h)]; exact (hC b h).2⟩
  · exact ⟨Nat.le_trans f.size h, dye_above _ _ _ _ h⟩
theorem Ho.keep (o : Ob Is2) (h : Ho Is2 own j w W g2 M2) (hC : ∀ b, C b → w.heap.size ≤ b ∧ own b = i) (hij : i ≠ j) (f : Fr C W W') : Ho Is2 (dye own i W.heap.size) j w W' g2 M2 := by
  obtain ⟨C2, h1, h2⟩ := h
  refine ⟨C2, o.fr h1 f fun b hb hc => hij ?_, fun b hb => ⟨(h2 b hb).1, by rw [dye_below _ _ _ _ (o.lt h1 b hb)]; exact (h2 b hb).2⟩⟩
  rw [← (hC b hc).2, (h2 b hb).2]
end
structure Qd (xo : Nat) (MO : Dg) (Is : World → Nat → (Nat → Prop) → Dg → Prop) (own : Nat → Nat) (iA iB : Nat) (w W : World) (gs gw a b xA xB rA rB : Nat) (MA MB NA NB : Dg) : Prop where
  ia : iA < 2
  ib : iB < 2
  ne : iA ≠ iB
  ab : a ≠ b
  hA : Ho Is own iA w W xA MA
  hB : Ho Is own iB w W xB MB
  kA : Ho RIs own (iA + 2) w W rA NA
  kB : Ho RIs own (iB + 2) w W rB NB
  os : own gs = 4
  ow : own gw = 5
  gs0 : w.heap.size ≤ gs
  gw0 : w.heap.size ≤ gw
  bs : ∃ sc, W.heap[gs]? = some (.cells sc 25 (0, 0)) ∧ sc[a]? = some (.pointer (some ⟨xA, 0, none⟩)) ∧ sc[b]? = some (.pointer (some ⟨xB, 0, none⟩))
  bw : ∃ sc, W.heap[gw]? = some (.cells sc 31 (0, 0)) ∧ sc[a]? = some (.pointer (some ⟨rA, 0, none⟩)) ∧ sc[b]? = some (.pointer (some ⟨rB, 0, none⟩))
  fr : Fr S0 w W
  hO : Ho Is own 6 w W xo MO
def Quad (xo : Nat) (MO : Dg) (Is : World → Nat → (Nat → Prop) → Dg → Prop) (w W : World) (gs gw a b xA xB rA rB : Nat) (MA MB NA NB : Dg) : Prop := ∃ own iA iB, Qd xo MO Is own iA iB w W gs gw a b xA xB rA rB MA MB NA NB
section
variable {xo : Nat} {MO : Dg} {Is : World → Nat → (Nat → Prop) → Dg → Prop} {w W W' : World} {gs gw a b xA xB rA rB : Nat} {MA MB NA NB : Dg}
theorem Quad.swap (q : Quad xo MO Is w W gs gw a b xA xB rA rB MA MB NA NB) : Quad xo MO Is w W gs gw b a xB xA rB rA MB MA NB NA :=
  let ⟨own, iA, iB, d⟩ := q
  ⟨own, iB, iA, d.ib, d.ia, d.ne.symm, d.ab.symm, d.hB, d.hA, d.kB, d.kA, d.os, d.ow, d.gs0, d.gw0, let ⟨sc, h1, h2, h3⟩ := d.bs; ⟨sc, h1, h3, h2⟩, let ⟨sc, h1, h2, h3⟩ := d.bw; ⟨sc, h1, h3, h2⟩, d.fr, d.hO⟩
theorem Quad.fr0 (o : Ob Is) (q : Quad xo MO Is w W gs gw a b xA xB rA rB MA MB NA NB) (f : Fr S0 W W') : Quad xo MO Is w W' gs gw a b xA xB rA rB MA MB NA NB :=
  let ⟨own, iA, iB, d⟩ := q
  ⟨own, iA, iB, d.ia, d.ib, d.ne, d.ab, d.hA.fr0 o f, d.hB.fr0 o f, d.kA.fr0 obR f, d.kB.fr0 obR f, d.os, d.ow, d.gs0, d.gw0, let ⟨sc, h1, h2, h3⟩ := d.bs; ⟨sc, f.row h1 (fun h => h), h2, h3⟩, let ⟨sc, h1, h2, h3⟩ := d.bw; ⟨sc, f.row h1 (fun h => h), h2, h3⟩, d.fr.trans0 f, d.hO.fr0 o f⟩
theorem Quad.fr (q : Quad xo MO Is w W gs gw a b xA xB rA rB MA MB NA NB) : Fr S0 w W := let ⟨_, _, _, d⟩ := q; d.fr
theorem Quad.cs (q : Quad xo MO Is w W gs gw a b xA xB rA rB MA MB NA NB) : W.cell? ⟨gs, a, none⟩ = some (.pointer (some ⟨xA, 0, none⟩)) := by
  obtain ⟨own, iA, iB, d⟩ := q
  obtain ⟨sc, h1, h2, -⟩ := d.bs
  simp [World.cell?, h1, h2]
theorem Quad.cw (q : Quad xo MO Is w W gs gw a b xA xB rA rB MA MB NA NB) : W.cell? ⟨gw, a, none⟩ = some (.pointer (some ⟨rA, 0, none⟩)) := by
  obtain ⟨own, iA, iB, d⟩ := q
  obtain ⟨sc, h1, h2, -⟩ := d.bw
  simp [World.cell?, h1, h2]
theorem Quad.other (q : Quad xo MO Is w W gs gw a b xA xB rA rB MA MB NA NB) : ∃ C, Is W xo C MO := let ⟨_, _, _, d⟩ := q; let ⟨C, h, _⟩ := d.hO; ⟨C, h⟩
theorem Qd.others {own : Nat → Nat} {iA iB : Nat} {C : Nat → Prop} {i : Nat} (d : Qd xo MO Is own iA iB w W gs gw a b xA xB rA rB MA MB NA NB) (hC : ∀ y, C y → w.heap.size ≤ y ∧ own y = i) (hi : i < 4) (f : Fr C W W') :
    dye own i W.heap.size gs = 4 ∧ dye own i W.heap.size gw = 5 ∧ (∃ sc, W'.heap[gs]? = some (.cells sc 25 (0, 0)) ∧ sc[a]? = some (.pointer (some ⟨xA, 0, none⟩)) ∧ sc[b]? = some (.pointer (some ⟨xB, 0, none⟩))) ∧
      (∃ sc, W'.heap[gw]? = some (.cells sc 31 (0, 0)) ∧ sc[a]? = some (.pointer (some ⟨rA, 0, none⟩)) ∧ sc[b]? = some (.pointer (some ⟨rB, 0, none⟩))) ∧ Fr S0 w W' := by
  obtain ⟨sc, h1, h2, h3⟩ := d.bs
  obtain ⟨sw, k1, k2, k3⟩ := d.bw
  have l1 := (Array.getElem?_eq_some_iff.1 h1).1
  have l2 := (Array.getElem?_eq_some_iff.1 k1).1
  refine ⟨by rw [dye_below _ _ _ _ l1]; exact d.os, by rw [dye_below _ _ _ _ l2]; exact d.ow, ⟨sc, f.row h1 fun h => ?_, h2, h3⟩, ⟨sw, f.row k1 fun h => ?_, k2, k3⟩, d.fr.trans f fun y hy hc => by have := (hC y hc).1; omega⟩
  · have := (hC gs h).2; rw [d.os] at this; omega
  · have := (hC gw h).2; rw [d.ow] at this; omega
theorem Quad.codeA (o : Ob Is) (q : Quad xo MO Is w W gs gw a b xA xB rA rB MA MB NA NB) :
    ∃ C CB, Is W xA C MA ∧ Is W xB CB MB ∧ (∀ y, C y → ¬ CB y) ∧ ∀ W' M', HTurn Is W W' xA C M' → Quad xo MO Is w W' gs gw a b xA xB rA rB M' MB NA NB := by
  obtain ⟨own, iA, iB, d⟩ := q
  obtain ⟨C, h1, h2⟩ := d.hA
  obtain ⟨CB, k1, k2⟩ := d.hB
  have hia := d.ia
  have hib := d.ib
  have hne := d.ne
  refine ⟨C, CB, h1, k1, fun y hy hz => hne ?_, fun W' M' t => ?_⟩
  · rw [← (h2 y hy).2, (k2 y hz).2]
  · obtain ⟨-, -, hf, -⟩ := id t
    obtain ⟨e1, e2, e3, e4, e5⟩ := d.others h2 (by omega) hf
    exact ⟨dye own iA W.heap.size, iA, iB, d.ia, d.ib, d.ne, d.ab, Ho.turned h2 (o.lt h1) d.fr t, d.hB.keep o h2 hne hf, d.kA.keep obR h2 (by omega) hf, d.kB.keep obR h2 (by omega) hf, e1, e2, d.gs0, d.gw0, e3, e4, e5, d.hO.keep o h2 (by omega) hf⟩
theorem Quad.refA (q : Quad xo MO Is w W gs gw a b xA xB rA rB MA MB NA NB) (o : Ob Is) :
    ∃ C CB, RIs W rA C NA ∧ RIs W rB CB NB ∧ (∀ y, C y → ¬ CB y) ∧ ∀ W' N', HTurn RIs W W' rA C N' → Quad xo MO Is w W' gs gw a b xA xB rA rB MA MB N' NB := by
  obtain ⟨own, iA, iB, d⟩ := q
  obtain ⟨C, h1, h2⟩ := d.kA
  obtain ⟨CB, k1, k2⟩ := d.kB
  have hia := d.ia
  have hib := d.ib
  have hne := d.ne
  refine ⟨C, CB, h1, k1, fun y hy hz => hne ?_, fun W' N' t => ?_⟩
  · have h3 := (h2 y hy).2
    have h4 := (k2 y hz).2
    omega
  · obtain ⟨-, -, hf, -⟩ := id t
    obtain ⟨e1, e2, e3, e4, e5⟩ := d.others h2 (by omega) hf
    exact ⟨dye own (iA + 2) W.heap.size, iA, iB, d.ia, d.ib, d.ne, d.ab, d.hA.keep o h2 (by omega) hf, d.hB.keep o h2 (by omega) hf, Ho.turned h2 (obR.lt h1) d.fr t, d.kB.keep obR h2 (by omega) hf, e1, e2, d.gs0, d.gw0, e3, e4, e5, d.hO.keep o h2 (by omega) hf⟩
end
end Go.Proofs.Yticagdppjknlaaa
