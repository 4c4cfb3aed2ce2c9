/- Histograms of the code's and of the document's beside each other, apart by colours. -/
import Derived.Test.YthfcfmnaiopogaaGreatHrCode
namespace Go.Proofs.YthfcfmnaiopogaaGreat
open Go.RowKit

/-- block g is the document's histogram M, and its blocks are C -/
def IsR (W : World) (g : Nat) (C : Nat → Prop) (M : Hm) : Prop := ∃ p n c, RefIs W g p n c M ∧ (∀ a, p = some a → a.block < W.heap.size) ∧ ∀ b, C b ↔ b = g ∨ ∃ a, p = some a ∧ a.block = b
/-- what holds of both kinds -/
structure Ob (Is : World → Nat → (Nat → Prop) → Hm → Prop) : Prop where
  fr : ∀ {W W' g C M S}, Is W g C M → Fr S W W' → (∀ b, C b → ¬ S b) → Is W' g C M
  lt : ∀ {W g C M}, Is W g C M → ∀ b, C b → b < W.heap.size
  self : ∀ {W g C M}, Is W g C M → C g
theorem HdrReads.ob {Is : World → Nat → (Nat → Prop) → Hm → Prop} (h : HdrReads Is) : Ob Is := ⟨h.fr, h.lt, h.self⟩
theorem obR : Ob IsR where
  fr := fun {W W' g C M S} ⟨p, n, c, s, hl, hc⟩ f ho => ⟨p, n, c, ⟨f.row s.blk (ho g ((hc g).2 (.inl rfl))), s.pri.fr f (fun a ha => ho a.block ((hc a.block).2 (.inr ⟨a, ha, rfl⟩))), s.len, s.off, s.good⟩, fun a ha => Nat.lt_of_lt_of_le (hl a ha) f.size, hc⟩
  lt := fun {W g C M} ⟨p, n, c, s, hl, hc⟩ b hb => by
    rcases (hc b).1 hb with rfl | ⟨a, ha, rfl⟩
    · exact s.lt
    · exact hl a ha
  self := fun {W g C M} ⟨p, n, c, s, hl, hc⟩ => (hc g).2 (.inl rfl)
/-- histogram g, whose blocks were C, is M' now -/
def HTurn (Is : World → Nat → (Nat → Prop) → Hm → Prop) (W W' : World) (g : Nat) (C : Nat → Prop) (M' : Hm) : Prop := ∃ C', Is W' g C' M' ∧ Fr C W W' ∧ ∀ b, C' b → C b ∨ W.heap.size ≤ b
/-- histogram g is M, its blocks new to w and of colour i -/
def Ho (Is : World → Nat → (Nat → Prop) → Hm → Prop) (own : Nat → Nat) (i : Nat) (w W : World) (g : Nat) (M : Hm) : Prop := ∃ C, Is W g C M ∧ ∀ b, C b → w.heap.size ≤ b ∧ own b = i
def dye (own : Nat → Nat) (j n : Nat) : Nat → Nat := fun y => if n ≤ y then j else own y
theorem dye_below (own : Nat → Nat) (j n y : Nat) (h : y < n) : dye own j n y = own y := if_neg (by omega)
theorem dye_above (own : Nat → Nat) (j n y : Nat) (h : n ≤ y) : dye own j n y = j := if_pos h
section
variable {Is Is2 : World → Nat → (Nat → Prop) → Hm → Prop} {own : Nat → Nat} {i j : Nat} {w W W' : World} {g g2 : Nat} {C : Nat → Prop} {M M' M2 : Hm}
theorem Ho.fr0 (o : Ob Is) (h : Ho Is own i w W g M) (f : Fr S0 W W') : Ho Is own i w W' g M := let ⟨C, h1, h2⟩ := h; ⟨C, o.fr h1 f (fun _ _ h => h), h2⟩
theorem Ho.turned (hC : ∀ b, C b → w.heap.size ≤ b ∧ own b = i) (hl : ∀ b, C b → b < W.heap.size) (f : Fr S0 w W) (t : HTurn Is W W' g C M') : Ho Is (dye own i W.heap.size) i w W' g M' := by
  obtain ⟨C', h1, h2, h3⟩ := t
  refine ⟨C', h1, fun b hb => ?_⟩
  rcases h3 b hb with h | h
  · exact ⟨(hC b h).1, by rw [dye_below _ _ _ _ (hl b h)]; exact (hC b h).2⟩
  · exact ⟨Nat.le_trans f.size h, dye_above _ _ _ _ h⟩
theorem Ho.keep (o : Ob Is2) (h : Ho Is2 own j w W g2 M2) (hC : ∀ b, C b → w.heap.size ≤ b ∧ own b = i) (hij : i ≠ j) (f : Fr C W W') : Ho Is2 (dye own i W.heap.size) j w W' g2 M2 := by
  obtain ⟨C2, h1, h2⟩ := h
  refine ⟨C2, o.fr h1 f fun b hb hc => hij ?_, fun b hb => ⟨(h2 b hb).1, by rw [dye_below _ _ _ _ (o.lt h1 b hb)]; exact (h2 b hb).2⟩⟩
  rw [← (hC b hc).2, (h2 b hb).2]
theorem Ho.dyed (o : Ob Is) (h : Ho Is own i w W g M) (j : Nat) (f : Fr S0 W W') : Ho Is (dye own j W.heap.size) i w W' g M := by
  obtain ⟨C, h1, h2⟩ := h
  exact ⟨C, o.fr h1 f (fun _ _ h => h), fun b hb => ⟨(h2 b hb).1, by rw [dye_below _ _ _ _ (o.lt h1 b hb)]; exact (h2 b hb).2⟩⟩
end
theorem RTurn.ho {W W' : World} {g : Nat} {p p' : Option Addr} {n c n' c' : Nat} {M M' : Hm} (s : RefIs W g p n c M) (hl : ∀ a, p = some a → a.block < W.heap.size) {C : Nat → Prop} (hc : ∀ b, C b ↔ b = g ∨ ∃ a, p = some a ∧ a.block = b) (t : RTurn W W' g p p' n' c' M') : HTurn IsR W W' g C M' := by
  refine ⟨fun b => b = g ∨ ∃ a, p' = some a ∧ a.block = b, ⟨p', n', c', t.is, fun a ha => ?_, fun b => Iff.rfl⟩, t.fr.mono fun j _ h => (hc j).2 (.inl h), fun b hb => ?_⟩
  · rcases t.row with rfl | h
    · exact Nat.lt_of_lt_of_le (hl a ha) t.fr.size
    · exact (h a ha).2
  · rcases hb with rfl | ⟨a, ha, rfl⟩
    · exact .inl ((hc b).2 (.inl rfl))
    · rcases t.row with rfl | h
      · exact .inl ((hc _).2 (.inr ⟨a, ha, rfl⟩))
      · exact .inr (h a ha).1

/-- histograms xA and xB at places a and b of the row gs, the document's rA and rB at those of the row gw -/
structure Qd (Is : World → Nat → (Nat → Prop) → Hm → Prop) (own : Nat → Nat) (iA iB : Nat) (w W : World) (gs gw a b xA xB rA rB : Nat) (MA MB NA NB : Hm) : Prop where
  ia : iA < 2
  ib : iB < 2
  ne : iA ≠ iB
  ab : a ≠ b
  hA : Ho Is own iA w W xA MA
  hB : Ho Is own iB w W xB MB
  kA : Ho IsR own (iA + 2) w W rA NA
  kB : Ho IsR own (iB + 2) w W rB NB
  os : own gs = 4
  ow : own gw = 5
  gs0 : w.heap.size ≤ gs
  gw0 : w.heap.size ≤ gw
  bs : ∃ sc, W.heap[gs]? = some (.cells sc 37 (0, 0)) ∧ sc[a]? = some (.pointer (some ⟨xA, 0, none⟩)) ∧ sc[b]? = some (.pointer (some ⟨xB, 0, none⟩))
  bw : ∃ sc, W.heap[gw]? = some (.cells sc 38 (0, 0)) ∧ sc[a]? = some (.pointer (some ⟨rA, 0, none⟩)) ∧ sc[b]? = some (.pointer (some ⟨rB, 0, none⟩))
  fr : Fr S0 w W
def Quad (Is : World → Nat → (Nat → Prop) → Hm → Prop) (w W : World) (gs gw a b xA xB rA rB : Nat) (MA MB NA NB : Hm) : Prop := ∃ own iA iB, Qd Is own iA iB w W gs gw a b xA xB rA rB MA MB NA NB
section
variable {Is : World → Nat → (Nat → Prop) → Hm → Prop} {w W W' : World} {gs gw a b xA xB rA rB : Nat} {MA MB NA NB : Hm}
theorem Quad.swap (q : Quad Is w W gs gw a b xA xB rA rB MA MB NA NB) : Quad Is w W gs gw b a xB xA rB rA MB MA NB NA :=
  let ⟨own, iA, iB, d⟩ := q
  ⟨own, iB, iA, d.ib, d.ia, d.ne.symm, d.ab.symm, d.hB, d.hA, d.kB, d.kA, d.os, d.ow, d.gs0, d.gw0, let ⟨sc, h1, h2, h3⟩ := d.bs; ⟨sc, h1, h3, h2⟩, let ⟨sc, h1, h2, h3⟩ := d.bw; ⟨sc, h1, h3, h2⟩, d.fr⟩
theorem Quad.fr0 (o : Ob Is) (q : Quad Is w W gs gw a b xA xB rA rB MA MB NA NB) (f : Fr S0 W W') : Quad Is w W' gs gw a b xA xB rA rB MA MB NA NB :=
  let ⟨own, iA, iB, d⟩ := q
  ⟨own, iA, iB, d.ia, d.ib, d.ne, d.ab, d.hA.fr0 o f, d.hB.fr0 o f, d.kA.fr0 obR f, d.kB.fr0 obR f, d.os, d.ow, d.gs0, d.gw0, let ⟨sc, h1, h2, h3⟩ := d.bs; ⟨sc, f.row h1 (fun h => h), h2, h3⟩, let ⟨sc, h1, h2, h3⟩ := d.bw; ⟨sc, f.row h1 (fun h => h), h2, h3⟩, d.fr.trans0 f⟩
theorem Quad.fr (q : Quad Is w W gs gw a b xA xB rA rB MA MB NA NB) : Fr S0 w W := let ⟨_, _, _, d⟩ := q; d.fr
theorem Quad.cs (q : Quad Is w W gs gw a b xA xB rA rB MA MB NA NB) : W.cell? ⟨gs, a, none⟩ = some (.pointer (some ⟨xA, 0, none⟩)) := by
  obtain ⟨own, iA, iB, d⟩ := q
  obtain ⟨sc, h1, h2, -⟩ := d.bs
  simp [World.cell?, h1, h2]
theorem Quad.cw (q : Quad Is w W gs gw a b xA xB rA rB MA MB NA NB) : W.cell? ⟨gw, a, none⟩ = some (.pointer (some ⟨rA, 0, none⟩)) := by
  obtain ⟨own, iA, iB, d⟩ := q
  obtain ⟨sc, h1, h2, -⟩ := d.bw
  simp [World.cell?, h1, h2]
/-- a turn of blocks of colour i, new to w -/
theorem Qd.others {own : Nat → Nat} {iA iB : Nat} {C : Nat → Prop} {i : Nat} (d : Qd Is own iA iB w W gs gw a b xA xB rA rB MA MB NA NB) (hC : ∀ y, C y → w.heap.size ≤ y ∧ own y = i) (hi : i < 4) (f : Fr C W W') :
    dye own i W.heap.size gs = 4 ∧ dye own i W.heap.size gw = 5 ∧ (∃ sc, W'.heap[gs]? = some (.cells sc 37 (0, 0)) ∧ sc[a]? = some (.pointer (some ⟨xA, 0, none⟩)) ∧ sc[b]? = some (.pointer (some ⟨xB, 0, none⟩))) ∧
      (∃ sc, W'.heap[gw]? = some (.cells sc 38 (0, 0)) ∧ sc[a]? = some (.pointer (some ⟨rA, 0, none⟩)) ∧ sc[b]? = some (.pointer (some ⟨rB, 0, none⟩))) ∧ Fr S0 w W' := by
  obtain ⟨sc, h1, h2, h3⟩ := d.bs
  obtain ⟨sw, k1, k2, k3⟩ := d.bw
  have l1 := (Array.getElem?_eq_some_iff.1 h1).1
  have l2 := (Array.getElem?_eq_some_iff.1 k1).1
  refine ⟨by rw [dye_below _ _ _ _ l1]; exact d.os, by rw [dye_below _ _ _ _ l2]; exact d.ow, ⟨sc, f.row h1 fun h => ?_, h2, h3⟩, ⟨sw, f.row k1 fun h => ?_, k2, k3⟩, d.fr.trans f fun y hy hc => by have := (hC y hc).1; omega⟩
  · have := (hC gs h).2; rw [d.os] at this; omega
  · have := (hC gw h).2; rw [d.ow] at this; omega
/-- A of the code's may be turned -/
theorem Quad.codeA (o : Ob Is) (q : Quad Is w W gs gw a b xA xB rA rB MA MB NA NB) :
    ∃ C CB, Is W xA C MA ∧ Is W xB CB MB ∧ (∀ y, C y → ¬ CB y) ∧ ∀ W' M', HTurn Is W W' xA C M' → Quad Is w W' gs gw a b xA xB rA rB M' MB NA NB := by
  obtain ⟨own, iA, iB, d⟩ := q
  obtain ⟨C, h1, h2⟩ := d.hA
  obtain ⟨CB, k1, k2⟩ := d.hB
  have hia := d.ia
  have hib := d.ib
  have hne := d.ne
  refine ⟨C, CB, h1, k1, fun y hy hz => hne ?_, fun W' M' t => ?_⟩
  · rw [← (h2 y hy).2, (k2 y hz).2]
  · obtain ⟨-, -, hf, -⟩ := id t
    obtain ⟨e1, e2, e3, e4, e5⟩ := d.others h2 (by omega) hf
    exact ⟨dye own iA W.heap.size, iA, iB, d.ia, d.ib, d.ne, d.ab, Ho.turned h2 (o.lt h1) d.fr t, d.hB.keep o h2 hne hf, d.kA.keep obR h2 (by omega) hf, d.kB.keep obR h2 (by omega) hf, e1, e2, d.gs0, d.gw0, e3, e4, e5⟩
/-- A of the document's may be turned -/
theorem Quad.refA (o : Ob Is) (q : Quad Is w W gs gw a b xA xB rA rB MA MB NA NB) :
    ∃ p n c p2 n2 c2, RefIs W rA p n c NA ∧ RefIs W rB p2 n2 c2 NB ∧ rB ≠ rA ∧ (∀ y, p2 = some y → y.block ≠ rA) ∧ ∀ W' p' n' c' N', RTurn W W' rA p p' n' c' N' → Quad Is w W' gs gw a b xA xB rA rB MA MB N' NB := by
  obtain ⟨own, iA, iB, d⟩ := q
  obtain ⟨C, h1, h2⟩ := d.kA
  obtain ⟨CB, k1, k2⟩ := d.kB
  have hia := d.ia
  have hib := d.ib
  have hne := d.ne
  obtain ⟨p, n, c, s, hl, hc⟩ := id h1
  obtain ⟨p2, n2, c2, s2, hl2, hc2⟩ := id k1
  have sA := (h2 rA (obR.self h1)).2
  have sB := (k2 rB (obR.self k1)).2
  refine ⟨p, n, c, p2, n2, c2, s, s2, fun e => ?_, fun y hy e => ?_, fun W' p' n' c' N' t => ?_⟩
  · rw [e, sA] at sB; omega
  · have := (k2 y.block ((hc2 _).2 (.inr ⟨y, hy, rfl⟩))).2
    rw [e, sA] at this
    omega
  · have ht := t.ho s hl hc
    obtain ⟨-, -, hf, -⟩ := id ht
    obtain ⟨e1, e2, e3, e4, e5⟩ := d.others h2 (by omega) hf
    exact ⟨dye own (iA + 2) W.heap.size, iA, iB, d.ia, d.ib, d.ne, d.ab, d.hA.keep o h2 (by omega) hf, d.hB.keep o h2 (by omega) hf, Ho.turned h2 (obR.lt h1) d.fr ht, d.kB.keep obR h2 (by omega) hf, e1, e2, d.gs0, d.gw0, e3, e4, e5⟩
end
end Go.Proofs.YthfcfmnaiopogaaGreat
