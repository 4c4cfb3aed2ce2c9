/- Two stores and two lists beside them. -/
import Derived.Test.YtocdjklgfmkbfaaDnSame
import Derived.Test.YtocdjklgfmkbfaaDnLawOwn
import Derived.Test.YtocdjklgfmkbfaaDnTake2
import Derived.Test.YtocdjklgfmkbfaaDnDrop
import Derived.Test.YtocdjklgfmkbfaaDnRefTake
namespace Go.Proofs.Ytocdjklgfmkbfaa
open Go.RowKit

/-- store gA at place a of the row gs, its list at place a of the row gw; gB and b beside them -/
structure Pl (own : Nat → Nat) (iA iB : Nat) (w W : World) (gs gw a b gA gB hA hB : Nat) (pA : Option Addr) (nA cA : Nat) (pB : Option Addr) (nB cB : Nat) (sA sB rA rB : List Pr) : Prop where
  ia : iA < 2
  ib : iB < 2
  ne : iA ≠ iB
  stA : Cl own iA w W gA hA sA
  stB : Cl own iB w W gB hB sB
  lA : Ls own 2 W pA rA
  lB : Ls own 2 W pB rB
  eA : rA.length = nA
  eB : rB.length = nB
  os : own gs = 3
  ow : own gw = 4
  gs0 : w.heap.size ≤ gs
  gw0 : w.heap.size ≤ gw
  ab : a ≠ b
  bs : ∃ sc, W.heap[gs]? = some (.cells sc 24 (0, 0)) ∧ sc[a]? = some (.pointer (some ⟨gA, 0, none⟩)) ∧ sc[b]? = some (.pointer (some ⟨gB, 0, none⟩))
  bw : ∃ wc, W.heap[gw]? = some (.cells wc 39 (0, 0)) ∧ wc[a]? = some (.slice pA nA cA) ∧ wc[b]? = some (.slice pB nB cB)
  fr : Fr S0 w W
def Side (w W : World) (gs gw a b gA gB : Nat) (sA sB rA rB : List Pr) : Prop := ∃ own iA iB hA hB pA nA cA pB nB cB, Pl own iA iB w W gs gw a b gA gB hA hB pA nA cA pB nB cB sA sB rA rB

section
variable {own : Nat → Nat} {iA iB : Nat} {w W W' : World} {gs gw a b gA gB hA hB : Nat} {pA : Option Addr} {nA cA : Nat} {pB : Option Addr} {nB cB : Nat} {sA sB rA rB : List Pr}
theorem Pl.side (P : Pl own iA iB w W gs gw a b gA gB hA hB pA nA cA pB nB cB sA sB rA rB) : Side w W gs gw a b gA gB sA sB rA rB := ⟨_, _, _, _, _, _, _, _, _, _, _, P⟩
theorem Pl.swap (P : Pl own iA iB w W gs gw a b gA gB hA hB pA nA cA pB nB cB sA sB rA rB) : Pl own iB iA w W gs gw b a gB gA hB hA pB nB cB pA nA cA sB sA rB rA :=
  ⟨P.ib, P.ia, P.ne.symm, P.stB, P.stA, P.lB, P.lA, P.eB, P.eA, P.os, P.ow, P.gs0, P.gw0, P.ab.symm, let ⟨sc, h1, h2, h3⟩ := P.bs; ⟨sc, h1, h3, h2⟩, let ⟨wc, h1, h2, h3⟩ := P.bw; ⟨wc, h1, h3, h2⟩, P.fr⟩
theorem Side.swap (P : Side w W gs gw a b gA gB sA sB rA rB) : Side w W gs gw b a gB gA sB sA rB rA := let ⟨_, _, _, _, _, _, _, _, _, _, _, P⟩ := P; P.swap.side
theorem Pl.fr0 (P : Pl own iA iB w W gs gw a b gA gB hA hB pA nA cA pB nB cB sA sB rA rB) (f : Fr S0 W W') : Pl own iA iB w W' gs gw a b gA gB hA hB pA nA cA pB nB cB sA sB rA rB :=
  ⟨P.ia, P.ib, P.ne, P.stA.fr0 f, P.stB.fr0 f, P.lA.fr0 f, P.lB.fr0 f, P.eA, P.eB, P.os, P.ow, P.gs0, P.gw0, P.ab, let ⟨sc, h1, h2, h3⟩ := P.bs; ⟨sc, f.row h1 (fun h => h), h2, h3⟩, let ⟨wc, h1, h2, h3⟩ := P.bw; ⟨wc, f.row h1 (fun h => h), h2, h3⟩, P.fr.trans0 f⟩
theorem Side.fr0 (P : Side w W gs gw a b gA gB sA sB rA rB) (f : Fr S0 W W') : Side w W' gs gw a b gA gB sA sB rA rB := let ⟨_, _, _, _, _, _, _, _, _, _, _, P⟩ := P; (P.fr0 f).side
theorem Side.fr (P : Side w W gs gw a b gA gB sA sB rA rB) : Fr S0 w W := let ⟨_, _, _, _, _, _, _, _, _, _, _, P⟩ := P; P.fr
theorem Pl.csA (P : Pl own iA iB w W gs gw a b gA gB hA hB pA nA cA pB nB cB sA sB rA rB) : W.cell? ⟨gs, a, none⟩ = some (.pointer (some ⟨gA, 0, none⟩)) := by
  obtain ⟨sc, h1, h2, -⟩ := P.bs
  simp [World.cell?, h1, h2]
theorem Pl.cwA (P : Pl own iA iB w W gs gw a b gA gB hA hB pA nA cA pB nB cB sA sB rA rB) : W.cell? ⟨gw, a, none⟩ = some (.slice pA nA cA) := by
  obtain ⟨wc, h1, h2, -⟩ := P.bw
  simp [World.cell?, h1, h2]
theorem Pl.zwA (P : Pl own iA iB w W gs gw a b gA gB hA hB pA nA cA pB nB cB sA sB rA rB) (k : Nat) : W.frozen? ⟨gw, k, none⟩ = false := by
  obtain ⟨wc, h1, h2, -⟩ := P.bw
  simp [World.frozen?, h1]
theorem Pl.gsl (P : Pl own iA iB w W gs gw a b gA gB hA hB pA nA cA pB nB cB sA sB rA rB) : gs < W.heap.size := let ⟨_, h1, _⟩ := P.bs; (Array.getElem?_eq_some_iff.1 h1).1
theorem Pl.gwl (P : Pl own iA iB w W gs gw a b gA gB hA hB pA nA cA pB nB cB sA sB rA rB) : gw < W.heap.size := let ⟨_, h1, _⟩ := P.bw; (Array.getElem?_eq_some_iff.1 h1).1
/-- store A was turned -/
theorem Pl.turn {h' : Nat} {s' : List Pr} (P : Pl own iA iB w W gs gw a b gA gB hA hB pA nA cA pB nB cB sA sB rA rB) (t : Turned W W' gA hA h' s') :
    Pl (hue own iA hA h') iA iB w W' gs gw a b gA gB h' hB pA nA cA pB nB cB s' sB rA rB := by
  have h1 := P.ia
  have hs : ¬ (gs = gA ∨ gs = hA) := by
    rintro (e | e)
    · have := P.os; rw [e, P.stA.cg] at this; omega
    · have := P.os; rw [e, P.stA.ch] at this; omega
  have hw : ¬ (gw = gA ∨ gw = hA) := by
    rintro (e | e)
    · have := P.ow; rw [e, P.stA.cg] at this; omega
    · have := P.ow; rw [e, P.stA.ch] at this; omega
  exact ⟨P.ia, P.ib, P.ne, P.stA.turn t, P.stB.other P.stA t P.ne, P.lA.turn P.stA t (by omega), P.lB.turn P.stA t (by omega), P.eA, P.eB, by rw [hue_below t P.gsl]; exact P.os, by rw [hue_below t P.gwl]; exact P.ow, P.gs0, P.gw0, P.ab,
    let ⟨sc, h1, h2, h3⟩ := P.bs; ⟨sc, t.fr.row h1 hs, h2, h3⟩, let ⟨wc, h1, h2, h3⟩ := P.bw; ⟨wc, t.fr.row h1 hw, h2, h3⟩, P.stA.frame t P.fr⟩
/-- a list was answered -/
theorem Pl.dye (P : Pl own iA iB w W gs gw a b gA gB hA hB pA nA cA pB nB cB sA sB rA rB) (f : Fr S0 W W') :
    Pl (Go.Proofs.Ytocdjklgfmkbfaa.dye own 2 W.heap.size) iA iB w W' gs gw a b gA gB hA hB pA nA cA pB nB cB sA sB rA rB :=
  ⟨P.ia, P.ib, P.ne, P.stA.dye f, P.stB.dye f, P.lA.dye f, P.lB.dye f, P.eA, P.eB, by rw [dye_below _ _ _ _ P.gsl]; exact P.os, by rw [dye_below _ _ _ _ P.gwl]; exact P.ow, P.gs0, P.gw0, P.ab,
    let ⟨sc, h1, h2, h3⟩ := P.bs; ⟨sc, f.row h1 (fun h => h), h2, h3⟩, let ⟨wc, h1, h2, h3⟩ := P.bw; ⟨wc, f.row h1 (fun h => h), h2, h3⟩, P.fr.trans0 f⟩
/-- A's list is another one -/
theorem Pl.set {q : Option Addr} {n c : Nat} {r : List Pr} (P : Pl own iA iB w W gs gw a b gA gB hA hB pA nA cA pB nB cB sA sB rA rB) (l : Ls own 2 W q r) (hn : r.length = n) :
    Pl own iA iB w (W.setCell ⟨gw, a, none⟩ (.slice q n c)) gs gw a b gA gB hA hB q n c pB nB cB sA sB r rB := by
  have f : Fr (· = gw) W (W.setCell ⟨gw, a, none⟩ (.slice q n c)) := Fr.setCell (· = gw) _ _ _ rfl
  have hi1 := P.ia
  have hi2 := P.ib
  have o := P.ow
  have n1 : gA ≠ gw := by rintro rfl; rw [P.stA.cg] at o; omega
  have n2 : hA ≠ gw := by rintro rfl; rw [P.stA.ch] at o; omega
  have n3 : gB ≠ gw := by rintro rfl; rw [P.stB.cg] at o; omega
  have n4 : hB ≠ gw := by rintro rfl; rw [P.stB.ch] at o; omega
  have n5 : gs ≠ gw := by rintro rfl; have := P.os; omega
  have hls : ∀ (q' : Option Addr) (r' : List Pr), Ls own 2 W q' r' → Ls own 2 (W.setCell ⟨gw, a, none⟩ (.slice q n c)) q' r' := fun q' r' h =>
    ⟨h.pri.fr f fun x hx e => by
      have := (h.col x hx).1
      rw [e, o] at this
      omega, fun x hx => ⟨(h.col x hx).1, Nat.lt_of_lt_of_le (h.col x hx).2 f.size⟩⟩
  obtain ⟨wc, h1, h2, h3⟩ := P.bw
  exact ⟨P.ia, P.ib, P.ne, ⟨P.stA.is.fr f n1 n2, P.stA.g0, P.stA.h0, Nat.lt_of_lt_of_le P.stA.hl f.size, P.stA.cg, P.stA.ch⟩, ⟨P.stB.is.fr f n3 n4, P.stB.g0, P.stB.h0, Nat.lt_of_lt_of_le P.stB.hl f.size, P.stB.cg, P.stB.ch⟩,
    hls _ _ l, hls _ _ P.lB, hn, P.eB, P.os, P.ow, P.gs0, P.gw0, P.ab, let ⟨sc, k1, k2, k3⟩ := P.bs; ⟨sc, f.row k1 n5, k2, k3⟩,
    ⟨wc.set! a (.slice q n c), heap_setCell_same W gw a _ _ _ h1, by have := (Array.getElem?_eq_some_iff.1 h2).1; simp [this], by have := P.ab; simp [h3, this]⟩,
    P.fr.trans f fun j hj e => by have := P.gw0; omega⟩
end
end Go.Proofs.Ytocdjklgfmkbfaa
