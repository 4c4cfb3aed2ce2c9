/- Two stores and two of the document's lists beside them; how few keys they have. -/
import Derived.Test.YtibgjmlgjmnheaaClAlive
import Derived.Test.YtibgjmlgjmnheaaDnRefTake
namespace Go.Proofs.Ytibgjmlgjmnheaa
open Go.RowKit

/-- two lists that have few keys together -/
def Nar (k : Nat) (l m : List Pr) : Prop := ∃ u : List Pr, Srt u ∧ Pos u ∧ u.length ≤ k ∧ (∀ x ∈ l, ∃ y ∈ u, y.1 = x.1) ∧ ∀ x ∈ m, ∃ y ∈ u, y.1 = x.1
theorem Nar.nil : Nar 0 [] [] := ⟨[], srt_nil, pos_nil, Nat.le_refl _, (fun _ h => by cases h), fun _ h => by cases h⟩
theorem Nar.swap {k : Nat} {l m : List Pr} (h : Nar k l m) : Nar k m l := let ⟨u, h1, h2, h3, h4, h5⟩ := h; ⟨u, h1, h2, h3, h5, h4⟩
theorem Nar.len {k : Nat} {l m : List Pr} (h : Nar k l m) (hs : Srt l) : l.length ≤ k := let ⟨_, h1, _, h3, h4, _⟩ := h; Nat.le_trans (len_sub hs h1 h4) h3
theorem Nar.more {k : Nat} {l m : List Pr} (h : Nar k l m) : Nar (k + 1) l m := let ⟨u, h1, h2, h3, h4, h5⟩ := h; ⟨u, h1, h2, Nat.le_succ_of_le h3, h4, h5⟩
theorem put_keys {u : List Pr} (h : Srt u) (hp : Pos u) (k : Int) {x : Pr} (hx : x.1 = k ∨ ∃ y ∈ u, y.1 = x.1) : ∃ y ∈ lput u k 1, y.1 = x.1 := by
  refine cnt_in ?_
  rw [cnt_put k 1 x.1 h]
  rcases hx with e | ⟨y, hy, e⟩
  · rw [if_pos e]; omega
  · have := cnt_ne h hp hy
    rw [e] at this
    omega
theorem Nar.add {k : Nat} {l m : List Pr} (h : Nar k l m) (j : Int) (n : Nat) : Nar (k + 1) (addL0 l j n) m := by
  unfold addL0
  split
  · obtain ⟨u, h1, h2, h3, h4, h5⟩ := h
    refine ⟨lput u j 1, put_srt h1, put_pos h2 (by decide), ?_, fun x hx => put_keys h1 h2 j ?_, fun x hx => put_keys h1 h2 j (.inr (h5 x hx))⟩
    · rw [len_put j 1 h1 h2]; split <;> omega
    · rcases put_mem hx with e | hx
      · exact .inl e
      · exact .inr (h4 x hx)
  · exact h.more
theorem Nar.take {k : Nat} {l m q : List Pr} (h : Nar k l m) (hq : q = l ∨ q = m) : Nar (k + 1) (takeL0 l q) m := by
  unfold takeL0
  split
  · obtain ⟨u, h1, h2, h3, h4, h5⟩ := h
    refine ⟨u, h1, h2, Nat.le_succ_of_le h3, fun x hx => ?_, h5⟩
    rcases putAll_mem _ _ _ hx with ⟨y, hy, e⟩ | hx
    · rw [← e]
      rcases hq with rfl | rfl
      · exact h4 y hy
      · exact h5 y hy
    · exact h4 x hx
  · exact h.more
/-- store gA at place a of the row gs, its list at place a of the row gw; gB and b beside them -/
structure Pl (B gO hO : Nat) (own : Nat → Nat) (iA iB : Nat) (w W : World) (gs gw a b gA gB hA hB : Nat) (pA : Option Addr) (nA cA : Nat) (pB : Option Addr) (nB cB : Nat) (sA sB rA rB : List Pr) : Prop where
  ia : iA < 2
  ib : iB < 2
  ne : iA ≠ iB
  stA : Cl own iA w W gA hA B sA
  stB : Cl own iB w W gB hB B sB
  stO : Cl own 5 w W gO hO (B + 1) []
  lA : Ls own 2 W pA rA
  lB : Ls own 2 W pB rB
  eA : rA.length = nA
  eB : rB.length = nB
  os : own gs = 3
  ow : own gw = 4
  gs0 : w.heap.size ≤ gs
  gw0 : w.heap.size ≤ gw
  ab : a ≠ b
  bs : ∃ sc, W.heap[gs]? = some (.cells sc 25 (0, 0)) ∧ sc[a]? = some (.pointer (some ⟨gA, 0, none⟩)) ∧ sc[b]? = some (.pointer (some ⟨gB, 0, none⟩))
  bw : ∃ wc, W.heap[gw]? = some (.cells wc 36 (0, 0)) ∧ wc[a]? = some (.slice pA nA cA) ∧ wc[b]? = some (.slice pB nB cB)
  fr : Fr S0 w W
def Side (B gO : Nat) (w W : World) (gs gw a b gA gB : Nat) (sA sB rA rB : List Pr) : Prop := ∃ hO own iA iB hA hB pA nA cA pB nB cB, Pl B gO hO own iA iB w W gs gw a b gA gB hA hB pA nA cA pB nB cB sA sB rA rB

section
variable {B gO hO : Nat} {own : Nat → Nat} {iA iB : Nat} {w W W' : World} {gs gw a b gA gB hA hB : Nat} {pA : Option Addr} {nA cA : Nat} {pB : Option Addr} {nB cB : Nat} {sA sB rA rB : List Pr}
theorem Pl.side (P : Pl B gO hO own iA iB w W gs gw a b gA gB hA hB pA nA cA pB nB cB sA sB rA rB) : Side B gO w W gs gw a b gA gB sA sB rA rB := ⟨_, _, _, _, _, _, _, _, _, _, _, _, P⟩
theorem Pl.swap (P : Pl B gO hO own iA iB w W gs gw a b gA gB hA hB pA nA cA pB nB cB sA sB rA rB) : Pl B gO hO own iB iA w W gs gw b a gB gA hB hA pB nB cB pA nA cA sB sA rB rA :=
  ⟨P.ib, P.ia, P.ne.symm, P.stB, P.stA, P.stO, P.lB, P.lA, P.eB, P.eA, P.os, P.ow, P.gs0, P.gw0, P.ab.symm, let ⟨sc, h1, h2, h3⟩ := P.bs; ⟨sc, h1, h3, h2⟩, let ⟨wc, h1, h2, h3⟩ := P.bw; ⟨wc, h1, h3, h2⟩, P.fr⟩
theorem Side.swap (P : Side B gO w W gs gw a b gA gB sA sB rA rB) : Side B gO w W gs gw b a gB gA sB sA rB rA := let ⟨_, _, _, _, _, _, _, _, _, _, _, _, P⟩ := P; P.swap.side
theorem Pl.fr0 (P : Pl B gO hO own iA iB w W gs gw a b gA gB hA hB pA nA cA pB nB cB sA sB rA rB) (f : Fr S0 W W') : Pl B gO hO own iA iB w W' gs gw a b gA gB hA hB pA nA cA pB nB cB sA sB rA rB :=
  ⟨P.ia, P.ib, P.ne, P.stA.fr0 f, P.stB.fr0 f, P.stO.fr0 f, P.lA.fr0 f, P.lB.fr0 f, P.eA, P.eB, P.os, P.ow, P.gs0, P.gw0, P.ab, let ⟨sc, h1, h2, h3⟩ := P.bs; ⟨sc, f.row h1 (fun h => h), h2, h3⟩, let ⟨wc, h1, h2, h3⟩ := P.bw; ⟨wc, f.row h1 (fun h => h), h2, h3⟩, P.fr.trans0 f⟩
theorem Side.fr0 (P : Side B gO w W gs gw a b gA gB sA sB rA rB) (f : Fr S0 W W') : Side B gO w W' gs gw a b gA gB sA sB rA rB := let ⟨_, _, _, _, _, _, _, _, _, _, _, _, P⟩ := P; (P.fr0 f).side
theorem Side.fr (P : Side B gO w W gs gw a b gA gB sA sB rA rB) : Fr S0 w W := let ⟨_, _, _, _, _, _, _, _, _, _, _, _, P⟩ := P; P.fr
theorem Pl.csA (P : Pl B gO hO own iA iB w W gs gw a b gA gB hA hB pA nA cA pB nB cB sA sB rA rB) : W.cell? ⟨gs, a, none⟩ = some (.pointer (some ⟨gA, 0, none⟩)) := by
  obtain ⟨sc, h1, h2, -⟩ := P.bs
  simp [World.cell?, h1, h2]
theorem Pl.cwA (P : Pl B gO hO own iA iB w W gs gw a b gA gB hA hB pA nA cA pB nB cB sA sB rA rB) : W.cell? ⟨gw, a, none⟩ = some (.slice pA nA cA) := by
  obtain ⟨wc, h1, h2, -⟩ := P.bw
  simp [World.cell?, h1, h2]
theorem Pl.zwA (P : Pl B gO hO own iA iB w W gs gw a b gA gB hA hB pA nA cA pB nB cB sA sB rA rB) (k : Nat) : W.frozen? ⟨gw, k, none⟩ = false := by
  obtain ⟨wc, h1, h2, -⟩ := P.bw
  simp [World.frozen?, h1]
theorem Pl.gsl (P : Pl B gO hO own iA iB w W gs gw a b gA gB hA hB pA nA cA pB nB cB sA sB rA rB) : gs < W.heap.size := let ⟨_, h1, _⟩ := P.bs; (Array.getElem?_eq_some_iff.1 h1).1
theorem Pl.gwl (P : Pl B gO hO own iA iB w W gs gw a b gA gB hA hB pA nA cA pB nB cB sA sB rA rB) : gw < W.heap.size := let ⟨_, h1, _⟩ := P.bw; (Array.getElem?_eq_some_iff.1 h1).1
/-- store A was turned -/
theorem Pl.turn {h' : Nat} {s' : List Pr} (P : Pl B gO hO own iA iB w W gs gw a b gA gB hA hB pA nA cA pB nB cB sA sB rA rB) (t : TurnC W W' gA hA h' B s') :
    Pl B gO hO (hue own iA hA h') iA iB w W' gs gw a b gA gB h' hB pA nA cA pB nB cB s' sB rA rB := by
  have h1 := P.ia
  have hs : ¬ (gs = gA ∨ gs = hA) := by
    rintro (e | e)
    · have := P.os; rw [e, P.stA.cg] at this; omega
    · have := P.os; rw [e, P.stA.ch] at this; omega
  have hw : ¬ (gw = gA ∨ gw = hA) := by
    rintro (e | e)
    · have := P.ow; rw [e, P.stA.cg] at this; omega
    · have := P.ow; rw [e, P.stA.ch] at this; omega
  exact ⟨P.ia, P.ib, P.ne, P.stA.turn t, P.stB.other P.stA t P.ne, P.stO.other P.stA t (by omega), P.lA.turn P.stA t (by omega), P.lB.turn P.stA t (by omega), P.eA, P.eB, by rw [hue_below t P.gsl]; exact P.os, by rw [hue_below t P.gwl]; exact P.ow, P.gs0, P.gw0, P.ab,
    let ⟨sc, h1, h2, h3⟩ := P.bs; ⟨sc, t.fr.row h1 hs, h2, h3⟩, let ⟨wc, h1, h2, h3⟩ := P.bw; ⟨wc, t.fr.row h1 hw, h2, h3⟩, P.stA.frame t P.fr⟩
/-- a list was answered -/
theorem Pl.dye (P : Pl B gO hO own iA iB w W gs gw a b gA gB hA hB pA nA cA pB nB cB sA sB rA rB) (f : Fr S0 W W') :
    Pl B gO hO (Go.Proofs.Ytibgjmlgjmnheaa.dye own 2 W.heap.size) iA iB w W' gs gw a b gA gB hA hB pA nA cA pB nB cB sA sB rA rB :=
  ⟨P.ia, P.ib, P.ne, P.stA.dye f, P.stB.dye f, P.stO.dye f, P.lA.dye f, P.lB.dye f, P.eA, P.eB, by rw [dye_below _ _ _ _ P.gsl]; exact P.os, by rw [dye_below _ _ _ _ P.gwl]; exact P.ow, P.gs0, P.gw0, P.ab,
    let ⟨sc, h1, h2, h3⟩ := P.bs; ⟨sc, f.row h1 (fun h => h), h2, h3⟩, let ⟨wc, h1, h2, h3⟩ := P.bw; ⟨wc, f.row h1 (fun h => h), h2, h3⟩, P.fr.trans0 f⟩
/-- A's list is another one -/
theorem Pl.set {q : Option Addr} {n c : Nat} {r : List Pr} (P : Pl B gO hO own iA iB w W gs gw a b gA gB hA hB pA nA cA pB nB cB sA sB rA rB) (l : Ls own 2 W q r) (hn : r.length = n) :
    Pl B gO hO own iA iB w (W.setCell ⟨gw, a, none⟩ (.slice q n c)) gs gw a b gA gB hA hB q n c pB nB cB sA sB r rB := by
  have f : Fr (· = gw) W (W.setCell ⟨gw, a, none⟩ (.slice q n c)) := Fr.setCell (· = gw) _ _ _ rfl
  have hi1 := P.ia
  have hi2 := P.ib
  have o := P.ow
  have n1 : gA ≠ gw := by rintro rfl; rw [P.stA.cg] at o; omega
  have n2 : hA ≠ gw := by rintro rfl; rw [P.stA.ch] at o; omega
  have n3 : gB ≠ gw := by rintro rfl; rw [P.stB.cg] at o; omega
  have n4 : hB ≠ gw := by rintro rfl; rw [P.stB.ch] at o; omega
  have n6 : gO ≠ gw := by rintro rfl; rw [P.stO.cg] at o; omega
  have n7 : hO ≠ gw := by rintro rfl; rw [P.stO.ch] at o; omega
  have n5 : gs ≠ gw := by rintro rfl; have := P.os; omega
  have hls : ∀ (q' : Option Addr) (r' : List Pr), Ls own 2 W q' r' → Ls own 2 (W.setCell ⟨gw, a, none⟩ (.slice q n c)) q' r' := fun q' r' h =>
    ⟨h.pri.fr f fun x hx e => by
      have := (h.col x hx).1
      rw [e, o] at this
      omega, fun x hx => ⟨(h.col x hx).1, Nat.lt_of_lt_of_le (h.col x hx).2 f.size⟩⟩
  obtain ⟨wc, h1, h2, h3⟩ := P.bw
  exact ⟨P.ia, P.ib, P.ne, ⟨P.stA.is.fr f n1 n2, P.stA.g0, P.stA.h0, Nat.lt_of_lt_of_le P.stA.hl f.size, P.stA.cg, P.stA.ch⟩, ⟨P.stB.is.fr f n3 n4, P.stB.g0, P.stB.h0, Nat.lt_of_lt_of_le P.stB.hl f.size, P.stB.cg, P.stB.ch⟩, ⟨P.stO.is.fr f n6 n7, P.stO.g0, P.stO.h0, Nat.lt_of_lt_of_le P.stO.hl f.size, P.stO.cg, P.stO.ch⟩,
    hls _ _ l, hls _ _ P.lB, hn, P.eB, P.os, P.ow, P.gs0, P.gw0, P.ab, let ⟨sc, k1, k2, k3⟩ := P.bs; ⟨sc, f.row k1 n5, k2, k3⟩,
    ⟨wc.set! a (.slice q n c), heap_setCell_same W gw a _ _ _ h1, by have := (Array.getElem?_eq_some_iff.1 h2).1; simp [this], by have := P.ab; simp [h3, this]⟩,
    P.fr.trans f fun j hj e => by have := P.gw0; omega⟩
end
theorem info_prs : (Try.prog.info? 36).map (fun i => (i.zero, i.size, i.bytes)) = some (some (.slice none 0 0), 1, 24) := by kernel_rfl
theorem make_two (w : World) : (Instr.makeSlice 31 (.int .i64 2) (.int .i64 2)).run Try.prog w = .ok (.slice (some ⟨w.heap.size, 0, none⟩) 2 2) (w.alloc (.cells #[.slice none 0 0, .slice none 0 0] 36)) := by
  obtain ⟨i, hi, hz, hs, hb⟩ := info_parts info_prs
  have := run_make w 31 36 i _ Try.underlying31 hi hz .i64 .i64 2 2 (by omega) (by omega) (by rw [hb]; omega) (by omega)
  have e2 : Int.toNat 2 = 2 := by decide
  have e3 : madeCells (Value.slice none 0 0).cells (2 * 1) = #[.slice none 0 0, .slice none 0 0] := by
    apply Array.toList_inj.1
    rw [show (Value.slice none 0 0).cells = #[.slice none 0 0] from rfl, toList_madeCells_one]
    rfl
  rw [this, hs, e2, e3]
theorem Pl.new {B gO g1 g2 : Nat} {w w2 w3 w4 w1 : World} (f : Fr S0 w w2) (s1 : NewC w2 w3 g1 g1 B []) (s2 : NewC w3 w4 g2 g2 B []) (s3 : NewC w4 w1 gO gO (B + 1) []) : Side B gO w ((w1.alloc (.cells #[.pointer (some ⟨g1, 0, none⟩), .pointer (some ⟨g2, 0, none⟩)] 25)).alloc (.cells #[.slice none 0 0, .slice none 0 0] 36))
    w1.heap.size (w1.heap.size + 1) 0 1 g1 g2 [] [] [] [] := by
  have z2 := f.size
  have z3 := s1.fr.size
  have z4 := s2.fr.size
  have z1 := s3.fr.size
  have a1 := s1.g0
  have a2 := s2.g0
  have a3 := s3.g0
  have b1 := s1.hl
  have b2 := s2.hl
  have b3 := s3.hl
  have e3 := heap_alloc_new w1 (.cells #[.pointer (some ⟨g1, 0, none⟩), .pointer (some ⟨g2, 0, none⟩)] 25)
  generalize hW3 : w1.alloc (.cells #[.pointer (some ⟨g1, 0, none⟩), .pointer (some ⟨g2, 0, none⟩)] 25) = W3 at e3
  have z5 : W3.heap.size = w1.heap.size + 1 := by rw [← hW3, size_alloc]
  have f3 : Fr S0 w1 W3 := by rw [← hW3]; exact Fr.alloc _ _ _
  have e4 := heap_alloc_new W3 (.cells #[.slice none 0 0, .slice none 0 0] 36)
  generalize hW4 : W3.alloc (.cells #[.slice none 0 0, .slice none 0 0] 36) = W4 at e4
  have z6 : W4.heap.size = W3.heap.size + 1 := by rw [← hW4, size_alloc]
  have f4 : Fr S0 W3 W4 := by rw [← hW4]; exact Fr.alloc _ _ _
  have f5 := f3.trans0 f4
  have k3 := f4.row e3 (fun h => h)
  rw [z5] at e4
  refine ⟨gO, fun y => if y < g2 then 0 else if y < gO then 1 else if y < w1.heap.size then 5 else if y = w1.heap.size then 3 else 4, 0, 1, g1, g2, none, 0, 0, none, 0, 0,
    by decide, by decide, by decide, ⟨((s1.is.fr0 s2.fr).fr0 s3.fr).fr0 f5, by omega, by omega, by omega, if_pos (by omega), if_pos (by omega)⟩, ⟨(s2.is.fr0 s3.fr).fr0 f5, by omega, by omega, by omega, ?_, ?_⟩, ⟨s3.is.fr0 f5, by omega, by omega, by omega, ?_, ?_⟩, ⟨PrI.nil _ _, fun _ h => by cases h⟩, ⟨PrI.nil _ _, fun _ h => by cases h⟩, rfl, rfl, ?_, ?_, by omega, by omega, by decide, ⟨_, k3, rfl, rfl⟩, ⟨_, e4, rfl, rfl⟩, (((f.trans0 s1.fr).trans0 s2.fr).trans0 s3.fr).trans0 f5⟩
  · exact (if_neg (by omega)).trans (if_pos (by omega))
  · exact (if_neg (by omega)).trans (if_pos (by omega))
  · exact (if_neg (by omega)).trans ((if_neg (by omega)).trans (if_pos (by omega)))
  · exact (if_neg (by omega)).trans ((if_neg (by omega)).trans (if_pos (by omega)))
  · exact (if_neg (by omega)).trans ((if_neg (by omega)).trans ((if_neg (by omega)).trans (if_pos rfl)))
  · exact (if_neg (by omega)).trans ((if_neg (by omega)).trans ((if_neg (by omega)).trans (if_neg (by omega))))

/-- what is done: kind, whom, key, count -/
abbrev It := Nat × Bool × Int × Nat
/-- a slice of these that is read -/
structure OpI (w : World) (p : Option Addr) (l : List It) : Prop where
  len : l.length ≤ maxLen
  cel : l ≠ [] → ∃ b off, p = some ⟨b, off, none⟩ ∧ ∀ i, (h : i < l.length) → w.cell? ⟨b, off + i * 4, none⟩ = some (.int .u8 (l[i].1 : Nat)) ∧ w.cell? ⟨b, off + i * 4 + 1, none⟩ = some (.bool l[i].2.1) ∧
    w.cell? ⟨b, off + i * 4 + 2, none⟩ = some (.int .i64 l[i].2.2.1) ∧ w.cell? ⟨b, off + i * 4 + 3, none⟩ = some (.int .u64 (l[i].2.2.2 : Nat))
theorem OpI.at {w : World} {p : Option Addr} {l : List It} (h : OpI w p l) (i : Nat) (hi : i < l.length) : ∃ b off, p = some ⟨b, off, none⟩ ∧ ∀ W, Fr S0 w W → W.cell? ⟨b, off + i * 4, none⟩ = some (.int .u8 (l[i].1 : Nat)) ∧ W.cell? ⟨b, off + i * 4 + 1, none⟩ = some (.bool l[i].2.1) ∧
    W.cell? ⟨b, off + i * 4 + 2, none⟩ = some (.int .i64 l[i].2.2.1) ∧ W.cell? ⟨b, off + i * 4 + 3, none⟩ = some (.int .u64 (l[i].2.2.2 : Nat)) :=
  let ⟨b, off, hp, hc⟩ := h.cel (by intro e; simp [e] at hi); ⟨b, off, hp, fun _ f => ⟨f.cell (hc i hi).1 (fun h => h), f.cell (hc i hi).2.1 (fun h => h), f.cell (hc i hi).2.2.1 (fun h => h), f.cell (hc i hi).2.2.2 (fun h => h)⟩⟩

end Go.Proofs.Ytibgjmlgjmnheaa

