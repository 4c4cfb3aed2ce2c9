/- Rows of pairs; what Pairs does. -/
import Derived.Test.YtegdhggilaehdaaDnMath
import Derived.Test.YtegdhggilaehdaaBytes
import Derived.StillTailTactics
import Derived.BigRegion
namespace Go.Proofs.Ytegdhggilaehdaa
open Go.RowKit

theorem info_pr : (Try.prog.info? 58).map (fun i => (i.zero, i.size, i.bytes)) = some (some (.agg #[.int .i64 0, .int .u64 0]), 2, 16) := by kernel_rfl
theorem elPr : ElemOk Try.prog 22 58 (.agg #[.int .i64 0, .int .u64 0]) 2 16 := ⟨Try.underlying22, info_pr, rfl, by decide, by decide⟩
def prs (l : List Pr) : List Value := l.flatMap fun t => [.int .i64 t.1, .int .u64 (t.2 : Int)]
theorem prs_snoc (l : List Pr) (t : Pr) : prs (l ++ [t]) = prs l ++ [.int .i64 t.1, .int .u64 (t.2 : Int)] := by simp [prs]
theorem prs_len (l : List Pr) : (prs l).length = l.length * 2 := by
  induction l with
  | nil => rfl
  | cons t l ih => rw [show prs (t :: l) = [.int .i64 t.1, .int .u64 (t.2 : Int)] ++ prs l from rfl, List.length_append, ih, List.length_cons]; simp; omega
theorem prs_at : ∀ (l : List Pr) (i : Nat) (h : i < l.length), (prs l)[i * 2]? = some (.int .i64 l[i].1) ∧ (prs l)[i * 2 + 1]? = some (.int .u64 (l[i].2 : Int))
  | t :: l, 0, _ => by simp [prs]
  | t :: l, i + 1, h => by
    have := prs_at l i (by simpa using h)
    rw [show prs (t :: l) = [.int .i64 t.1, .int .u64 (t.2 : Int)] ++ prs l from rfl]
    rw [List.getElem?_append_right (by simp; omega), List.getElem?_append_right (by simp; omega)]
    simp only [List.length_cons, List.length_nil, List.getElem_cons_succ]
    rw [show (i + 1) * 2 - (0 + 1 + 1) = i * 2 by omega, show (i + 1) * 2 + 1 - (0 + 1 + 1) = i * 2 + 1 by omega]
    exact this
theorem one_pr (x : Int) (y : Nat) : ∀ u ∈ (#[Value.int .i64 x, Value.int .u64 (y : Int)]).toList, u.oneCell' = true := by
  intro u hu
  simp only [List.mem_cons, List.not_mem_nil, or_false] at hu
  rcases hu with rfl | rfl <;> rfl
/-- a slice of pairs that is read -/
structure PrI (w : World) (p : Option Addr) (l : List Pr) : Prop where
  len : l.length ≤ maxLen
  cel : l ≠ [] → ∃ b off, p = some ⟨b, off, none⟩ ∧ ∀ i, (h : i < l.length) → w.cell? ⟨b, off + i * 2, none⟩ = some (.int .i64 l[i].1) ∧ w.cell? ⟨b, off + i * 2 + 1, none⟩ = some (.int .u64 (l[i].2 : Nat))
theorem PrI.fr {S : Nat → Prop} {w w' : World} {p : Option Addr} {l : List Pr} (h : PrI w p l) (f : Fr S w w') (ho : Off S p) : PrI w' p l :=
  ⟨h.len, fun hl => let ⟨b, o, hp, hc⟩ := h.cel hl; ⟨b, o, hp, fun i hi => ⟨f.cell (hc i hi).1 (ho ⟨b, o, none⟩ hp), f.cell (hc i hi).2 (ho ⟨b, o, none⟩ hp)⟩⟩⟩
theorem PrI.fr0 {w w' : World} {p : Option Addr} {l : List Pr} (h : PrI w p l) (f : Fr S0 w w') : PrI w' p l := h.fr f (Off.s0 p)
theorem PrI.at {w : World} {p : Option Addr} {l : List Pr} (h : PrI w p l) (i : Nat) (hi : i < l.length) : ∃ b off, p = some ⟨b, off, none⟩ ∧ w.cell? ⟨b, off + i * 2, none⟩ = some (.int .i64 l[i].1) ∧ w.cell? ⟨b, off + i * 2 + 1, none⟩ = some (.int .u64 (l[i].2 : Nat)) :=
  let ⟨b, off, hp, hc⟩ := h.cel (by intro e; simp [e] at hi); ⟨b, off, hp, hc i hi⟩
theorem PrI.nil (w : World) (p : Option Addr) : PrI w p [] := ⟨by simp, fun h => absurd rfl h⟩
theorem PrI.lt {w : World} {p : Option Addr} {l : List Pr} (h : PrI w p l) (hl : l ≠ []) : ∀ a, p = some a → a.block < w.heap.size := by
  intro a ha
  obtain ⟨b, off, hp, hc⟩ := h.cel hl
  rw [hp] at ha
  obtain rfl := Option.some.inj ha
  exact World.block_lt_of_cell? w _ (hc 0 (List.length_pos_iff.2 hl)).1
theorem PrI.ofOwns {w : World} {q : Option Addr} {n d : Nat} {l : List Pr} (h : w.ownsRow 0 58 2 (.slice q n d) n (prs l)) (hm : n ≤ maxLen) : PrI w q l := by
  have hlen : l.length * 2 = n * 2 := by have h1 := h.1; rw [prs_len] at h1; exact h1
  refine ⟨by omega, fun hl => ?_⟩
  rcases h.2 with ⟨hv, hn⟩ | ⟨g, cap, cur, hv, _⟩
  · exact absurd (List.eq_nil_of_length_eq_zero (by omega)) hl
  · simp only [Value.slice.injEq] at hv
    obtain ⟨rfl, -, rfl⟩ := hv
    refine ⟨g, 0, rfl, fun i hi => ?_⟩
    obtain ⟨h1, h2⟩ := prs_at l i hi
    rw [Nat.zero_add]
    exact ⟨(h.cellAt _ (by omega)).trans h1, (h.cellAt _ (by omega)).trans h2⟩
theorem slFormN {w : World} {e : TypeId} {s : Nat} {v : Value} {n : Nat} {xs : List Value} (h : w.ownsRow 0 e s v n xs) : ∃ p c, v = .slice p n c := by
  rcases h.2 with ⟨h, h0⟩ | ⟨g, cap, cur, h, _⟩
  · exact ⟨none, 0, by rw [h, h0]⟩
  · exact ⟨_, _, h⟩

/-- a block of one cell, and a row of pairs that it holds -/
structure BoxPr (w : World) (x : Nat) (v : Value) (n : Nat) (l : List Pr) : Prop where
  blk : w.heap[x]? = some (.cells #[v] 22 (0, 0))
  own : w.ownsRow 0 58 2 v n (prs l)
  off : v.ownBlock ≠ some x
theorem BoxPr.c {w : World} {x : Nat} {v : Value} {n : Nat} {l : List Pr} (h : BoxPr w x v n l) : w.cell? ⟨x, 0, none⟩ = some v := by simp [World.cell?, h.blk]
theorem BoxPr.z {w : World} {x : Nat} {v : Value} {n : Nat} {l : List Pr} (h : BoxPr w x v n l) : w.frozen? ⟨x, 0, none⟩ = false := by simp [World.frozen?, h.blk]

/-- a row of pairs that is new to w -/
structure PrsNew (w w' : World) (p : Option Addr) (c n : Nat) (l : List Pr) : Prop where
  own : w'.ownsRow 0 58 2 (.slice p n c) n (prs l)
  len : l.length = n
  fresh : ∀ a, p = some a → w.heap.size ≤ a.block
  fr : Fr S0 w w'
theorem PrsNew.pri {w w' : World} {p : Option Addr} {c n : Nat} {l : List Pr} (h : PrsNew w w' p c n l) (hn : n ≤ 1000000) : PrI w' p l := PrI.ofOwns h.own (by unfold maxLen; omega)

theorem BoxPr.fr0 {w w' : World} {x : Nat} {v : Value} {n : Nat} {l : List Pr} (h : BoxPr w x v n l) (f : Fr S0 w w') : BoxPr w' x v n l := ⟨f.row h.blk (fun h => h), f.owns h.own fun _ _ h => h, h.off⟩
end Go.Proofs.Ytegdhggilaehdaa
