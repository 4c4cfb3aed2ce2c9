/- Lists of tokens that are read: two that are the same; how many are bytes. -/
import Derived.Test.YtfibhgohenkfbaaMatFind
namespace Go.Proofs.Ytfibhgohenkfbaa.M
open Go.RowKit Go.MapKept

/-- a slice of tokens that is read -/
def TkI (w : World) (q : Option Addr) (l : List Tk) : Prop :=
  l ≠ [] → ∃ g, q = some ⟨g, 0, none⟩ ∧ ∀ i, (h : i < l.length) → w.cell? ⟨g, i * 3, none⟩ = some (.int .u8 (l[i].1 : Nat)) ∧ w.cell? ⟨g, i * 3 + 1, none⟩ = some (.int .i64 (l[i].2.1 : Nat)) ∧ w.cell? ⟨g, i * 3 + 2, none⟩ = some (.int .i64 (l[i].2.2 : Nat))
theorem tkl_len (l : List Tk) : (tkl l).length = l.length * 3 := by
  induction l with
  | nil => rfl
  | cons t l ih => rw [show t :: l = [t] ++ l from rfl, tkl_append, List.length_append, ih, tkl_one, List.length_append]; simp [tkc]; omega
theorem tkl_at : ∀ (l : List Tk) (i : Nat) (h : i < l.length), (tkl l)[i * 3]? = some (.int .u8 (l[i].1 : Nat)) ∧ (tkl l)[i * 3 + 1]? = some (.int .i64 (l[i].2.1 : Nat)) ∧ (tkl l)[i * 3 + 2]? = some (.int .i64 (l[i].2.2 : Nat))
  | t :: l, 0, _ => by simp [tkl, tkc]
  | t :: l, i + 1, h => by
    have := tkl_at l i (by simpa using h)
    rw [show tkl (t :: l) = (tkc t).toList ++ tkl l from by rw [show t :: l = [t] ++ l from rfl, tkl_append, tkl_one]]
    have h3 : (tkc t).toList.length = 3 := rfl
    rw [List.getElem?_append_right (by omega), List.getElem?_append_right (by omega), List.getElem?_append_right (by omega), h3, show (i + 1) * 3 - 3 = i * 3 by omega, show (i + 1) * 3 + 1 - 3 = i * 3 + 1 by omega, show (i + 1) * 3 + 2 - 3 = i * 3 + 2 by omega]
    exact this
theorem TkI.ofOwns {w : World} {q : Option Addr} {n d : Nat} {l : List Tk} (h : w.ownsRow 0 45 3 (.slice q n d) n (tkl l)) : TkI w q l := by
  intro hl
  have hlen : l.length * 3 = n * 3 := by have h1 := h.1; rw [tkl_len] at h1; exact h1
  rcases h.2 with ⟨hv, hn⟩ | ⟨g, cap, cur, hv, _⟩
  · have : l.length = 0 := by omega
    exact absurd (List.eq_nil_of_length_eq_zero this) hl
  · simp only [Value.slice.injEq] at hv
    obtain ⟨rfl, -, rfl⟩ := hv
    refine ⟨g, rfl, fun i hi => ?_⟩
    obtain ⟨h1, h2, h3⟩ := tkl_at l i hi
    exact ⟨(h.cellAt _ (by omega)).trans h1, (h.cellAt _ (by omega)).trans h2, (h.cellAt _ (by omega)).trans h3⟩
theorem TkI.fr {S : Nat → Prop} {w w' : World} {q : Option Addr} {l : List Tk} (h : TkI w q l) (hf : Fr S w w') (ho : l ≠ [] → Off S q) : TkI w' q l := by
  intro hl
  obtain ⟨g, hq, hc⟩ := h hl
  have h0 : ¬ S g := ho hl ⟨g, 0, none⟩ hq
  exact ⟨g, hq, fun i hi => ⟨hf.cell (hc i hi).1 h0, hf.cell (hc i hi).2.1 h0, hf.cell (hc i hi).2.2 h0⟩⟩
theorem TkI.fr0 {w w' : World} {q : Option Addr} {l : List Tk} (h : TkI w q l) (hf : Fr S0 w w') : TkI w' q l := h.fr hf fun _ => Off.s0 _
theorem TkI.at {w : World} {q : Option Addr} {l : List Tk} (h : TkI w q l) (i : Nat) (hi : i < l.length) : ∃ g, q = some ⟨g, 0, none⟩ ∧ w.cell? ⟨g, i * 3, none⟩ = some (.int .u8 (l[i].1 : Nat)) ∧ w.cell? ⟨g, i * 3 + 1, none⟩ = some (.int .i64 (l[i].2.1 : Nat)) ∧ w.cell? ⟨g, i * 3 + 2, none⟩ = some (.int .i64 (l[i].2.2 : Nat)) := by
  obtain ⟨g, hq, hc⟩ := h (by intro e; simp [e] at hi)
  exact ⟨g, hq, hc i hi⟩

/-- how many are bytes, how many aren't, how many bytes these tell -/
def wgh (l : List Tk) : Nat × Nat × Nat := l.foldl (fun s t => if t.2.2 = 0 then (s.1 + 1, s.2.1, s.2.2) else (s.1, s.2.1 + 1, s.2.2 + t.2.1)) (0, 0, 0)
theorem wgh_next (l : List Tk) (j : Nat) (h : j < l.length) : wgh (l.take (j + 1)) = if l[j].2.2 = 0 then ((wgh (l.take j)).1 + 1, (wgh (l.take j)).2.1, (wgh (l.take j)).2.2) else ((wgh (l.take j)).1, (wgh (l.take j)).2.1 + 1, (wgh (l.take j)).2.2 + l[j].2.1) := by
  unfold wgh
  rw [List.take_succ_eq_append_getElem h, List.foldl_append]
  rfl
theorem wgh_le (l : List Tk) (h : ∀ t ∈ l, t.2.1 ≤ 258) (j : Nat) (hj : j ≤ l.length) : (wgh (l.take j)).1 ≤ j ∧ (wgh (l.take j)).2.1 ≤ j ∧ (wgh (l.take j)).2.2 ≤ 258 * j := by
  induction j with
  | zero => simp [wgh]
  | succ j ih =>
    have h1 := ih (by omega)
    have h2 := h _ (List.getElem_mem (show j < l.length by omega))
    rw [wgh_next l j (by omega)]
    split <;> (simp only; omega)

end Go.Proofs.Ytfibhgohenkfbaa.M
