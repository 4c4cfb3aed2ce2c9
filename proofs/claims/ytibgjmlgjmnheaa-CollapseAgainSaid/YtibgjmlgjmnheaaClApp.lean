/- Pairs that came in are appended to a row that is being made; stores of many colours. -/
import Derived.Test.YtibgjmlgjmnheaaClCounted
import Derived.Laws.OwnMore
import Derived.Maps.AppendAt
namespace Go.Proofs.Ytibgjmlgjmnheaa
open Go.RowKit

theorem app_acc {ops : Array Oper} {rest : List Oper} {o : Oper} {a : Act} {Q : Exit → Act → World → Prop} {w W : World} (s x : Operand) {v : Value} {N : Nat} {L : List Pr} (acc : Acc w W v N L)
    {p : Option Addr} {m c : Nat} {l : List Pr} (hp : PrI W p l) (hl : l.length = m) (hc : p = none → c = 0) {M : Nat} (hM : N + m = M) (hM2 : M ≤ 1000000)
    (hgd : o.guard = none) (ho : o.op = .call { callee := .builtin .append, args := #[s, x], argTypes := #[36, 36] }) (hs : a.eval s = v) (hx : a.eval x = .slice p m c)
    (h : ∀ q d w', Acc w w' (.slice q M d) M (L ++ l) → wpList Try.prog ops Q rest (a.put o.dst (.slice q M d)) w') : wpList Try.prog ops Q (o :: rest) a W := by
  subst hM
  obtain ⟨i, hi, hz, hsz, hb⟩ := info_parts info_pr
  refine wpList_plain hgd fun K hK => ?_
  unfold Oper.wp
  cases p with
  | none =>
    have hl0 : l = [] := by
      by_cases hl : l = []
      · exact hl
      · obtain ⟨b, off, hp, _⟩ := hp.cel hl
        cases hp
    subst hl0
    obtain rfl := hc rfl
    obtain rfl : 0 = m := hl
    have hrun := run_append_owned_none (P := Try.prog) (w := W) 0 36 o.type 53 i 2 Try.underlying36 hi v N (prs L) acc.own
    obtain ⟨q, d, rfl⟩ := slFormN acc.own
    simp only [execOp, ho, resolve, invoke, builtin, Sem.run_bind, Sem.run_pure, Result.andThen_ok, List.map_toArray, List.map_cons, List.map_nil, hs, hx, hrun]
    exact hK _ _ (h q d W (by rw [List.append_nil]; exact acc))
  | some ad =>
    have hcell : ∀ j u, (prs l)[j]? = some u → W.cell? (ad.add j) = some u := fun j u hu => by
      have hne : l ≠ [] := by rintro rfl; simp [prs] at hu
      obtain ⟨b, off, hpe, -⟩ := hp.cel hne
      obtain rfl := Option.some.inj hpe
      exact hp.cells j u hu
    obtain ⟨v', w', hrun, h2, h3, -, h5⟩ := run_append_own_at (P := Try.prog) W 0 36 o.type 53 i _ 2 16 Try.underlying36 hi hz hsz hb rfl (by decide) v N (prs L) acc.own ad m c (prs l) (by rw [prs_len, hl]) hcell (prs_one l) (by unfold maxLen; omega) (by omega) (Nat.zero_le _)
    rw [← prs_app] at h2
    obtain ⟨q, d, rfl⟩ := slFormN h2
    simp only [execOp, ho, resolve, invoke, builtin, Sem.run_bind, Sem.run_pure, Result.andThen_ok, List.map_toArray, List.map_cons, List.map_nil, hs, hx, hrun]
    exact hK _ _ (h q d w' ⟨h2, fresh_many acc.fresh acc.fr.size h5, acc.fr.append h3 acc.fresh⟩)

/-- stores of colours 0, 1, .. -/
structure Cls (own : Nat → Nat) (w W : World) (b : Nat) (l : List (Nat × Nat × List Pr)) : Prop where
  all : ∀ i g h a, l[i]? = some (g, h, a) → Cl own i w W g h b a
  fr : Fr S0 w W
theorem Cls.fr0 {own : Nat → Nat} {w W W' : World} {b : Nat} {l : List (Nat × Nat × List Pr)} (c : Cls own w W b l) (f : Fr S0 W W') : Cls own w W' b l := ⟨fun i g h a e => (c.all i g h a e).fr0 f, c.fr.trans0 f⟩
theorem Cls.none (own : Nat → Nat) {w W : World} (b : Nat) (f : Fr S0 w W) : Cls own w W b [] := ⟨fun i g h a e => by simp at e, f⟩
theorem Cls.more {own : Nat → Nat} {w W W' : World} {b n g h : Nat} {q : Option Addr} {a : List Pr} {l : List (Nat × Nat × List Pr)} (c : Cls own w W b l) (k : Cnt W W' g h b q n a) : Cls (dye own l.length W.heap.size) w W' b (l ++ [(g, h, a)]) := by
  refine ⟨fun i g' h' a' e => ?_, c.fr.trans0 k.fr⟩
  by_cases hi : i < l.length
  · rw [List.getElem?_append_left hi] at e
    exact (c.all i g' h' a' e).dye k.fr
  · rw [List.getElem?_append_right (by omega)] at e
    have hi0 : i - l.length = 0 := by
      rcases (by omega : i - l.length = 0 ∨ 1 ≤ i - l.length) with h | h
      · exact h
      · rw [List.getElem?_eq_none (by simpa using h)] at e
        cases e
    rw [hi0] at e
    simp only [List.getElem?_cons_zero, Option.some.injEq, Prod.mk.injEq] at e
    obtain ⟨rfl, rfl, rfl⟩ := e
    obtain rfl : i = l.length := by omega
    exact Cl.ofNew c.fr ⟨k.is, k.g0, k.h0, k.hl, k.fr⟩
theorem Cls.turn {own : Nat → Nat} {w W W' : World} {b i g h h' : Nat} {a a' : List Pr} {l : List (Nat × Nat × List Pr)} (c : Cls own w W b l) (hi : l[i]? = some (g, h, a)) (t : TurnC W W' g h h' b a') : Cls (hue own i h h') w W' b (l.set i (g, h', a')) := by
  have ci := c.all i g h a hi
  refine ⟨fun j g2 h2 a2 e => ?_, ci.frame t c.fr⟩
  by_cases hij : i = j
  · subst hij
    have hlt : i < l.length := by
      rcases (by omega : i < l.length ∨ l.length ≤ i) with h | h
      · exact h
      · rw [List.getElem?_eq_none h] at hi; cases hi
    rw [List.getElem?_set_self hlt] at e
    simp only [Option.some.injEq, Prod.mk.injEq] at e
    obtain ⟨rfl, rfl, rfl⟩ := e
    exact ci.turn t
  · rw [List.getElem?_set_ne hij] at e
    exact (c.all j g2 h2 a2 e).other ci t hij
end Go.Proofs.Ytibgjmlgjmnheaa
