/- append(s, x...): a whole row is appended to a row of the call's own. -/
import Derived.Test.YtbpfmjekpjfceaaBase
import Derived.Maps.AppendAt
import Derived.Laws.AppendOwnNone
namespace Go.Proofs.Ytbpfmjekpjfceaa
open Go.RowKit

/-- a slice u of m values ys that may be appended -/
def SrcIs (w : World) (u : Value) (m : Nat) (ys : List Value) : Prop :=
  ys.length = m ∧ ((u = .slice none 0 0 ∧ m = 0) ∨ ∃ ad c, u = .slice (some ad) m c ∧ ∀ j v, ys[j]? = some v → w.cell? (ad.add j) = some v)
theorem SrcIs.ofOwns {w : World} {e : TypeId} {u : Value} {m : Nat} {ys : List Value} (h : w.ownsRow 0 e 1 u m ys) : SrcIs w u m ys := by
  refine ⟨by simpa using h.1, ?_⟩
  rcases h.2 with hn | ⟨g, cap, cur, rfl, _⟩
  · exact .inl hn
  · exact .inr ⟨_, cap, rfl, h.cells rfl⟩
theorem SrcIs.ofSl {w : World} {k : IntKind} {p : Option Addr} {l : List Nat} {c : Nat} (h : SlI w k p l) (hc : p = none → c = 0) : SrcIs w (.slice p l.length c) l.length (l.map fun (x : Nat) => Value.int k (x : Int)) := by
  refine ⟨by simp, ?_⟩
  cases p with
  | none =>
    have : l = [] := by
      by_cases hl : l = []
      · exact hl
      · obtain ⟨b, off, hp, _⟩ := h.2 hl
        cases hp
    subst this
    exact .inl ⟨by rw [hc rfl]; rfl, rfl⟩
  | some ad =>
    refine .inr ⟨ad, c, rfl, fun j v hj => ?_⟩
    have hjl : j < l.length := by
      have := (List.getElem?_eq_some_iff.1 hj).1
      simpa using this
    obtain ⟨b, off, hp, hcell⟩ := h.at j hjl
    obtain rfl := Option.some.inj hp
    have hplain : (⟨b, off, none⟩ : Addr).add j = ⟨b, off + j, none⟩ := by unfold Addr.add; split <;> simp_all
    rw [hplain, hcell, ← hj]
    simp [hjl]
theorem SrcIs.fr {S : Nat → Prop} {w w' : World} {u : Value} {m : Nat} {ys : List Value} (h : SrcIs w u m ys) (hf : Fr S w w') (hs : ∀ k, u.ownBlock = some k → ¬ S k) : SrcIs w' u m ys := by
  refine ⟨h.1, ?_⟩
  rcases h.2 with hn | ⟨ad, c, rfl, hc⟩
  · exact .inl hn
  · refine .inr ⟨ad, c, rfl, fun j v hj => hf.cell (hc j v hj) ?_⟩
    have : (ad.add j).block = ad.block := by unfold Addr.add; split <;> rfl
    rw [this]
    exact hs _ rfl

theorem run_many_big {P : Program} {t e ty : TypeId} {z : Value} {bytes : Nat} (he : ElemOk P t e z 1 bytes) {w : World} {v : Value} {n : Nat} {xs : List Value} (own : w.ownsRow 0 e 1 v n xs)
    {u : Value} {m : Nat} {ys : List Value} (hsrc : SrcIs w u m ys) (h1 : ∀ y ∈ ys, y.oneCell' = true) (hbb : (n + m) * bytes ≤ 140737488355328) (hmm : n + m ≤ maxLen) :
    ∃ p c w', (Builtin.append_ #[t, t] ty #[v, u]).run P w = .ok (.slice p (n + m) c) w' ∧ w'.ownsRow 0 e 1 (.slice p (n + m) c) (n + m) (xs ++ ys) ∧ w.grownBy w' v.ownBlock ∧
      (Value.ownBlock (.slice p (n + m) c) = v.ownBlock ∨ Value.ownBlock (.slice p (n + m) c) = some w.heap.size) := by
  obtain ⟨i, hi, hz, hsz, hb⟩ := info_parts he.info
  obtain ⟨hl, hs⟩ := hsrc
  rcases hs with ⟨rfl, rfl⟩ | ⟨ad, c, rfl, hc⟩
  · have hrun := run_append_owned_none (P := P) (w := w) 0 t ty e i 1 he.und hi v n xs own
    have hys : ys = [] := List.eq_nil_of_length_eq_zero hl
    subst hys
    obtain ⟨p, c, hv⟩ : ∃ p c, v = .slice p (n + 0) c := by
      rcases own.2 with ⟨h, h0⟩ | ⟨g, cap, cur, h, _⟩
      · exact ⟨none, 0, by rw [h, h0]⟩
      · exact ⟨_, _, h⟩
    subst hv
    exact ⟨p, c, w, hrun, by simpa using own, World.grownBy.refl _ _, .inl rfl⟩
  · obtain ⟨v', w', hrun, h2, h3, -, h5⟩ := run_append_own_at (P := P) w 0 t ty e i z 1 bytes he.und hi hz hsz hb he.zsize he.pos v n xs own ad m c ys (by omega) hc h1 hmm hbb (Nat.zero_le _)
    obtain ⟨p, c', hv⟩ : ∃ p c', v' = .slice p (n + m) c' := by
      rcases h2.2 with ⟨h, h0⟩ | ⟨g, cap, cur, h, _⟩
      · exact ⟨none, 0, by rw [h, h0]⟩
      · exact ⟨_, _, h⟩
    subst hv
    exact ⟨p, c', w', hrun, h2, h3, h5⟩
theorem run_many {P : Program} {t e ty : TypeId} {z : Value} {bytes : Nat} (he : ElemOk P t e z 1 bytes) {w : World} {v : Value} {n : Nat} {xs : List Value} (own : w.ownsRow 0 e 1 v n xs)
    {u : Value} {m : Nat} {ys : List Value} (hsrc : SrcIs w u m ys) (h1 : ∀ y ∈ ys, y.oneCell' = true) (hr : Room (n + m)) :
    ∃ p c w', (Builtin.append_ #[t, t] ty #[v, u]).run P w = .ok (.slice p (n + m) c) w' ∧ w'.ownsRow 0 e 1 (.slice p (n + m) c) (n + m) (xs ++ ys) ∧ w.grownBy w' v.ownBlock ∧
      (Value.ownBlock (.slice p (n + m) c) = v.ownBlock ∨ Value.ownBlock (.slice p (n + m) c) = some w.heap.size) := by
  have hr' : n + m ≤ 1099511627776 := hr
  exact run_many_big he own hsrc h1 (by have := Nat.mul_le_mul hr' he.small; omega) (by unfold maxLen; omega)
theorem app_many {P : Program} {t e : TypeId} {z : Value} {bytes : Nat} (he : ElemOk P t e z 1 bytes) {ops : Array Oper} {rest : List Oper} {o : Oper} {a : Act} {Q : Exit → Act → World → Prop} {w : World} (s x : Operand)
    {v : Value} {n : Nat} {xs : List Value} (own : w.ownsRow 0 e 1 v n xs) {u : Value} {m : Nat} {ys : List Value} (hsrc : SrcIs w u m ys) {N : Nat} (hN : n + m = N)
    (hgd : o.guard = none) (ho : o.op = .call { callee := .builtin .append, args := #[s, x], argTypes := #[t, t] }) (hs : a.eval s = v) (hx : a.eval x = u) (h1 : ∀ y ∈ ys, y.oneCell' = true) (hr : Room N)
    (h : ∀ p c w', w'.ownsRow 0 e 1 (.slice p N c) N (xs ++ ys) → w.grownBy w' v.ownBlock → (Value.ownBlock (.slice p N c) = v.ownBlock ∨ Value.ownBlock (.slice p N c) = some w.heap.size) →
      wpList P ops Q rest (a.put o.dst (.slice p N c)) w') : wpList P ops Q (o :: rest) a w := by
  subst hN
  refine wpList_plain hgd fun K hK => ?_
  obtain ⟨p, c, w', hrun, h2, h3, h4⟩ := run_many (ty := o.type) he own hsrc h1 hr
  unfold Oper.wp
  simp only [execOp, ho, resolve, invoke, builtin, Sem.run_bind, Sem.run_pure, Result.andThen_ok, List.map_toArray, List.map_cons, List.map_nil, hs, hx, hrun]
  exact hK _ _ (h p c w' h2 h3 h4)
/-- the same where a row is as long as any that comes in -/
theorem app_many_big {P : Program} {t e : TypeId} {z : Value} {bytes : Nat} (he : ElemOk P t e z 1 bytes) {ops : Array Oper} {rest : List Oper} {o : Oper} {a : Act} {Q : Exit → Act → World → Prop} {w : World} (s x : Operand)
    {v : Value} {n : Nat} {xs : List Value} (own : w.ownsRow 0 e 1 v n xs) {u : Value} {m : Nat} {ys : List Value} (hsrc : SrcIs w u m ys) {N : Nat} (hN : n + m = N)
    (hgd : o.guard = none) (ho : o.op = .call { callee := .builtin .append, args := #[s, x], argTypes := #[t, t] }) (hs : a.eval s = v) (hx : a.eval x = u) (h1 : ∀ y ∈ ys, y.oneCell' = true) (hbb : N * bytes ≤ 140737488355328) (hmm : N ≤ maxLen)
    (h : ∀ p c w', w'.ownsRow 0 e 1 (.slice p N c) N (xs ++ ys) → w.grownBy w' v.ownBlock → (Value.ownBlock (.slice p N c) = v.ownBlock ∨ Value.ownBlock (.slice p N c) = some w.heap.size) →
      wpList P ops Q rest (a.put o.dst (.slice p N c)) w') : wpList P ops Q (o :: rest) a w := by
  subst hN
  refine wpList_plain hgd fun K hK => ?_
  obtain ⟨p, c, w', hrun, h2, h3, h4⟩ := run_many_big (ty := o.type) he own hsrc h1 hbb hmm
  unfold Oper.wp
  simp only [execOp, ho, resolve, invoke, builtin, Sem.run_bind, Sem.run_pure, Result.andThen_ok, List.map_toArray, List.map_cons, List.map_nil, hs, hx, hrun]
  exact hK _ _ (h p c w' h2 h3 h4)
end Go.Proofs.Ytbpfmjekpjfceaa
