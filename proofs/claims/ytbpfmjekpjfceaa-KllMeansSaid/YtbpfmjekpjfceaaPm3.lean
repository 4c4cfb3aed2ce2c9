/- Many, Bytes -/
import Derived.Test.YtbpfmjekpjfceaaPm1
import Derived.Maps.AppendAt
import Derived.Laws.AppendOwnNone
import Derived.WalkKit
import Derived.WalkSpells
import Derived.WalkLawsBesides
import Derived.Deep.QuietTactic
import Derived.BigQuiet
import Derived.RegionTactic
import Derived.Deep.AppendLies
import Derived.Deep.RegionLaw
import Derived.Laws.ResultCell
import Derived.Laws.EntriesVeiled
import Derived.Lib.Hide
import Derived.Test.YtbpfmjekpjfceaaRows
import Derived.Laws.BytesArg
import Derived.Lib.SlBytesConst
set_option maxRecDepth 100000
set_option maxHeartbeats 8000000
namespace Go.Proofs.Ytbpfmjekpjfceaa
open Go.RowKit
def SrcIs (w : World) (u : Value) (m : Nat) (ys : List Value) : Prop :=
  ys.length = m ∧ ((u = .slice none 0 0 ∧ m = 0) ∨ ∃ ad c, u = .slice (some ad) m c ∧ ∀ j v, ys[j]? = some v → w.cell? (ad.add j) = some v)
theorem SrcIs.ofOwns {w : World} {e : TypeId} {u : Value} {m : Nat} {ys : List Value} (h : w.ownsRow 0 e 1 u m ys) : SrcIs w u m ys := by
  refine ⟨by simpa using h.1, ?_⟩
  rcases h.2 with hn | ⟨g, cap, cur, rfl, _⟩
  · exact .inl hn
  · exact .inr ⟨_, cap, rfl, h.cells rfl⟩
theorem SrcIs.ofSl {w : World} {k : IntKind} {p : Option Addr} {l : List Nat} {c : Nat} (h : SlI w k p l) (hc : p = none → c = 0) : SrcIs w (.slice p l.length c) l.length (l.map fun (x : Nat) => Value.int k (x : Int)) := by
  refine ⟨by simp, ?_⟩
  cases p with
  | none =>
    have : l = [] := by
      by_cases hl : l = []
      · exact hl
      · obtain ⟨b, off, hp, _⟩ := h.2 hl
        cases hp
    subst this
    exact .inl ⟨by rw [hc rfl]; rfl, rfl⟩
  | some ad =>
    refine .inr ⟨ad, c, rfl, fun j v hj => ?_⟩
    have hjl : j < l.length := by
      have := (List.getElem?_eq_some_iff.1 hj).1
      simpa using this
    obtain ⟨b, off, hp, hcell⟩ := h.at j hjl
    obtain rfl := Option.some.inj hp
    have hplain : (⟨b, off, none⟩ : Addr).add j = ⟨b, off + j, none⟩ := by unfold Addr.add; split <;> simp_all
    rw [hplain, hcell, ← hj]
    simp [hjl]
theorem SrcIs.fr {S : Nat → Prop} {w w' : World} {u : Value} {m : Nat} {ys : List Value} (h : SrcIs w u m ys) (hf : Fr S w w') (hs : ∀ k, u.ownBlock = some k → ¬ S k) : SrcIs w' u m ys := by
  refine ⟨h.1, ?_⟩
  rcases h.2 with hn | ⟨ad, c, rfl, hc⟩
  · exact .inl hn
  · refine .inr ⟨ad, c, rfl, fun j v hj => hf.cell (hc j v hj) ?_⟩
    have : (ad.add j).block = ad.block := by unfold Addr.add; split <;> rfl
    rw [this]
    exact hs _ rfl
theorem run_many_big {P : Program} {t e ty : TypeId} {z : Value} {bytes : Nat} (he : ElemOk P t e z 1 bytes) {w : World} {v : Value} {n : Nat} {xs : List Value} (own : w.ownsRow 0 e 1 v n xs)
    {u : Value} {m : Nat} {ys : List Value} (hsrc : SrcIs w u m ys) (h1 : ∀ y ∈ ys, y.oneCell' = true) (hbb : (n + m) * bytes ≤ 140737488355328) (hmm : n + m ≤ maxLen) :
    ∃ p c w', (Builtin.append_ #[t, t] ty #[v, u]).run P w = .ok (.slice p (n + m) c) w' ∧ w'.ownsRow 0 e 1 (.slice p (n + m) c) (n + m) (xs ++ ys) ∧ w.grownBy w' v.ownBlock ∧
      (Value.ownBlock (.slice p (n + m) c) = v.ownBlock ∨ Value.ownBlock (.slice p (n + m) c) = some w.heap.size) := by
  obtain ⟨i, hi, hz, hsz, hb⟩ := info_parts he.info
  obtain ⟨hl, hs⟩ := hsrc
  rcases hs with ⟨rfl, rfl⟩ | ⟨ad, c, rfl, hc⟩
  · have hrun := run_append_owned_none (P := P) (w := w) 0 t ty e i 1 he.und hi v n xs own
    have hys : ys = [] := List.eq_nil_of_length_eq_zero hl
    subst hys
    obtain ⟨p, c, hv⟩ : ∃ p c, v = .slice p (n + 0) c := by
      rcases own.2 with ⟨h, h0⟩ | ⟨g, cap, cur, h, _⟩
      · exact ⟨none, 0, by rw [h, h0]⟩
      · exact ⟨_, _, h⟩
    subst hv
    exact ⟨p, c, w, hrun, by simpa using own, World.grownBy.refl _ _, .inl rfl⟩
  · obtain ⟨v', w', hrun, h2, h3, -, h5⟩ := run_append_own_at (P := P) w 0 t ty e i z 1 bytes he.und hi hz hsz hb he.zsize he.pos v n xs own ad m c ys (by omega) hc h1 hmm hbb (Nat.zero_le _)
    obtain ⟨p, c', hv⟩ : ∃ p c', v' = .slice p (n + m) c' := by
      rcases h2.2 with ⟨h, h0⟩ | ⟨g, cap, cur, h, _⟩
      · exact ⟨none, 0, by rw [h, h0]⟩
      · exact ⟨_, _, h⟩
    subst hv
    exact ⟨p, c', w', hrun, h2, h3, h5⟩
theorem run_many {P : Program} {t e ty : TypeId} {z : Value} {bytes : Nat} (he : ElemOk P t e z 1 bytes) {w : World} {v : Value} {n : Nat} {xs : List Value} (own : w.ownsRow 0 e 1 v n xs)
    {u : Value} {m : Nat} {ys : List Value} (hsrc : SrcIs w u m ys) (h1 : ∀ y ∈ ys, y.oneCell' = true) (hr : Room (n + m)) :
    ∃ p c w', (Builtin.append_ #[t, t] ty #[v, u]).run P w = .ok (.slice p (n + m) c) w' ∧ w'.ownsRow 0 e 1 (.slice p (n + m) c) (n + m) (xs ++ ys) ∧ w.grownBy w' v.ownBlock ∧
      (Value.ownBlock (.slice p (n + m) c) = v.ownBlock ∨ Value.ownBlock (.slice p (n + m) c) = some w.heap.size) := by
  have hr' : n + m ≤ 1099511627776 := hr
  exact run_many_big he own hsrc h1 (by have := Nat.mul_le_mul hr' he.small; omega) (by unfold maxLen; omega)
theorem app_many {P : Program} {t e : TypeId} {z : Value} {bytes : Nat} (he : ElemOk P t e z 1 bytes) {ops : Array Oper} {rest : List Oper} {o : Oper} {a : Act} {Q : Exit → Act → World → Prop} {w : World} (s x : Operand)
    {v : Value} {n : Nat} {xs : List Value} (own : w.ownsRow 0 e 1 v n xs) {u : Value} {m : Nat} {ys : List Value} (hsrc : SrcIs w u m ys) {N : Nat} (hN : n + m = N)
    (hgd : o.guard = none) (ho : o.op = .call { callee := .builtin .append, args := #[s, x], argTypes := #[t, t] }) (hs : a.eval s = v) (hx : a.eval x = u) (h1 : ∀ y ∈ ys, y.oneCell' = true) (hr : Room N)
    (h : ∀ p c w', w'.ownsRow 0 e 1 (.slice p N c) N (xs ++ ys) → w.grownBy w' v.ownBlock → (Value.ownBlock (.slice p N c) = v.ownBlock ∨ Value.ownBlock (.slice p N c) = some w.heap.size) →
      wpList P ops Q rest (a.put o.dst (.slice p N c)) w') : wpList P ops Q (o :: rest) a w := by
  subst hN
  refine wpList_plain hgd fun K hK => ?_
  obtain ⟨p, c, w', hrun, h2, h3, h4⟩ := run_many (ty := o.type) he own hsrc h1 hr
  unfold Oper.wp
  simp only [execOp, ho, resolve, invoke, builtin, Sem.run_bind, Sem.run_pure, Result.andThen_ok, List.map_toArray, List.map_cons, List.map_nil, hs, hx, hrun]
  exact hK _ _ (h p c w' h2 h3 h4)
theorem app_many_big {P : Program} {t e : TypeId} {z : Value} {bytes : Nat} (he : ElemOk P t e z 1 bytes) {ops : Array Oper} {rest : List Oper} {o : Oper} {a : Act} {Q : Exit → Act → World → Prop} {w : World} (s x : Operand)
    {v : Value} {n : Nat} {xs : List Value} (own : w.ownsRow 0 e 1 v n xs) {u : Value} {m : Nat} {ys : List Value} (hsrc : SrcIs w u m ys) {N : Nat} (hN : n + m = N)
    (hgd : o.guard = none) (ho : o.op = .call { callee := .builtin .append, args := #[s, x], argTypes := #[t, t] }) (hs : a.eval s = v) (hx : a.eval x = u) (h1 : ∀ y ∈ ys, y.oneCell' = true) (hbb : N * bytes ≤ 140737488355328) (hmm : N ≤ maxLen)
    (h : ∀ p c w', w'.ownsRow 0 e 1 (.slice p N c) N (xs ++ ys) → w.grownBy w' v.ownBlock → (Value.ownBlock (.slice p N c) = v.ownBlock ∨ Value.ownBlock (.slice p N c) = some w.heap.size) →
      wpList P ops Q rest (a.put o.dst (.slice p N c)) w') : wpList P ops Q (o :: rest) a w := by
  subst hN
  refine wpList_plain hgd fun K hK => ?_
  obtain ⟨p, c, w', hrun, h2, h3, h4⟩ := run_many_big (ty := o.type) he own hsrc h1 hbb hmm
  unfold Oper.wp
  simp only [execOp, ho, resolve, invoke, builtin, Sem.run_bind, Sem.run_pure, Result.andThen_ok, List.map_toArray, List.map_cons, List.map_nil, hs, hx, hrun]
  exact hK _ _ (h p c w' h2 h3 h4)
end Go.Proofs.Ytbpfmjekpjfceaa

namespace Go.Proofs.Ytbpfmjekpjfceaa
open Go.RowKit
theorem info_u8 : (Try.prog.info? 5).map (fun i => (i.zero, i.size, i.bytes)) = some (some (.int .u8 0), 1, 1) := by kernel_rfl
theorem el8 : ElemOk Try.prog 23 5 (.int .u8 0) 1 1 := ⟨Try.underlying23, info_u8, rfl, by decide, by decide⟩
def u8s (bs : List Nat) : List Value := bs.map fun (x : Nat) => Value.int .u8 (x : Int)
theorem one8 {k : IntKind} {x : Int} : ∀ u ∈ (#[Value.int k x]).toList, u.oneCell' = true := by intro u hu; simp at hu; subst hu; rfl
theorem ones {k : IntKind} (l : List Nat) : ∀ y ∈ (l.map fun (x : Nat) => Value.int k (x : Int)), y.oneCell' = true := by
  intro y hy; simp only [List.mem_map] at hy; obtain ⟨x, -, rfl⟩ := hy; rfl
theorem own_none (w : World) (t : TypeId) : (w.alloc (.cells #[] t)).ownsRow 0 t 1 (.slice (some ⟨w.heap.size, 0, none⟩) 0 0) 0 [] :=
  World.ownsRow_made w #[] 0 (Nat.zero_le _) (by decide) rfl
theorem slForm {w : World} {e : TypeId} {v : Value} {n : Nat} {xs : List Value} (h : w.ownsRow 0 e 1 v n xs) : ∃ p c, v = .slice p n c ∧ (p = none → c = 0) ∧ n ≤ c ∧ c ≤ maxLen := by
  rcases h.2 with ⟨h, h0⟩ | ⟨g, cap, cur, h, _, _, h1, h2, _⟩
  · exact ⟨none, 0, by rw [h, h0], fun _ => rfl, by omega, by decide⟩
  · exact ⟨_, _, h, (fun h => by cases h), h1, h2⟩
def Fresh (w : World) (v : Value) : Prop := ∀ g, v.ownBlock = some g → w.heap.size ≤ g
theorem fresh_nil (w : World) (c : Nat) : Fresh w (.slice none 0 c) := fun g h => by simp [Value.ownBlock] at h
theorem fresh_made {w w2 : World} {n c : Nat} (h : Fr S0 w w2) : Fresh w (.slice (some ⟨w2.heap.size, 0, none⟩) n c) :=
  fun k hk => by simp only [Value.ownBlock, Option.some.injEq] at hk; have := h.size; omega
theorem fresh_many {w : World} {v v' : Value} {B : Nat} (h : Fresh w v) (hB : w.heap.size ≤ B) (ha : v'.ownBlock = v.ownBlock ∨ v'.ownBlock = some B) : Fresh w v' := by
  intro k hk
  rcases ha with ha | ha
  · exact h k (ha ▸ hk)
  · rw [ha] at hk; simp only [Option.some.injEq] at hk; omega
theorem fresh_app {w wr : World} {v : Value} {g n c : Nat} (h : Fr S0 w wr) (hv : Fresh w v) (hat : v.ownBlock = some g ∨ g = wr.heap.size + 1) : Fresh w (.slice (some ⟨g, 0, none⟩) n c) := by
  intro k hk
  simp only [Value.ownBlock, Option.some.injEq] at hk
  subst hk
  rcases hat with h1 | h1
  · exact hv _ h1
  · have := h.size; omega
theorem fr_made {w w2 w3 : World} {o : Obj} {n c : Nat} (h : Fr S0 w w2) (g : (w2.alloc o).grownBy w3 (Value.ownBlock (.slice (some ⟨w2.heap.size, 0, none⟩) n c))) : Fr S0 w w3 :=
  (h.trans0 (Fr.alloc S0 w2 o)).append g fun k hk => by simp only [Value.ownBlock, Option.some.injEq] at hk; have := h.size; omega
theorem size_le {w w2 : World} {o : Obj} (h : Fr S0 w w2) : w.heap.size ≤ (w2.alloc o).heap.size := by have := h.size; simp; omega
theorem SlI.take {w : World} {k : IntKind} {p : Option Addr} {l : List Nat} (h : SlI w k p l) (n : Nat) : SlI w k p (l.take n) := by
  refine ⟨by have := h.1; rw [List.length_take]; omega, fun hl => ?_⟩
  obtain ⟨b, off, hp, hc⟩ := h.2 (by intro e; subst e; simp at hl)
  refine ⟨b, off, hp, fun i hi => ?_⟩
  rw [List.length_take] at hi
  rw [hc i (by omega), List.getElem_take]
theorem SlI.ofBlock {w : World} {g : Nat} {t : TypeId} {fr : Nat × Nat} {k : IntKind} {l : List Nat} {cs : Array Value} (hb : w.heap[g]? = some (.cells cs t fr)) (hc : cs.toList = l.map fun (x : Nat) => Value.int k (x : Int)) (hl : l.length ≤ maxLen) :
    SlI w k (some ⟨g, 0, none⟩) l := by
  refine ⟨hl, fun _ => ⟨g, 0, rfl, fun i hi => ?_⟩⟩
  rw [cell_of_row w g (0 + i) cs t fr hb, ← Array.getElem?_toList, hc]
  simp [hi]
theorem SlI.new (w : World) (C : Array Value) (t : TypeId) (fr : Nat × Nat) (k : IntKind) (l : List Nat) (hc : C.toList = l.map fun (x : Nat) => Value.int k (x : Int)) (hl : l.length ≤ maxLen) : SlI (w.alloc (.cells C t fr)) k (some ⟨w.heap.size, 0, none⟩) l :=
  SlI.ofBlock (heap_alloc_new w _) hc hl
end Go.Proofs.Ytbpfmjekpjfceaa
