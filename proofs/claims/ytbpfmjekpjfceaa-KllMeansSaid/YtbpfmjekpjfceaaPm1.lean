/- Base, Open, OpenStruct -/
import Derived.WalkKit
import Derived.WalkSpells
import Derived.WalkLawsBesides
import Derived.Deep.QuietTactic
import Derived.BigQuiet
import Derived.RegionTactic
import Derived.Deep.AppendLies
import Derived.Deep.RegionLaw
import Derived.Laws.ResultCell
import Derived.Laws.EntriesVeiled
import Derived.Lib.Hide
import Derived.Test.YtbpfmjekpjfceaaRows
import Derived.OpenShut
import Derived.Deep.Fields
import Derived.Deep.Matrix
set_option maxRecDepth 100000
set_option maxHeartbeats 8000000
namespace Go.Proofs.Ytbpfmjekpjfceaa
open Go.RowKit
structure Fr (S : Nat → Prop) (w w' : World) : Prop where
  os : w'.os = w.os
  tape : w'.tape = w.tape
  output : w'.output = w.output
  size : w.heap.size ≤ w'.heap.size
  block : ∀ k, k < w.heap.size → ¬ S k → w'.heap[k]? = w.heap[k]?
def S0 : Nat → Prop := fun _ => False
theorem Fr.refl (S : Nat → Prop) (w : World) : Fr S w w := ⟨rfl, rfl, rfl, Nat.le_refl _, fun _ _ _ => rfl⟩
theorem Fr.trans {S T : Nat → Prop} {a b c : World} (h : Fr S a b) (k : Fr T b c) (hst : ∀ j, j < a.heap.size → T j → S j) : Fr S a c :=
  ⟨k.os.trans h.os, k.tape.trans h.tape, k.output.trans h.output, Nat.le_trans h.size k.size,
    fun j hj hs => (k.block j (Nat.lt_of_lt_of_le hj h.size) (fun t => hs (hst j hj t))).trans (h.block j hj hs)⟩
theorem Fr.trans0 {S : Nat → Prop} {a b c : World} (h : Fr S a b) (k : Fr S0 b c) : Fr S a c := h.trans k fun _ _ h => h.elim
theorem Fr.mono {S T : Nat → Prop} {a b : World} (h : Fr S a b) (hst : ∀ j, j < a.heap.size → S j → T j) : Fr T a b :=
  ⟨h.os, h.tape, h.output, h.size, fun j hj ht => h.block j hj fun s => ht (hst j hj s)⟩
theorem Fr.drewN (S : Nat → Prop) (w : World) (n : Nat) : Fr S w (w.drewN n) := ⟨rfl, rfl, rfl, Nat.le_refl _, fun _ _ _ => rfl⟩
theorem Fr.drew (S : Nat → Prop) (w : World) : Fr S w w.drew := ⟨rfl, rfl, rfl, Nat.le_refl _, fun _ _ _ => rfl⟩
theorem Fr.alloc (S : Nat → Prop) (w : World) (o : Obj) : Fr S w (w.alloc o) := ⟨rfl, rfl, rfl, by simp, fun k hk _ => Below.heap_alloc w o k hk⟩
theorem Fr.setCell (S : Nat → Prop) (w : World) (a : Addr) (v : Value) (h : S a.block) : Fr S w (w.setCell a v) :=
  ⟨rfl, rfl, rfl, by simp [World.setCell], fun k _ hk => Below.heap_setCell w a v k (fun e => hk (e ▸ h))⟩
theorem Fr.grown {w w' : World} {row : Option Nat} (h : w.grownBy w' row) : Fr (fun k => row = some k) w w' :=
  ⟨h.os, h.tape, h.output, h.size, fun k hk hs => h.block k hk (fun e => hs e.symm)⟩
theorem Fr.below {w w' : World} (h : Fr S0 w w') : Below w.heap.size w w' := ⟨h.os, h.tape, h.output, h.size, fun k hk => h.block k hk (fun h => h)⟩
theorem Fr.ofBelow {w w' : World} (h : Below w.heap.size w w') : Fr S0 w w' := ⟨h.os, h.tape, h.output, h.size, fun k hk _ => h.block k hk⟩
theorem Fr.row {S : Nat → Prop} {w w' : World} (h : Fr S w w') {k : Nat} {o : Obj} (hk : w.heap[k]? = some o) (hs : ¬ S k) : w'.heap[k]? = some o :=
  (h.block k (Array.getElem?_eq_some_iff.1 hk).1 hs).trans hk
theorem Fr.cell {S : Nat → Prop} {w w' : World} (h : Fr S w w') {a : Addr} {v : Value} (hc : w.cell? a = some v) (hs : ¬ S a.block) : w'.cell? a = some v :=
  (World.cell?_of_block (h.block a.block (World.block_lt_of_cell? w a hc) hs)).trans hc
theorem Fr.owns {S : Nat → Prop} {w w' : World} (h : Fr S w w') {base : Nat} {e : TypeId} {size : Nat} {v : Value} {n : Nat} {xs : List Value} (ho : w.ownsRow base e size v n xs)
    (hs : ∀ k, v.ownBlock = some k → ¬ S k) : w'.ownsRow base e size v n xs := by
  refine ⟨ho.1, ?_⟩
  rcases ho.2 with hn | ⟨g, cap, cur, rfl, hb, hgg, rest⟩
  · exact .inl hn
  · exact .inr ⟨g, cap, cur, rfl, hb, h.row hgg (hs g rfl), rest⟩
def SlI (w : World) (k : IntKind) (p : Option Addr) (l : List Nat) : Prop :=
  l.length ≤ maxLen ∧ (l ≠ [] → ∃ b off, p = some ⟨b, off, none⟩ ∧ ∀ i, (h : i < l.length) → w.cell? ⟨b, off + i, none⟩ = some (.int k (l[i] : Nat)))
def Off (S : Nat → Prop) (p : Option Addr) : Prop := ∀ a, p = some a → ¬ S a.block
theorem Off.s0 (p : Option Addr) : Off S0 p := fun _ _ h => h
theorem SlI.fr {S : Nat → Prop} {w w' : World} {k : IntKind} {p : Option Addr} {l : List Nat} (h : SlI w k p l) (hf : Fr S w w') (ho : l ≠ [] → Off S p) : SlI w' k p l :=
  ⟨h.1, fun hl => let ⟨b, off, hp, hc⟩ := h.2 hl; ⟨b, off, hp, fun i hi => hf.cell (hc i hi) (ho hl ⟨b, off, none⟩ hp)⟩⟩
theorem SlI.fr0 {w w' : World} {k : IntKind} {p : Option Addr} {l : List Nat} (h : SlI w k p l) (hf : Fr S0 w w') : SlI w' k p l := h.fr hf fun _ => Off.s0 p
theorem SlI.lt {w : World} {k : IntKind} {p : Option Addr} {l : List Nat} (h : SlI w k p l) (hl : l ≠ []) : ∀ a, p = some a → a.block < w.heap.size := by
  intro a ha
  obtain ⟨b, off, hp, hc⟩ := h.2 hl
  rw [hp] at ha
  obtain rfl := Option.some.inj ha
  exact World.block_lt_of_cell? w _ (hc 0 (List.length_pos_iff.2 hl))
theorem SlI.nil (w : World) (k : IntKind) (p : Option Addr) : SlI w k p [] := ⟨by simp, fun h => absurd rfl h⟩
theorem SlI.at {w : World} {k : IntKind} {p : Option Addr} {l : List Nat} (h : SlI w k p l) (i : Nat) (hi : i < l.length) : ∃ b off, p = some ⟨b, off, none⟩ ∧ w.cell? ⟨b, off + i, none⟩ = some (.int k (l[i] : Nat)) :=
  let ⟨b, off, hp, hc⟩ := h.2 (by intro e; simp [e] at hi); ⟨b, off, hp, hc i hi⟩
theorem SlI.ofOwns {w : World} {base : Nat} {e : TypeId} {k : IntKind} {p : Option Addr} {n c : Nat} {l : List Nat} (h : w.ownsRow base e 1 (.slice p n c) n (l.map fun (x : Nat) => Value.int k (x : Int))) : SlI w k p l := by
  have hlen : l.length = n := by have := h.1; simpa using this
  rcases h.2 with ⟨hv, hn⟩ | ⟨g, cap, cur, hv, _, hg, hnc, hcm, hcs, htk⟩
  · subst hn
    have : l = [] := List.eq_nil_of_length_eq_zero hlen
    subst this
    exact SlI.nil _ _ _
  · simp only [Value.slice.injEq] at hv
    obtain ⟨rfl, -, rfl⟩ := hv
    refine ⟨by omega, fun _ => ⟨g, 0, rfl, fun i hi => ?_⟩⟩
    have hc := h.cellAt (g := g) (cap := c) i (by omega)
    rw [Nat.zero_add, hc]
    simp [hi]
theorem size_alloc (w : World) (o : Obj) : (w.alloc o).heap.size = w.heap.size + 1 := by simp
structure ElemOk (P : Program) (t e : TypeId) (z : Value) (size bytes : Nat) : Prop where
  und : P.underlying t = some (.slice e)
  info : (P.info? e).map (fun i => (i.zero, i.size, i.bytes)) = some (some z, size, bytes)
  zsize : z.cells.size = size
  pos : 0 < size
  small : bytes ≤ 64
def Room (n : Nat) : Prop := n ≤ 1099511627776
theorem Room.mk {n : Nat} (h : n ≤ 1099511627776) : Room n := h
theorem app_one {P : Program} {t e : TypeId} {z : Value} {size bytes : Nat} (he : ElemOk P t e z size bytes) {ops : Array Oper} {rest : List Oper} {o : Oper} {a : Act} {Q : Exit → Act → World → Prop} {w : World} (s x : Operand) {B : Nat} (hB : w.heap.size = B) {v : Value} {n : Nat} {xs : List Value} (own : w.ownsRow 0 e size v n xs)
    (hgd : o.guard = none) (ho : o.op = .call { callee := .builtin .append, args := #[s, x], argTypes := #[t, t] })
    (hs : a.eval s = v)
    {cs : Array Value} (hx : a.eval x = .slice (some ⟨B, 0, none⟩) 1 1) (hc : cs.toList.length = 1 * size) (h1 : ∀ u ∈ cs.toList, u.oneCell' = true) (hr : Room (n + 1))
    (h : ∀ g cap w', w'.ownsRow 0 e size (.slice (some ⟨g, 0, none⟩) (n + 1) cap) (n + 1) (xs ++ cs.toList) → (w.alloc (.cells cs e)).grownBy w' v.ownBlock → (v.ownBlock = some g ∨ g = B + 1) → g < w'.heap.size → wpList P ops Q rest (a.put o.dst (.slice (some ⟨g, 0, none⟩) (n + 1) cap)) w') :
    wpList P ops Q (o :: rest) a (w.alloc (.cells cs e)) := by
  subst hB
  obtain ⟨i, hi, hz, hsz, hb⟩ := info_parts he.info
  have hr' : n + 1 ≤ 1099511627776 := hr
  have hbb : (n + 1) * bytes ≤ 140737488355328 := by
    have := Nat.mul_le_mul hr' he.small
    omega
  refine wpList_append_lies _ hgd s x t ho 0 e i z size bytes he.und hi hz hsz hb he.zsize he.pos v n xs hs (own.alloc _) ⟨w.heap.size, 0, none⟩ 1 1 cs.toList hx hc ?_ h1 (by decide) (by unfold maxLen; omega) hbb (Nat.zero_le _) (w.heap.size + 1) (by simp) h
  exact World.news_of_block (heap_alloc_new w _)
theorem make_room {P : Program} {t e : TypeId} {z : Value} {size bytes : Nat} (he : ElemOk P t e z size bytes) {ops : Array Oper} {rest : List Oper} {o : Oper} {a : Act} {Q : Exit → Act → World → Prop} {w : World} (l c : Operand)
    (hgd : o.guard = none) (ho : o.op = Op.makeSlice t l c) {kl kc : IntKind} {n : Nat} (hl : a.eval l = .int kl 0) (hc : a.eval c = .int kc (n : Int)) (hr : Room n)
    (h : ∀ w', w'.ownsRow 0 e size (.slice (some ⟨w.heap.size, 0, none⟩) 0 n) 0 [] → Fr S0 w w' → wpList P ops Q rest (a.put o.dst (.slice (some ⟨w.heap.size, 0, none⟩) 0 n)) w') : wpList P ops Q (o :: rest) a w := by
  obtain ⟨i, hi, hz, hsz, hb⟩ := info_parts he.info
  have hr' : n ≤ 1099511627776 := hr
  have hbb : i.bytes * n ≤ 281474976710656 := by
    have := Nat.mul_le_mul he.small hr'
    rw [hb]
    omega
  refine wpList_make_own w hgd l c t ho 0 e i z size he.und hi hz hsz kl kc n n hl hc rfl hbb (by unfold maxLen; omega) (Nat.zero_le _) ?_
  intro w' h1 h2
  exact h w' h1 ((Fr.grown h2).mono (fun j _ e => by cases e))
theorem Fr.append {S : Nat → Prop} {w wa wb : World} {row : Option Nat} (h : Fr S w wa) (hg : wa.grownBy wb row) (hr : ∀ k, row = some k → w.heap.size ≤ k) : Fr S w wb :=
  h.trans (Fr.grown hg) fun j hj e => by have := hr j e; omega
end Go.Proofs.Ytbpfmjekpjfceaa

namespace Go.Proofs.Ytbpfmjekpjfceaa
open Go.RowKit
theorem rowOpen {k : IntKind} {B : Nat} (hB : ∀ n : Int, (Lit.int k n).wf = true → 0 ≤ n ∧ n < (B : Int)) {w : World} {a : Option Addr} {len cap : Nat} {zs : List Int}
    (h : (a = none ∧ len = 0 ∧ cap = 0 ∧ zs = []) ∨
      ∃ x, a = some x ∧ len ≤ cap ∧ cap ≤ maxLen ∧ zs.length = cap ∧ (∀ i, i < zs.length → w.cell? (x.add i) = some (.int k (zs.getD i 0))) ∧ ∀ n ∈ zs, (Lit.int k n).wf = true) :
    ∃ l : List Nat, l.length = len ∧ SlI w k a l ∧ (∀ x ∈ l, x < B) ∧ (a = none → cap = 0) ∧ len ≤ cap := by
  rcases h with ⟨rfl, rfl, rfl, rfl⟩ | ⟨x, rfl, hlc, hm, hz, hc, hw⟩
  · exact ⟨[], rfl, SlI.nil _ _ _, by simp, fun _ => rfl, Nat.le_refl _⟩
  · refine ⟨(zs.take len).map Int.toNat, by simp; omega, ⟨by simp; omega, fun hne => ?_⟩, ?_, fun h => (by cases h), hlc⟩
    · have hlen : 0 < len := by
        rcases Nat.eq_zero_or_pos len with h | h
        · subst h; simp at hne
        · exact h
      have h0 := hc 0 (by omega)
      obtain ⟨b, off, sp⟩ := x
      have hsp : sp = none := by
        have e : (⟨b, off, sp⟩ : Addr).add 0 = ⟨b, off, sp⟩ := by simp [Addr.add]
        rw [e] at h0
        cases sp with
        | none => rfl
        | some y =>
          simp only [World.cell?] at h0
          split at h0
          · simp at h0
          · cases h0
      subst hsp
      refine ⟨b, off, rfl, fun i hi => ?_⟩
      have hi' : i < len := by simp at hi; omega
      have hplain : (⟨b, off, none⟩ : Addr).add i = ⟨b, off + i, none⟩ := by unfold Addr.add; split <;> simp_all
      have hci := hc i (by omega)
      rw [hplain] at hci
      rw [hci]
      have hiz : i < zs.length := by omega
      have hb := hB zs[i] (hw _ (List.getElem_mem hiz))
      simp only [List.getD, List.getElem?_eq_getElem hiz, Option.getD_some, List.getElem_map, List.getElem_take]
      rw [Int.toNat_of_nonneg hb.1]
    · intro y hy
      obtain ⟨n, hn, rfl⟩ := List.mem_map.1 hy
      have := hB n (hw n (List.mem_of_mem_take hn))
      omega
theorem rowCap {k : IntKind} {w : World} {a : Option Addr} {len cap : Nat} {zs : List Int}
    (h : (a = none ∧ len = 0 ∧ cap = 0 ∧ zs = []) ∨
      ∃ x, a = some x ∧ len ≤ cap ∧ cap ≤ maxLen ∧ zs.length = cap ∧ (∀ i, i < zs.length → w.cell? (x.add i) = some (.int k (zs.getD i 0))) ∧ ∀ n ∈ zs, (Lit.int k n).wf = true) : cap ≤ maxLen := by
  rcases h with ⟨-, -, rfl, -⟩ | ⟨x, -, -, hm, -⟩
  · exact Nat.zero_le _
  · exact hm
end Go.Proofs.Ytbpfmjekpjfceaa

namespace Go.Proofs.Ytbpfmjekpjfceaa
open Go.RowKit Go.ChangeShapes Go.WideShapes Go.Deep
section
variable {H : Type} {enc : TypeId × Value → H} {P : Program} {w : World} {base : Nat} {spare : Nat → Bool} {held : Bool}
end
theorem plainAt {w : World} {a : Addr} {v : Value} (h : w.cell? a = some v) : ∃ b off, a = ⟨b, off, none⟩ := by
  obtain ⟨b, off, sp⟩ := a
  cases sp with
  | none => exact ⟨b, off, rfl⟩
  | some y =>
    simp only [World.cell?] at h
    split at h
    · simp at h
    · cases h
theorem plainAdd (b off i : Nat) : (⟨b, off, none⟩ : Addr).add i = ⟨b, off + i, none⟩ := by unfold Addr.add; split <;> simp_all
end Go.Proofs.Ytbpfmjekpjfceaa
