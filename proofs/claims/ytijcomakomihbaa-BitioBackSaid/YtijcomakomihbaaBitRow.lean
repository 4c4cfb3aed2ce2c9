/- A writer beside a row of bytes of the call's own. -/
import Derived.Test.YtijcomakomihbaaBitAlive
import Derived.Laws.OwnMore
namespace Go.Proofs.Ytijcomakomihbaa
open Go.RowKit

/-- append(s, x...) at a step of a region that draws its order -/
theorem step_many {P : Program} {t e : TypeId} {z : Value} {bytes : Nat} (he : ElemOk P t e z 1 bytes) {ops : Array Oper} {o : Oper} {a : Act} {K : Act → World → Prop} {Q : Exit → Act → World → Prop} {E : Prop} {w : World} (s x : Operand)
    {v : Value} {n : Nat} {xs : List Value} (own : w.ownsRow 0 e 1 v n xs) {u : Value} {m : Nat} {ys : List Value} (hsrc : SrcIs w u m ys) {N : Nat} (hN : n + m = N)
    (hgd : o.guard = none) (ho : o.op = .call { callee := .builtin .append, args := #[s, x], argTypes := #[t, t] }) (hs : a.eval s = v) (hx : a.eval x = u) (h1 : ∀ y ∈ ys, y.oneCell' = true) (hr : Room N)
    (h : ∀ p c w', w'.ownsRow 0 e 1 (.slice p N c) N (xs ++ ys) → w.grownBy w' v.ownBlock → (Value.ownBlock (.slice p N c) = v.ownBlock ∨ Value.ownBlock (.slice p N c) = some w.heap.size) →
      K (a.put o.dst (.slice p N c)) w') :
    if Region.wanted o (yielded ops a.tmps) = true then Oper.wp P o a w K Q else E := by
  subst hN
  have hw : Region.wanted o (yielded ops a.tmps) = true := by simp [Region.wanted, hgd]
  rw [if_pos hw]
  obtain ⟨p, c, w', hrun, h2, h3, h4⟩ := run_many (ty := o.type) he own hsrc h1 hr
  unfold Oper.wp
  simp only [execOp, ho, resolve, invoke, builtin, Sem.run_bind, Sem.run_pure, Result.andThen_ok, List.map_toArray, List.map_cons, List.map_nil, hs, hx, hrun]
  exact h p c w' h2 h3 h4

/-- a writer and a row of bytes, both younger than w0 -/
structure WrRow (w0 w : World) (g : Nat) (L : List Nat) (v : Value) (xs : List Nat) : Prop where
  ex : ∃ r, WrIs w g r L ∧ (∀ j, r = some j → w0.heap.size ≤ j) ∧ ∀ k, v.ownBlock = some k → k ≠ g ∧ r ≠ some k
  fr : Fr S0 w0 w
  new : w0.heap.size ≤ g
  own : w.ownsRow 0 5 1 v xs.length (u8s xs)
  fresh : Fresh w0 v
theorem WrRow.nw {w0 w : World} {g : Nat} {L : List Nat} {v : Value} {xs : List Nat} (h : WrRow w0 w g L v xs) : WrNew w0 w g L := by
  obtain ⟨r, h1, h2, -⟩ := h.ex
  exact ⟨r, h1, h.fr, h.new, h2⟩
theorem WrRow.fr0 {w0 w w' : World} {g : Nat} {L : List Nat} {v : Value} {xs : List Nat} (h : WrRow w0 w g L v xs) (hf : Fr S0 w w') : WrRow w0 w' g L v xs := by
  obtain ⟨r, h1, h2, h3⟩ := h.ex
  exact ⟨⟨r, h1.fr0 hf, h2, h3⟩, h.fr.trans0 hf, h.new, hf.owns h.own (fun _ _ h => h), h.fresh⟩
/-- a new row beside a new writer -/
theorem WrRow.ofNew {w0 w1 w : World} {g : Nat} {L : List Nat} {v : Value} {xs : List Nat} (h : WrNew w0 w1 g L) (hf : Fr S0 w1 w) (hv : RowNew w1 w v xs) : WrRow w0 w g L v xs := by
  obtain ⟨r, h1, f, hg, hr⟩ := h
  have hlt := h1.lt
  have hrl := h1.rlt
  refine ⟨⟨r, h1.fr0 hf, hr, fun k hk => ?_⟩, f.trans0 hf, hg, hv.own, fun k hk => Nat.le_trans f.size (hv.fresh k hk)⟩
  have := hv.fresh k hk
  exact ⟨by omega, fun e => by have := hrl k e; omega⟩
/-- the writer goes on -/
theorem WrRow.to {w0 w w' : World} {g : Nat} {L L' : List Nat} {v : Value} {xs : List Nat} {r : Option Nat} (hr : ∀ j, r = some j → w0.heap.size ≤ j) (hs : ∀ k, v.ownBlock = some k → k ≠ g ∧ r ≠ some k)
    (h : WrRow w0 w g L v xs) (hto : WrTo w w' g r L') : WrRow w0 w' g L' v xs := by
  obtain ⟨r2, h1, h2, h3⟩ := hto
  refine ⟨⟨r2, h1, fun j hj => ?_, fun k hk => ⟨(hs k hk).1, fun e => ?_⟩⟩, h.fr.trans h2 (fun j hj e => ?_), h.new, h2.owns h.own (fun k hk e => ?_), h.fresh⟩
  · rcases h3 with h3 | h3
    · exact hr j (h3 ▸ hj)
    · exact Nat.le_trans h.fr.size (h3 j hj)
  · rcases h3 with h3 | h3
    · exact (hs k hk).2 (h3.symm.trans e)
    · have := h3 k e
      have := (h.own.lt k hk).2
      omega
  · have := h.new
    rcases e with e | e
    · omega
    · have := hr j e; omega
  · rcases e with e | e
    · exact (hs k hk).1 e
    · exact (hs k hk).2 e
/-- the row is written over -/
theorem WrRow.set {w0 w : World} {g q c : Nat} {L : List Nat} {xs : List Nat} {N : Nat} (hN : xs.length = N) (h : WrRow w0 w g L (.slice (some ⟨q, 0, none⟩) N c) xs) (i x : Nat) :
    WrRow w0 (w.setCell ⟨q, i, none⟩ (.int .u8 (x : Nat))) g L (.slice (some ⟨q, 0, none⟩) N c) (xs.set i x) := by
  obtain ⟨r, h1, h2, h3⟩ := h.ex
  subst hN
  have hq := h3 q rfl
  have hqn := h.fresh q rfl
  have f : Fr (· = q) w (w.setCell ⟨q, i, none⟩ (.int .u8 (x : Nat))) := Fr.setCell _ _ _ _ rfl
  refine ⟨⟨r, h1.fr f (fun e => hq.1 e.symm) (fun j hj e => hq.2 (by rw [hj, e])), h2, h3⟩, h.fr.trans f (fun j hj e => by omega), h.new, ?_, h.fresh⟩
  have ho := (h.own.stored i (.int .u8 (x : Nat))).1
  have he : u8s (xs.set i x) = (u8s xs).set i (.int .u8 (x : Nat)) := by unfold u8s; rw [List.map_set]
  rw [he, List.length_set]
  exact ho
/-- the row is appended to -/
theorem WrRow.app {w0 w wa w' : World} {g : Nat} {L : List Nat} {v v' : Value} {xs zs : List Nat} (h : WrRow w0 w g L v xs) (hf : Fr S0 w wa) (hgrow : wa.grownBy w' v.ownBlock) (own : w'.ownsRow 0 5 1 v' zs.length (u8s zs))
    (hat : v'.ownBlock = v.ownBlock ∨ ∀ k, v'.ownBlock = some k → w.heap.size ≤ k) : WrRow w0 w' g L v' zs := by
  obtain ⟨r, h1, h2, h3⟩ := h.ex
  have f : Fr (fun k => v.ownBlock = some k) w w' := (hf.mono (fun _ _ h => h.elim)).trans (Fr.grown hgrow) (fun _ _ h => h)
  have hlt := h1.lt
  have hrl := h1.rlt
  refine ⟨⟨r, h1.fr f (fun e => (h3 g e).1 rfl) (fun j hj e => (h3 j e).2 hj), h2, fun k hk => ?_⟩, h.fr.trans f (fun j hj e => by have := h.fresh j e; omega), h.new, own, fun k hk => ?_⟩
  · rcases hat with e | e
    · exact h3 k (e ▸ hk)
    · have := e k hk
      exact ⟨by omega, fun e => by have := hrl k e; omega⟩
  · rcases hat with e | e
    · exact h.fresh k (e ▸ hk)
    · exact Nat.le_trans h.fr.size (e k hk)

theorem row_group {w0 w : World} {g : Nat} {L : List Nat} {v : Value} {xs : List Nat} (h : WrRow w0 w g L v xs) (n : Nat) (c : Int) (hn : n < 4294967296) (hf : fitB n c = true) (hL : L.length + 32 ≤ 1099511627776) :
    Calls Try.prog 10 #[.pointer (some ⟨g, 0, none⟩), .int .u32 n, .int .i64 c] w fun e w' => e = .returned (.int .i64 0) ∧ WrRow w0 w' g (L ++ grp n c.toNat) v xs := by
  obtain ⟨r, h1, h2, h3⟩ := h.ex
  refine (group_yes g r L n c w h1 hn hf hL).mono ?_
  rintro e w' ⟨rfl, hto⟩
  exact ⟨rfl, WrRow.to h2 h3 h hto⟩
theorem row_code {w0 w : World} {g : Nat} {L : List Nat} {v : Value} {xs : List Nat} (h : WrRow w0 w g L v xs) (n : Nat) (c : Int) (hn : n < 4294967296) (hf : fitB n c = true) (hL : L.length + 32 ≤ 1099511627776) :
    Calls Try.prog 9 #[.pointer (some ⟨g, 0, none⟩), .int .u32 n, .int .i64 c] w fun e w' => e = .returned (.int .i64 0) ∧ WrRow w0 w' g (L ++ code n c.toNat) v xs := by
  obtain ⟨r, h1, h2, h3⟩ := h.ex
  refine (code_yes g r L n c w h1 hn hf hL).mono ?_
  rintro e w' ⟨rfl, hto⟩
  exact ⟨rfl, WrRow.to h2 h3 h hto⟩
theorem row_align {w0 w : World} {g : Nat} {L : List Nat} {v : Value} {xs : List Nat} (h : WrRow w0 w g L v xs) (hL : L.length ≤ 1099511627776) :
    Calls Try.prog 14 #[.pointer (some ⟨g, 0, none⟩)] w fun e w' => e = .returned (.tuple #[]) ∧ WrRow w0 w' g (alg L) v xs := by
  obtain ⟨r, h1, h2, h3⟩ := h.ex
  refine (align_any g r L w h1 hL).mono ?_
  rintro e w' ⟨rfl, hto⟩
  exact ⟨rfl, WrRow.to h2 h3 h hto⟩
theorem row_text {w0 w : World} {g : Nat} {L : List Nat} {v : Value} {xs : List Nat} (h : WrRow w0 w g L v xs) (q : Option Addr) (d : Nat) (l : List Nat) (hl : SlI w .u8 q l) (h8 : ∀ x ∈ l, x < 256) (hq : q = none → d = 0) (hL : L.length + 8 * l.length + 8 ≤ 1099511627776) :
    Calls Try.prog 15 #[.pointer (some ⟨g, 0, none⟩), .slice q l.length d] w fun e w' => e = .returned (.tuple #[]) ∧ WrRow w0 w' g (alg L ++ bts l) v xs := by
  obtain ⟨r, h1, h2, h3⟩ := h.ex
  refine (text_any g r L q d l w h1 hl h8 hq hL).mono ?_
  rintro e w' ⟨rfl, hto⟩
  exact ⟨rfl, WrRow.to h2 h3 h hto⟩
theorem new_text {w0 w : World} {g : Nat} {L : List Nat} (h : WrNew w0 w g L) (q : Option Addr) (d : Nat) (l : List Nat) (hl : SlI w .u8 q l) (h8 : ∀ x ∈ l, x < 256) (hq : q = none → d = 0) (hL : L.length + 8 * l.length + 8 ≤ 1099511627776) :
    Calls Try.prog 15 #[.pointer (some ⟨g, 0, none⟩), .slice q l.length d] w fun e w' => e = .returned (.tuple #[]) ∧ WrNew w0 w' g (alg L ++ bts l) := by
  obtain ⟨r, h1, f, hg, hr⟩ := h
  refine (text_any g r L q d l w h1 hl h8 hq hL).mono ?_
  rintro e w' ⟨rfl, hto⟩
  exact ⟨rfl, WrNew.to f hg hr hto⟩
theorem WrNew.fr {w0 w : World} {g : Nat} {L : List Nat} (h : WrNew w0 w g L) : Fr S0 w0 w := by
  obtain ⟨r, h1, f, hg, hr⟩ := h
  exact f
theorem row_bytes {w0 w : World} {g : Nat} {L : List Nat} {v : Value} {xs : List Nat} (h : WrRow w0 w g L v xs) (hL : L.length ≤ 1099511627776) :
    Calls Try.prog 18 #[.pointer (some ⟨g, 0, none⟩)] w fun e w' => ∃ u, e = .returned u ∧ Fr S0 w w' ∧ RowNew w w' u (byt L) := by
  obtain ⟨r, h1, -⟩ := h.ex
  exact bytes_any g r L w h1 hL
theorem row_len {w0 w : World} {g : Nat} {L : List Nat} {v : Value} {xs : List Nat} (h : WrRow w0 w g L v xs) :
    Calls Try.prog 17 #[.pointer (some ⟨g, 0, none⟩)] w fun e w' => e = .returned (.int .i64 (L.length : Nat)) ∧ w = w' := by
  obtain ⟨r, h1, -⟩ := h.ex
  exact len_any g r L w h1
end Go.Proofs.Ytijcomakomihbaa
