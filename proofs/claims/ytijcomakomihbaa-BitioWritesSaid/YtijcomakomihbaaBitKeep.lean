/- A writer beside a row of bytes of the call's own and a block that is kept. -/
import Derived.Test.YtijcomakomihbaaBitRow
namespace Go.Proofs.Ytijcomakomihbaa
open Go.RowKit

/-- a writer and a row of bytes, both younger than w0, and the block gx, which holds o -/
structure WrK (w0 w : World) (g : Nat) (L : List Nat) (v : Value) (xs : List Nat) (gx : Nat) (o : Obj) : Prop where
  ex : ∃ r, WrIs w g r L ∧ (∀ j, r = some j → w0.heap.size ≤ j) ∧ (∀ k, v.ownBlock = some k → k ≠ g ∧ r ≠ some k) ∧ r ≠ some gx
  fr : Fr S0 w0 w
  new : w0.heap.size ≤ g
  own : w.ownsRow 0 5 1 v xs.length (u8s xs)
  fresh : Fresh w0 v
  blk : w.heap[gx]? = some o
  ng : gx ≠ g
  nv : v.ownBlock ≠ some gx
theorem WrK.row {w0 w : World} {g : Nat} {L : List Nat} {v : Value} {xs : List Nat} {gx : Nat} {o : Obj} (h : WrK w0 w g L v xs gx o) : WrRow w0 w g L v xs := by
  obtain ⟨r, h1, h2, h3, -⟩ := h.ex
  exact ⟨⟨r, h1, h2, h3⟩, h.fr, h.new, h.own, h.fresh⟩
theorem WrK.of {w0 w : World} {g : Nat} {L : List Nat} {v : Value} {xs : List Nat} (h : WrRow w0 w g L v xs) (cs : Array Value) (t : TypeId) : WrK w0 (w.alloc (.cells cs t)) g L v xs w.heap.size (.cells cs t) := by
  have hk := h.fr0 (Fr.alloc S0 w (.cells cs t))
  obtain ⟨r, h1, h2, h3⟩ := h.ex
  have hlt := h1.lt
  refine ⟨⟨r, h1.fr0 (Fr.alloc _ _ _), h2, h3, fun e => ?_⟩, hk.fr, hk.new, hk.own, hk.fresh, heap_alloc_new w _, by omega, fun e => ?_⟩
  · have := h1.rlt _ e; omega
  · have := (h.own.lt _ e).2; omega
theorem WrK.fr0 {w0 w w' : World} {g : Nat} {L : List Nat} {v : Value} {xs : List Nat} {gx : Nat} {o : Obj} (h : WrK w0 w g L v xs gx o) (hf : Fr S0 w w') : WrK w0 w' g L v xs gx o := by
  obtain ⟨r, h1, h2, h3⟩ := h.ex
  exact ⟨⟨r, h1.fr0 hf, h2, h3⟩, h.fr.trans0 hf, h.new, hf.owns h.own (fun _ _ h => h), h.fresh, hf.row h.blk (fun h => h), h.ng, h.nv⟩
theorem WrK.to {w0 w w' : World} {g : Nat} {L L' : List Nat} {v : Value} {xs : List Nat} {gx : Nat} {o : Obj} {r : Option Nat} (hr : ∀ j, r = some j → w0.heap.size ≤ j) (hs : ∀ k, v.ownBlock = some k → k ≠ g ∧ r ≠ some k) (hx : r ≠ some gx)
    (h : WrK w0 w g L v xs gx o) (hto : WrTo w w' g r L') : WrK w0 w' g L' v xs gx o := by
  obtain ⟨r2, h1, h2, h3⟩ := hto
  have hgx := (Array.getElem?_eq_some_iff.1 h.blk).1
  refine ⟨⟨r2, h1, fun j hj => ?_, fun k hk => ⟨(hs k hk).1, fun e => ?_⟩, fun e => ?_⟩, h.fr.trans h2 (fun j hj e => ?_), h.new, h2.owns h.own (fun k hk e => ?_), h.fresh, h2.row h.blk (fun e => ?_), h.ng, h.nv⟩
  · rcases h3 with h3 | h3
    · exact hr j (h3 ▸ hj)
    · exact Nat.le_trans h.fr.size (h3 j hj)
  · rcases h3 with h3 | h3
    · exact (hs k hk).2 (h3.symm.trans e)
    · have := h3 k e
      have := (h.own.lt k hk).2
      omega
  · rcases h3 with h3 | h3
    · exact hx (h3.symm.trans e)
    · have := h3 gx e; omega
  · have := h.new
    rcases e with e | e
    · omega
    · have := hr j e; omega
  · rcases e with e | e
    · exact (hs k hk).1 e
    · exact (hs k hk).2 e
  · rcases e with e | e
    · exact h.ng e
    · exact hx e
/-- the row is appended to -/
theorem WrK.app {w0 w wa w' : World} {g : Nat} {L : List Nat} {v v' : Value} {xs zs : List Nat} {gx : Nat} {o : Obj} (h : WrK w0 w g L v xs gx o) (hf : Fr S0 w wa) (hgrow : wa.grownBy w' v.ownBlock) (own : w'.ownsRow 0 5 1 v' zs.length (u8s zs))
    (hat : v'.ownBlock = v.ownBlock ∨ ∀ k, v'.ownBlock = some k → w.heap.size ≤ k) : WrK w0 w' g L v' zs gx o := by
  have hrow := h.row.app hf hgrow own hat
  obtain ⟨r, h1, h2, h3, h4⟩ := h.ex
  have f : Fr (fun k => v.ownBlock = some k) w w' := (hf.mono (fun _ _ h => h.elim)).trans (Fr.grown hgrow) (fun _ _ h => h)
  have hlt := h1.lt
  have hrl := h1.rlt
  have hgx := (Array.getElem?_eq_some_iff.1 h.blk).1
  refine ⟨⟨r, h1.fr f (fun e => (h3 g e).1 rfl) (fun j hj e => (h3 j e).2 hj), h2, fun k hk => ?_, h4⟩, hrow.fr, h.new, own, hrow.fresh, f.row h.blk h.nv, h.ng, fun e => ?_⟩
  · rcases hat with e | e
    · exact h3 k (e ▸ hk)
    · have := e k hk
      exact ⟨by omega, fun e => by have := hrl k e; omega⟩
  · rcases hat with e2 | e2
    · exact h.nv (e2.symm.trans e)
    · have := e2 gx e; omega

section
variable {w0 w : World} {g : Nat} {L : List Nat} {v : Value} {xs : List Nat} {gx : Nat} {o : Obj}
theorem k_group (h : WrK w0 w g L v xs gx o) (n : Nat) (c : Int) (hn : n < 4294967296) (hf : fitB n c = true) (hL : L.length + 32 ≤ 1099511627776) :
    Calls Try.prog 10 #[.pointer (some ⟨g, 0, none⟩), .int .u32 n, .int .i64 c] w fun e w' => e = .returned (.int .i64 0) ∧ WrK w0 w' g (L ++ grp n c.toNat) v xs gx o := by
  obtain ⟨r, h1, h2, h3, h4⟩ := h.ex
  refine (group_yes g r L n c w h1 hn hf hL).mono ?_
  rintro e w' ⟨rfl, hto⟩
  exact ⟨rfl, WrK.to h2 h3 h4 h hto⟩
theorem k_code (h : WrK w0 w g L v xs gx o) (n : Nat) (c : Int) (hn : n < 4294967296) (hf : fitB n c = true) (hL : L.length + 32 ≤ 1099511627776) :
    Calls Try.prog 9 #[.pointer (some ⟨g, 0, none⟩), .int .u32 n, .int .i64 c] w fun e w' => e = .returned (.int .i64 0) ∧ WrK w0 w' g (L ++ code n c.toNat) v xs gx o := by
  obtain ⟨r, h1, h2, h3, h4⟩ := h.ex
  refine (code_yes g r L n c w h1 hn hf hL).mono ?_
  rintro e w' ⟨rfl, hto⟩
  exact ⟨rfl, WrK.to h2 h3 h4 h hto⟩
theorem k_align (h : WrK w0 w g L v xs gx o) (hL : L.length ≤ 1099511627776) :
    Calls Try.prog 14 #[.pointer (some ⟨g, 0, none⟩)] w fun e w' => e = .returned (.tuple #[]) ∧ WrK w0 w' g (alg L) v xs gx o := by
  obtain ⟨r, h1, h2, h3, h4⟩ := h.ex
  refine (align_any g r L w h1 hL).mono ?_
  rintro e w' ⟨rfl, hto⟩
  exact ⟨rfl, WrK.to h2 h3 h4 h hto⟩
theorem k_text (h : WrK w0 w g L v xs gx o) (q : Option Addr) (d : Nat) (l : List Nat) (hl : SlI w .u8 q l) (h8 : ∀ x ∈ l, x < 256) (hq : q = none → d = 0) (hL : L.length + 8 * l.length + 8 ≤ 1099511627776) :
    Calls Try.prog 15 #[.pointer (some ⟨g, 0, none⟩), .slice q l.length d] w fun e w' => e = .returned (.tuple #[]) ∧ WrK w0 w' g (alg L ++ bts l) v xs gx o := by
  obtain ⟨r, h1, h2, h3, h4⟩ := h.ex
  refine (text_any g r L q d l w h1 hl h8 hq hL).mono ?_
  rintro e w' ⟨rfl, hto⟩
  exact ⟨rfl, WrK.to h2 h3 h4 h hto⟩
end
end Go.Proofs.Ytijcomakomihbaa
