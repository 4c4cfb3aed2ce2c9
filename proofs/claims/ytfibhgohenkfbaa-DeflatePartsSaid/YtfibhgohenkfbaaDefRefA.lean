/- A row of bits that grows; the document's codes. -/
import Derived.Test.YtfibhgohenkfbaaDefFixed
import Derived.Test.YtfibhgohenkfbaaBitRef
import Derived.Test.YtfibhgohenkfbaaHufRead
import Derived.Test.YtfibhgohenkfbaaMatRef
import Derived.IntWalk
namespace Go.Proofs.Ytfibhgohenkfbaa
open Go.RowKit

/-- append(s, x...) at a step of a region that draws its order -/
theorem step_rows {P : Program} {t e : TypeId} {z : Value} {bytes : Nat} (he : ElemOk P t e z 1 bytes) {ops : Array Oper} {o : Oper} {a : Act} {K : Act → World → Prop} {Q : Exit → Act → World → Prop} {E : Prop} {w : World} (s x : Operand)
    {v : Value} {n : Nat} {xs : List Value} (own : w.ownsRow 0 e 1 v n xs) {u : Value} {m : Nat} {ys : List Value} (hsrc : SrcIs w u m ys) {N : Nat} (hN : n + m = N)
    (hgd : o.guard = none) (ho : o.op = .call { callee := .builtin .append, args := #[s, x], argTypes := #[t, t] }) (hs : a.eval s = v) (hx : a.eval x = u) (h1 : ∀ y ∈ ys, y.oneCell' = true) (hr : Room N)
    (h : ∀ p c w', w'.ownsRow 0 e 1 (.slice p N c) N (xs ++ ys) → w.grownBy w' v.ownBlock → (Value.ownBlock (.slice p N c) = v.ownBlock ∨ Value.ownBlock (.slice p N c) = some w.heap.size) →
      K (a.put o.dst (.slice p N c)) w') :
    if Region.wanted o (yielded ops a.tmps) = true then Oper.wp P o a w K Q else E := by
  subst hN
  have hw : Region.wanted o (yielded ops a.tmps) = true := by simp [Region.wanted, hgd]
  rw [if_pos hw]
  obtain ⟨p, c, w', hrun, h2, h3, h4⟩ := run_many (ty := o.type) he own hsrc h1 hr
  unfold Oper.wp
  simp only [execOp, ho, resolve, invoke, builtin, Sem.run_bind, Sem.run_pure, Result.andThen_ok, List.map_toArray, List.map_cons, List.map_nil, hs, hx, hrun]
  exact h p c w' h2 h3 h4

/-- a row of bytes that grows; what else stood in w3 is as it was -/
structure Grow (w3 w : World) (gb : Nat) (v : Value) (n : Nat) (L : List Nat) : Prop where
  own : w.ownsRow 0 5 1 v n (u8s L)
  fr : Fr (· = gb) w3 w
  wh : ∀ k, v.ownBlock = some k → k = gb ∨ w3.heap.size ≤ k
theorem Grow.fr0 {w3 w w' : World} {gb : Nat} {v : Value} {n : Nat} {L : List Nat} (h : Grow w3 w gb v n L) (f : Fr S0 w w') : Grow w3 w' gb v n L := ⟨f.owns h.own (fun _ _ h => h), h.fr.trans0 f, h.wh⟩
theorem Grow.app {w3 w w' : World} {gb : Nat} {v : Value} {n N : Nat} {L M : List Nat} {p : Option Addr} {c : Nat} (h : Grow w3 w gb v n L) (own : w'.ownsRow 0 5 1 (.slice p N c) N (u8s L ++ u8s M)) (g : w.grownBy w' v.ownBlock) (at' : Value.ownBlock (.slice p N c) = v.ownBlock ∨ Value.ownBlock (.slice p N c) = some w.heap.size) : Grow w3 w' gb (.slice p N c) N (L ++ M) := by
  refine ⟨by rw [← u8s_append]; exact own, h.fr.trans (Fr.grown g) fun j hj e => ?_, fun k hk => ?_⟩
  · rcases h.wh j e with q | q
    · exact q
    · omega
  · rcases at' with q | q
    · exact h.wh k (q ▸ hk)
    · rw [q] at hk
      cases hk
      exact .inr h.fr.size

theorem rb_any (c n : Nat) (w : World) (hc : c < 4294967296) (hn : n ≤ 15) :
    Calls Try.prog 29 #[.int .u32 c, .int .u8 n] w fun e w' => ∃ p d, e = .returned (.slice p n d) ∧ Fr S0 w w' ∧ SrcIs w' (.slice p n d) n (u8s (code c n)) := by
  refine (rbits5_any c n w hc hn).mono ?_
  rintro e w' ⟨v, rfl, f, hv⟩
  obtain ⟨p, d, rfl, -, -, -⟩ := slForm hv.own
  have h := SrcIs.ofOwns hv.own
  rw [code_length] at h ⊢
  exact ⟨p, d, rfl, f, h⟩
theorem rg_any (n c : Nat) (w : World) (hn : n < 4294967296) (hc : c ≤ 32) :
    Calls Try.prog 30 #[.int .u32 n, .int .i64 c] w fun e w' => ∃ p d, e = .returned (.slice p c d) ∧ Fr S0 w w' ∧ SrcIs w' (.slice p c d) c (u8s (grp n c)) := by
  refine (rgrp_any n c w hn hc).mono ?_
  rintro e w' ⟨v, rfl, f, hv⟩
  obtain ⟨p, d, rfl, -, -, -⟩ := slForm hv.own
  have h := SrcIs.ofOwns hv.own
  rw [grp_length] at h ⊢
  exact ⟨p, d, rfl, f, h⟩
theorem fx_cod (i : Nat) (h : i < 288) : cod fixLs i < 512 := by
  have key : ∀ k : Fin 288, cod fixLs k.val < 512 := by decide +kernel
  exact key ⟨i, h⟩
theorem fv_cod (i : Nat) (h : i < 32) : cod fives i = i := by
  have key : ∀ k : Fin 32, cod fives k.val = k.val := by decide +kernel
  exact key ⟨i, h⟩

theorem u8s_at (l : List Nat) (i : Nat) (h : i < l.length) : (u8s l)[i]? = some (.int .u8 (len l i : Nat)) := by
  rw [len_get l i h]; simp [u8s, h]
theorem u32s_at (l : List Nat) (i : Nat) (h : i < l.length) : (u32s (cods l))[i]? = some (.int .u32 (cod l i : Nat)) := by
  have h2 : i < (cods l).length := by rw [cods_length]; exact h
  have : (u32s (cods l))[i]? = some (.int .u32 ((cods l)[i] : Nat)) := by simp [u32s, h2]
  rw [this, cods_get]
theorem own_row3 (w : World) (x y z : Value) (t : TypeId) : (w.alloc (.cells #[x, y, z] t)).ownsRow 0 t 1 (.slice (some ⟨w.heap.size, 0, none⟩) 3 3) 3 [x, y, z] :=
  ⟨rfl, .inr ⟨w.heap.size, 3, #[x, y, z], rfl, Nat.zero_le _, heap_alloc_new w _, Nat.le_refl _, by decide, rfl, rfl⟩⟩
end Go.Proofs.Ytfibhgohenkfbaa
