/- How the reference's calls end that tell. -/
import Derived.Test.YtnckoghgplnhfaaGreatInfRefLens
import Derived.Test.YtnckoghgplnhfaaGreatInfRefTold
import Derived.Test.YtnckoghgplnhfaaGreatInfTwo
namespace Go.Proofs.YtnckoghgplnhfaaGreat
open Go.RowKit

section
variable {w wr w' : World} {g : Nat} {pb : Option Addr} {cb : Nat} {t : Option Nat} {b : List Nat} {k lim : Nat} {T : List Nat} {E : Nat}
theorem RfIs.push1 {w1 : World} {p : Option Addr} {c c1 q N x : Nat} {o : Obj} (h : RfIs w g pb cb t b k lim T E) (hN : T.length + 1 = N) (hb : w.heap[g]? = some (.cells #[.slice pb (8 * b.length) cb, .int .i64 (k : Nat), .slice p T.length c, .int .i64 (lim : Nat), .int .i64 (E : Nat)] 65 (0, 0)))
    (ht : Value.ownBlock (.slice p T.length c) = t) (hfit : N ≤ lim) (hpl : ∀ a, pb = some a → a.block < w.heap.size)
    (own : w1.ownsRow 0 5 1 (.slice (some ⟨q, 0, none⟩) N c1) N (u8s T ++ u8s [x])) (hgrow : (w.alloc o).grownBy w1 (Value.ownBlock (.slice p T.length c))) (hat : Value.ownBlock (.slice p T.length c) = some q ∨ q = w.heap.size + 1) :
    (∀ i, w1.frozen? ⟨g, i, none⟩ = false) ∧ w1.cell? ⟨g, 2, none⟩ = some (.slice p T.length c) ∧ RfTo w (w1.setCell ⟨g, 2, none⟩ (.slice (some ⟨q, 0, none⟩) N c1)) g pb cb t b k lim (T ++ [x]) E := by
  refine h.push hN hb ht hfit hpl own hgrow (fun j hj => ?_) ?_
  · simp only [Value.ownBlock, Option.some.injEq] at hj
    subst hj
    rcases hat with e | e
    · exact .inl e
    · exact .inr (by omega)
  · rcases hat with e | e
    · exact .inl (by rw [← ht, e]; rfl)
    · refine .inr fun j hj => ?_
      simp only [Value.ownBlock, Option.some.injEq] at hj
      omega
theorem base_small : ∀ s : Nat, 257 ≤ s → s ≤ 285 → 3 ≤ baseN s ∧ baseN s ≤ 258 ∧ baseC s ≤ 5 := by
  have h : ∀ s, s < 286 → 257 ≤ s → 3 ≤ baseN s ∧ baseN s ≤ 258 ∧ baseC s ≤ 5 := by decide +kernel
  exact fun s h1 h2 => h s (by omega) h1
theorem RfIs.atOf (h : RfIs w g pb cb t b k lim T E) : Go.Proofs.YtnckoghgplnhfaaGreat.atOf w g = k := by
  unfold Go.Proofs.YtnckoghgplnhfaaGreat.atOf
  rw [h.c1]
  rfl
/-- how a call ends that tells -/
def RfOut (x : Res (List Nat)) (w w' : World) (g : Nat) (pb : Option Addr) (cb : Nat) (t : Option Nat) (b : List Nat) (lim : Nat) (e : Ending) : Prop :=
  e = .returned (.tuple #[]) ∧ match x with
  | .ok T j => RfTo w w' g pb cb t b j lim T 0
  | .no m => ∃ T j, RfTo w w' g pb cb t b j lim T m
theorem RfOut.ok {x : Res (List Nat)} {j : Nat} (h : x = .ok T j) (hk : RfTo w w' g pb cb t b j lim T 0) : RfOut x w w' g pb cb t b lim (.returned (.tuple #[])) := by
  subst h; exact ⟨rfl, hk⟩
theorem RfOut.no {x : Res (List Nat)} {m j : Nat} (h : x = .no m) (hk : RfTo w w' g pb cb t b j lim T m) : RfOut x w w' g pb cb t b lim (.returned (.tuple #[])) := by
  subst h; exact ⟨rfl, T, j, hk⟩
/-- a call that writes the stream's own cells alone -/
theorem RfTo.step {k1 E1 : Nat} {T1 : List Nat} {t1 : Option Nat} (hf : Fr (RfB g t) w wr) (ht : t1 = t ∨ ∀ j, t1 = some j → w.heap.size ≤ j) (hs : RfIs w' g pb cb t1 b k1 lim T1 E1) (h : Fr (· = g) wr w') : RfTo w w' g pb cb t b k1 lim T1 E1 ∧ Fr (RfB g t) w w' :=
  ⟨RfTo.trans hf ht ⟨t1, hs, h.mono (fun _ _ e => .inl e), .inl rfl⟩, hf.trans h (fun _ _ e => .inl e)⟩
end
end Go.Proofs.YtnckoghgplnhfaaGreat
