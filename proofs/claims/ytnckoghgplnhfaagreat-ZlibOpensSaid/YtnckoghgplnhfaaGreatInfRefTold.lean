/- What the reference's stream tells grows. -/
import Derived.Test.YtnckoghgplnhfaaGreatInfRefSym
namespace Go.Proofs.YtnckoghgplnhfaaGreat
open Go.RowKit

section
variable {w : World} {g : Nat} {pb : Option Addr} {cb : Nat} {t : Option Nat} {b : List Nat} {k lim : Nat} {T : List Nat} {E : Nat}
/-- behind an append to what was told -/
theorem RfIs.push {w1 : World} {p p1 : Option Addr} {c c1 N x : Nat} {o : Obj} (h : RfIs w g pb cb t b k lim T E) (hN : T.length + 1 = N) (hb : w.heap[g]? = some (.cells #[.slice pb (8 * b.length) cb, .int .i64 (k : Nat), .slice p T.length c, .int .i64 (lim : Nat), .int .i64 (E : Nat)] 65 (0, 0)))
    (ht : Value.ownBlock (.slice p T.length c) = t) (hfit : N ≤ lim) (hpl : ∀ a, pb = some a → a.block < w.heap.size)
    (own : w1.ownsRow 0 5 1 (.slice p1 N c1) N (u8s T ++ u8s [x])) (hgrow : (w.alloc o).grownBy w1 (Value.ownBlock (.slice p T.length c))) (hat : ∀ j, Value.ownBlock (.slice p1 N c1) = some j → Value.ownBlock (.slice p T.length c) = some j ∨ w.heap.size ≤ j)
    (heq : Value.ownBlock (.slice p1 N c1) = t ∨ ∀ j, Value.ownBlock (.slice p1 N c1) = some j → w.heap.size ≤ j) :
    (∀ i, w1.frozen? ⟨g, i, none⟩ = false) ∧ w1.cell? ⟨g, 2, none⟩ = some (.slice p T.length c) ∧ RfTo w (w1.setCell ⟨g, 2, none⟩ (.slice p1 N c1)) g pb cb t b k lim (T ++ [x]) E := by
  rw [ht] at hgrow hat
  have hg := h.lt
  have f : Fr (fun k => t = some k) w w1 := ((Fr.alloc S0 w o).mono (fun _ _ h => h.elim)).trans (Fr.grown hgrow) (fun _ _ h => h)
  have hb1 := f.row hb h.ap1
  have hlen : (T ++ [x]).length = N := by simp; omega
  have htn : Value.ownBlock (.slice p1 N c1) ≠ some g := fun e => by
    rcases hat g e with e | e
    · exact h.ap1 e
    · omega
  have htp : ∀ a, pb = some a → Value.ownBlock (.slice p1 N c1) ≠ some a.block := fun a ha e => by
    rcases hat _ e with e | e
    · exact (h.ap2 a ha).2 e
    · have := hpl a ha; omega
  refine ⟨fun i => by simp [World.frozen?, hb1], by simp [World.cell?, hb1], Value.ownBlock (.slice p1 N c1), ⟨⟨p1, c1, ?_, ?_, ?_⟩, ?_, h.pbz, h.cap, h.capm, h.few, h.ins, ?_, htn, fun a ha => ⟨(h.ap2 a ha).1, htp a ha⟩⟩, ?_, heq⟩
  · rw [heap_setCell_same w1 g 2 _ _ _ hb1, hlen]; rfl
  · rw [hlen, ← u8s_append]
    exact (Fr.setCell (· = g) w1 ⟨g, 2, none⟩ _ rfl).owns own (fun k hk e => htn (by rw [hk, e]))
  · rw [hlen]
  · exact (h.bits.fr f (fun _ a ha => (h.ap2 a ha).2)).fr (Fr.setCell (· = g) w1 ⟨g, 2, none⟩ _ rfl) (fun _ a ha => (h.ap2 a ha).1)
  · rw [hlen]; exact ⟨hfit, h.lims.2⟩
  · exact (f.mono (fun j _ e => .inr e)).trans (Fr.setCell (· = g) w1 ⟨g, 2, none⟩ (.slice p1 N c1) rfl) (fun j _ e => .inl e)
end
/-- can't lengths be a set's -/
theorem sbad_any (p : Option Addr) (d : Nat) (l : List Nat) (w : World) (hl : SlI w .u8 p l) (h15 : ∀ x ∈ l, x ≤ 15) (hL : l.length ≤ 320) :
    Calls Tryz.prog 74 #[.slice p l.length d] w fun e w' => e = .returned (.bool (decide (¬ okl l))) ∧ w = w' := by
  have HC := Lib.hid (rcheck_any p d l w hl (fun x hx => by have := h15 x hx; omega) (by omega))
  have hnl : ¬ (320 < l.length ∨ long l = true) := by
    rw [long_none h15]
    rintro (h | h)
    · omega
    · cases h
  by_cases ok : okl l
  · have hb : decide (¬ okl l) = false := decide_eq_false (fun h => h ok)
    have K := Lib.hid (ck_ok hnl ok).1
    rw [K.out] at HC
    rw [hb]
    clear hl h15 hL hnl ok K
    go_enter Tryz.func74, Tryz.ntmps74
    go_wp2_with fail
    refine HC.out.mono ?_
    rintro e w' ⟨rfl, rfl⟩
    go_wp2_with fail
    go_ret
    exact ⟨rfl, rfl⟩
  · have hb : decide (¬ okl l) = true := decide_eq_true ok
    have K := Lib.hid (ck_no hnl ok).1
    rw [K.out] at HC
    rw [hb]
    clear hl h15 hL hnl ok K
    go_enter Tryz.func74, Tryz.ntmps74
    go_wp2_with fail
    refine HC.out.mono ?_
    rintro e w' ⟨rfl, rfl⟩
    go_wp2_with fail
    go_ret
    exact ⟨rfl, rfl⟩
end Go.Proofs.YtnckoghgplnhfaaGreat
