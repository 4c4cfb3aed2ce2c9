/- Four stores that a law makes. -/
import Derived.Test.YtocdjklgfmkbfaaDnLawOrder
import Derived.Test.YtocdjklgfmkbfaaDnTake2
namespace Go.Proofs.Ytocdjklgfmkbfaa
open Go.RowKit

theorem Near.take {l q : List Pr} {X Y : Nat} (h : Near l X) (k : Near q Y) (hXY : X + Y ≤ 4611686018427387904) :
    takeE l q = 0 ∧ Near (takeL l q) (X + Y) ∧ ∀ j, cnt (takeL l q) j = cnt l j + cnt q j := by
  have ht := h.tot
  have kt := k.tot
  have hE : takeE l q = 0 := by
    unfold takeE
    by_cases hq : q = []
    · rw [if_pos hq]
    · rw [if_neg hq]
      have hw : wids l q ≤ 8192 := by
        by_cases hl : l = []
        · subst hl; rw [wids_nil]; decide
        · obtain ⟨a, b, e⟩ := ends_nil_or h.srt h.pos hl
          obtain ⟨c, d, f⟩ := ends_nil_or k.srt k.pos hq
          obtain ⟨x, hx, ex⟩ := cnt_in e.fst
          obtain ⟨y, hy, ey⟩ := cnt_in e.lst
          obtain ⟨u, hu, eu⟩ := cnt_in f.fst
          obtain ⟨v, hv, ev⟩ := cnt_in f.lst
          have := h.key x hx
          have := h.key y hy
          have := k.key u hu
          have := k.key v hv
          rw [wids_ends h.srt k.srt e f]
          omega
      rw [if_neg (by omega), if_neg (by omega)]
  refine ⟨hE, ?_⟩
  unfold takeL
  rw [hE, if_pos rfl]
  refine ⟨⟨putAll_srt h.srt q, putAll_pos h.pos k.pos, fun x hx => ?_, by rw [tot_putAll]; omega⟩, fun j => cnt_putAll q l j h.srt k.srt⟩
  rcases putAll_mem q l x hx with ⟨y, hy, e⟩ | hx
  · have := k.key y hy
    omega
  · exact h.key x hx

/-- four stores of four colours, new to w -/
structure Quad (w W : World) (g1 g2 g3 g4 : Nat) (l1 l2 l3 l4 : List Pr) : Prop where
  ex : ∃ own h1 h2 h3 h4, Cl own 0 w W g1 h1 l1 ∧ Cl own 1 w W g2 h2 l2 ∧ Cl own 2 w W g3 h3 l3 ∧ Cl own 3 w W g4 h4 l4
  fr : Fr S0 w W
section
variable {w W W' : World} {g1 g2 g3 g4 : Nat} {l1 l2 l3 l4 : List Pr}
theorem Quad.fr0 (d : Quad w W g1 g2 g3 g4 l1 l2 l3 l4) (f : Fr S0 W W') : Quad w W' g1 g2 g3 g4 l1 l2 l3 l4 :=
  let ⟨own, h1, h2, h3, h4, c1, c2, c3, c4⟩ := d.ex; ⟨⟨own, h1, h2, h3, h4, c1.fr0 f, c2.fr0 f, c3.fr0 f, c4.fr0 f⟩, d.fr.trans0 f⟩
theorem Quad.add1 (d : Quad w W g1 g2 g3 g4 l1 l2 l3 l4) (k : Int) (n : Nat) (l' : List Pr) (hn : n < 18446744073709551616) (hl : addL l1 k n = l') :
    Calls Try.prog 8 #[.pointer (some ⟨g1, 0, none⟩), .int .i64 k, .int .u64 (n : Nat)] W fun e w' => (∃ E : Nat, e = .returned (.int .i64 (E : Nat))) ∧ Quad w w' g1 g2 g3 g4 l' l2 l3 l4 := by
  obtain ⟨⟨own, h1, h2, h3, h4, c1, c2, c3, c4⟩, f⟩ := d
  exact (c1.add k n _ l' hn rfl hl).mono fun e w' he => let ⟨h', t⟩ := he.2; ⟨⟨_, he.1⟩, ⟨⟨_, h', h2, h3, h4, c1.turn t, c2.other c1 t (by decide), c3.other c1 t (by decide), c4.other c1 t (by decide)⟩, c1.frame t f⟩⟩
theorem Quad.pairs1 (d : Quad w W g1 g2 g3 g4 l1 l2 l3 l4) : Calls Try.prog 18 #[.pointer (some ⟨g1, 0, none⟩)] W fun e w' => ∃ p c n, e = .returned (.slice p n c) ∧ PrI w' p l1 ∧ l1.length = n ∧ Fr S0 W w' := by
  obtain ⟨⟨own, h1, h2, h3, h4, c1, c2, c3, c4⟩, f⟩ := d
  exact tells c1.is
theorem Quad.add2 (d : Quad w W g1 g2 g3 g4 l1 l2 l3 l4) (k : Int) (n : Nat) (l' : List Pr) (hn : n < 18446744073709551616) (hl : addL l2 k n = l') :
    Calls Try.prog 8 #[.pointer (some ⟨g2, 0, none⟩), .int .i64 k, .int .u64 (n : Nat)] W fun e w' => (∃ E : Nat, e = .returned (.int .i64 (E : Nat))) ∧ Quad w w' g1 g2 g3 g4 l1 l' l3 l4 := by
  obtain ⟨⟨own, h1, h2, h3, h4, c1, c2, c3, c4⟩, f⟩ := d
  exact (c2.add k n _ l' hn rfl hl).mono fun e w' he => let ⟨h', t⟩ := he.2; ⟨⟨_, he.1⟩, ⟨⟨_, h1, h', h3, h4, c1.other c2 t (by decide), c2.turn t, c3.other c2 t (by decide), c4.other c2 t (by decide)⟩, c2.frame t f⟩⟩
theorem Quad.pairs2 (d : Quad w W g1 g2 g3 g4 l1 l2 l3 l4) : Calls Try.prog 18 #[.pointer (some ⟨g2, 0, none⟩)] W fun e w' => ∃ p c n, e = .returned (.slice p n c) ∧ PrI w' p l2 ∧ l2.length = n ∧ Fr S0 W w' := by
  obtain ⟨⟨own, h1, h2, h3, h4, c1, c2, c3, c4⟩, f⟩ := d
  exact tells c2.is
theorem Quad.add3 (d : Quad w W g1 g2 g3 g4 l1 l2 l3 l4) (k : Int) (n : Nat) (l' : List Pr) (hn : n < 18446744073709551616) (hl : addL l3 k n = l') :
    Calls Try.prog 8 #[.pointer (some ⟨g3, 0, none⟩), .int .i64 k, .int .u64 (n : Nat)] W fun e w' => (∃ E : Nat, e = .returned (.int .i64 (E : Nat))) ∧ Quad w w' g1 g2 g3 g4 l1 l2 l' l4 := by
  obtain ⟨⟨own, h1, h2, h3, h4, c1, c2, c3, c4⟩, f⟩ := d
  exact (c3.add k n _ l' hn rfl hl).mono fun e w' he => let ⟨h', t⟩ := he.2; ⟨⟨_, he.1⟩, ⟨⟨_, h1, h2, h', h4, c1.other c3 t (by decide), c2.other c3 t (by decide), c3.turn t, c4.other c3 t (by decide)⟩, c3.frame t f⟩⟩
theorem Quad.pairs3 (d : Quad w W g1 g2 g3 g4 l1 l2 l3 l4) : Calls Try.prog 18 #[.pointer (some ⟨g3, 0, none⟩)] W fun e w' => ∃ p c n, e = .returned (.slice p n c) ∧ PrI w' p l3 ∧ l3.length = n ∧ Fr S0 W w' := by
  obtain ⟨⟨own, h1, h2, h3, h4, c1, c2, c3, c4⟩, f⟩ := d
  exact tells c3.is
theorem Quad.add4 (d : Quad w W g1 g2 g3 g4 l1 l2 l3 l4) (k : Int) (n : Nat) (l' : List Pr) (hn : n < 18446744073709551616) (hl : addL l4 k n = l') :
    Calls Try.prog 8 #[.pointer (some ⟨g4, 0, none⟩), .int .i64 k, .int .u64 (n : Nat)] W fun e w' => (∃ E : Nat, e = .returned (.int .i64 (E : Nat))) ∧ Quad w w' g1 g2 g3 g4 l1 l2 l3 l' := by
  obtain ⟨⟨own, h1, h2, h3, h4, c1, c2, c3, c4⟩, f⟩ := d
  exact (c4.add k n _ l' hn rfl hl).mono fun e w' he => let ⟨h', t⟩ := he.2; ⟨⟨_, he.1⟩, ⟨⟨_, h1, h2, h3, h', c1.other c4 t (by decide), c2.other c4 t (by decide), c3.other c4 t (by decide), c4.turn t⟩, c4.frame t f⟩⟩
theorem Quad.pairs4 (d : Quad w W g1 g2 g3 g4 l1 l2 l3 l4) : Calls Try.prog 18 #[.pointer (some ⟨g4, 0, none⟩)] W fun e w' => ∃ p c n, e = .returned (.slice p n c) ∧ PrI w' p l4 ∧ l4.length = n ∧ Fr S0 W w' := by
  obtain ⟨⟨own, h1, h2, h3, h4, c1, c2, c3, c4⟩, f⟩ := d
  exact tells c4.is
theorem Quad.take1 (d : Quad w W g1 g2 g3 g4 l1 l2 l3 l4) (l' : List Pr) (hE : takeE l1 l2 = 0) (hl : takeL l1 l2 = l') :
    Calls Try.prog 10 #[.pointer (some ⟨g1, 0, none⟩), .pointer (some ⟨g2, 0, none⟩)] W fun e w' => e = .returned (.int .i64 0) ∧ Quad w w' g1 g2 g3 g4 l' l2 l3 l4 := by
  obtain ⟨⟨own, h1, h2, h3, h4, c1, c2, c3, c4⟩, f⟩ := d
  obtain ⟨e1, e2, e3, e4⟩ := c1.apart c2 (by decide)
  have := take_other g1 h1 g2 h2 l1 l2 W c1.is c2.is e1 e2 e3 e4
  rw [hE, hl] at this
  exact this.mono fun e w' he => let ⟨h', t⟩ := he.2; ⟨he.1, ⟨⟨_, h', h2, h3, h4, c1.turn t, c2.other c1 t (by decide), c3.other c1 t (by decide), c4.other c1 t (by decide)⟩, c1.frame t f⟩⟩
theorem Quad.take2 (d : Quad w W g1 g2 g3 g4 l1 l2 l3 l4) (l' : List Pr) (hE : takeE l2 l3 = 0) (hl : takeL l2 l3 = l') :
    Calls Try.prog 10 #[.pointer (some ⟨g2, 0, none⟩), .pointer (some ⟨g3, 0, none⟩)] W fun e w' => e = .returned (.int .i64 0) ∧ Quad w w' g1 g2 g3 g4 l1 l' l3 l4 := by
  obtain ⟨⟨own, h1, h2, h3, h4, c1, c2, c3, c4⟩, f⟩ := d
  obtain ⟨e1, e2, e3, e4⟩ := c2.apart c3 (by decide)
  have := take_other g2 h2 g3 h3 l2 l3 W c2.is c3.is e1 e2 e3 e4
  rw [hE, hl] at this
  exact this.mono fun e w' he => let ⟨h', t⟩ := he.2; ⟨he.1, ⟨⟨_, h1, h', h3, h4, c1.other c2 t (by decide), c2.turn t, c3.other c2 t (by decide), c4.other c2 t (by decide)⟩, c2.frame t f⟩⟩
theorem Quad.pairs2N (d : Quad w W g1 g2 g3 g4 l1 l2 l3 l4) : Calls Try.prog 18 #[.pointer (some ⟨g2, 0, none⟩)] W fun e w' => ∃ p c n, e = .returned (.slice p n c) ∧ PrI w' p l2 ∧ l2.length = n ∧ Fr S0 W w' ∧ ∀ a, p = some a → W.heap.size ≤ a.block := by
  obtain ⟨⟨own, h1, h2, h3, h4, c1, c2, c3, c4⟩, f⟩ := d
  exact (pairs_any g2 h2 l2 W c2.is).mono fun _ _ he => let ⟨p, c, n, e, hp⟩ := he; ⟨p, c, n, e, hp.pri (by have := c2.is.ok.len; have := hp.len; omega), hp.len, hp.fr, hp.fresh⟩
theorem Quad.take1L {W0 : World} {p : Option Addr} {M : List Pr} (d : Quad w W0 g1 g2 g3 g4 l1 l2 l3 l4) (f : Fr S0 W0 W) (i : PrI W p M) (hp : ∀ a, p = some a → W0.heap.size ≤ a.block) (l' : List Pr) (hE : takeE l1 l2 = 0) (hl : takeL l1 l2 = l') :
    Calls Try.prog 10 #[.pointer (some ⟨g1, 0, none⟩), .pointer (some ⟨g2, 0, none⟩)] W fun e w' => e = .returned (.int .i64 0) ∧ Quad w w' g1 g2 g3 g4 l' l2 l3 l4 ∧ PrI w' p M := by
  obtain ⟨⟨own, h1, h2, h3, h4, c1, c2, c3, c4⟩, fw⟩ := d
  have hg := c1.gl
  have hh := c1.hl
  have c1 := c1.fr0 f
  have c2 := c2.fr0 f
  have c3 := c3.fr0 f
  have c4 := c4.fr0 f
  obtain ⟨e1, e2, e3, e4⟩ := c1.apart c2 (by decide)
  have := take_other g1 h1 g2 h2 l1 l2 W c1.is c2.is e1 e2 e3 e4
  rw [hE, hl] at this
  exact this.mono fun e w' he => let ⟨h', t⟩ := he.2; ⟨he.1, ⟨⟨_, h', h2, h3, h4, c1.turn t, c2.other c1 t (by decide), c3.other c1 t (by decide), c4.other c1 t (by decide)⟩, c1.frame t (fw.trans0 f)⟩,
    i.fr t.fr fun a ha e => by have := hp a ha; omega⟩
theorem Quad.new (f : Fr S0 w W) : Quad w ((((W.alloc (.cells #[.int .i64 0, .int .i64 0, .int .i64 0, .slice none 0 0, .int .i64 0, .int .u64 0] 32)).alloc (.cells #[.int .i64 0, .int .i64 0, .int .i64 0, .slice none 0 0, .int .i64 0, .int .u64 0] 32)).alloc (.cells #[.int .i64 0, .int .i64 0, .int .i64 0, .slice none 0 0, .int .i64 0, .int .u64 0] 32)).alloc (.cells #[.int .i64 0, .int .i64 0, .int .i64 0, .slice none 0 0, .int .i64 0, .int .u64 0] 32)) W.heap.size (W.heap.size + 1) (W.heap.size + 1 + 1) (W.heap.size + 1 + 1 + 1) [] [] [] [] := by
  have c1 := Cl.new (fun _ => 0) 0 w W f
  have f1 := f.trans0 (Fr.alloc S0 W (.cells #[.int .i64 0, .int .i64 0, .int .i64 0, .slice none 0 0, .int .i64 0, .int .u64 0] 32))
  have c2 := Cl.new (tint (fun _ => 0) 0 W.heap.size) 1 w _ f1
  have c1 := c1.later (j := 1) (.cells #[.int .i64 0, .int .i64 0, .int .i64 0, .slice none 0 0, .int .i64 0, .int .u64 0] 32)
  have f2 := f1.trans0 (Fr.alloc S0 _ (.cells #[.int .i64 0, .int .i64 0, .int .i64 0, .slice none 0 0, .int .i64 0, .int .u64 0] 32))
  have c3 := Cl.new (tint (tint (fun _ => 0) 0 W.heap.size) 1 (W.alloc (.cells #[.int .i64 0, .int .i64 0, .int .i64 0, .slice none 0 0, .int .i64 0, .int .u64 0] 32)).heap.size) 2 w _ f2
  have c1 := c1.later (j := 2) (.cells #[.int .i64 0, .int .i64 0, .int .i64 0, .slice none 0 0, .int .i64 0, .int .u64 0] 32)
  have c2 := c2.later (j := 2) (.cells #[.int .i64 0, .int .i64 0, .int .i64 0, .slice none 0 0, .int .i64 0, .int .u64 0] 32)
  have f3 := f2.trans0 (Fr.alloc S0 _ (.cells #[.int .i64 0, .int .i64 0, .int .i64 0, .slice none 0 0, .int .i64 0, .int .u64 0] 32))
  have c4 := Cl.new (tint (tint (tint (fun _ => 0) 0 W.heap.size) 1 (W.alloc (.cells #[.int .i64 0, .int .i64 0, .int .i64 0, .slice none 0 0, .int .i64 0, .int .u64 0] 32)).heap.size) 2 ((W.alloc (.cells #[.int .i64 0, .int .i64 0, .int .i64 0, .slice none 0 0, .int .i64 0, .int .u64 0] 32)).alloc (.cells #[.int .i64 0, .int .i64 0, .int .i64 0, .slice none 0 0, .int .i64 0, .int .u64 0] 32)).heap.size) 3 w _ f3
  have c1 := c1.later (j := 3) (.cells #[.int .i64 0, .int .i64 0, .int .i64 0, .slice none 0 0, .int .i64 0, .int .u64 0] 32)
  have c2 := c2.later (j := 3) (.cells #[.int .i64 0, .int .i64 0, .int .i64 0, .slice none 0 0, .int .i64 0, .int .u64 0] 32)
  have c3 := c3.later (j := 3) (.cells #[.int .i64 0, .int .i64 0, .int .i64 0, .slice none 0 0, .int .i64 0, .int .u64 0] 32)
  have f4 := f3.trans0 (Fr.alloc S0 _ (.cells #[.int .i64 0, .int .i64 0, .int .i64 0, .slice none 0 0, .int .i64 0, .int .u64 0] 32))
  simp only [size_alloc] at c1 c2 c3 c4
  exact ⟨⟨_, _, _, _, _, c1, c2, c3, c4⟩, f4⟩
end
end Go.Proofs.Ytocdjklgfmkbfaa
