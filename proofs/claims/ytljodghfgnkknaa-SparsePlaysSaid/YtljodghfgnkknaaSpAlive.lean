/- Lists that a law makes; the document's example. -/
import Derived.Test.YtljodghfgnkknaaSpOf
import Derived.Test.YtljodghfgnkknaaSpRef
namespace Go.Proofs.Ytljodghfgnkknaa
open Go.RowKit

/-- a list that is new to w, its blocks of colour i -/
structure Cl (own : Nat → Nat) (i : Nat) (w W : World) (g h : Nat) (l : List Pr) : Prop where
  is : StIs W g h l
  g0 : w.heap.size ≤ g
  h0 : w.heap.size ≤ h
  hl : h < W.heap.size
  cg : own g = i
  ch : own h = i
def tint (own : Nat → Nat) (i x : Nat) : Nat → Nat := fun y => if y = x then i else own y
theorem tint_same (own : Nat → Nat) (i x : Nat) : tint own i x x = i := if_pos rfl
theorem tint_below (own : Nat → Nat) (i x y : Nat) (h : y < x) : tint own i x y = own y := if_neg (by omega)
theorem Cl.fr0 {own : Nat → Nat} {i : Nat} {w W W' : World} {g h : Nat} {l : List Pr} (c : Cl own i w W g h l) (f : Fr S0 W W') : Cl own i w W' g h l := ⟨c.is.fr0 f, c.g0, c.h0, Nat.lt_of_lt_of_le c.hl f.size, c.cg, c.ch⟩
theorem Cl.gl {own : Nat → Nat} {i : Nat} {w W : World} {g h : Nat} {l : List Pr} (c : Cl own i w W g h l) : g < W.heap.size := c.is.lt
/-- the colours behind a call that turned a list -/
def hue (own : Nat → Nat) (i h h' : Nat) : Nat → Nat := if h' = h then own else tint own i h'
theorem Cl.turn {own : Nat → Nat} {i : Nat} {w W W' : World} {g h h' : Nat} {l l' : List Pr} (c : Cl own i w W g h l) (t : Turned W W' g h h' l') : Cl (hue own i h h') i w W' g h' l' := by
  unfold hue
  have hs := t.fr.size
  have hg := c.gl
  rcases t.row with rfl | ⟨h1, h2⟩
  · rw [if_pos rfl]
    exact ⟨t.sto, c.g0, c.h0, Nat.lt_of_lt_of_le c.hl hs, c.cg, c.ch⟩
  · have := c.hl
    have := c.h0
    rw [if_neg (by omega)]
    exact ⟨t.sto, c.g0, by omega, h2, by rw [tint_below _ _ _ _ (by omega)]; exact c.cg, tint_same _ _ _⟩
theorem hue_below {own : Nat → Nat} {i : Nat} {W W' : World} {g h h' y : Nat} {l' : List Pr} (t : Turned W W' g h h' l') (hy : y < W.heap.size) : hue own i h h' y = own y := by
  unfold hue
  rcases t.row with rfl | ⟨h1, h2⟩
  · rw [if_pos rfl]
  · split
    · rfl
    · exact tint_below _ _ _ _ (by omega)
theorem Cl.other {own : Nat → Nat} {i j : Nat} {w W W' : World} {g h h' g2 h2 : Nat} {l l' q : List Pr} (c : Cl own j w W g2 h2 q) (d : Cl own i w W g h l) (t : Turned W W' g h h' l') (hij : i ≠ j) : Cl (hue own i h h') j w W' g2 h2 q := by
  have e1 : g2 ≠ g := fun e => hij (by rw [← c.cg, e, d.cg])
  have e2 : g2 ≠ h := fun e => hij (by rw [← c.cg, e, d.ch])
  have e3 : h2 ≠ g := fun e => hij (by rw [← c.ch, e, d.cg])
  have e4 : h2 ≠ h := fun e => hij (by rw [← c.ch, e, d.ch])
  exact ⟨c.is.fr t.fr (by omega) (by omega), c.g0, c.h0, Nat.lt_of_lt_of_le c.hl t.fr.size, by rw [hue_below t c.gl]; exact c.cg, by rw [hue_below t c.hl]; exact c.ch⟩
theorem Cl.frame {own : Nat → Nat} {i : Nat} {w W W' : World} {g h h' : Nat} {l l' : List Pr} (c : Cl own i w W g h l) (t : Turned W W' g h h' l') (f : Fr S0 w W) : Fr S0 w W' := f.trans t.fr fun j hj hh => by
  have := c.g0
  have := c.h0
  omega
theorem Cl.apart {own : Nat → Nat} {i j : Nat} {w W : World} {g h g2 h2 : Nat} {l q : List Pr} (c : Cl own i w W g h l) (d : Cl own j w W g2 h2 q) (hij : i ≠ j) : g2 ≠ g ∧ g2 ≠ h ∧ h2 ≠ g ∧ h2 ≠ h :=
  ⟨fun e => hij (by rw [← c.cg, ← e, d.cg]), fun e => hij (by rw [← c.ch, ← e, d.cg]), fun e => hij (by rw [← c.cg, ← e, d.ch]), fun e => hij (by rw [← c.ch, ← e, d.ch])⟩
theorem Cl.new (own : Nat → Nat) (i : Nat) (w W : World) (f : Fr S0 w W) :
    Cl (tint own i W.heap.size) i w (W.alloc (.cells #[.slice none 0 0, .int .u64 0] 28)) W.heap.size W.heap.size [] :=
  ⟨StIs.zero _ ⟨heap_alloc_new W _⟩, f.size, f.size, by rw [size_alloc]; omega, tint_same _ _ _, tint_same _ _ _⟩
theorem Cl.later {own : Nat → Nat} {i j : Nat} {w W : World} {g h : Nat} {l : List Pr} (c : Cl own i w W g h l) (o : Obj) : Cl (tint own j W.heap.size) i w (W.alloc o) g h l :=
  ⟨c.is.fr0 (Fr.alloc _ _ _), c.g0, c.h0, by have := c.hl; rw [size_alloc]; omega, by rw [tint_below _ _ _ _ c.gl]; exact c.cg, by rw [tint_below _ _ _ _ c.hl]; exact c.ch⟩

/-- a list that is read, its block of colour j -/
structure Ls (own : Nat → Nat) (j : Nat) (W : World) (q : Option Addr) (L : List Pr) : Prop where
  pri : PrI W q L
  col : ∀ a, q = some a → own a.block = j ∧ a.block < W.heap.size
theorem Ls.fr0 {own : Nat → Nat} {j : Nat} {W W' : World} {q : Option Addr} {L : List Pr} (s : Ls own j W q L) (f : Fr S0 W W') : Ls own j W' q L := ⟨s.pri.fr0 f, fun a ha => ⟨(s.col a ha).1, Nat.lt_of_lt_of_le (s.col a ha).2 f.size⟩⟩
theorem Ls.turn {own : Nat → Nat} {i j : Nat} {w W W' : World} {g h h' : Nat} {l l' L : List Pr} {q : Option Addr} (s : Ls own j W q L) (d : Cl own i w W g h l) (t : Turned W W' g h h' l') (hij : i ≠ j) : Ls (hue own i h h') j W' q L :=
  ⟨s.pri.fr t.fr fun a ha e => by
    have := (s.col a ha).1
    rcases e with e | e
    · exact hij (by rw [← this, e, d.cg])
    · exact hij (by rw [← this, e, d.ch]),
   fun a ha => ⟨by rw [hue_below t (s.col a ha).2]; exact (s.col a ha).1, Nat.lt_of_lt_of_le (s.col a ha).2 t.fr.size⟩⟩
theorem Ls.nil (own : Nat → Nat) (j : Nat) (W : World) : Ls own j W none [] := ⟨PrI.nil W none, fun _ h => by cases h⟩
/-- the colours behind an answer that is a list -/
def dye (own : Nat → Nat) (j n : Nat) : Nat → Nat := fun y => if n ≤ y then j else own y
theorem dye_below (own : Nat → Nat) (j n y : Nat) (h : y < n) : dye own j n y = own y := if_neg (by omega)
theorem Cl.dye {own : Nat → Nat} {i j : Nat} {w W W' : World} {g h : Nat} {l : List Pr} (c : Cl own i w W g h l) (f : Fr S0 W W') : Cl (dye own j W.heap.size) i w W' g h l :=
  ⟨c.is.fr0 f, c.g0, c.h0, Nat.lt_of_lt_of_le c.hl f.size, by rw [dye_below _ _ _ _ c.gl]; exact c.cg, by rw [dye_below _ _ _ _ c.hl]; exact c.ch⟩
theorem Ls.dye {own : Nat → Nat} {i j : Nat} {W W' : World} {q : Option Addr} {L : List Pr} (s : Ls own i W q L) (f : Fr S0 W W') : Ls (dye own j W.heap.size) i W' q L :=
  ⟨s.pri.fr0 f, fun a ha => ⟨by rw [dye_below _ _ _ _ (s.col a ha).2]; exact (s.col a ha).1, Nat.lt_of_lt_of_le (s.col a ha).2 f.size⟩⟩
theorem Ls.got {own : Nat → Nat} {j : Nat} {W W' : World} {p : Option Addr} {v : Value} {l l' : List Pr} (s : Ls own j W p l) (g : Got W W' p v l') : ∃ q n c, v = .slice q n c ∧ l'.length = n ∧ Ls (Go.Proofs.Ytljodghfgnkknaa.dye own j W.heap.size) j W' q l' := by
  obtain ⟨⟨q, n, c, hv, hn, hp, hq⟩, f⟩ := g
  refine ⟨q, n, c, hv, hn, hp, fun a ha => ?_⟩
  rcases hq with rfl | hq
  · exact ((s.dye f).col a ha)
  · have := hq a ha
    exact ⟨if_pos this.1, this.2⟩

theorem Got.from {w W w' : World} {p : Option Addr} {v : Value} {l : List Pr} (g : Got W w' p v l) (f : Fr S0 w W) : Got w w' p v l := by
  obtain ⟨⟨q, n, c, hv, hn, hp, hq⟩, fr⟩ := g
  refine ⟨⟨q, n, c, hv, hn, hp, hq.imp id fun h a ha => ⟨Nat.le_trans f.size (h a ha).1, (h a ha).2⟩⟩, f.trans0 fr⟩


theorem Cl.add {own : Nat → Nat} {i : Nat} {w W : World} {g h : Nat} {l : List Pr} (c : Cl own i w W g h l) (k : Int) (n E : Nat) (l' : List Pr) (hn : n < 18446744073709551616) (hE : addE0 l k n = E) (hl : addL0 l k n = l') :
    Calls Try.prog 9 #[.pointer (some ⟨g, 0, none⟩), .int .i64 k, .int .u64 (n : Nat)] W fun e w' => e = .returned (.int .i64 (E : Nat)) ∧ ∃ h', Turned W w' g h h' l' := by
  subst hE hl
  exact add_any g h n k l W hn c.is

theorem pri_lit3 {W : World} {g : Nat} (hb : W.heap[g]? = some (.cells #[.int .i64 1, .int .u64 2, .int .i64 5, .int .u64 1, .int .i64 9, .int .u64 3] 57 (0, 0))) : PrI W (some ⟨g, 0, none⟩) [(1, 2), (5, 1), (9, 3)] := by
  refine ⟨by decide, fun _ => ⟨g, 0, rfl, fun i hi => ?_⟩⟩
  have hi' : i < 3 := hi
  rcases (by omega : i = 0 ∨ i = 1 ∨ i = 2) with rfl | rfl | rfl <;> simp [World.cell?, hb]
theorem pri_lit2 {W : World} {g : Nat} (hb : W.heap[g]? = some (.cells #[.int .i64 5, .int .u64 3, .int .i64 9, .int .u64 3] 57 (0, 0))) : PrI W (some ⟨g, 0, none⟩) [(5, 3), (9, 3)] := by
  refine ⟨by decide, fun _ => ⟨g, 0, rfl, fun i hi => ?_⟩⟩
  have hi' : i < 2 := hi
  rcases (by omega : i = 0 ∨ i = 1) with rfl | rfl <;> simp [World.cell?, hb]
set_option maxRecDepth 100000 in
set_option maxHeartbeats 2000000 in
theorem alive_any (w : World) : Calls Try.prog 8 #[] w fun e w' => e = .returned (.bool true) ∧ Fr S0 w w' := by
  have q0 := pri_lit3 (heap_alloc_new w (.cells #[.int .i64 1, .int .u64 2, .int .i64 5, .int .u64 1, .int .i64 9, .int .u64 3] 57))
  have HOF := Lib.hid (of_any _ 3 3 [(1, 2), (5, 1), (9, 3)] _ q0 rfl (by decide) (fun h => by cases h) (by decide))
  have F0 : Hid (Fr S0 w (w.alloc (.cells #[.int .i64 1, .int .u64 2, .int .i64 5, .int .u64 1, .int .i64 9, .int .u64 3] 57))) := Lib.hid (Fr.alloc _ _ _)
  clear q0
  go_enter Try.func8, Try.ntmps8
  go_wp2_with fail
  refine HOF.out.mono ?_
  rintro e w1 ⟨f1, ⟨hne, -⟩ | ⟨-, g, rfl, h, hs, hg0, hh0, hhl⟩⟩
  · exact absurd (by decide) hne
  have hl : lputs [] [(1, 2), (5, 1), (9, 3)] = [(1, 2), (5, 1), (9, 3)] := by decide
  rw [hl] at hs
  have S1 := Lib.hid (And.intro hs (And.intro (F0.out.trans0 f1) (And.intro hg0 hh0)))
  clear hs f1 hg0 hh0 hhl HOF hl
  go_wp2_with fail
  refine (key_any g h 3 _ w1 S1.out.1 (by decide)).mono ?_
  rintro e w2 ⟨rfl, f2⟩
  have S2 := Lib.hid (And.intro (S1.out.1.fr0 f2) (And.intro (S1.out.2.1.trans0 f2) S1.out.2.2))
  have e1 : keyV [(1, 2), (5, 1), (9, 3)] 3 = 5 := by decide
  have e2 : keyE [(1, 2), (5, 1), (9, 3)] 3 = 0 := by decide
  rw [e1, e2]
  clear S1 f2 e1 e2
  go_wp2_with fail
  refine (key_any g h 4 _ w2 S2.out.1 (by decide)).mono ?_
  rintro e w3 ⟨rfl, f3⟩
  have S3 := Lib.hid (And.intro (S2.out.1.fr0 f3) (And.intro (S2.out.2.1.trans0 f3) S2.out.2.2))
  have e1 : keyV [(1, 2), (5, 1), (9, 3)] 4 = 9 := by decide
  have e2 : keyE [(1, 2), (5, 1), (9, 3)] 4 = 0 := by decide
  rw [e1, e2]
  clear S2 f3 e1 e2
  go_wp2_with fail
  refine (below_any g 5 _ w3 h S3.out.1).mono ?_
  rintro e w4 ⟨rfl, f4⟩
  have S4 := Lib.hid (And.intro (S3.out.1.fr0 f4) (And.intro (S3.out.2.1.trans0 f4) S3.out.2.2))
  have e1 : bel [(1, 2), (5, 1), (9, 3)] 5 = 2 := by decide
  rw [e1]
  clear S3 f4 e1
  go_wp2_with fail
  refine (upto_any g 5 _ w4 h S4.out.1).mono ?_
  rintro e w5 ⟨rfl, f5⟩
  have S5 := Lib.hid (And.intro (S4.out.1.fr0 f5) (And.intro (S4.out.2.1.trans0 f5) S4.out.2.2))
  have e1 : upt [(1, 2), (5, 1), (9, 3)] 5 = 3 := by decide
  rw [e1]
  clear S4 f5 e1
  go_wp2_with fail
  refine (cut_any g h 2 _ w5 (by decide) S5.out.1).mono ?_
  rintro e w6 ⟨rfl, h', t6⟩
  have e1 : cutA [(1, 2), (5, 1), (9, 3)] (most 2) = 2 := by decide
  have e2 : cutN [(1, 2), (5, 1), (9, 3)] (most 2) = [(5, 3), (9, 3)] := by decide
  rw [e2] at t6
  rw [e1]
  have S6 := Lib.hid (And.intro t6.sto (S5.out.2.1.trans t6.fr fun j hj hh => by have := S5.out.2.2; have := F0.out.size; rcases hh with hh | hh <;> omega))
  clear S5 t6 e1 e2
  go_wp2_with fail
  refine (pairs_any g h' _ w6 S6.out.1).mono ?_
  rintro e w7 ⟨p, c, n, rfl, hp⟩
  have hn : 2 = n := hp.len
  subst hn
  have P7 := Lib.hid (hp.pri (by decide))
  have F7 := Lib.hid (S6.out.2.trans0 hp.fr)
  have q7 := pri_lit2 (heap_alloc_new w7 (.cells #[.int .i64 5, .int .u64 3, .int .i64 9, .int .u64 3] 57))
  have HS := Lib.hid (rsame_yes p _ 2 c 2 [(5, 3), (9, 3)] _ (P7.out.fr0 (Fr.alloc S0 w7 (.cells #[.int .i64 5, .int .u64 3, .int .i64 9, .int .u64 3] 57))) q7 rfl)
  clear hp q7 S6
  go_wp2_with fail
  refine HS.out.mono ?_
  rintro e w8 ⟨rfl, f8⟩
  have F8 := Lib.hid (F7.out.trans0 ((Fr.alloc S0 w7 (.cells #[.int .i64 5, .int .u64 3, .int .i64 9, .int .u64 3] 57)).trans0 f8))
  clear f8 HS
  go_wp2_with fail
  go_ret
  exact ⟨rfl, F8.out⟩
theorem start (w : World) (R) (h : ∀ w1, Fr S0 w w1 → R (.returned (.bool true)) w1) : Calls Try.prog 8 #[] w R :=
  (alive_any w).mono fun e w1 he => by rw [he.1]; exact h w1 he.2
end Go.Proofs.Ytljodghfgnkknaa
