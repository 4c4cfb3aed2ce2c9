/- Stores that a law makes; the document's example. -/
import Derived.Test.YtibgjmlgjmnheaaClLoad
import Derived.Test.YtibgjmlgjmnheaaClRef
namespace Go.Proofs.Ytibgjmlgjmnheaa
open Go.RowKit

/-- a list that is new to w, its blocks of colour i -/
structure Cl (own : Nat → Nat) (i : Nat) (w W : World) (g h m : Nat) (l : List Pr) : Prop where
  is : Col W g h m l
  g0 : w.heap.size ≤ g
  h0 : w.heap.size ≤ h
  hl : h < W.heap.size
  cg : own g = i
  ch : own h = i
def tint (own : Nat → Nat) (i x : Nat) : Nat → Nat := fun y => if y = x then i else own y
theorem tint_same (own : Nat → Nat) (i x : Nat) : tint own i x x = i := if_pos rfl
theorem tint_below (own : Nat → Nat) (i x y : Nat) (h : y < x) : tint own i x y = own y := if_neg (by omega)
theorem Cl.fr0 {own : Nat → Nat} {i : Nat} {w W W' : World} {g h m : Nat} {l : List Pr} (c : Cl own i w W g h m l) (f : Fr S0 W W') : Cl own i w W' g h m l := ⟨c.is.fr0 f, c.g0, c.h0, Nat.lt_of_lt_of_le c.hl f.size, c.cg, c.ch⟩
theorem Cl.gl {own : Nat → Nat} {i : Nat} {w W : World} {g h m : Nat} {l : List Pr} (c : Cl own i w W g h m l) : g < W.heap.size := c.is.lt
/-- the colours behind a call that turned a list -/
def hue (own : Nat → Nat) (i h h' : Nat) : Nat → Nat := if h' = h then own else tint own i h'
theorem Cl.turn {own : Nat → Nat} {i : Nat} {w W W' : World} {g h h' m : Nat} {l l' : List Pr} (c : Cl own i w W g h m l) (t : TurnC W W' g h h' m l') : Cl (hue own i h h') i w W' g h' m l' := by
  unfold hue
  have hs := t.fr.size
  have hg := c.gl
  rcases t.row with rfl | ⟨h1, h2⟩
  · rw [if_pos rfl]
    exact ⟨t.sto, c.g0, c.h0, Nat.lt_of_lt_of_le c.hl hs, c.cg, c.ch⟩
  · have := c.hl
    have := c.h0
    rw [if_neg (by omega)]
    exact ⟨t.sto, c.g0, by omega, h2, by rw [tint_below _ _ _ _ (by omega)]; exact c.cg, tint_same _ _ _⟩
theorem hue_below {own : Nat → Nat} {i : Nat} {W W' : World} {g h h' m y : Nat} {l' : List Pr} (t : TurnC W W' g h h' m l') (hy : y < W.heap.size) : hue own i h h' y = own y := by
  unfold hue
  rcases t.row with rfl | ⟨h1, h2⟩
  · rw [if_pos rfl]
  · split
    · rfl
    · exact tint_below _ _ _ _ (by omega)
theorem Cl.other {own : Nat → Nat} {i j : Nat} {w W W' : World} {g h h' m m2 g2 h2 : Nat} {l l' q : List Pr} (c : Cl own j w W g2 h2 m2 q) (d : Cl own i w W g h m l) (t : TurnC W W' g h h' m l') (hij : i ≠ j) : Cl (hue own i h h') j w W' g2 h2 m2 q := by
  have e1 : g2 ≠ g := fun e => hij (by rw [← c.cg, e, d.cg])
  have e2 : g2 ≠ h := fun e => hij (by rw [← c.cg, e, d.ch])
  have e3 : h2 ≠ g := fun e => hij (by rw [← c.ch, e, d.cg])
  have e4 : h2 ≠ h := fun e => hij (by rw [← c.ch, e, d.ch])
  exact ⟨c.is.fr t.fr (by omega) (by omega), c.g0, c.h0, Nat.lt_of_lt_of_le c.hl t.fr.size, by rw [hue_below t c.gl]; exact c.cg, by rw [hue_below t c.hl]; exact c.ch⟩
theorem Cl.frame {own : Nat → Nat} {i : Nat} {w W W' : World} {g h h' m : Nat} {l l' : List Pr} (c : Cl own i w W g h m l) (t : TurnC W W' g h h' m l') (f : Fr S0 w W) : Fr S0 w W' := f.trans t.fr fun j hj hh => by
  have := c.g0
  have := c.h0
  omega
theorem Cl.apart {own : Nat → Nat} {i j : Nat} {w W : World} {g h m m2 g2 h2 : Nat} {l q : List Pr} (c : Cl own i w W g h m l) (d : Cl own j w W g2 h2 m2 q) (hij : i ≠ j) : g2 ≠ g ∧ g2 ≠ h ∧ h2 ≠ g ∧ h2 ≠ h :=
  ⟨fun e => hij (by rw [← c.cg, ← e, d.cg]), fun e => hij (by rw [← c.ch, ← e, d.cg]), fun e => hij (by rw [← c.cg, ← e, d.ch]), fun e => hij (by rw [← c.ch, ← e, d.ch])⟩

/-- a list that is read, its block of colour j -/
structure Ls (own : Nat → Nat) (j : Nat) (W : World) (q : Option Addr) (L : List Pr) : Prop where
  pri : PrI W q L
  col : ∀ a, q = some a → own a.block = j ∧ a.block < W.heap.size
theorem Ls.fr0 {own : Nat → Nat} {j : Nat} {W W' : World} {q : Option Addr} {L : List Pr} (s : Ls own j W q L) (f : Fr S0 W W') : Ls own j W' q L := ⟨s.pri.fr0 f, fun a ha => ⟨(s.col a ha).1, Nat.lt_of_lt_of_le (s.col a ha).2 f.size⟩⟩
theorem Ls.turn {own : Nat → Nat} {i j : Nat} {w W W' : World} {g h h' m : Nat} {l l' L : List Pr} {q : Option Addr} (s : Ls own j W q L) (d : Cl own i w W g h m l) (t : TurnC W W' g h h' m l') (hij : i ≠ j) : Ls (hue own i h h') j W' q L :=
  ⟨s.pri.fr t.fr fun a ha e => by
    have := (s.col a ha).1
    rcases e with e | e
    · exact hij (by rw [← this, e, d.cg])
    · exact hij (by rw [← this, e, d.ch]),
   fun a ha => ⟨by rw [hue_below t (s.col a ha).2]; exact (s.col a ha).1, Nat.lt_of_lt_of_le (s.col a ha).2 t.fr.size⟩⟩
theorem Ls.nil (own : Nat → Nat) (j : Nat) (W : World) : Ls own j W none [] := ⟨PrI.nil W none, fun _ h => by cases h⟩
/-- the colours behind an answer that is a list -/
def dye (own : Nat → Nat) (j n : Nat) : Nat → Nat := fun y => if n ≤ y then j else own y
theorem dye_below (own : Nat → Nat) (j n y : Nat) (h : y < n) : dye own j n y = own y := if_neg (by omega)
theorem Cl.dye {own : Nat → Nat} {i j : Nat} {w W W' : World} {g h m : Nat} {l : List Pr} (c : Cl own i w W g h m l) (f : Fr S0 W W') : Cl (dye own j W.heap.size) i w W' g h m l :=
  ⟨c.is.fr0 f, c.g0, c.h0, Nat.lt_of_lt_of_le c.hl f.size, by rw [dye_below _ _ _ _ c.gl]; exact c.cg, by rw [dye_below _ _ _ _ c.hl]; exact c.ch⟩
theorem Ls.dye {own : Nat → Nat} {i j : Nat} {W W' : World} {q : Option Addr} {L : List Pr} (s : Ls own i W q L) (f : Fr S0 W W') : Ls (dye own j W.heap.size) i W' q L :=
  ⟨s.pri.fr0 f, fun a ha => ⟨by rw [dye_below _ _ _ _ (s.col a ha).2]; exact (s.col a ha).1, Nat.lt_of_lt_of_le (s.col a ha).2 f.size⟩⟩
theorem Ls.got {own : Nat → Nat} {j : Nat} {W W' : World} {p : Option Addr} {v : Value} {l l' : List Pr} (s : Ls own j W p l) (g : Got W W' p v l') : ∃ q n c, v = .slice q n c ∧ l'.length = n ∧ Ls (Go.Proofs.Ytibgjmlgjmnheaa.dye own j W.heap.size) j W' q l' := by
  obtain ⟨⟨q, n, c, hv, hn, hp, hq⟩, f⟩ := g
  refine ⟨q, n, c, hv, hn, hp, fun a ha => ?_⟩
  rcases hq with rfl | hq
  · exact ((s.dye f).col a ha)
  · have := hq a ha
    exact ⟨if_pos this.1, this.2⟩

theorem Got.from {w W w' : World} {p : Option Addr} {v : Value} {l : List Pr} (g : Got W w' p v l) (f : Fr S0 w W) : Got w w' p v l := by
  obtain ⟨⟨q, n, c, hv, hn, hp, hq⟩, fr⟩ := g
  refine ⟨⟨q, n, c, hv, hn, hp, hq.imp id fun h a ha => ⟨Nat.le_trans f.size (h a ha).1, (h a ha).2⟩⟩, f.trans0 fr⟩




theorem Cl.ofNew {own : Nat → Nat} {i : Nat} {w W W' : World} {g h m : Nat} {a : List Pr} (f : Fr S0 w W) (c : NewC W W' g h m a) : Cl (Go.Proofs.Ytibgjmlgjmnheaa.dye own i W.heap.size) i w W' g h m a :=
  ⟨c.is, Nat.le_trans f.size c.g0, Nat.le_trans f.size c.h0, c.hl, if_pos c.g0, if_pos c.h0⟩
theorem Ls.ofNew {own : Nat → Nat} {j : Nat} {W W' : World} {p : Option Addr} {c n : Nat} {l : List Pr} (h : PrsNew W W' p c n l) (hn : n ≤ 1000000) : Ls (Go.Proofs.Ytibgjmlgjmnheaa.dye own j W.heap.size) j W' p l :=
  ⟨h.pri hn, fun a ha => ⟨if_pos (h.fresh a ha), by
    have := (h.own.lt a.block (by rw [ha]; rfl)).2
    exact this⟩⟩
theorem Cl.add {own : Nat → Nat} {i : Nat} {w W : World} {g h m : Nat} {a : List Pr} (c : Cl own i w W g h m a) (k : Int) (n E : Nat) (a' : List Pr) (hn : n < 18446744073709551616) (hE : addE0 a k n = E) (hl : addL0 a k n = a') :
    Calls Try.prog 11 #[.pointer (some ⟨g, 0, none⟩), .int .i64 k, .int .u64 (n : Nat)] W fun e w' => e = .returned (.int .i64 (E : Nat)) ∧ ∃ h', TurnC W w' g h h' m a' := by
  subst hE hl
  exact cadd_any g h m n k a W hn c.is c.hl

theorem pri_lit2 {W : World} {g : Nat} {x y : Int} {u v : Nat} {t : TypeId} (hb : W.heap[g]? = some (.cells #[.int .i64 x, .int .u64 (u : Nat), .int .i64 y, .int .u64 (v : Nat)] t (0, 0))) : PrI W (some ⟨g, 0, none⟩) [(x, u), (y, v)] := pri_two hb
set_option maxRecDepth 100000 in
set_option maxHeartbeats 4000000 in
theorem alive_any (w : World) : Calls Try.prog 8 #[] w fun e w' => e = .returned (.bool true) ∧ Fr S0 w w' := by
  have HNW := Lib.hid (new_yes 2 w (by decide) (by decide))
  go_enter Try.func8, Try.ntmps8
  go_wp2_with fail
  refine HNW.out.mono ?_
  rintro e w1 ⟨g, rfl, hnew⟩
  have C1 := Lib.hid (And.intro (Cl.ofNew (own := fun _ => 5) (i := 0) (Fr.refl S0 w) hnew) hnew.fr)
  clear hnew HNW
  generalize dye (fun _ => 5) 0 w.heap.size = own1 at C1
  have H2 := Lib.hid (C1.out.1.add 1 1 0 [(1, 1)] (by decide) (by decide) (by decide))
  go_wp2_with fail
  refine H2.out.mono ?_
  rintro e w2 ⟨rfl, h2, t2⟩
  have C2 := Lib.hid (And.intro (C1.out.1.turn t2) (C1.out.1.frame t2 C1.out.2))
  clear t2 C1 H2
  generalize hue own1 0 g h2 = own2 at C2
  have H3 := Lib.hid (C2.out.1.add 5 1 0 [(1, 1), (5, 1)] (by decide) (by decide) (by decide))
  go_wp2_with fail
  refine H3.out.mono ?_
  rintro e w3 ⟨rfl, h3, t3⟩
  have C3 := Lib.hid (And.intro (C2.out.1.turn t3) (C2.out.1.frame t3 C2.out.2))
  clear t3 C2 H3
  generalize hue own2 0 h2 h3 = own3 at C3
  have H4 := Lib.hid (C3.out.1.add 9 1 0 [(1, 1), (5, 1), (9, 1)] (by decide) (by decide) (by decide))
  go_wp2_with fail
  refine H4.out.mono ?_
  rintro e w4 ⟨rfl, h4, t4⟩
  have C4 := Lib.hid (And.intro (C3.out.1.turn t4) (C3.out.1.frame t4 C3.out.2))
  clear t4 C3 H4
  generalize hue own3 0 h3 h4 = own4 at C4
  have e1 : cutN [(1, 1), (5, 1), (9, 1)] 2 = [(5, 2), (9, 1)] := by decide
  have e2 : cutA [(1, 1), (5, 1), (9, 1)] 2 = 1 := by decide
  have H5 := cpairs_any g h4 2 _ w4 C4.out.1.is
  rw [e1] at H5
  have H5 := Lib.hid H5
  go_wp2_with fail
  refine H5.out.mono ?_
  rintro e w5 ⟨p, c, n, rfl, hp⟩
  have hn : 2 = n := hp.len
  subst hn
  have C5 := Lib.hid (And.intro (C4.out.1.dye (j := 1) hp.fr) (And.intro (C4.out.2.trans0 hp.fr) (Ls.ofNew (own := own4) (j := 1) hp (by decide))))
  clear hp C4 H5
  generalize dye own4 1 w4.heap.size = own5 at C5
  have H6 := cfolded_any g h4 2 _ w5 C5.out.1.is
  rw [e2] at H6
  have H6 := Lib.hid H6
  go_wp2_with fail
  refine H6.out.mono ?_
  rintro e w6 ⟨rfl, f6⟩
  have C6 := Lib.hid (And.intro (C5.out.1.fr0 f6) (And.intro (C5.out.2.1.trans0 f6) (C5.out.2.2.fr0 f6)))
  clear f6 C5 H6
  have H7 := ckey_any g h4 2 1 _ w6 C6.out.1.is (by decide)
  rw [e1] at H7
  have k1 : keyV [(5, 2), (9, 1)] 1 = 5 := by decide
  have k2 : keyE [(5, 2), (9, 1)] 1 = 0 := by decide
  have k3 : vag [(1, 1), (5, 1), (9, 1)] 2 1 = true := by decide
  rw [k1, k2, k3] at H7
  have H7 := Lib.hid H7
  clear k1 k2 k3
  go_wp2_with fail
  refine H7.out.mono ?_
  rintro e w7 ⟨rfl, f7⟩
  have C7 := Lib.hid (And.intro (C6.out.1.fr0 f7) (And.intro (C6.out.2.1.trans0 f7) (C6.out.2.2.fr0 f7)))
  clear f7 C6 H7
  have H8 := ckey_any g h4 2 3 _ w7 C7.out.1.is (by decide)
  rw [e1] at H8
  have k1 : keyV [(5, 2), (9, 1)] 3 = 9 := by decide
  have k2 : keyE [(5, 2), (9, 1)] 3 = 0 := by decide
  have k3 : vag [(1, 1), (5, 1), (9, 1)] 2 3 = false := by decide
  rw [k1, k2, k3] at H8
  have H8 := Lib.hid H8
  clear k1 k2 k3 e1 e2
  go_wp2_with fail
  refine H8.out.mono ?_
  rintro e w8 ⟨rfl, f8⟩
  have C8 := Lib.hid (And.intro (C7.out.1.fr0 f8) (And.intro (C7.out.2.1.trans0 f8) (C7.out.2.2.fr0 f8)))
  clear f8 C7 H8
  have H9 := Lib.hid (C8.out.1.add 3 4 0 [(1, 1), (3, 4), (5, 1), (9, 1)] (by decide) (by decide) (by decide))
  go_wp2_with fail
  refine H9.out.mono ?_
  rintro e w9 ⟨rfl, h9, t9⟩
  have C9 := Lib.hid (And.intro (C8.out.1.turn t9) (And.intro (C8.out.1.frame t9 C8.out.2.1) (C8.out.2.2.turn C8.out.1 t9 (by decide))))
  clear t9 C8 H9
  generalize hue own5 0 h4 h9 = own9 at C9
  have q9 := pri_lit2 (heap_alloc_new w9 (.cells #[.int .i64 5, .int .u64 (2 : Nat), .int .i64 9, .int .u64 (1 : Nat)] 53))
  have f9 := Fr.alloc S0 w9 (.cells #[.int .i64 5, .int .u64 (2 : Nat), .int .i64 9, .int .u64 (1 : Nat)] 53)
  have H10 := Lib.hid (rsame15_yes p _ 2 c 2 [(5, 2), (9, 1)] _ (C9.out.2.2.pri.fr0 f9) q9 rfl)
  have F9 := Lib.hid f9
  clear q9 f9
  go_wp2_with fail
  refine H10.out.mono ?_
  rintro e w10 ⟨rfl, f10⟩
  have C10 := Lib.hid (And.intro (C9.out.1.is.fr0 (F9.out.trans0 f10)) (C9.out.2.1.trans0 (F9.out.trans0 f10)))
  clear f10 C9 H10 F9
  have e1 : cutN [(1, 1), (3, 4), (5, 1), (9, 1)] 2 = [(5, 6), (9, 1)] := by decide
  have e2 : cutA [(1, 1), (3, 4), (5, 1), (9, 1)] 2 = 5 := by decide
  have H11 := cpairs_any g h9 2 _ w10 C10.out.1
  rw [e1] at H11
  have H11 := Lib.hid H11
  go_wp2_with fail
  refine H11.out.mono ?_
  rintro e w11 ⟨p2, c2, n2, rfl, hp2⟩
  have hn : 2 = n2 := hp2.len
  subst hn
  have C11 := Lib.hid (And.intro (C10.out.1.fr0 hp2.fr) (And.intro (C10.out.2.trans0 hp2.fr) (hp2.pri (by decide))))
  clear hp2 C10 H11
  have q11 := pri_lit2 (heap_alloc_new w11 (.cells #[.int .i64 5, .int .u64 (6 : Nat), .int .i64 9, .int .u64 (1 : Nat)] 53))
  have f11 := Fr.alloc S0 w11 (.cells #[.int .i64 5, .int .u64 (6 : Nat), .int .i64 9, .int .u64 (1 : Nat)] 53)
  have H12 := Lib.hid (rsame15_yes p2 _ 2 c2 2 [(5, 6), (9, 1)] _ (C11.out.2.2.fr0 f11) q11 rfl)
  have F11 := Lib.hid f11
  clear q11 f11
  go_wp2_with fail
  refine H12.out.mono ?_
  rintro e w12 ⟨rfl, f12⟩
  have C12 := Lib.hid (And.intro (C11.out.1.fr0 (F11.out.trans0 f12)) (C11.out.2.1.trans0 (F11.out.trans0 f12)))
  clear f12 C11 H12 F11
  have H13 := cfolded_any g h9 2 _ w12 C12.out.1
  rw [e2] at H13
  have H13 := Lib.hid H13
  clear e1 e2
  go_wp2_with fail
  refine H13.out.mono ?_
  rintro e w13 ⟨rfl, f13⟩
  have F13 := Lib.hid (C12.out.2.trans0 f13)
  clear f13 C12 H13
  go_wp2_with fail
  go_ret
  exact ⟨rfl, F13.out⟩
theorem start (w : World) (R) (h : ∀ w1, Fr S0 w w1 → R (.returned (.bool true)) w1) : Calls Try.prog 8 #[] w R :=
  (alive_any w).mono fun e w1 he => by rw [he.1]; exact h w1 he.2
end Go.Proofs.Ytibgjmlgjmnheaa
