/- Stores that a law makes; the document's example. -/
import Derived.Test.YtocdjklgfmkbfaaDnRefAdd
namespace Go.Proofs.Ytocdjklgfmkbfaa
open Go.RowKit

/-- a store that is new to w, its blocks of colour i -/
structure Cl (own : Nat → Nat) (i : Nat) (w W : World) (g h : Nat) (l : List Pr) : Prop where
  is : StIs W g h l
  g0 : w.heap.size ≤ g
  h0 : w.heap.size ≤ h
  hl : h < W.heap.size
  cg : own g = i
  ch : own h = i
def tint (own : Nat → Nat) (i x : Nat) : Nat → Nat := fun y => if y = x then i else own y
theorem tint_same (own : Nat → Nat) (i x : Nat) : tint own i x x = i := if_pos rfl
theorem tint_below (own : Nat → Nat) (i x y : Nat) (h : y < x) : tint own i x y = own y := if_neg (by omega)
theorem Cl.fr0 {own : Nat → Nat} {i : Nat} {w W W' : World} {g h : Nat} {l : List Pr} (c : Cl own i w W g h l) (f : Fr S0 W W') : Cl own i w W' g h l := ⟨c.is.fr0 f, c.g0, c.h0, Nat.lt_of_lt_of_le c.hl f.size, c.cg, c.ch⟩
theorem Cl.gl {own : Nat → Nat} {i : Nat} {w W : World} {g h : Nat} {l : List Pr} (c : Cl own i w W g h l) : g < W.heap.size := c.is.lt
/-- the colours behind a call that turned a store -/
def hue (own : Nat → Nat) (i h h' : Nat) : Nat → Nat := if h' = h then own else tint own i h'
theorem Cl.turn {own : Nat → Nat} {i : Nat} {w W W' : World} {g h h' : Nat} {l l' : List Pr} (c : Cl own i w W g h l) (t : Turned W W' g h h' l') : Cl (hue own i h h') i w W' g h' l' := by
  unfold hue
  have hs := t.fr.size
  have hg := c.gl
  rcases t.row with rfl | ⟨h1, h2⟩
  · rw [if_pos rfl]
    exact ⟨t.sto, c.g0, c.h0, Nat.lt_of_lt_of_le c.hl hs, c.cg, c.ch⟩
  · have := c.hl
    have := c.h0
    rw [if_neg (by omega)]
    exact ⟨t.sto, c.g0, by omega, h2, by rw [tint_below _ _ _ _ (by omega)]; exact c.cg, tint_same _ _ _⟩
theorem hue_below {own : Nat → Nat} {i : Nat} {W W' : World} {g h h' y : Nat} {l' : List Pr} (t : Turned W W' g h h' l') (hy : y < W.heap.size) : hue own i h h' y = own y := by
  unfold hue
  rcases t.row with rfl | ⟨h1, h2⟩
  · rw [if_pos rfl]
  · split
    · rfl
    · exact tint_below _ _ _ _ (by omega)
theorem Cl.other {own : Nat → Nat} {i j : Nat} {w W W' : World} {g h h' g2 h2 : Nat} {l l' q : List Pr} (c : Cl own j w W g2 h2 q) (d : Cl own i w W g h l) (t : Turned W W' g h h' l') (hij : i ≠ j) : Cl (hue own i h h') j w W' g2 h2 q := by
  have e1 : g2 ≠ g := fun e => hij (by rw [← c.cg, e, d.cg])
  have e2 : g2 ≠ h := fun e => hij (by rw [← c.cg, e, d.ch])
  have e3 : h2 ≠ g := fun e => hij (by rw [← c.ch, e, d.cg])
  have e4 : h2 ≠ h := fun e => hij (by rw [← c.ch, e, d.ch])
  exact ⟨c.is.fr t.fr (by omega) (by omega), c.g0, c.h0, Nat.lt_of_lt_of_le c.hl t.fr.size, by rw [hue_below t c.gl]; exact c.cg, by rw [hue_below t c.hl]; exact c.ch⟩
theorem Cl.frame {own : Nat → Nat} {i : Nat} {w W W' : World} {g h h' : Nat} {l l' : List Pr} (c : Cl own i w W g h l) (t : Turned W W' g h h' l') (f : Fr S0 w W) : Fr S0 w W' := f.trans t.fr fun j hj hh => by
  have := c.g0
  have := c.h0
  omega
theorem Cl.apart {own : Nat → Nat} {i j : Nat} {w W : World} {g h g2 h2 : Nat} {l q : List Pr} (c : Cl own i w W g h l) (d : Cl own j w W g2 h2 q) (hij : i ≠ j) : g2 ≠ g ∧ g2 ≠ h ∧ h2 ≠ g ∧ h2 ≠ h :=
  ⟨fun e => hij (by rw [← c.cg, ← e, d.cg]), fun e => hij (by rw [← c.ch, ← e, d.cg]), fun e => hij (by rw [← c.cg, ← e, d.ch]), fun e => hij (by rw [← c.ch, ← e, d.ch])⟩
/-- the cells of a store that has counted nothing -/
def noSto : Array Value := #[.int .i64 0, .int .i64 0, .int .i64 0, .slice none 0 0, .int .i64 0, .int .u64 0]
theorem Cl.new (own : Nat → Nat) (i : Nat) (w W : World) (f : Fr S0 w W) :
    Cl (tint own i W.heap.size) i w (W.alloc (.cells #[.int .i64 0, .int .i64 0, .int .i64 0, .slice none 0 0, .int .i64 0, .int .u64 0] 32)) W.heap.size W.heap.size [] :=
  ⟨StIs.zero _ ⟨heap_alloc_new W _⟩, f.size, f.size, by rw [size_alloc]; omega, tint_same _ _ _, tint_same _ _ _⟩
theorem Cl.later {own : Nat → Nat} {i j : Nat} {w W : World} {g h : Nat} {l : List Pr} (c : Cl own i w W g h l) (o : Obj) : Cl (tint own j W.heap.size) i w (W.alloc o) g h l :=
  ⟨c.is.fr0 (Fr.alloc _ _ _), c.g0, c.h0, by have := c.hl; rw [size_alloc]; omega, by rw [tint_below _ _ _ _ c.gl]; exact c.cg, by rw [tint_below _ _ _ _ c.hl]; exact c.ch⟩

theorem Cl.add {own : Nat → Nat} {i : Nat} {w W : World} {g h : Nat} {l : List Pr} (c : Cl own i w W g h l) (k : Int) (n E : Nat) (l' : List Pr) (hn : n < 18446744073709551616) (hE : addE l k n = E) (hl : addL l k n = l') :
    Calls Try.prog 8 #[.pointer (some ⟨g, 0, none⟩), .int .i64 k, .int .u64 (n : Nat)] W fun e w' => e = .returned (.int .i64 (E : Nat)) ∧ ∃ h', Turned W w' g h h' l' := by
  subst hE hl
  exact add_any g h n k l W hn c.is

theorem live_add {own : Nat → Nat} {w W : World} {g h : Nat} {l : List Pr} (c : Cl own 0 w W g h l) (f : Fr S0 w W) (k : Int) (n E : Nat) (l' : List Pr) (hn : n < 18446744073709551616) (hE : addE l k n = E) (hl : addL l k n = l') :
    Calls Try.prog 8 #[.pointer (some ⟨g, 0, none⟩), .int .i64 k, .int .u64 (n : Nat)] W fun e w' => e = .returned (.int .i64 (E : Nat)) ∧ ∃ own' h', Cl own' 0 w w' g h' l' ∧ Fr S0 w w' :=
  (c.add k n E l' hn hE hl).mono fun _ _ he => let ⟨h', t⟩ := he.2; ⟨he.1, _, h', c.turn t, c.frame t f⟩

theorem pri_three {W : World} {g : Nat} (hb : W.heap[g]? = some (.cells #[.int .i64 (-3), .int .u64 1, .int .i64 5, .int .u64 3, .int .i64 8188, .int .u64 1] 50 (0, 0))) : PrI W (some ⟨g, 0, none⟩) [(-3, 1), (5, 3), (8188, 1)] := by
  refine ⟨by decide, fun _ => ⟨g, 0, rfl, fun i hi => ?_⟩⟩
  have hi' : i < 3 := hi
  rcases (by omega : i = 0 ∨ i = 1 ∨ i = 2) with rfl | rfl | rfl <;> simp [World.cell?, hb]
set_option maxRecDepth 100000 in
set_option maxHeartbeats 2000000 in
theorem alive_any (w : World) : Calls Try.prog 7 #[] w fun e w' => e = .returned (.bool true) ∧ Fr S0 w w' := by
  go_enter Try.func7, Try.ntmps7
  go_wp2_with fail
  have C0 := Lib.hid (Cl.new (fun _ => 0) 0 w w (Fr.refl _ _))
  obtain ⟨g, hg⟩ : ∃ g, w.heap.size = g := ⟨_, rfl⟩
  have F0 : Hid (Fr S0 w (w.alloc (.cells #[.int .i64 0, .int .i64 0, .int .i64 0, .slice none 0 0, .int .i64 0, .int .u64 0] 32))) := Lib.hid (Fr.alloc _ _ _)
  rw [hg] at C0 ⊢
  clear hg
  refine (live_add C0.out F0.out 5 2 0 [(5, 2)] (by decide) (by decide) (by decide)).mono ?_
  rintro e w1 ⟨rfl, o1, h1, c1, f1⟩
  have C1 := Lib.hid (And.intro c1 f1)
  clear c1 f1 C0 F0
  go_wp2_with fail
  refine (live_add C1.out.1 C1.out.2 (-3) 1 0 [(-3, 1), (5, 2)] (by decide) (by decide) (by decide)).mono ?_
  rintro e w2 ⟨rfl, o2, h2, c2, f2⟩
  have C2 := Lib.hid (And.intro c2 f2)
  clear c2 f2 C1
  go_wp2_with fail
  refine (live_add C2.out.1 C2.out.2 5 1 0 [(-3, 1), (5, 3)] (by decide) (by decide) (by decide)).mono ?_
  rintro e w3 ⟨rfl, o3, h3, c3, f3⟩
  have C3 := Lib.hid (And.intro c3 f3)
  clear c3 f3 C2
  go_wp2_with fail
  refine (ends_any g h3 _ w3 C3.out.1.is (c := -3) (d := 5) ⟨by decide, by decide, by decide⟩).mono ?_
  rintro e w4 ⟨rfl, f4⟩
  have C4 := Lib.hid (And.intro (C3.out.1.fr0 f4) (C3.out.2.trans0 f4))
  clear f4 C3
  go_wp2_with fail
  refine (live_add C4.out.1 C4.out.2 8189 1 130 [(-3, 1), (5, 3)] (by decide) (by decide) (by decide)).mono ?_
  rintro e w5 ⟨rfl, o5, h5, c5, f5⟩
  have C5 := Lib.hid (And.intro c5 f5)
  clear c5 f5 C4
  go_wp2_with fail
  refine (live_add C5.out.1 C5.out.2 8188 1 0 [(-3, 1), (5, 3), (8188, 1)] (by decide) (by decide) (by decide)).mono ?_
  rintro e w6 ⟨rfl, o6, h6, c6, f6⟩
  have C6 := Lib.hid (And.intro c6 f6)
  clear c6 f6 C5
  go_wp2_with fail
  refine (pairs_any g h6 _ w6 C6.out.1.is).mono ?_
  rintro e w7 ⟨p, c, n, rfl, hp⟩
  have hn : 3 = n := hp.len
  subst hn
  have P7 := Lib.hid (hp.pri (by decide))
  have C7 := Lib.hid (And.intro (C6.out.1.fr0 hp.fr) (C6.out.2.trans0 hp.fr))
  have q7 : PrI (w7.alloc (.cells #[.int .i64 (-3), .int .u64 1, .int .i64 5, .int .u64 3, .int .i64 8188, .int .u64 1] 50)) (some ⟨w7.heap.size, 0, none⟩) [(-3, 1), (5, 3), (8188, 1)] := pri_three (heap_alloc_new w7 _)
  have HS := Lib.hid (rsame_yes p _ 3 c 3 [(-3, 1), (5, 3), (8188, 1)] _ (P7.out.fr0 (Fr.alloc S0 w7 (.cells #[.int .i64 (-3), .int .u64 1, .int .i64 5, .int .u64 3, .int .i64 8188, .int .u64 1] 50))) q7 rfl)
  clear hp q7 C6
  go_wp2_with fail
  refine HS.out.mono ?_
  rintro e w8 ⟨rfl, f8⟩
  have f78 := (Fr.alloc S0 w7 (.cells #[.int .i64 (-3), .int .u64 1, .int .i64 5, .int .u64 3, .int .i64 8188, .int .u64 1] 50)).trans0 f8
  have HT := Lib.hid (total_any g h6 _ w8 (C7.out.1.is.fr0 f78))
  have F8 := Lib.hid (C7.out.2.trans0 f78)
  clear f8 f78 HS C7
  go_wp2_with fail
  refine HT.out.mono ?_
  rintro e w9 ⟨rfl, f9⟩
  clear HT
  go_wp2_with fail
  go_ret
  exact ⟨rfl, F8.out.trans0 f9⟩
theorem start (w : World) (R) (h : ∀ w1, Fr S0 w w1 → R (.returned (.bool true)) w1) : Calls Try.prog 7 #[] w R :=
  (alive_any w).mono fun e w1 he => by rw [he.1]; exact h w1 he.2
end Go.Proofs.Ytocdjklgfmkbfaa
