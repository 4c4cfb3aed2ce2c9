/- A store's block, and the functions that read it alone. -/
import Derived.Test.YtocdjklgfmkbfaaDnCel
namespace Go.Proofs.Ytocdjklgfmkbfaa
open Go.RowKit

/-- the cells of a store's block -/
def raw (a b F : Int) (p : Option Addr) (m : Nat) (n t : Int) : Array Value := #[.int .i64 a, .int .i64 b, .int .i64 F, .slice p m m, .int .i64 n, .int .u64 t]
/-- block g holds a store's fields -/
structure Raw (w : World) (g : Nat) (a b F : Int) (p : Option Addr) (m : Nat) (n t : Int) : Prop where
  blk : w.heap[g]? = some (.cells #[.int .i64 a, .int .i64 b, .int .i64 F, .slice p m m, .int .i64 n, .int .u64 t] 32 (0, 0))
section
variable {w w' : World} {g : Nat} {a b F : Int} {p : Option Addr} {m : Nat} {n t : Int} {S : Nat → Prop}
theorem Raw.c0 (h : Raw w g a b F p m n t) : w.cell? ⟨g, 0, none⟩ = some (.int .i64 a) := by simp [World.cell?, h.blk]
theorem Raw.c1 (h : Raw w g a b F p m n t) : w.cell? ⟨g, 1, none⟩ = some (.int .i64 b) := by simp [World.cell?, h.blk]
theorem Raw.c2 (h : Raw w g a b F p m n t) : w.cell? ⟨g, 2, none⟩ = some (.int .i64 F) := by simp [World.cell?, h.blk]
theorem Raw.c3 (h : Raw w g a b F p m n t) : w.cell? ⟨g, 3, none⟩ = some (.slice p m m) := by simp [World.cell?, h.blk]
theorem Raw.c4 (h : Raw w g a b F p m n t) : w.cell? ⟨g, 4, none⟩ = some (.int .i64 n) := by simp [World.cell?, h.blk]
theorem Raw.c5 (h : Raw w g a b F p m n t) : w.cell? ⟨g, 5, none⟩ = some (.int .u64 t) := by simp [World.cell?, h.blk]
theorem Raw.fz (h : Raw w g a b F p m n t) (i : Nat) : w.frozen? ⟨g, i, none⟩ = false := by simp [World.frozen?, h.blk]
theorem Raw.fr (h : Raw w g a b F p m n t) (f : Fr S w w') (hs : ¬ S g) : Raw w' g a b F p m n t := ⟨f.row h.blk hs⟩
theorem Raw.fr0 (h : Raw w g a b F p m n t) (f : Fr S0 w w') : Raw w' g a b F p m n t := h.fr f fun h => h
theorem Raw.set0 (h : Raw w g a b F p m n t) (x : Int) : Raw (w.setCell ⟨g, 0, none⟩ (.int .i64 x)) g x b F p m n t := ⟨by rw [heap_setCell_same w g 0 _ _ _ h.blk]; rfl⟩
theorem Raw.set1 (h : Raw w g a b F p m n t) (x : Int) : Raw (w.setCell ⟨g, 1, none⟩ (.int .i64 x)) g a x F p m n t := ⟨by rw [heap_setCell_same w g 1 _ _ _ h.blk]; rfl⟩
theorem Raw.set2 (h : Raw w g a b F p m n t) (x : Int) (q : Option Addr) (k : Nat) : Raw ((w.setCell ⟨g, 2, none⟩ (.int .i64 x)).setCell ⟨g, 3, none⟩ (.slice q k k)) g a b x q k n t :=
  ⟨by rw [heap_setCell_same _ g 3 _ _ _ (heap_setCell_same w g 2 _ _ _ h.blk)]; rfl⟩
theorem Raw.set4 (h : Raw w g a b F p m n t) (x : Int) : Raw (w.setCell ⟨g, 4, none⟩ (.int .i64 x)) g a b F p m x t := ⟨by rw [heap_setCell_same w g 4 _ _ _ h.blk]; rfl⟩
theorem Raw.set5 (h : Raw w g a b F p m n t) (x : Int) : Raw (w.setCell ⟨g, 5, none⟩ (.int .u64 x)) g a b F p m n x := ⟨by rw [heap_setCell_same w g 5 _ _ _ h.blk]; rfl⟩
theorem Raw.lt (h : Raw w g a b F p m n t) : g < w.heap.size := (Array.getElem?_eq_some_iff.1 h.blk).1
end

/-- block g is a store that has room for the keys from a to b, and holds l; its row is block h -/
structure Sto (w : World) (g h : Nat) (a b F : Int) (p : Option Addr) (m : Nat) (l : List Pr) : Prop where
  raw : Raw w g a b F p m (l.length : Nat) (ltot l : Nat)
  cel : Cel w h F p m (cnt l)
  apart : p ≠ none → h ≠ g
  srt : Srt l
  pos : Pos l
  tot : ltot l ≤ 4611686018427387904
  lies : ∀ x ∈ l, F ≤ x.1 ∧ x.1 < F + (m : Int)
  all : ∀ x ∈ l, a ≤ x.1 ∧ x.1 ≤ b
  lo : -1048576 ≤ a
  hi : b ≤ 1048576
  ab : a ≤ b
  win : b - a < 8192
theorem Sto.fr {S : Nat → Prop} {w w' : World} {g h : Nat} {a b F : Int} {p : Option Addr} {m : Nat} {l : List Pr} (s : Sto w g h a b F p m l) (f : Fr S w w') (h1 : ¬ S g) (h2 : p ≠ none → ¬ S h) : Sto w' g h a b F p m l :=
  ⟨s.raw.fr f h1, s.cel.fr f h2, s.apart, s.srt, s.pos, s.tot, s.lies, s.all, s.lo, s.hi, s.ab, s.win⟩
theorem Sto.fr0 {w w' : World} {g h : Nat} {a b F : Int} {p : Option Addr} {m : Nat} {l : List Pr} (s : Sto w g h a b F p m l) (f : Fr S0 w w') : Sto w' g h a b F p m l := s.fr f (fun h => h) fun _ h => h
theorem Sto.tell {w : World} {g h : Nat} {a b F : Int} {p : Option Addr} {m : Nat} {l : List Pr} (s : Sto w g h a b F p m l) (k : Int) : tell F m (cnt l) k = cnt l k := by
  unfold Go.Proofs.Ytocdjklgfmkbfaa.tell
  split
  · rfl
  · rename_i hn
    exact (cnt_out fun x hx e => hn (by have := s.lies x hx; omega)).symm
theorem Sto.len {w : World} {g h : Nat} {a b F : Int} {p : Option Addr} {m : Nat} {l : List Pr} (s : Sto w g h a b F p m l) : l.length ≤ 8192 := by
  have h1 := s.ab
  have h2 := s.win
  have := len_le s.srt s.all (by omega)
  omega
/-- block g is a store that holds l; its row is block h -/
def StIs (w : World) (g h : Nat) (l : List Pr) : Prop := ∃ a b F p m, Sto w g h a b F p m l ∧ (l ≠ [] → Ends l a b)
theorem StIs.fr {S : Nat → Prop} {w w' : World} {g h : Nat} {l : List Pr} (s : StIs w g h l) (f : Fr S w w') (h1 : ¬ S g) (h2 : ¬ S h) : StIs w' g h l :=
  let ⟨a, b, F, p, m, s, e⟩ := s; ⟨a, b, F, p, m, s.fr f h1 fun _ => h2, e⟩
theorem StIs.fr0 {w w' : World} {g h : Nat} {l : List Pr} (s : StIs w g h l) (f : Fr S0 w w') : StIs w' g h l := s.fr f (fun h => h) fun h => h
theorem StIs.ok {w : World} {g h : Nat} {l : List Pr} (s : StIs w g h l) : Ok l := by
  obtain ⟨a, b, F, p, m, s, e⟩ := s
  exact Ok.of s.srt s.pos s.all s.lo s.hi s.win s.tot
theorem StIs.lt {w : World} {g h : Nat} {l : List Pr} (s : StIs w g h l) : g < w.heap.size := by
  obtain ⟨a, b, F, p, m, s, e⟩ := s
  exact s.raw.lt
theorem cel_nil (w : World) (h : Nat) : Cel w h 0 none 0 (cnt []) := ⟨⟨[], World.ownsRow_nil _ _ _ _, fun i hi => absurd hi (Nat.not_lt_zero i)⟩, .inl rfl, by decide, by decide, by decide⟩
theorem Sto.zero {w : World} {g : Nat} (h : Nat) (r : Raw w g 0 0 0 none 0 0 0) : Sto w g h 0 0 0 none 0 [] :=
  ⟨r, cel_nil w h, fun h => absurd rfl h, srt_nil, pos_nil, by decide, (fun _ h => (by cases h)), (fun _ h => (by cases h)), by decide, by decide, by decide, by decide⟩
theorem StIs.zero {w : World} {g : Nat} (h : Nat) (r : Raw w g 0 0 0 none 0 0 0) : StIs w g h [] := ⟨_, _, _, _, _, Sto.zero h r, fun h => absurd rfl h⟩

section
variable (g h : Nat) (l : List Pr) (w : World)
set_option maxRecDepth 100000 in
set_option maxHeartbeats 400000 in
theorem total_any (s : StIs w g h l) : Calls Try.prog 19 #[.pointer (some ⟨g, 0, none⟩)] w fun e w' => e = .returned (.int .u64 (ltot l : Nat)) ∧ Fr S0 w w' := by
  obtain ⟨a, b, F, p, m, s, -⟩ := s
  have c5 := s.raw.c5
  clear s
  go_enter Try.func19, Try.ntmps19
  go_wp2_with fail
  go_ret
  exact ⟨rfl, Fr.refl _ _⟩
set_option maxRecDepth 100000 in
set_option maxHeartbeats 400000 in
theorem len_any (s : StIs w g h l) : Calls Try.prog 31 #[.pointer (some ⟨g, 0, none⟩)] w fun e w' => e = .returned (.int .i64 (l.length : Nat)) ∧ Fr S0 w w' := by
  obtain ⟨a, b, F, p, m, s, -⟩ := s
  have c4 := s.raw.c4
  clear s
  go_enter Try.func31, Try.ntmps31
  go_wp2_with fail
  go_ret
  exact ⟨rfl, Fr.refl _ _⟩
set_option maxRecDepth 100000 in
set_option maxHeartbeats 400000 in
theorem count_any (k : Int) (s : StIs w g h l) : Calls Try.prog 32 #[.pointer (some ⟨g, 0, none⟩), .int .i64 k] w fun e w' => e = .returned (.int .u64 (cnt l k : Nat)) ∧ Fr S0 w w' := by
  obtain ⟨a, b, F, p, m, s, -⟩ := s
  have c2 := s.raw.c2
  have c3 := s.raw.c3
  have HA := Lib.hid (at_any h F k p m (cnt l) w s.cel)
  rw [s.tell k] at HA
  clear s
  go_enter Try.func32, Try.ntmps32
  go_wp2_with fail
  refine HA.out.mono ?_
  rintro e w1 ⟨rfl, f1⟩
  go_wp2_with fail
  go_ret
  exact ⟨rfl, f1⟩
set_option maxRecDepth 100000 in
set_option maxHeartbeats 400000 in
theorem ends_none (s : StIs w g h []) : Calls Try.prog 20 #[.pointer (some ⟨g, 0, none⟩)] w fun e w' => e = .returned (.tuple #[.int .i64 0, .int .i64 0, .bool false]) ∧ Fr S0 w w' := by
  obtain ⟨a, b, F, p, m, s, -⟩ := s
  have c4 := s.raw.c4
  rw [List.length_nil] at c4
  clear s
  go_enter Try.func20, Try.ntmps20
  go_wp2_with fail
  go_ret3
  exact ⟨rfl, Fr.refl _ _⟩
set_option maxRecDepth 100000 in
set_option maxHeartbeats 400000 in
theorem ends_any (s : StIs w g h l) {c d : Int} (hc : Ends l c d) : Calls Try.prog 20 #[.pointer (some ⟨g, 0, none⟩)] w fun e w' => e = .returned (.tuple #[.int .i64 c, .int .i64 d, .bool true]) ∧ Fr S0 w w' := by
  obtain ⟨a, b, F, p, m, s, e⟩ := s
  have e' := e hc.ne
  obtain ⟨h0, h1, h2⟩ := ends_at s.srt hc
  obtain ⟨h5, h3, h4⟩ := ends_at s.srt e'
  obtain rfl : a = c := by rw [← h3, h1]
  obtain rfl : b = d := by rw [← h4, h2]
  have c0 := s.raw.c0
  have c1 := s.raw.c1
  have c4 := s.raw.c4
  have hn : ((l.length : Int) == 0) = false := by rw [beq_eq_false_iff_ne]; omega
  clear s e e' h1 h2 h3 h4 hc h5
  go_enter Try.func20, Try.ntmps20
  go_wp2_with fail
  go_quiet (fail)
  go_wp2_with fail
  go_ret3
  exact ⟨rfl, Fr.drewN _ _ _⟩
end
end Go.Proofs.Ytocdjklgfmkbfaa
