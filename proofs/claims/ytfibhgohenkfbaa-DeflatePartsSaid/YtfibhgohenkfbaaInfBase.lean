/- A reading that is given up, and what a stream is. -/
import Derived.Test.YtfibhgohenkfbaaInfModel
import Derived.Test.YtfibhgohenkfbaaHufFind
import Derived.StillTailTactics
import Derived.BigRegion
namespace Go.Proofs.Ytfibhgohenkfbaa
open Go.RowKit

/-- what a reading is given up with -/
def chn (n : Nat) : List PanicEntry := [{ v := .iface 57 (.agg #[.int .i64 (n : Nat)]), recovered := false }]

set_option maxRecDepth 100000 in
theorem demand_yes (n : Nat) (w : World) :
    Calls Try.prog 88 #[.bool true, .int .i64 (n : Nat)] w fun e w' => e = .returned (.tuple #[]) ∧ w = w' := by
  go_enter Try.func88, Try.ntmps88
  go_wp2
  go_end0
  exact ⟨rfl, rfl⟩
set_option maxRecDepth 100000 in
theorem demand_no (n : Nat) (w : World) :
    Calls Try.prog 88 #[.bool false, .int .i64 (n : Nat)] w fun e w' => e = Ending.panicked (chn n) ∧ w = w' := by
  go_enter Try.func88, Try.ntmps88
  go_wp2
  exact ⟨rfl, rfl, rfl⟩
set_option maxRecDepth 100000 in
theorem got32_yes (n : Nat) (w : World) :
    Calls Try.prog 68 #[.int .u32 (n : Nat), .int .i64 0] w fun e w' => e = .returned (.int .u32 (n : Nat)) ∧ w = w' := by
  have HD := Lib.hid (demand_yes 0 w)
  go_enter Try.func68, Try.ntmps68
  go_wp2_with fail
  refine HD.out.mono ?_
  rintro e w' ⟨rfl, rfl⟩
  go_wp2_with fail
  go_ret
  exact ⟨rfl, rfl⟩
set_option maxRecDepth 100000 in
theorem got32_no (n m : Nat) (hm : m ≠ 0) (w : World) :
    Calls Try.prog 68 #[.int .u32 (n : Nat), .int .i64 (m : Nat)] w fun e w' => e = Ending.panicked (chn m) ∧ w = w' := by
  have HD := Lib.hid (demand_no m w)
  have h0 : ((m : Int) == 0) = false := by rw [beq_eq_false_iff_ne]; omega
  clear hm
  go_enter Try.func68, Try.ntmps68
  go_wp2_with fail
  refine HD.out.mono ?_
  rintro e w' ⟨rfl, rfl⟩
  go_wp2_with fail
  exact ⟨rfl, rfl, rfl⟩
set_option maxRecDepth 100000 in
theorem gotInt_yes (n : Nat) (w : World) :
    Calls Try.prog 108 #[.int .i64 (n : Nat), .int .i64 0] w fun e w' => e = .returned (.int .i64 (n : Nat)) ∧ w = w' := by
  have HD := Lib.hid (demand_yes 0 w)
  go_enter Try.func108, Try.ntmps108
  go_wp2_with fail
  refine HD.out.mono ?_
  rintro e w' ⟨rfl, rfl⟩
  go_wp2_with fail
  go_ret
  exact ⟨rfl, rfl⟩
set_option maxRecDepth 100000 in
theorem gotInt_no (v : Value) (m : Nat) (hm : m ≠ 0) (w : World) :
    Calls Try.prog 108 #[v, .int .i64 (m : Nat)] w fun e w' => e = .panicked (chn m) ∧ w = w' := by
  have HD := Lib.hid (demand_no m w)
  have h0 : ((m : Int) == 0) = false := by rw [beq_eq_false_iff_ne]; omega
  clear hm
  go_enter Try.func108, Try.ntmps108
  go_wp2_with fail
  refine HD.out.mono ?_
  rintro e w' ⟨rfl, rfl⟩
  go_wp2_with fail
  exact ⟨rfl, rfl, rfl⟩
set_option maxRecDepth 100000 in
theorem gotText_yes (v : Value) (w : World) :
    Calls Try.prog 93 #[v, .int .i64 0] w fun e w' => e = .returned v ∧ w = w' := by
  have HD := Lib.hid (demand_yes 0 w)
  go_enter Try.func93, Try.ntmps93
  go_wp2_with fail
  refine HD.out.mono ?_
  rintro e w' ⟨rfl, rfl⟩
  go_wp2_with fail
  go_ret
  exact ⟨rfl, rfl⟩
set_option maxRecDepth 100000 in
theorem gotText_no (v : Value) (m : Nat) (hm : m ≠ 0) (w : World) :
    Calls Try.prog 93 #[v, .int .i64 (m : Nat)] w fun e w' => e = .panicked (chn m) ∧ w = w' := by
  have HD := Lib.hid (demand_no m w)
  have h0 : ((m : Int) == 0) = false := by rw [beq_eq_false_iff_ne]; omega
  clear hm
  go_enter Try.func93, Try.ntmps93
  go_wp2_with fail
  refine HD.out.mono ?_
  rintro e w' ⟨rfl, rfl⟩
  go_wp2_with fail
  exact ⟨rfl, rfl, rfl⟩
set_option maxRecDepth 100000 in
theorem gotSet_yes (v : Value) (w : World) :
    Calls Try.prog 95 #[v, .int .i64 0] w fun e w' => e = .returned v ∧ w = w' := by
  have HD := Lib.hid (demand_yes 0 w)
  go_enter Try.func95, Try.ntmps95
  go_wp2_with fail
  refine HD.out.mono ?_
  rintro e w' ⟨rfl, rfl⟩
  go_wp2_with fail
  go_ret
  exact ⟨rfl, rfl⟩
set_option maxRecDepth 100000 in
theorem gotSet_no (v : Value) (m : Nat) (hm : m ≠ 0) (w : World) :
    Calls Try.prog 95 #[v, .int .i64 (m : Nat)] w fun e w' => e = .panicked (chn m) ∧ w = w' := by
  have HD := Lib.hid (demand_no m w)
  have h0 : ((m : Int) == 0) = false := by rw [beq_eq_false_iff_ne]; omega
  clear hm
  go_enter Try.func95, Try.ntmps95
  go_wp2_with fail
  refine HD.out.mono ?_
  rintro e w' ⟨rfl, rfl⟩
  go_wp2_with fail
  exact ⟨rfl, rfl, rfl⟩

/-- block g is a stream whose reader is the block gr: it has told the bytes T (in the block t) -/
structure StIs (w : World) (g gr : Nat) (r t : Option Nat) (b : List Nat) (k lim : Nat) (T : List Nat) (L S : Value) : Prop where
  ex : ∃ p c, w.heap[g]? = some (.cells #[.pointer (some ⟨gr, 0, none⟩), .int .i64 (lim : Nat), .slice p T.length c, L, S] 63 (0, 0)) ∧
    w.ownsRow 0 5 1 (.slice p T.length c) T.length (u8s T) ∧ Value.ownBlock (.slice p T.length c) = t
  rd : RdIs w gr r b k
  bytes : ∀ x ∈ T, x < 256
  few : T.length ≤ 1048576 ∧ lim ≤ 1048576 ∧ b.length ≤ 140737488355328
  apart : g ≠ gr ∧ r ≠ some g ∧ t ≠ some g ∧ t ≠ some gr ∧ ∀ j, t = some j → r ≠ some j
/-- what a stream may write -/
def StB (g gr : Nat) (t : Option Nat) : Nat → Prop := fun j => j = g ∨ j = gr ∨ t = some j
/-- the stream has gone on -/
def StTo (w w' : World) (g gr : Nat) (r t : Option Nat) (b : List Nat) (k lim : Nat) (T : List Nat) (L S : Value) : Prop :=
  ∃ t', StIs w' g gr r t' b k lim T L S ∧ Fr (StB g gr t) w w' ∧ (t' = t ∨ ∀ j, t' = some j → w.heap.size ≤ j)
section
variable {w w' : World} {g gr : Nat} {r t : Option Nat} {b : List Nat} {k lim : Nat} {T : List Nat} {L S : Value}
theorem StIs.lt (h : StIs w g gr r t b k lim T L S) : g < w.heap.size := by
  obtain ⟨p, c, h1, -, -⟩ := h.ex
  exact (Array.getElem?_eq_some_iff.1 h1).1
theorem StIs.tlt (h : StIs w g gr r t b k lim T L S) : ∀ j, t = some j → j < w.heap.size := by
  obtain ⟨p, c, -, h2, h3⟩ := h.ex
  intro j hj
  exact (h2.lt j (h3.trans hj)).2
theorem StIs.fr {D : Nat → Prop} (h : StIs w g gr r t b k lim T L S) (hf : Fr D w w') (hg : ¬ D g) (hgr : ¬ D gr) (hr : ∀ j, r = some j → ¬ D j) (ht : ∀ j, t = some j → ¬ D j) : StIs w' g gr r t b k lim T L S := by
  obtain ⟨p, c, h1, h2, h3⟩ := h.ex
  exact ⟨⟨p, c, hf.row h1 hg, hf.owns h2 (fun k hk => ht k (h3.symm.trans hk)), h3⟩, h.rd.fr hf hgr hr, h.bytes, h.few, h.apart⟩
theorem StIs.fr0 (h : StIs w g gr r t b k lim T L S) (hf : Fr S0 w w') : StIs w' g gr r t b k lim T L S := h.fr hf (fun h => h) (fun h => h) (fun _ _ h => h) (fun _ _ h => h)
theorem StIs.self (h : StIs w g gr r t b k lim T L S) : StTo w w g gr r t b k lim T L S := ⟨t, h, Fr.refl _ _, .inl rfl⟩
/-- the reader has gone on -/
theorem StIs.read (h : StIs w g gr r t b k lim T L S) {j : Nat} (hr : RdTo w w' gr r b j) : StIs w' g gr r t b j lim T L S := by
  obtain ⟨p, c, h1, h2, h3⟩ := h.ex
  have a := h.apart
  exact ⟨⟨p, c, hr.2.row h1 a.1, hr.2.owns h2 (fun k hk e => a.2.2.2.1 (by rw [← h3, hk, e])), h3⟩, hr.1, h.bytes, h.few, h.apart⟩
theorem frRd {D : Nat → Prop} (hf : Fr (· = gr) w w') (hd : D gr) : Fr D w w' := hf.mono fun j _ e => by rw [e]; exact hd
theorem StIs.c0 (h : StIs w g gr r t b k lim T L S) : w.cell? ⟨g, 0, none⟩ = some (.pointer (some ⟨gr, 0, none⟩)) := by
  obtain ⟨p, c, h1, -⟩ := h.ex
  simp [World.cell?, h1]
theorem StIs.c1 (h : StIs w g gr r t b k lim T L S) : w.cell? ⟨g, 1, none⟩ = some (.int .i64 (lim : Nat)) := by
  obtain ⟨p, c, h1, -⟩ := h.ex
  simp [World.cell?, h1]
theorem StIs.c3 (h : StIs w g gr r t b k lim T L S) : w.cell? ⟨g, 3, none⟩ = some L := by
  obtain ⟨p, c, h1, -⟩ := h.ex
  simp [World.cell?, h1]
theorem StIs.c4 (h : StIs w g gr r t b k lim T L S) : w.cell? ⟨g, 4, none⟩ = some S := by
  obtain ⟨p, c, h1, -⟩ := h.ex
  simp [World.cell?, h1]
theorem StIs.fz (h : StIs w g gr r t b k lim T L S) (i : Nat) : w.frozen? ⟨g, i, none⟩ = false := by
  obtain ⟨p, c, h1, -⟩ := h.ex
  simp [World.frozen?, h1]
theorem StTo.trans {w0 : World} {t0 : Option Nat} {k1 : Nat} {T1 : List Nat} {L1 S1 : Value} (hf : Fr (StB g gr t0) w0 w) (ht : t = t0 ∨ ∀ j, t = some j → w0.heap.size ≤ j) (h : StTo w w' g gr r t b k1 lim T1 L1 S1) : StTo w0 w' g gr r t0 b k1 lim T1 L1 S1 := by
  obtain ⟨t2, h1, h2, h3⟩ := h
  refine ⟨t2, h1, hf.trans h2 (fun j hj e => ?_), ?_⟩
  · rcases e with e | e | e
    · exact .inl e
    · exact .inr (.inl e)
    · rcases ht with ht | ht
      · exact .inr (.inr (ht ▸ e))
      · have := ht j e; omega
  · rcases h3 with h3 | h3
    · subst h3
      exact ht
    · exact .inr fun j hj => Nat.le_trans hf.size (h3 j hj)
/-- blocks of a set that a stream doesn't write -/
def Away (w : World) (A B g gr : Nat) (t : Option Nat) : Prop := B ≤ w.heap.size ∧ ∀ j, A ≤ j → j < B → ¬ StB g gr t j
theorem Away.to {A B : Nat} {w1 : World} {t1 : Option Nat} (h : Away w A B g gr t) (hs : w.heap.size ≤ w1.heap.size) (ht : t1 = t ∨ ∀ j, t1 = some j → w.heap.size ≤ j) : Away w1 A B g gr t1 := by
  refine ⟨Nat.le_trans h.1 hs, fun j h1 h2 h3 => ?_⟩
  rcases h3 with h3 | h3 | h3
  · exact h.2 j h1 h2 (.inl h3)
  · exact h.2 j h1 h2 (.inr (.inl h3))
  · rcases ht with ht | ht
    · exact h.2 j h1 h2 (.inr (.inr (ht ▸ h3)))
    · have := ht j h3; have := h.1; omega
theorem Away.rd {A B : Nat} (h : Away w A B g gr t) : gr < A ∨ B ≤ gr := by
  by_cases h1 : gr < A
  · exact .inl h1
  · by_cases h2 : gr < B
    · exact absurd (.inr (.inl rfl)) (h.2 gr (by omega) h2)
    · exact .inr (by omega)
end
end Go.Proofs.Ytfibhgohenkfbaa
