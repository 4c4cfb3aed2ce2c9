/- InfOne, InfTwo -/
import Derived.Test.YtnndgpggjlhhpaaGreatPa1
import Derived.Test.YtnndgpggjlhhpaaGreatPa2
import Derived.Test.YtnndgpggjlhhpaaGreatPa15
import Derived.Test.YtnndgpggjlhhpaaGreatPa20
import Derived.StillTailTactics
import Derived.BigRegion
import Derived.Deep.RegionHeld3
import Derived.Laws.MakeOwn
import Derived.Laws.OwnMore
import Derived.IntWalk
import Derived.Lib.MakeNoZero
import Derived.Laws.CopyOwn
import Derived.WalkKit
import Derived.WalkSpells
import Derived.WalkLawsBesides
import Derived.Deep.QuietTactic
import Derived.BigQuiet
import Derived.RegionTactic
import Derived.Deep.AppendLies
import Derived.Deep.RegionLaw
import Derived.Laws.ResultCell
import Derived.Laws.EntriesVeiled
import Derived.Lib.Hide
import Derived.Test.YtnndgpggjlhhpaaGreatRows
import Derived.Laws.BytesArg
import Derived.Lib.SlBytesConst
import Derived.Maps.AppendAt
import Derived.Laws.AppendOwnNone
import Derived.Laws.Tables
import Derived.Defers
import Derived.Recover
/- InfBase, InfRead, InfTell, InfBack, InfSyms, InfStored, InfFixed, InfRun, InfLens in one text. -/

/- A reading that is given up, and what a stream is. -/
namespace Go.Proofs.YtnndgpggjlhhpaaGreat
open Go.RowKit

/-- what a reading is given up with -/
def chn (n : Nat) : List PanicEntry := [{ v := .iface 222 (.agg #[.int .i64 (n : Nat)]), recovered := false }]

/-- block g is a stream whose reader is the block gr: it has told the bytes T (in the block t) -/
structure StIs (w : World) (g gr : Nat) (r t : Option Nat) (b : List Nat) (k lim : Nat) (T : List Nat) (L S : Value) : Prop where
  ex : ∃ p c, w.heap[g]? = some (.cells #[.pointer (some ⟨gr, 0, none⟩), .int .i64 (lim : Nat), .slice p T.length c, L, S] 228 (0, 0)) ∧
    w.ownsRow 0 5 1 (.slice p T.length c) T.length (u8s T) ∧ Value.ownBlock (.slice p T.length c) = t
  rd : RdIs w gr r b k
  bytes : ∀ x ∈ T, x < 256
  few : T.length ≤ 1048576 ∧ lim ≤ 1048576 ∧ b.length ≤ 140737488355328
  apart : g ≠ gr ∧ r ≠ some g ∧ t ≠ some g ∧ t ≠ some gr ∧ ∀ j, t = some j → r ≠ some j
/-- what a stream may write -/
def StB (g gr : Nat) (t : Option Nat) : Nat → Prop := fun j => j = g ∨ j = gr ∨ t = some j
/-- the stream has gone on -/
def StTo (w w' : World) (g gr : Nat) (r t : Option Nat) (b : List Nat) (k lim : Nat) (T : List Nat) (L S : Value) : Prop :=
  ∃ t', StIs w' g gr r t' b k lim T L S ∧ Fr (StB g gr t) w w' ∧ (t' = t ∨ ∀ j, t' = some j → w.heap.size ≤ j)
section
variable {w w' : World} {g gr : Nat} {r t : Option Nat} {b : List Nat} {k lim : Nat} {T : List Nat} {L S : Value}
theorem StIs.lt (h : StIs w g gr r t b k lim T L S) : g < w.heap.size := by
  obtain ⟨p, c, h1, -, -⟩ := h.ex
  exact (Array.getElem?_eq_some_iff.1 h1).1
theorem StIs.tlt (h : StIs w g gr r t b k lim T L S) : ∀ j, t = some j → j < w.heap.size := by
  obtain ⟨p, c, -, h2, h3⟩ := h.ex
  intro j hj
  exact (h2.lt j (h3.trans hj)).2
theorem StIs.fr {D : Nat → Prop} (h : StIs w g gr r t b k lim T L S) (hf : Fr D w w') (hg : ¬ D g) (hgr : ¬ D gr) (hr : ∀ j, r = some j → ¬ D j) (ht : ∀ j, t = some j → ¬ D j) : StIs w' g gr r t b k lim T L S := by
  obtain ⟨p, c, h1, h2, h3⟩ := h.ex
  exact ⟨⟨p, c, hf.row h1 hg, hf.owns h2 (fun k hk => ht k (h3.symm.trans hk)), h3⟩, h.rd.fr hf hgr hr, h.bytes, h.few, h.apart⟩
theorem StIs.fr0 (h : StIs w g gr r t b k lim T L S) (hf : Fr S0 w w') : StIs w' g gr r t b k lim T L S := h.fr hf (fun h => h) (fun h => h) (fun _ _ h => h) (fun _ _ h => h)
theorem StIs.self (h : StIs w g gr r t b k lim T L S) : StTo w w g gr r t b k lim T L S := ⟨t, h, Fr.refl _ _, .inl rfl⟩
/-- the reader has gone on -/
theorem StIs.read (h : StIs w g gr r t b k lim T L S) {j : Nat} (hr : RdTo w w' gr r b j) : StIs w' g gr r t b j lim T L S := by
  obtain ⟨p, c, h1, h2, h3⟩ := h.ex
  have a := h.apart
  exact ⟨⟨p, c, hr.2.row h1 a.1, hr.2.owns h2 (fun k hk e => a.2.2.2.1 (by rw [← h3, hk, e])), h3⟩, hr.1, h.bytes, h.few, h.apart⟩
theorem StIs.c0 (h : StIs w g gr r t b k lim T L S) : w.cell? ⟨g, 0, none⟩ = some (.pointer (some ⟨gr, 0, none⟩)) := by
  obtain ⟨p, c, h1, -⟩ := h.ex
  simp [World.cell?, h1]
theorem StIs.c1 (h : StIs w g gr r t b k lim T L S) : w.cell? ⟨g, 1, none⟩ = some (.int .i64 (lim : Nat)) := by
  obtain ⟨p, c, h1, -⟩ := h.ex
  simp [World.cell?, h1]
theorem StIs.c3 (h : StIs w g gr r t b k lim T L S) : w.cell? ⟨g, 3, none⟩ = some L := by
  obtain ⟨p, c, h1, -⟩ := h.ex
  simp [World.cell?, h1]
theorem StIs.c4 (h : StIs w g gr r t b k lim T L S) : w.cell? ⟨g, 4, none⟩ = some S := by
  obtain ⟨p, c, h1, -⟩ := h.ex
  simp [World.cell?, h1]
theorem StIs.fz (h : StIs w g gr r t b k lim T L S) (i : Nat) : w.frozen? ⟨g, i, none⟩ = false := by
  obtain ⟨p, c, h1, -⟩ := h.ex
  simp [World.frozen?, h1]
theorem StTo.trans {w0 : World} {t0 : Option Nat} {k1 : Nat} {T1 : List Nat} {L1 S1 : Value} (hf : Fr (StB g gr t0) w0 w) (ht : t = t0 ∨ ∀ j, t = some j → w0.heap.size ≤ j) (h : StTo w w' g gr r t b k1 lim T1 L1 S1) : StTo w0 w' g gr r t0 b k1 lim T1 L1 S1 := by
  obtain ⟨t2, h1, h2, h3⟩ := h
  refine ⟨t2, h1, hf.trans h2 (fun j hj e => ?_), ?_⟩
  · rcases e with e | e | e
    · exact .inl e
    · exact .inr (.inl e)
    · rcases ht with ht | ht
      · exact .inr (.inr (ht ▸ e))
      · have := ht j e; omega
  · rcases h3 with h3 | h3
    · subst h3
      exact ht
    · exact .inr fun j hj => Nat.le_trans hf.size (h3 j hj)
/-- blocks of a set that a stream doesn't write -/
def Away (w : World) (A B g gr : Nat) (t : Option Nat) : Prop := B ≤ w.heap.size ∧ ∀ j, A ≤ j → j < B → ¬ StB g gr t j
theorem Away.to {A B : Nat} {w1 : World} {t1 : Option Nat} (h : Away w A B g gr t) (hs : w.heap.size ≤ w1.heap.size) (ht : t1 = t ∨ ∀ j, t1 = some j → w.heap.size ≤ j) : Away w1 A B g gr t1 := by
  refine ⟨Nat.le_trans h.1 hs, fun j h1 h2 h3 => ?_⟩
  rcases h3 with h3 | h3 | h3
  · exact h.2 j h1 h2 (.inl h3)
  · exact h.2 j h1 h2 (.inr (.inl h3))
  · rcases ht with ht | ht
    · exact h.2 j h1 h2 (.inr (.inr (ht ▸ h3)))
    · have := ht j h3; have := h.1; omega
theorem Away.rd {A B : Nat} (h : Away w A B g gr t) : gr < A ∨ B ≤ gr := by
  by_cases h1 : gr < A
  · exact .inl h1
  · by_cases h2 : gr < B
    · exact absurd (.inr (.inl rfl)) (h.2 gr (by omega) h2)
    · exact .inr (by omega)
end
end Go.Proofs.YtnndgpggjlhhpaaGreat

/- Groups and symbols are read; the tables. -/
namespace Go.Proofs.YtnndgpggjlhhpaaGreat
open Go.RowKit

/-- how a call ends that reads -/
def RdEnds (x : Res Nat) (w : World) (gr : Nat) (r : Option Nat) (b : List Nat) (e : Ending) (w' : World) : Prop :=
  match x with
  | .ok n j => e = .returned (.int .i64 (n : Nat)) ∧ RdTo w w' gr r b j
  | .no m => e = .panicked (chn m) ∧ Fr (· = gr) w w'
theorem RdEnds.of {x y : Res Nat} {w : World} {gr : Nat} {r : Option Nat} {b : List Nat} {e : Ending} {w' : World} (h : x = y) (k : RdEnds y w gr r b e w') : RdEnds x w gr r b e w' := by rw [h]; exact k
theorem rGrp_yes {b : List Nat} {c k : Nat} (h : k + c ≤ 8 * b.length) : rGrp b c k = .ok (num (bitsAt b k c)) (k + c) := by unfold rGrp; rw [if_pos h]
theorem rGrp_no {b : List Nat} {c k : Nat} (h : ¬ k + c ≤ 8 * b.length) : rGrp b c k = .no 20 := by unfold rGrp; rw [if_neg h]

section
variable {g gr : Nat} {r t : Option Nat} {b : List Nat} {k lim : Nat} {T : List Nat} {L S : Value}
theorem rSym_hit {b l : List Nat} {k i : Nat} (h : hits l ((bts b).drop k) i) : rSym b l k = .ok i (k + len l i) := by
  have hb : Bit01 ((bts b).drop k) := (bts_bit b).sub fun _ hx => List.mem_of_mem_drop hx
  unfold rSym
  cases hf : (List.range l.length).find? (fun i => decide (hits l ((bts b).drop k) i)) with
  | none =>
    have := List.find?_eq_none.1 hf i (List.mem_range.2 (len_in h.1))
    simp only [decide_eq_true_eq] at this
    exact absurd h this
  | some j =>
    have := List.find?_some hf
    simp only [decide_eq_true_eq] at this
    rw [hits_one hb this h]
theorem rSym_none {b l : List Nat} {k : Nat} (h : ∀ i, ¬ hits l ((bts b).drop k) i) : rSym b l k = if ((bts b).drop k).length < mx l then .no 20 else .no 62 := by
  unfold rSym
  rw [List.find?_eq_none.2 (fun i _ => by simpa using h i)]
theorem rSym_in {b l : List Nat} {k i j : Nat} (h : rSym b l k = .ok i j) : hits l ((bts b).drop k) i ∧ j = k + len l i := by
  unfold rSym at h
  split at h
  · rename_i i' hf
    have := List.find?_some hf
    simp only [decide_eq_true_eq] at this
    simp only [Res.ok.injEq] at h
    obtain ⟨rfl, rfl⟩ := h
    exact ⟨this, rfl⟩
  · split at h <;> cases h
end

set_option maxRecDepth 100000 in
set_option maxHeartbeats 400000 in
theorem spread_few (n m : Nat) (w : World) (h : n < m) :
    Calls Tryz.prog 233 #[.int .i64 (n : Nat), .int .i64 (m : Nat)] w fun e w' => e = .returned (.tuple #[.int .i64 (n : Nat), .int .i64 0]) ∧ w = w' := by
  have h1 : (n : Int) < (m : Int) := by omega
  clear h
  go_enter Tryz.func233, Tryz.ntmps233
  go_wp2_with fail
  go_ret2
  exact ⟨rfl, rfl⟩
set_option maxRecDepth 100000 in
set_option maxHeartbeats 1000000 in
theorem spread_more (n m c x : Nat) (w : World) (h : m ≤ n) (hm : m ≤ 4) (h0 : 0 < m) (hc : c = n / m - 1) (hcs : c ≤ 30) (hx : x = (m + n % m) * 2 ^ c) (hn : n ≤ 1000) :
    Calls Tryz.prog 233 #[.int .i64 (n : Nat), .int .i64 (m : Nat)] w fun e w' => e = .returned (.tuple #[.int .i64 (x : Nat), .int .i64 (c : Nat)]) ∧ w = w' := by
  have h1 : ¬ (n : Int) < (m : Int) := by omega
  have h2 : ¬ (m : Int) = 0 := by omega
  have h3 : 1 ≤ n / m := Nat.div_pos h h0
  have h5 := Nat.div_le_self n m
  have h6 := Nat.mod_lt n h0
  have q1 : (n : Int).tdiv (m : Int) = ((n / m : Nat) : Int) := by rw [Int.ofNat_tdiv]
  have q2 : (n : Int).tmod (m : Int) = ((n % m : Nat) : Int) := by rw [Int.ofNat_tmod]
  have q3 : ((n / m : Nat) : Int) - 1 = (c : Int) := by omega
  obtain ⟨D, hD⟩ : ∃ D, n / m = D := ⟨_, rfl⟩
  obtain ⟨R, hR⟩ : ∃ R, n % m = R := ⟨_, rfl⟩
  rw [hD] at q1 q3 h3 h5
  rw [hR] at q2 h6 hx
  have hp : 2 ^ c ≤ 1073741824 := Nat.le_trans (Nat.pow_le_pow_right (n := 2) (by decide) hcs) (by decide)
  have hxs : x ≤ 8 * 1073741824 := by rw [hx]; exact Nat.mul_le_mul (by omega) hp
  have q4 : ((m : Int) + (R : Int)) * 2 ^ c = (x : Int) := by rw [hx]; simp
  have q5 : ((c : Nat) : Int).toNat = c := by omega
  clear h hc hD hR hx hp
  go_enter Tryz.func233, Tryz.ntmps233
  go_wp2_with fail
  go_ret2
  exact ⟨rfl, rfl⟩

theorem base_few {s n : Nat} (hs : s = 257 + n) (h : n < 4) : baseN s = 3 + n ∧ baseC s = 0 := by
  subst hs
  unfold baseN baseC
  rw [if_neg (by omega), if_pos (by omega), if_neg (by omega), if_pos (by omega)]
  exact ⟨by omega, rfl⟩
theorem base_more {s n : Nat} (hs : s = 257 + n) (h : ¬ n < 4) (h8 : n < 28) : baseN s = 3 + (4 + n % 4) * 2 ^ (n / 4 - 1) ∧ baseC s = n / 4 - 1 := by
  subst hs
  unfold baseN baseC
  rw [if_neg (by omega), if_neg (by omega), if_neg (by omega), if_neg (by omega), show 257 + n - 257 = n by omega]
  exact ⟨rfl, rfl⟩
theorem baseN_le (s : Nat) (h : 257 ≤ s) (h2 : s ≤ 285) : baseN s ≤ 258 ∧ baseC s ≤ 5 := by
  have key : ∀ n : Fin 29, baseN (257 + n.val) ≤ 258 ∧ baseC (257 + n.val) ≤ 5 := by decide
  have := key ⟨s - 257, by omega⟩
  simpa [show 257 + (s - 257) = s by omega] using this
theorem farN_le (n : Nat) (h : n ≤ 29) : farN n ≤ 24577 ∧ farC n ≤ 13 := by
  have key : ∀ n : Fin 30, farN n.val ≤ 24577 ∧ farC n.val ≤ 13 := by decide
  exact key ⟨n, by omega⟩
theorem far_few {n : Nat} (h : n < 2) : farN n = 1 + n ∧ farC n = 0 := by
  unfold farN farC
  rw [if_pos h, if_pos h]
  exact ⟨by omega, rfl⟩
theorem zfar_more {n : Nat} (h : ¬ n < 2) : farN n = 1 + (2 + n % 2) * 2 ^ (n / 2 - 1) ∧ farC n = n / 2 - 1 := by
  unfold farN farC
  rw [if_neg h, if_neg h]
  exact ⟨rfl, rfl⟩
set_option maxRecDepth 100000 in
set_option maxHeartbeats 400000 in
theorem base_any (s : Nat) (w : World) (h : 257 ≤ s) (h' : s ≤ 285) :
    Calls Tryz.prog 208 #[.int .i64 (s : Nat)] w fun e w' => e = .returned (.tuple #[.int .i64 (baseN s : Nat), .int .i64 (baseC s : Nat)]) ∧ w = w' := by
  by_cases h8 : s = 285
  · subst h8
    go_enter Tryz.func208, Tryz.ntmps208
    go_wp2_with fail
    go_ret2
    exact ⟨rfl, rfl⟩
  · have hs := baseN_le s h h'
    obtain ⟨n, hn⟩ : ∃ n, s = 257 + n := ⟨s - 257, by omega⟩
    have q1 : (s : Int) - 257 = (n : Int) := by omega
    have q2 : ¬ (s : Int) < 257 := by omega
    have q3 : ¬ (s : Int) > 285 := by omega
    have q4 : ((s : Int) == 285) = false := by rw [beq_eq_false_iff_ne]; omega
    have q5 : ¬ (s : Int) = 285 := by omega
    by_cases h4 : n < 4
    · obtain ⟨e1, e2⟩ := base_few hn h4
      have HS : Hid (Calls Tryz.prog 233 #[.int .i64 (n : Nat), .int .i64 4] w fun e w' => e = .returned (.tuple #[.int .i64 (n : Nat), .int .i64 0]) ∧ w = w') := Lib.hid (spread_few n 4 w h4)
      have HE : Hid ((3 : Int) + (n : Int) = (baseN s : Nat)) := Lib.hid (by omega)
      have hns : n ≤ 28 := by omega
      rw [e2]
      clear h h' h8 hs e1 e2 h4 hn
      go_enter Tryz.func208, Tryz.ntmps208
      go_wp2_with fail
      refine HS.out.mono ?_
      rintro e w' ⟨rfl, rfl⟩
      go_wp2_with fail
      go_ret2
      exact ⟨by rw [← HE.out]; rfl, rfl⟩
    · obtain ⟨e1, e2⟩ := base_more hn h4 (by omega)
      obtain ⟨X, hX⟩ : ∃ X, (4 + n % 4) * 2 ^ (n / 4 - 1) = X := ⟨_, rfl⟩
      obtain ⟨C, hC⟩ : ∃ C, n / 4 - 1 = C := ⟨_, rfl⟩
      have HS : Hid (Calls Tryz.prog 233 #[.int .i64 (n : Nat), .int .i64 4] w fun e w' => e = .returned (.tuple #[.int .i64 (X : Nat), .int .i64 (C : Nat)]) ∧ w = w') := Lib.hid (spread_more n 4 C X w (by omega) (by omega) (by omega) hC.symm (by omega) (by rw [← hX, hC]) (by omega))
      rw [hX] at e1
      rw [hC] at e2
      have HE : Hid ((3 : Int) + (X : Int) = (baseN s : Nat)) := Lib.hid (by omega)
      have hxs : X ≤ 300 := by omega
      rw [e2]
      clear h h' h8 hs e1 e2 h4 hn hX hC
      go_enter Tryz.func208, Tryz.ntmps208
      go_wp2_with fail
      refine HS.out.mono ?_
      rintro e w' ⟨rfl, rfl⟩
      go_wp2_with fail
      go_ret2
      exact ⟨by rw [← HE.out]; rfl, rfl⟩
set_option maxRecDepth 100000 in
set_option maxHeartbeats 400000 in
theorem zfar_any (n : Nat) (w : World) (h : n ≤ 29) :
    Calls Tryz.prog 209 #[.int .i64 (n : Nat)] w fun e w' => e = .returned (.tuple #[.int .i64 (farN n : Nat), .int .i64 (farC n : Nat)]) ∧ w = w' := by
  have hs := farN_le n h
  have q2 : ¬ (n : Int) < 0 := by omega
  have q3 : ¬ (n : Int) > 29 := by omega
  by_cases h4 : n < 2
  · obtain ⟨e1, e2⟩ := far_few h4
    have HS : Hid (Calls Tryz.prog 233 #[.int .i64 (n : Nat), .int .i64 2] w fun e w' => e = .returned (.tuple #[.int .i64 (n : Nat), .int .i64 0]) ∧ w = w') := Lib.hid (spread_few n 2 w h4)
    have HE : Hid ((1 : Int) + (n : Int) = (farN n : Nat)) := Lib.hid (by omega)
    rw [e2]
    clear hs e1 e2 h4
    go_enter Tryz.func209, Tryz.ntmps209
    go_wp2_with fail
    refine HS.out.mono ?_
    rintro e w' ⟨rfl, rfl⟩
    go_wp2_with fail
    go_ret2
    exact ⟨by rw [← HE.out]; rfl, rfl⟩
  · obtain ⟨e1, e2⟩ := zfar_more h4
    obtain ⟨X, hX⟩ : ∃ X, (2 + n % 2) * 2 ^ (n / 2 - 1) = X := ⟨_, rfl⟩
    obtain ⟨C, hC⟩ : ∃ C, n / 2 - 1 = C := ⟨_, rfl⟩
    have HS : Hid (Calls Tryz.prog 233 #[.int .i64 (n : Nat), .int .i64 2] w fun e w' => e = .returned (.tuple #[.int .i64 (X : Nat), .int .i64 (C : Nat)]) ∧ w = w') := Lib.hid (spread_more n 2 C X w (by omega) (by omega) (by omega) hC.symm (by omega) (by rw [← hX, hC]) (by omega))
    rw [hX] at e1
    rw [hC] at e2
    have HE : Hid ((1 : Int) + (X : Int) = (farN n : Nat)) := Lib.hid (by omega)
    have hxs : X ≤ 30000 := by omega
    rw [e2]
    clear hs e1 e2 h4 hX hC
    go_enter Tryz.func209, Tryz.ntmps209
    go_wp2_with fail
    refine HS.out.mono ?_
    rintro e w' ⟨rfl, rfl⟩
    go_wp2_with fail
    go_ret2
    exact ⟨by rw [← HE.out]; rfl, rfl⟩
end Go.Proofs.YtnndgpggjlhhpaaGreat

/- Bytes are told. -/
namespace Go.Proofs.YtnndgpggjlhhpaaGreat
open Go.RowKit

section
variable {g gr : Nat} {r t : Option Nat} {b : List Nat} {k lim : Nat} {T : List Nat} {L S : Value}
theorem StIs.c2 {w : World} (h : StIs w g gr r t b k lim T L S) : ∃ p c, w.heap[g]? = some (.cells #[.pointer (some ⟨gr, 0, none⟩), .int .i64 (lim : Nat), .slice p T.length c, L, S] 228 (0, 0)) ∧ w.cell? ⟨g, 2, none⟩ = some (.slice p T.length c) ∧
    w.ownsRow 0 5 1 (.slice p T.length c) T.length (u8s T) ∧ Value.ownBlock (.slice p T.length c) = t := by
  obtain ⟨p, c, h1, h2, h3⟩ := h.ex
  exact ⟨p, c, h1, by simp [World.cell?, h1], h2, h3⟩

end
end Go.Proofs.YtnndgpggjlhhpaaGreat

/- Bytes are told again. -/
namespace Go.Proofs.YtnndgpggjlhhpaaGreat
open Go.RowKit

theorem again_length (far : Nat) : ∀ (n : Nat) (T : List Nat), (again far n T).length = T.length + n
  | 0, T => rfl
  | n + 1, T => by rw [again, again_length far n, List.length_append, List.length_singleton]; omega
theorem rIf_yes {c : Bool} {e k : Nat} (h : c = true) : rIf c e k = .ok () k := by unfold rIf; rw [if_pos h]
theorem rIf_no {c : Bool} {e k : Nat} (h : c = false) : rIf c e k = .no e := by unfold rIf; rw [if_neg (by rw [h]; decide)]

/-- how a call ends that tells -/
def StEnds (x : Res (List Nat)) (w : World) (g gr : Nat) (r t : Option Nat) (b : List Nat) (lim : Nat) (L S : Value) (e : Ending) (w' : World) : Prop :=
  match x with
  | .ok T k => e = .returned (.tuple #[]) ∧ StTo w w' g gr r t b k lim T L S
  | .no m => e = .panicked (chn m) ∧ Fr (StB g gr t) w w'
section
variable {g gr : Nat} {r t : Option Nat} {b : List Nat} {k lim : Nat} {T : List Nat} {L S : Value}
theorem StEnds.of {x y : Res (List Nat)} {w w' : World} {e : Ending} (h : x = y) (q : StEnds y w g gr r t b lim L S e w') : StEnds x w g gr r t b lim L S e w' := by rw [h]; exact q
theorem frTo {w w1 w2 : World} {t1 : Option Nat} (hf : Fr (StB g gr t) w w1) (ht : t1 = t ∨ ∀ j, t1 = some j → w.heap.size ≤ j) (h2 : Fr (StB g gr t1) w1 w2) : Fr (StB g gr t) w w2 := by
  refine hf.trans h2 fun j hj e => ?_
  rcases e with e | e | e
  · exact .inl e
  · exact .inr (.inl e)
  · rcases ht with ht | ht
    · exact .inr (.inr (ht ▸ e))
    · have := ht j e; omega

end
end Go.Proofs.YtnndgpggjlhhpaaGreat

/- Symbols to the end of a block. -/
namespace Go.Proofs.YtnndgpggjlhhpaaGreat
open Go.RowKit

section
variable {g gr : Nat} {r t : Option Nat} {b : List Nat} {k lim : Nat} {T : List Nat} {L S : Value}
end
end Go.Proofs.YtnndgpggjlhhpaaGreat

/- A stored block. -/
namespace Go.Proofs.YtnndgpggjlhhpaaGreat
open Go.RowKit

theorem rGrp_lt {b : List Nat} {c k n j : Nat} (h : rGrp b c k = .ok n j) : n < 2 ^ c ∧ j = k + c := by
  unfold rGrp at h
  split at h
  · simp only [Res.ok.injEq] at h
    exact ⟨h.1 ▸ bitsAt_lt b k c, h.2.symm⟩
  · cases h
section
variable {g gr : Nat} {r t : Option Nat} {b : List Nat} {k lim : Nat} {T : List Nat} {L S : Value}
end
end Go.Proofs.YtnndgpggjlhhpaaGreat

/- A block by the fixed codes. -/
namespace Go.Proofs.YtnndgpggjlhhpaaGreat
open Go.RowKit

/-- the fixed codes: none so far, or both -/
def FixIs (w : World) (g gr : Nat) (t : Option Nat) (L S : Value) : Prop :=
  (L = .pointer none ∧ S = .pointer none) ∨ ∃ A B A2 B2 gl gs, L = .pointer (some ⟨gl, 0, none⟩) ∧ S = .pointer (some ⟨gs, 0, none⟩) ∧ SetIs w A B gl fixLs ∧ SetIs w A2 B2 gs (List.replicate 32 5) ∧ Away w A B g gr t ∧ Away w A2 B2 g gr t
/-- the stream has gone on over a block -/
def BlkTo (w w' : World) (g gr : Nat) (r t : Option Nat) (b : List Nat) (k lim : Nat) (T : List Nat) : Prop :=
  ∃ t' L S, StIs w' g gr r t' b k lim T L S ∧ FixIs w' g gr t' L S ∧ Fr (StB g gr t) w w' ∧ (t' = t ∨ ∀ j, t' = some j → w.heap.size ≤ j)
def BlkEnds (x : Res (List Nat)) (w : World) (g gr : Nat) (r t : Option Nat) (b : List Nat) (lim : Nat) (e : Ending) (w' : World) : Prop :=
  match x with
  | .ok T k => e = .returned (.tuple #[]) ∧ BlkTo w w' g gr r t b k lim T
  | .no m => e = .panicked (chn m) ∧ Fr (StB g gr t) w w'
section
variable {g gr : Nat} {r t : Option Nat} {b : List Nat} {k lim : Nat} {T : List Nat} {L S : Value}
theorem BlkEnds.of {x y : Res (List Nat)} {w w' : World} {e : Ending} (h : x = y) (q : BlkEnds y w g gr r t b lim e w') : BlkEnds x w g gr r t b lim e w' := by rw [h]; exact q
theorem FixIs.to {w w' : World} {t' : Option Nat} (h : FixIs w g gr t L S) (hf : Fr (StB g gr t) w w') (ht : t' = t ∨ ∀ j, t' = some j → w.heap.size ≤ j) : FixIs w' g gr t' L S := by
  rcases h with h | ⟨A, B, A2, B2, gl, gs, h1, h2, h3, h4, h5, h6⟩
  · exact .inl h
  · exact .inr ⟨A, B, A2, B2, gl, gs, h1, h2, h3.fr hf h5.2, h4.fr hf h6.2, h5.to hf.size ht, h6.to hf.size ht⟩
theorem StEnds.blk {x : Res (List Nat)} {w0 w w' : World} {t0 : Option Nat} {e : Ending} (hx : FixIs w g gr t L S) (hf : Fr (StB g gr t0) w0 w) (ht : t = t0 ∨ ∀ j, t = some j → w0.heap.size ≤ j)
    (h : StEnds x w g gr r t b lim L S e w') : BlkEnds x w0 g gr r t0 b lim e w' := by
  cases x with
  | no m => exact ⟨h.1, frTo hf ht h.2⟩
  | ok T k =>
    obtain ⟨h1, t', h2, h3, h4⟩ := h
    refine ⟨h1, t', L, S, h2, hx.to h3 h4, frTo hf ht h3, ?_⟩
    rcases h4 with h4 | h4
    · subst h4; exact ht
    · exact .inr fun j hj => Nat.le_trans hf.size (h4 j hj)
/-- what was made later lies away -/
theorem StIs.away {w w1 : World} {A B : Nat} (h : StIs w g gr r t b k lim T L S) (hA : w.heap.size ≤ A) (hB : B ≤ w1.heap.size) : Away w1 A B g gr t := by
  refine ⟨hB, fun j h1 h2 h3 => ?_⟩
  have a1 := h.lt
  have a2 := h.rd.lt
  rcases h3 with h3 | h3 | h3
  · omega
  · omega
  · have := h.tlt j h3; omega

end
end Go.Proofs.YtnndgpggjlhhpaaGreat

/- A length that comes some times. -/
namespace Go.Proofs.YtnndgpggjlhhpaaGreat
open Go.RowKit

/-- how the call ends -/
def RunEnds (x : Res (Nat × Nat)) (w : World) (gr : Nat) (r : Option Nat) (b : List Nat) (e : Ending) (w' : World) : Prop :=
  match x with
  | .ok xt j => e = .returned (.tuple #[.int .u8 (xt.1 : Nat), .int .i64 (xt.2 + 1 : Nat)]) ∧ RdTo w w' gr r b j
  | .no m => e = .panicked (chn m) ∧ Fr (· = gr) w w'
theorem RunEnds.of {x y : Res (Nat × Nat)} {w : World} {gr : Nat} {r : Option Nat} {b : List Nat} {e : Ending} {w' : World} (h : x = y) (k : RunEnds y w gr r b e w') : RunEnds x w gr r b e w' := by rw [h]; exact k
section
variable {g gr : Nat} {r t : Option Nat} {b : List Nat} {k lim : Nat} {T : List Nat} {L S : Value}
end
end Go.Proofs.YtnndgpggjlhhpaaGreat

/- Lengths by their code. -/
namespace Go.Proofs.YtnndgpggjlhhpaaGreat
open Go.RowKit

def LensEnds (x : Res (List Nat)) (many : Nat) (w : World) (gr : Nat) (r : Option Nat) (b : List Nat) (e : Ending) (w' : World) : Prop :=
  match x with
  | .ok U j => ∃ v, e = .returned v ∧ RdTo w w' gr r b j ∧ w'.ownsRow 0 5 1 v U.length (u8s U) ∧ Fresh w v ∧ (∀ x ∈ U, x ≤ 15) ∧ U.length = many
  | .no m => e = .panicked (chn m) ∧ Fr (· = gr) w w'
theorem LensEnds.of {x y : Res (List Nat)} {many : Nat} {w : World} {gr : Nat} {r : Option Nat} {b : List Nat} {e : Ending} {w' : World} (h : x = y) (k : LensEnds y many w gr r b e w') : LensEnds x many w gr r b e w' := by rw [h]; exact k
section
variable {g gr : Nat} {r t : Option Nat} {b : List Nat} {k lim : Nat} {T : List Nat} {L S : Value}
theorem StIs.grown {w wa wb : World} {k1 k2 : Nat} {T1 : List Nat} {L1 S1 : Value} {row : Option Nat} (h : StIs wa g gr r t b k1 lim T1 L1 S1) (h0 : StIs w g gr r t b k2 lim T L S) (hg : wa.grownBy wb row) (hr : ∀ j, row = some j → w.heap.size ≤ j) : StIs wb g gr r t b k1 lim T1 L1 S1 := by
  have a1 := h0.lt
  have a2 := h0.rd.lt
  exact h.fr (Fr.grown hg) (fun e => by have := hr _ e; omega) (fun e => by have := hr _ e; omega) (fun j hj e => by have := hr _ e; have := h0.rd.rlt j hj; omega) (fun j hj e => by have := hr _ e; have := h0.tlt j hj; omega)
end
end Go.Proofs.YtnndgpggjlhhpaaGreat

/- InfCode, InfDesc, InfBlock, InfCatch, InfLoc, InfRd, InfPure, InfAlive, InfLawTables, InfLim, InfErr in one text. -/

/- The code that lengths are written by. -/
namespace Go.Proofs.YtnndgpggjlhhpaaGreat
open Go.RowKit

def CodeEnds (x : Res (List Nat)) (w : World) (gr : Nat) (r : Option Nat) (b : List Nat) (e : Ending) (w' : World) : Prop :=
  match x with
  | .ok cl j => ∃ A B gc, e = .returned (.pointer (some ⟨gc, 0, none⟩)) ∧ RdTo w w' gr r b j ∧ SetIs w' A B gc cl ∧ w.heap.size ≤ A ∧ B ≤ w'.heap.size ∧ cl.length = 19
  | .no m => e = .panicked (chn m) ∧ Fr (· = gr) w w'
theorem CodeEnds.of {x y : Res (List Nat)} {w : World} {gr : Nat} {r : Option Nat} {b : List Nat} {e : Ending} {w' : World} (h : x = y) (k : CodeEnds y w gr r b e w') : CodeEnds x w gr r b e w' := by rw [h]; exact k
section
variable {g gr : Nat} {r t : Option Nat} {b : List Nat} {k lim : Nat} {T : List Nat} {L S : Value}
end
end Go.Proofs.YtnndgpggjlhhpaaGreat

/- A block by codes that are described. -/
namespace Go.Proofs.YtnndgpggjlhhpaaGreat
open Go.RowKit

section
variable {g gr : Nat} {r t : Option Nat} {b : List Nat} {k lim : Nat} {T : List Nat} {L S : Value}
end
end Go.Proofs.YtnndgpggjlhhpaaGreat

/- Blocks. -/
namespace Go.Proofs.YtnndgpggjlhhpaaGreat
open Go.RowKit

def BlockEnds (x : Res (Bool × List Nat)) (w : World) (g gr : Nat) (r t : Option Nat) (b : List Nat) (lim : Nat) (e : Ending) (w' : World) : Prop :=
  match x with
  | .ok lt k => e = .returned (.bool lt.1) ∧ BlkTo w w' g gr r t b k lim lt.2
  | .no m => e = .panicked (chn m) ∧ Fr (StB g gr t) w w'
theorem BlockEnds.of {x y : Res (Bool × List Nat)} {w w' : World} {g gr : Nat} {r t : Option Nat} {b : List Nat} {lim : Nat} {e : Ending} (h : x = y) (q : BlockEnds y w g gr r t b lim e w') : BlockEnds x w g gr r t b lim e w' := by rw [h]; exact q
section
variable {g gr : Nat} {r t : Option Nat} {b : List Nat} {k lim : Nat} {T : List Nat} {L S : Value}
end
end Go.Proofs.YtnndgpggjlhhpaaGreat

/- What a reading is given up with is looked at. -/
namespace Go.Proofs.YtnndgpggjlhhpaaGreat
open Go.RowKit

end Go.Proofs.YtnndgpggjlhhpaaGreat

/- What stands behind what is read makes no difference; where it is cut off, it ends. -/
namespace Go.Proofs.YtnndgpggjlhhpaaGreat

theorem bits_take (b : List Nat) (n : Nat) : bts (b.take n) = (bts b).take (8 * n) := by
  induction b generalizing n with
  | nil => simp [bts]
  | cons x r ih =>
    cases n with
    | zero => simp [bts]
    | succ n =>
      have h := ih n
      unfold bts at h ⊢
      rw [List.take_succ_cons, List.flatMap_cons, List.flatMap_cons, h, List.take_append, grp_length, List.take_of_length_le (l := grp x 8) (by rw [grp_length]; omega), show 8 * (n + 1) - 8 = 8 * n by omega]
/-- the first j bits are the same -/
def Same (b b' : List Nat) (j : Nat) : Prop := ∃ n, j ≤ 8 * n ∧ n ≤ b.length ∧ n ≤ b'.length ∧ b'.take n = b.take n
theorem Same.mono {b b' : List Nat} {i j : Nat} (h : Same b b' j) (hi : i ≤ j) : Same b b' i := by
  obtain ⟨n, h1, h2, h3, h4⟩ := h
  exact ⟨n, by omega, h2, h3, h4⟩
theorem Same.le {b b' : List Nat} {j : Nat} (h : Same b b' j) : j ≤ 8 * b'.length := by
  obtain ⟨n, h1, h2, h3, h4⟩ := h
  omega
theorem Same.bits {b b' : List Nat} {j : Nat} (h : Same b b' j) : (bts b').take j = (bts b).take j := by
  obtain ⟨n, h1, h2, h3, h4⟩ := h
  have e := congrArg bts h4
  rw [bits_take, bits_take] at e
  have e2 := congrArg (List.take j) e
  rw [List.take_take, List.take_take, Nat.min_eq_left h1] at e2
  exact e2
theorem take_drop_of {A B : List Nat} {j : Nat} (h : A.take j = B.take j) {k c : Nat} (hc : k + c ≤ j) : (A.drop k).take c = (B.drop k).take c := by
  have e : A.take (k + c) = B.take (k + c) := by
    have e1 : (A.take j).take (k + c) = A.take (k + c) := by rw [List.take_take, Nat.min_eq_left hc]
    have e2 : (B.take j).take (k + c) = B.take (k + c) := by rw [List.take_take, Nat.min_eq_left hc]
    rw [← e1, ← e2, h]
  rw [List.take_drop, List.take_drop, e]

/-- a reading hangs on what it reads alone -/
structure Loc {α : Type} (p : List Nat → Nat → Res α) : Prop where
  of : ∀ b k a j, p b k = .ok a j → k ≤ 8 * b.length → k ≤ j ∧ j ≤ 8 * b.length ∧ (∀ b', Same b b' j → p b' k = .ok a j) ∧ (∀ n, k ≤ 8 * n → 8 * n < j → p (b.take n) k = .no 20)

theorem same_take {b : List Nat} {j n : Nat} (h : j ≤ 8 * n) (hn : n ≤ b.length) : Same b (b.take n) j := ⟨n, h, hn, by rw [List.length_take]; omega, by rw [List.take_take, Nat.min_self]⟩
theorem zcut_len {b : List Nat} {n j : Nat} (h : 8 * n < j) (hj : j ≤ 8 * b.length) : (b.take n).length = n := by rw [List.length_take]; omega

theorem Loc.pure {α : Type} (a : α) : Loc (fun _ k => Res.ok a k) := ⟨fun b k a' j h hk => by
  simp only [Res.ok.injEq] at h
  obtain ⟨rfl, rfl⟩ := h
  exact ⟨Nat.le_refl _, hk, fun _ _ => rfl, fun n h1 h2 => by omega⟩⟩
theorem Loc.fail {α : Type} (e : Nat) : Loc (fun _ _ => (Res.no e : Res α)) := ⟨fun b k a j h => by cases h⟩
theorem Loc.rIf (c : Bool) (e : Nat) : Loc (fun _ k => rIf c e k) := ⟨fun b k a j h hk => by
  cases c with
  | false => rw [rIf_no rfl] at h; cases h
  | true =>
    rw [rIf_yes rfl] at h
    simp only [Res.ok.injEq] at h
    obtain ⟨-, rfl⟩ := h
    exact ⟨Nat.le_refl _, hk, fun _ _ => rIf_yes rfl, fun n h1 h2 => by omega⟩⟩
theorem Loc.then {α β : Type} {p : List Nat → Nat → Res α} {q : α → List Nat → Nat → Res β} (hp : Loc p) (hq : ∀ a, Loc (q a)) : Loc (fun b k => (p b k).then fun a j => q a b j) := ⟨fun b k c j h hk => by
  cases hx : p b k with
  | no e => rw [hx] at h; cases h
  | ok a i =>
    rw [hx, Res.then_ok] at h
    obtain ⟨p1, p2, p3, p4⟩ := hp.of b k a i hx hk
    obtain ⟨q1, q2, q3, q4⟩ := (hq a).of b i c j h p2
    refine ⟨by omega, q2, fun b' hs => ?_, fun n h1 h2 => ?_⟩
    · show (p b' k).then _ = _
      rw [p3 b' (hs.mono q1), Res.then_ok, q3 b' hs]
    · show (p (b.take n) k).then _ = _
      by_cases hn : 8 * n < i
      · rw [p4 n h1 hn]; rfl
      · rw [p3 (b.take n) (same_take (by omega) (by omega)), Res.then_ok, q4 n (by omega) h2]⟩
theorem Loc.ite {α : Type} {p q : List Nat → Nat → Res α} (c : Prop) [Decidable c] (hp : Loc p) (hq : Loc q) : Loc (fun b k => if c then p b k else q b k) := by
  by_cases h : c
  · simp only [if_pos h]; exact hp
  · simp only [if_neg h]; exact hq

theorem Loc.grp (c : Nat) : Loc (fun b k => rGrp b c k) := ⟨fun b k a j h hk => by
  have hj := (rGrp_lt h).2
  unfold rGrp at h
  split at h
  · rename_i hc
    simp only [Res.ok.injEq] at h
    obtain ⟨ha, -⟩ := h
    subst hj
    refine ⟨by omega, hc, fun b' hs => ?_, fun n h1 h2 => ?_⟩
    · rw [rGrp_yes hs.le]
      unfold bitsAt at ha ⊢
      rw [take_drop_of hs.bits (Nat.le_refl _), ha]
    · rw [rGrp_no (by rw [zcut_len h2 hc]; omega)]
  · cases h⟩
theorem hits_of {l A B : List Nat} {i m : Nat} (h : hits l A i) (hm : len l i ≤ m) (e : A.take m = B.take m) (hB : m ≤ B.length) : hits l B i := by
  obtain ⟨h1, h2, h3⟩ := h
  refine ⟨h1, by omega, ?_⟩
  have e1 : (A.take m).take (len l i) = A.take (len l i) := by rw [List.take_take, Nat.min_eq_left hm]
  have e2 : (B.take m).take (len l i) = B.take (len l i) := by rw [List.take_take, Nat.min_eq_left hm]
  rw [← e2, ← e, e1, h3]
theorem Loc.sym (l : List Nat) : Loc (fun b k => rSym b l k) := ⟨fun b k a j h hk => by
  obtain ⟨hh, rfl⟩ := rSym_in h
  have hl := hh.2.1
  rw [List.length_drop, bts_length] at hl
  refine ⟨by omega, by omega, fun b' hs => ?_, fun n h1 h2 => ?_⟩
  · refine rSym_hit (hits_of hh (Nat.le_refl _) (take_drop_of hs.bits (Nat.le_refl _)).symm ?_)
    have := hs.le
    rw [List.length_drop, bts_length]; omega
  · have hcut := zcut_len (b := b) h2 (by omega)
    have hb : Bit01 ((bts b).drop k) := (bts_bit b).sub fun _ hx => List.mem_of_mem_drop hx
    have hno : ∀ i, ¬ hits l ((bts (b.take n)).drop k) i := by
      intro i hi
      have hil := hi.2.1
      rw [List.length_drop, bts_length, hcut] at hil
      have hi' : hits l ((bts b).drop k) i := by
        refine hits_of hi (m := 8 * n - k) hil ?_ (by rw [List.length_drop, bts_length]; omega)
        rw [bits_take]
        exact take_drop_of (j := 8 * n) (by rw [List.take_take, Nat.min_self]) (by omega)
      have := hits_one hb hi' hh
      subst this
      omega
    rw [rSym_none hno, if_pos]
    rw [List.length_drop, bts_length, hcut]
    have := mx_len l a
    omega⟩
theorem Loc.congr {α : Type} {p q : List Nat → Nat → Res α} (h : Loc p) (e : ∀ b k, q b k = p b k) : Loc q := by
  have : q = p := funext fun b => funext fun k => e b k
  rw [this]; exact h
theorem Loc.align : Loc (fun _ k => Res.ok () (upN k)) := ⟨fun b k a j h hk => by
  simp only [Res.ok.injEq] at h
  obtain ⟨-, rfl⟩ := h
  refine ⟨by unfold upN; omega, upN_le hk, fun _ _ => rfl, fun n h1 h2 => ?_⟩
  unfold upN at h2
  omega⟩
/-- so many bytes -/
def rText (b : List Nat) (n k : Nat) : Res (List Nat) := (rIf (decide (k + 8 * n ≤ 8 * b.length)) 20 k).then fun _ k => .ok ((b.drop (k / 8)).take n) (k + 8 * n)
theorem Loc.text (n : Nat) : Loc (fun b k => rText b n k) := ⟨fun b k a j h hk => by
  unfold rText at h
  by_cases hc : k + 8 * n ≤ 8 * b.length
  · rw [rIf_yes (decide_eq_true hc), Res.then_ok] at h
    simp only [Res.ok.injEq] at h
    obtain ⟨rfl, rfl⟩ := h
    refine ⟨by omega, hc, fun b' hs => ?_, fun m h1 h2 => ?_⟩
    · unfold rText
      rw [rIf_yes (decide_eq_true hs.le), Res.then_ok]
      obtain ⟨q, s1, s2, s3, s4⟩ := hs
      rw [take_drop_of (j := q) s4 (by omega)]
    · unfold rText
      rw [rIf_no (decide_eq_false (by rw [zcut_len h2 hc]; omega))]; rfl
  · rw [rIf_no (decide_eq_false hc)] at h; cases h⟩

/-- a loop of readings -/
theorem Loc.loop {σ : Type} {step : List Nat → σ → Nat → Res (Bool × σ)} {F : List Nat → σ → Nat → Res σ} (hs : ∀ s, Loc (fun b k => step b s k))
    (h1 : ∀ b s k e, step b s k = .no e → F b s k = .no e) (h2 : ∀ b s k s1 k1, step b s k = .ok (true, s1) k1 → F b s k = .ok s1 k1)
    (h3 : ∀ b s k s1 k1, step b s k = .ok (false, s1) k1 → F b s k = if k < k1 ∧ k1 ≤ 8 * b.length then F b s1 k1 else .no 0) : ∀ s, Loc (fun b k => F b s k) := by
  have key : ∀ (m : Nat) (b : List Nat) (s : σ) (k : Nat), 8 * b.length - k ≤ m → ∀ a j, F b s k = .ok a j → k ≤ 8 * b.length → k ≤ j ∧ j ≤ 8 * b.length ∧ (∀ b', Same b b' j → F b' s k = .ok a j) ∧ (∀ n, k ≤ 8 * n → 8 * n < j → F (b.take n) s k = .no 20) := by
    intro m
    induction m with
    | zero =>
      intro b s k hm a j h hk
      cases hx : step b s k with
      | no e => rw [h1 _ _ _ _ hx] at h; cases h
      | ok lt k1 =>
        obtain ⟨last, s1⟩ := lt
        obtain ⟨p1, p2, p3, p4⟩ := (hs s).of b k _ k1 hx hk
        cases last with
        | true =>
          rw [h2 _ _ _ _ _ hx] at h
          simp only [Res.ok.injEq] at h
          obtain ⟨rfl, rfl⟩ := h
          exact ⟨p1, p2, fun b' hb => h2 _ _ _ _ _ (p3 b' hb), fun n q1 q2 => h1 _ _ _ _ (p4 n q1 q2)⟩
        | false =>
          rw [h3 _ _ _ _ _ hx, if_neg (by omega)] at h
          cases h
    | succ m ih =>
      intro b s k hm a j h hk
      cases hx : step b s k with
      | no e => rw [h1 _ _ _ _ hx] at h; cases h
      | ok lt k1 =>
        obtain ⟨last, s1⟩ := lt
        obtain ⟨p1, p2, p3, p4⟩ := (hs s).of b k _ k1 hx hk
        cases last with
        | true =>
          rw [h2 _ _ _ _ _ hx] at h
          simp only [Res.ok.injEq] at h
          obtain ⟨rfl, rfl⟩ := h
          exact ⟨p1, p2, fun b' hb => h2 _ _ _ _ _ (p3 b' hb), fun n q1 q2 => h1 _ _ _ _ (p4 n q1 q2)⟩
        | false =>
          rw [h3 _ _ _ _ _ hx] at h
          by_cases hc : k < k1 ∧ k1 ≤ 8 * b.length
          · rw [if_pos hc] at h
            obtain ⟨r1, r2, r3, r4⟩ := ih b s1 k1 (by omega) a j h p2
            refine ⟨by omega, r2, fun b' hb => ?_, fun n q1 q2 => ?_⟩
            · rw [h3 _ _ _ _ _ (p3 b' (hb.mono r1)), if_pos ⟨hc.1, (hb.mono r1).le⟩]
              exact r3 b' hb
            · by_cases hn : 8 * n < k1
              · exact h1 _ _ _ _ (p4 n q1 hn)
              · have sm : Same b (b.take n) k1 := same_take (by omega) (by omega)
                rw [h3 _ _ _ _ _ (p3 _ sm), if_pos ⟨hc.1, sm.le⟩]
                exact r4 n (by omega) q2
          · rw [if_neg hc] at h; cases h
  exact fun s => ⟨fun b k a j h hk => key _ b s k (Nat.le_refl _) a j h hk⟩

theorem Loc.short : ∀ (syms l : List Nat), Loc (fun b k => rShort b syms l k)
  | [], l => Loc.pure l
  | s :: r, l => (Loc.grp 3).then fun x => Loc.short r (l.set s x)
theorem Loc.code (many : Nat) : Loc (fun b k => rCode b many k) :=
  (Loc.short (order.take many) (List.replicate 19 0)).then fun cl => (Loc.rIf (decide (ful cl)) 62).then fun _ => Loc.pure cl
theorem Loc.run (cl l : List Nat) : Loc (fun b k => rRun b cl l k) :=
  (Loc.sym cl).then fun _ => Loc.ite _ ((Loc.rIf _ 62).then fun _ => (Loc.grp 2).then fun _ => Loc.pure _)
    (Loc.ite _ ((Loc.grp 3).then fun _ => Loc.pure _) (Loc.ite _ ((Loc.grp 7).then fun _ => Loc.pure _) (Loc.pure _)))
theorem Loc.lens (cl : List Nat) (many : Nat) : ∀ (d : Nat) (l : List Nat), many - l.length ≤ d → Loc (fun b k => rLens b cl many l k) := by
  intro d
  induction d with
  | zero =>
    intro l hd
    refine (Loc.pure l).congr fun b k => ?_
    rw [rLens, dif_pos (by omega)]
  | succ d ih =>
    intro l hd
    by_cases hm : many ≤ l.length
    · refine (Loc.pure l).congr fun b k => ?_
      rw [rLens, dif_pos hm]
    · refine ((Loc.run cl l).then (q := fun xt b k => if many < l.length + xt.2 + 1 then .no 62 else rLens b cl many (l ++ List.replicate (xt.2 + 1) xt.1) k) fun xt => Loc.ite _ (Loc.fail 62) (ih _ ?_)).congr fun b k => ?_
      · rw [List.length_append, List.length_replicate]; omega
      · rw [rLens, dif_neg hm]
        cases rRun b cl l k <;> rfl
theorem Loc.codes : Loc (fun b k => rCodes b k) :=
  (Loc.grp 5).then fun n1 => (Loc.grp 5).then fun n2 => (Loc.grp 4).then fun n3 => (Loc.rIf _ 62).then fun _ => (Loc.code (4 + n3)).then fun cl =>
    (Loc.lens cl (257 + n1 + (1 + n2)) _ [] (Nat.le_refl _)).then fun _ => (Loc.rIf _ 62).then fun _ => Loc.pure _
theorem Loc.back (lim : Nat) (spn T : List Nat) (s : Nat) : Loc (fun b k => rBack b lim spn T s k) :=
  (Loc.rIf _ 62).then fun _ => (Loc.grp _).then fun _ => (Loc.sym spn).then fun _ => (Loc.rIf _ 62).then fun _ => (Loc.grp _).then fun _ => (Loc.rIf _ 63).then fun _ => (Loc.rIf _ 64).then fun _ => Loc.pure _
theorem Loc.step (lim : Nat) (lit spn T : List Nat) : Loc (fun b k => rStep b lim lit spn T k) :=
  (Loc.sym lit).then fun s => Loc.ite _ ((Loc.rIf _ 64).then fun _ => Loc.pure _) (Loc.ite _ (Loc.pure _) ((Loc.back lim spn T s).then fun _ => Loc.pure _))
theorem Loc.syms (lim : Nat) (lit spn : List Nat) : ∀ T, Loc (fun b k => rSyms b lim lit spn T k) :=
  Loc.loop (step := fun b T k => rStep b lim lit spn T k) (fun T => Loc.step lim lit spn T) (fun b s k e h => by rw [rSyms, h]) (fun b s k s1 k1 h => by rw [rSyms, h]) (fun b s k s1 k1 h => by
    rw [rSyms, h]
    show (if _h : k < k1 ∧ k1 ≤ 8 * b.length then _ else _) = _
    split <;> rfl)
theorem Loc.stored (lim : Nat) (T : List Nat) : Loc (fun b k => rStored b lim T k) := by
  refine (Loc.align.then fun _ => (Loc.grp 16).then fun n => (Loc.grp 16).then fun m => (Loc.rIf (decide (n + m = 65535)) 61).then fun _ => (Loc.rIf (decide (T.length + n ≤ lim)) 64).then fun _ => (Loc.text n).then fun x => Loc.pure (T ++ x)).congr fun b k => ?_
  unfold rStored rText
  simp only [Res.then_ok]
  congr 1
  funext n k1
  congr 1
  funext m k2
  congr 1
  funext u k2
  congr 1
  funext u k2
  by_cases hc : k2 + 8 * n ≤ 8 * b.length
  · rw [rIf_yes (decide_eq_true hc)]; rfl
  · rw [rIf_no (decide_eq_false hc)]; rfl
theorem Loc.kind (lim : Nat) (T : List Nat) (n : Nat) : Loc (fun b k => rKind b lim T n k) :=
  Loc.ite _ (Loc.stored lim T) (Loc.ite _ (Loc.syms lim _ _ T) (Loc.ite _ (Loc.codes.then fun c => Loc.syms lim c.1 c.2 T) (Loc.fail 60)))
theorem Loc.block (lim : Nat) (T : List Nat) : Loc (fun b k => rBlock b lim T k) :=
  (Loc.grp 1).then fun _ => (Loc.grp 2).then fun n => (Loc.kind lim T n).then fun _ => Loc.pure _
theorem Loc.blocks (lim : Nat) : ∀ T, Loc (fun b k => rBlocks b lim T k) :=
  Loc.loop (step := fun b T k => rBlock b lim T k) (fun T => Loc.block lim T) (fun b s k e h => by rw [rBlocks, h]) (fun b s k s1 k1 h => by rw [rBlocks, h]) (fun b s k s1 k1 h => by
    rw [rBlocks, h]
    show (if _h : k < k1 ∧ k1 ≤ 8 * b.length then _ else _) = _
    split <;> rfl)
/-- a block reads three bits at least -/
theorem block_up {b : List Nat} {lim : Nat} {T : List Nat} {k k1 : Nat} {lt : Bool × List Nat} (h : rBlock b lim T k = .ok lt k1) : k < k1 := by
  unfold rBlock at h
  cases h1 : rGrp b 1 k with
  | no e => rw [h1] at h; cases h
  | ok n j1 =>
    have e1 := (rGrp_lt h1).2
    rw [h1, Res.then_ok] at h
    cases h2 : rGrp b 2 j1 with
    | no e => rw [h2] at h; cases h
    | ok n2 j2 =>
      have e2 := (rGrp_lt h2).2
      have hj2 : j2 ≤ 8 * b.length := by
        have := (Loc.grp 2).of b j1 n2 j2 h2
        unfold rGrp at h2
        split at h2
        · rename_i hc; omega
        · cases h2
      rw [h2, Res.then_ok] at h
      cases h3 : rKind b lim T n2 j2 with
      | no e => rw [h3] at h; cases h
      | ok T1 j3 =>
        have := ((Loc.kind lim T n2).of b j2 T1 j3 h3 hj2).1
        rw [h3, Res.then_ok] at h
        simp only [Res.ok.injEq] at h
        omega
end Go.Proofs.YtnndgpggjlhhpaaGreat

/- A stream is read. -/
namespace Go.Proofs.YtnndgpggjlhhpaaGreat
open Go.RowKit

/-- three new variables -/
theorem three (w : World) (o1 o2 o3 : Obj) : Fr S0 w (((w.alloc o1).alloc o2).alloc o3) ∧ (((w.alloc o1).alloc o2).alloc o3).heap[w.heap.size]? = some o1 ∧ (((w.alloc o1).alloc o2).alloc o3).heap[w.heap.size + 1]? = some o2 ∧ (((w.alloc o1).alloc o2).alloc o3).heap[w.heap.size + 1 + 1]? = some o3 ∧ (((w.alloc o1).alloc o2).alloc o3).heap.size = w.heap.size + 3 := by
  refine ⟨((Fr.alloc S0 w o1).trans0 (Fr.alloc S0 _ o2)).trans0 (Fr.alloc S0 _ o3), ?_, ?_, ?_, by simp⟩
  · exact (Fr.alloc S0 _ o3).row ((Fr.alloc S0 _ o2).row (heap_alloc_new w o1) (fun h => h)) (fun h => h)
  · have := heap_alloc_new (w.alloc o1) o2
    rw [size_alloc] at this
    exact (Fr.alloc S0 _ o3).row this (fun h => h)
  · have := heap_alloc_new ((w.alloc o1).alloc o2) o3
    rw [size_alloc, size_alloc] at this
    exact this
/-- the three variables stand, and what the stream has lies behind them -/
structure Three (w0 w : World) (g gr : Nat) (t : Option Nat) (v : Value) (a e : Int) : Prop where
  c1 : w.heap[w0.heap.size]? = some (.cells #[v] 31 (0, 0))
  c2 : w.heap[w0.heap.size + 1]? = some (.cells #[.int .i64 a] 3 (0, 0))
  c3 : w.heap[w0.heap.size + 1 + 1]? = some (.cells #[.int .i64 e] 36 (0, 0))
  fr : Fr S0 w0 w
  far : w0.heap.size + 3 ≤ g ∧ w0.heap.size + 3 ≤ gr ∧ ∀ j, t = some j → w0.heap.size + 3 ≤ j
theorem Three.out {w0 w w' : World} {g gr : Nat} {t : Option Nat} {v : Value} {a e : Int} (h : Three w0 w g gr t v a e) (f : Fr (StB g gr t) w w') : (∃ t', t' = t) ∧ w'.heap[w0.heap.size]? = some (.cells #[v] 31 (0, 0)) ∧ w'.heap[w0.heap.size + 1]? = some (.cells #[.int .i64 a] 3 (0, 0)) ∧ w'.heap[w0.heap.size + 1 + 1]? = some (.cells #[.int .i64 e] 36 (0, 0)) ∧ Fr S0 w0 w' := by
  have hk : ∀ k, k < w0.heap.size + 3 → ¬ StB g gr t k := by
    intro k hk hs
    have := h.far
    rcases hs with hs | hs | hs
    · omega
    · omega
    · have := this.2.2 k hs; omega
  exact ⟨⟨_, rfl⟩, f.row h.c1 (hk _ (by omega)), f.row h.c2 (hk _ (by omega)), f.row h.c3 (hk _ (by omega)), h.fr.trans f (fun j hj e => hk j (by omega) e)⟩
theorem Three.to {w0 w w' : World} {g gr : Nat} {t t' : Option Nat} {v : Value} {a e : Int} (h : Three w0 w g gr t v a e) (f : Fr (StB g gr t) w w') (ht : t' = t ∨ ∀ j, t' = some j → w.heap.size ≤ j) : Three w0 w' g gr t' v a e := by
  obtain ⟨-, h1, h2, h3, h4⟩ := h.out f
  refine ⟨h1, h2, h3, h4, h.far.1, h.far.2.1, fun j hj => ?_⟩
  rcases ht with ht | ht
  · exact h.far.2.2 j (ht ▸ hj)
  · have := ht j hj
    have := (Array.getElem?_eq_some_iff.1 h.c3).1
    omega
end Go.Proofs.YtnndgpggjlhhpaaGreat

/- Stored blocks and the least stream, as numbers. -/
namespace Go.Proofs.YtnndgpggjlhhpaaGreat
open Go.RowKit

end Go.Proofs.YtnndgpggjlhhpaaGreat

/- The document's examples of layer 6. -/
namespace Go.Proofs.YtnndgpggjlhhpaaGreat
open Go.RowKit

end Go.Proofs.YtnndgpggjlhhpaaGreat

/- The law on the tables. -/
namespace Go.Proofs.YtnndgpggjlhhpaaGreat
open Go.RowKit

theorem base_next (s : Nat) (h : 257 ≤ s) (h2 : s < 284) : baseN (s + 1) = baseN s + 2 ^ baseC s := by
  have key : ∀ n : Fin 27, baseN (257 + n.val + 1) = baseN (257 + n.val) + 2 ^ baseC (257 + n.val) := by decide
  have := key ⟨s - 257, by omega⟩
  simpa [show 257 + (s - 257) = s by omega] using this
theorem far_next (s : Nat) (h2 : s < 29) : farN (s + 1) = farN s + 2 ^ farC s := by
  have key : ∀ n : Fin 29, farN (n.val + 1) = farN n.val + 2 ^ farC n.val := by decide
  exact key ⟨s, h2⟩
theorem base_c (s : Nat) (h : 257 ≤ s) (h2 : s < 285) : baseC s = if 265 ≤ s then (s - 261) / 4 else 0 := by
  have key : ∀ n : Fin 28, baseC (257 + n.val) = if 265 ≤ 257 + n.val then (257 + n.val - 261) / 4 else 0 := by decide
  have := key ⟨s - 257, by omega⟩
  simpa [show 257 + (s - 257) = s by omega] using this
theorem far_c (s : Nat) (h2 : s < 30) : farC s = if 4 ≤ s then (s - 2) / 2 else 0 := by
  have key : ∀ n : Fin 30, farC n.val = if 4 ≤ n.val then (n.val - 2) / 2 else 0 := by decide
  exact key ⟨s, h2⟩
set_option maxRecDepth 100000 in
set_option maxHeartbeats 1000000 in
theorem rbase_any (n : Nat) (w : World) (h : 257 ≤ n) (h2 : n ≤ 285) :
    Calls Tryz.prog 160 #[.int .i64 (n : Nat)] w fun e w' => e = .returned (.tuple #[.int .i64 (baseN n : Nat), .int .i64 (baseC n : Nat)]) ∧ w = w' := by
  have q2 : ¬ (n : Int) < 257 := by omega
  have q3 : ¬ (n : Int) > 285 := by omega
  by_cases h8 : n = 285
  · subst h8
    go_enter Tryz.func160, Tryz.ntmps160
    go_wp2_with fail
    go_ret2
    exact ⟨rfl, rfl⟩
  · have q4 : ((n : Int) == 285) = false := by rw [beq_eq_false_iff_ne]; omega
    have q5 : ¬ (n : Int) = 285 := by omega
    have hn : n < 285 := by omega
    clear h8 h2
    go_enter Tryz.func160, Tryz.ntmps160
    go_wp2_with fail
    go_loopw [4, 5, 6] (fun a s _ wr => ∃ j : Nat, 257 ≤ j ∧ j ≤ n ∧ s = .int .i64 j ∧ a = .int .i64 (baseN j : Nat) ∧ w = wr) (fun _ s _ _ => n - (intOf s).toNat)
    case atStart => exact ⟨257, by omega, by omega, rfl, rfl, rfl⟩
    case round =>
      obtain ⟨j, hj1, hj2, rfl, rfl, rfl⟩ := hrel
      have hbl := baseN_le j hj1 (by omega)
      have hc := base_c j hj1 (by omega)
      have HNX := Lib.hid (fun q => base_next j hj1 q)
      have hX : 2 ^ baseC j ≤ 32 := Nat.le_trans (Nat.pow_le_pow_right (n := 2) (by decide) hbl.2) (by decide)
      by_cases e : j = n
      · subst e
        obtain ⟨C, hC⟩ : ∃ C, baseC j = C := ⟨_, rfl⟩
        have HCC := Lib.hid hC
        rw [hC] at hc
        by_cases h5 : 265 ≤ j
        · have h5' : (j : Int) ≥ 265 := by omega
          rw [if_pos h5] at hc
          have i1 : ((j : Int) - 261) / 4 = (C : Int) := by omega
          clear hc hX hC
          go_wp2_with fail
          go_ret2
          exact ⟨by rw [HCC.out, ← i1]; rfl, rfl⟩
        · have h5' : ¬ (j : Int) ≥ 265 := by omega
          rw [if_neg h5] at hc
          subst hc
          clear hC hX
          go_wp2_with fail
          go_ret2
          exact ⟨by rw [HCC.out]; rfl, rfl⟩
      · have hne : ((j : Int) == (n : Int)) = false := by rw [beq_eq_false_iff_ne]; omega
        have hne2 : ¬ (j : Int) = (n : Int) := by omega
        have HN := Lib.hid (HNX.out (by omega))
        obtain ⟨C, hC⟩ : ∃ C, baseC j = C := ⟨_, rfl⟩
        rw [hC] at hc hX HN
        obtain ⟨X, hXX⟩ : ∃ X, 2 ^ C = X := ⟨_, rfl⟩
        rw [hXX] at hX HN
        have i2 : (2 : Int) ^ C = (X : Int) := by rw [← hXX]; simp
        by_cases h5 : 265 ≤ j
        · have h5' : (j : Int) ≥ 265 := by omega
          rw [if_pos h5] at hc
          have i1 : ((j : Int) - 261) / 4 = (C : Int) := by omega
          clear hc hC hXX
          go_wp2_with fail
          go_roundw
          case rel => exact ⟨j + 1, by omega, by omega, by go_num, by rw [HN.out]; go_num, by trivial⟩
          case measure => simp [intOf]; omega
        · have h5' : ¬ (j : Int) ≥ 265 := by omega
          rw [if_neg h5] at hc
          subst hc
          have hX1 : X = 1 := hXX.symm
          subst hX1
          go_wp2_with fail
          go_roundw
          case rel => exact ⟨j + 1, by omega, by omega, by go_num, by rw [HN.out]; go_num, by trivial⟩
          case measure => simp [intOf]; omega
set_option maxRecDepth 100000 in
set_option maxHeartbeats 1000000 in
theorem rfar_any (n : Nat) (w : World) (h2 : n ≤ 29) :
    Calls Tryz.prog 161 #[.int .i64 (n : Nat)] w fun e w' => e = .returned (.tuple #[.int .i64 (farN n : Nat), .int .i64 (farC n : Nat)]) ∧ w = w' := by
  have q2 : ¬ (n : Int) < 0 := by omega
  have q3 : ¬ (n : Int) > 29 := by omega
  go_enter Tryz.func161, Tryz.ntmps161
  go_wp2_with fail
  go_loopw [4, 5, 6] (fun a s _ wr => ∃ j : Nat, j ≤ n ∧ s = .int .i64 j ∧ a = .int .i64 (farN j : Nat) ∧ w = wr) (fun _ s _ _ => n - (intOf s).toNat)
  case atStart => exact ⟨0, by omega, rfl, rfl, rfl⟩
  case round =>
    obtain ⟨j, hj2, rfl, rfl, rfl⟩ := hrel
    have hbl := farN_le j (by omega)
    have hc := far_c j (by omega)
    have HNX := Lib.hid (fun q => far_next j q)
    have hX : 2 ^ farC j ≤ 8192 := Nat.le_trans (Nat.pow_le_pow_right (n := 2) (by decide) hbl.2) (by decide)
    by_cases e : j = n
    · subst e
      obtain ⟨C, hC⟩ : ∃ C, farC j = C := ⟨_, rfl⟩
      have HCC := Lib.hid hC
      rw [hC] at hc
      by_cases h5 : 4 ≤ j
      · have h5' : (j : Int) ≥ 4 := by omega
        rw [if_pos h5] at hc
        have i1 : ((j : Int) - 2) / 2 = (C : Int) := by omega
        clear hc hX hC
        go_wp2_with fail
        go_ret2
        exact ⟨by rw [HCC.out, ← i1]; rfl, rfl⟩
      · have h5' : ¬ (j : Int) ≥ 4 := by omega
        rw [if_neg h5] at hc
        subst hc
        clear hC hX
        go_wp2_with fail
        go_ret2
        exact ⟨by rw [HCC.out]; rfl, rfl⟩
    · have hne : ((j : Int) == (n : Int)) = false := by rw [beq_eq_false_iff_ne]; omega
      have hne2 : ¬ (j : Int) = (n : Int) := by omega
      have HN := Lib.hid (HNX.out (by omega))
      obtain ⟨C, hC⟩ : ∃ C, farC j = C := ⟨_, rfl⟩
      rw [hC] at hc hX HN
      obtain ⟨X, hXX⟩ : ∃ X, 2 ^ C = X := ⟨_, rfl⟩
      rw [hXX] at hX HN
      have i2 : (2 : Int) ^ C = (X : Int) := by rw [← hXX]; simp
      by_cases h5 : 4 ≤ j
      · have h5' : (j : Int) ≥ 4 := by omega
        rw [if_pos h5] at hc
        have i1 : ((j : Int) - 2) / 2 = (C : Int) := by omega
        clear hc hC hXX
        go_wp2_with fail
        go_roundw
        case rel => exact ⟨j + 1, by omega, by go_num, by rw [HN.out]; go_num, by trivial⟩
        case measure => simp [intOf]; omega
      · have h5' : ¬ (j : Int) ≥ 4 := by omega
        rw [if_neg h5] at hc
        subst hc
        have hX1 : X = 1 := hXX.symm
        subst hX1
        go_wp2_with fail
        go_roundw
        case rel => exact ⟨j + 1, by omega, by go_num, by rw [HN.out]; go_num, by trivial⟩
        case measure => simp [intOf]; omega
end Go.Proofs.YtnndgpggjlhhpaaGreat

/- A limit cuts what is more, and nothing else. -/
namespace Go.Proofs.YtnndgpggjlhhpaaGreat

/-- of what is told from t on -/
structure LimOK {α : Type} (len : α → Nat) (p : Nat → Res α) (t : Nat) : Prop where
  of : ∀ lim a j, p lim = .ok a j → t ≤ lim → t ≤ len a ∧ len a ≤ lim ∧ (∀ m, len a ≤ m → p m = .ok a j) ∧ (∀ m, t ≤ m → m < len a → p m = .no 64)
theorem LimOK.pure {α : Type} {len : α → Nat} {t : Nat} (a : α) (j : Nat) (h : len a = t) : LimOK len (fun _ => Res.ok a j) t := ⟨fun lim a' j' e hl => by
  simp only [Res.ok.injEq] at e
  obtain ⟨rfl, rfl⟩ := e
  exact ⟨by omega, by omega, fun _ _ => rfl, fun m h1 h2 => by omega⟩⟩
theorem LimOK.fail {α : Type} {len : α → Nat} {t e : Nat} : LimOK len (fun _ => (Res.no e : Res α)) t := ⟨fun lim a j h => by cases h⟩
theorem LimOK.then {α β : Type} {len : β → Nat} {t : Nat} {q : Res α} {r : α → Nat → Nat → Res β} (h : ∀ a j, LimOK len (r a j) t) : LimOK len (fun lim => q.then fun a j => r a j lim) t := by
  cases q with
  | no e => exact LimOK.fail
  | ok a j => exact h a j
theorem LimOK.ite {α : Type} {len : α → Nat} {t : Nat} {p q : Nat → Res α} (c : Prop) [Decidable c] (hp : LimOK len p t) (hq : LimOK len q t) : LimOK len (fun lim => if c then p lim else q lim) t := by
  by_cases h : c
  · simp only [if_pos h]; exact hp
  · simp only [if_neg h]; exact hq
theorem LimOK.post {α β : Type} {len : α → Nat} {len2 : β → Nat} {t : Nat} {p : Nat → Res α} (f : α → β) (hf : ∀ a, len2 (f a) = len a) (hp : LimOK len p t) : LimOK len2 (fun lim => (p lim).then fun a j => .ok (f a) j) t := ⟨fun lim b j e hl => by
  cases hx : p lim with
  | no m => rw [hx] at e; cases e
  | ok a i =>
    rw [hx, Res.then_ok] at e
    simp only [Res.ok.injEq] at e
    obtain ⟨rfl, rfl⟩ := e
    obtain ⟨h1, h2, h3, h4⟩ := hp.of lim a i hx hl
    rw [hf]
    exact ⟨h1, h2, fun m hm => by rw [h3 m hm, Res.then_ok], fun m q1 q2 => by rw [h4 m q1 q2]; rfl⟩⟩
theorem LimOK.lim {α : Type} {len : α → Nat} {t t1 k : Nat} {q : Nat → Res α} (hq : ∀ k a j, q k = .ok a j → len a = t1) (h : t ≤ t1) : LimOK len (fun lim => (rIf (decide (t1 ≤ lim)) 64 k).then fun _ k => q k) t := ⟨fun lim a j e hl => by
  by_cases hc : t1 ≤ lim
  · rw [rIf_yes (decide_eq_true hc), Res.then_ok] at e
    have := hq _ _ _ e
    refine ⟨by omega, by omega, fun m hm => ?_, fun m q1 q2 => ?_⟩
    · rw [rIf_yes (decide_eq_true (by omega)), Res.then_ok, e]
    · rw [rIf_no (decide_eq_false (by omega))]; rfl
  · rw [rIf_no (decide_eq_false hc)] at e; cases e⟩
theorem LimOK.loop {step F : Nat → List Nat → Nat → Res (Bool × List Nat)} {G : Nat → List Nat → Nat → Res (List Nat)} (N : Nat) (hF : F = step) (hs : ∀ T k, LimOK (fun x => x.2.length) (fun lim => step lim T k) T.length)
    (h1 : ∀ lim T k e, step lim T k = .no e → G lim T k = .no e) (h2 : ∀ lim T k T1 k1, step lim T k = .ok (true, T1) k1 → G lim T k = .ok T1 k1)
    (h3 : ∀ lim T k T1 k1, step lim T k = .ok (false, T1) k1 → G lim T k = if k < k1 ∧ k1 ≤ N then G lim T1 k1 else .no 0) : ∀ T k, LimOK List.length (fun lim => G lim T k) T.length := by
  subst hF
  have key : ∀ (m : Nat) (T : List Nat) (k : Nat), N - k ≤ m → ∀ lim a j, G lim T k = .ok a j → T.length ≤ lim → T.length ≤ a.length ∧ a.length ≤ lim ∧ (∀ m, a.length ≤ m → G m T k = .ok a j) ∧ (∀ m, T.length ≤ m → m < a.length → G m T k = .no 64) := by
    intro m
    induction m with
    | zero =>
      intro T k hm lim a j e hl
      cases hx : F lim T k with
      | no c => rw [h1 _ _ _ _ hx] at e; cases e
      | ok lt k1 =>
        obtain ⟨last, T1⟩ := lt
        obtain ⟨p1, p2, p3, p4⟩ := (hs T k).of lim _ k1 hx hl
        cases last with
        | true =>
          rw [h2 _ _ _ _ _ hx] at e
          simp only [Res.ok.injEq] at e
          obtain ⟨rfl, rfl⟩ := e
          exact ⟨p1, p2, fun m hm => h2 _ _ _ _ _ (p3 m hm), fun m q1 q2 => h1 _ _ _ _ (p4 m q1 q2)⟩
        | false =>
          rw [h3 _ _ _ _ _ hx, if_neg (by omega)] at e
          cases e
    | succ m ih =>
      intro T k hm lim a j e hl
      cases hx : F lim T k with
      | no c => rw [h1 _ _ _ _ hx] at e; cases e
      | ok lt k1 =>
        obtain ⟨last, T1⟩ := lt
        obtain ⟨p1, p2, p3, p4⟩ := (hs T k).of lim _ k1 hx hl
        cases last with
        | true =>
          rw [h2 _ _ _ _ _ hx] at e
          simp only [Res.ok.injEq] at e
          obtain ⟨rfl, rfl⟩ := e
          exact ⟨p1, p2, fun m hm => h2 _ _ _ _ _ (p3 m hm), fun m q1 q2 => h1 _ _ _ _ (p4 m q1 q2)⟩
        | false =>
          rw [h3 _ _ _ _ _ hx] at e
          by_cases hc : k < k1 ∧ k1 ≤ N
          · rw [if_pos hc] at e
            simp only at p1 p2 p3 p4
            obtain ⟨r1, r2, r3, r4⟩ := ih T1 k1 (by omega) lim a j e p2
            refine ⟨by omega, r2, fun m hm => ?_, fun m q1 q2 => ?_⟩
            · rw [h3 _ _ _ _ _ (p3 m (by omega)), if_pos hc]
              exact r3 m hm
            · by_cases hn : m < T1.length
              · exact h1 _ _ _ _ (p4 m q1 hn)
              · rw [h3 _ _ _ _ _ (p3 m (by omega)), if_pos hc]
                exact r4 m (by omega) q2
          · rw [if_neg hc] at e; cases e
  exact fun T k => ⟨fun lim a j e hl => key _ T k (Nat.le_refl _) lim a j e hl⟩

theorem LimOK.back (b spn T : List Nat) (s k : Nat) : LimOK List.length (fun lim => rBack b lim spn T s k) T.length :=
  LimOK.then fun _ _ => LimOK.then fun n _ => LimOK.then fun d _ => LimOK.then fun _ _ => LimOK.then fun f _ => LimOK.then fun _ _ =>
    LimOK.lim (t1 := T.length + (baseN s + n)) (q := fun k => .ok (again (farN d + f) (baseN s + n) T) k) (fun k a j e => by
      simp only [Res.ok.injEq] at e
      rw [← e.1, again_length]) (by omega)
theorem LimOK.step (b lit spn T : List Nat) (k : Nat) : LimOK (fun x : Bool × List Nat => x.2.length) (fun lim => rStep b lim lit spn T k) T.length :=
  LimOK.then fun s j => LimOK.ite _ (LimOK.lim (t1 := T.length + 1) (q := fun k => .ok (false, T ++ [s]) k) (fun k a j e => by
      simp only [Res.ok.injEq] at e
      rw [← e.1]
      simp) (by omega))
    (LimOK.ite _ (LimOK.pure _ _ rfl) (LimOK.post (fun T1 => (false, T1)) (fun _ => rfl) (LimOK.back b spn T s j)))
theorem LimOK.syms (b lit spn : List Nat) : ∀ T k, LimOK List.length (fun lim => rSyms b lim lit spn T k) T.length :=
  LimOK.loop (step := fun lim T k => rStep b lim lit spn T k) (8 * b.length) rfl (fun T k => LimOK.step b lit spn T k) (fun lim T k e h => by rw [rSyms, h]) (fun lim T k T1 k1 h => by rw [rSyms, h]) (fun lim T k T1 k1 h => by
    rw [rSyms, h]
    show (if _h : k < k1 ∧ k1 ≤ 8 * b.length then _ else _) = _
    split <;> rfl)
theorem LimOK.stored (b T : List Nat) (k : Nat) : LimOK List.length (fun lim => rStored b lim T k) T.length :=
  LimOK.then fun n _ => LimOK.then fun _ _ => LimOK.then fun _ _ => LimOK.lim (t1 := T.length + n) (q := fun k => (rIf (decide (k + 8 * n ≤ 8 * b.length)) 20 k).then fun _ k2 => .ok (T ++ (b.drop (k2 / 8)).take n) (k2 + 8 * n)) (fun k a j e => by
    by_cases hc : k + 8 * n ≤ 8 * b.length
    · rw [rIf_yes (decide_eq_true hc), Res.then_ok] at e
      simp only [Res.ok.injEq] at e
      rw [← e.1, List.length_append, List.length_take, List.length_drop]
      omega
    · rw [rIf_no (decide_eq_false hc)] at e; cases e) (by omega)
theorem LimOK.kind (b T : List Nat) (n k : Nat) : LimOK List.length (fun lim => rKind b lim T n k) T.length :=
  LimOK.ite _ (LimOK.stored b T k) (LimOK.ite _ (LimOK.syms b _ _ T k) (LimOK.ite _ (LimOK.then fun c j => LimOK.syms b c.1 c.2 T j) LimOK.fail))
theorem LimOK.block (b T : List Nat) (k : Nat) : LimOK (fun x : Bool × List Nat => x.2.length) (fun lim => rBlock b lim T k) T.length :=
  LimOK.then fun last _ => LimOK.then fun n j => LimOK.post (fun T1 => (decide (last = 1), T1)) (fun _ => rfl) (LimOK.kind b T n j)
theorem LimOK.blocks (b : List Nat) : ∀ T k, LimOK List.length (fun lim => rBlocks b lim T k) T.length :=
  LimOK.loop (step := fun lim T k => rBlock b lim T k) (8 * b.length) rfl (fun T k => LimOK.block b T k) (fun lim T k e h => by rw [rBlocks, h]) (fun lim T k T1 k1 h => by rw [rBlocks, h]) (fun lim T k T1 k1 h => by
    rw [rBlocks, h]
    show (if _h : k < k1 ∧ k1 ≤ 8 * b.length then _ else _) = _
    split <;> rfl)
end Go.Proofs.YtnndgpggjlhhpaaGreat

/- Every error has a number. -/
namespace Go.Proofs.YtnndgpggjlhhpaaGreat

/-- never the number nought -/
structure Nz {α : Type} (p : List Nat → Nat → Res α) : Prop where
  loc : Loc p
  of : ∀ b k, k ≤ 8 * b.length → p b k ≠ .no 0
theorem Nz.pure {α : Type} (a : α) : Nz (fun _ k => Res.ok a k) := ⟨Loc.pure a, fun _ _ _ h => by cases h⟩
theorem Nz.fail {α : Type} (e : Nat) (he : e ≠ 0) : Nz (fun _ _ => (Res.no e : Res α)) := ⟨Loc.fail e, fun _ _ _ h => by injection h; omega⟩
theorem Nz.rIf (c : Bool) (e : Nat) (he : e ≠ 0) : Nz (fun _ k => rIf c e k) := ⟨Loc.rIf c e, fun b k _ h => by
  cases c with
  | false => rw [rIf_no rfl] at h; injection h; omega
  | true => rw [rIf_yes rfl] at h; cases h⟩
theorem Nz.then {α β : Type} {p : List Nat → Nat → Res α} {q : α → List Nat → Nat → Res β} (hp : Nz p) (hq : ∀ a, Nz (q a)) : Nz (fun b k => (p b k).then fun a j => q a b j) := ⟨hp.loc.then fun a => (hq a).loc, fun b k hk h => by
  cases hx : p b k with
  | no e =>
    have h' : (p b k).then (fun a j => q a b j) = .no 0 := h
    rw [hx] at h'
    injection h' with h'
    subst h'
    exact hp.of b k hk hx
  | ok a i =>
    have h' : (p b k).then (fun a j => q a b j) = .no 0 := h
    rw [hx, Res.then_ok] at h'
    exact (hq a).of b i (hp.loc.of b k a i hx hk).2.1 h'⟩
theorem Nz.ite {α : Type} {p q : List Nat → Nat → Res α} (c : Prop) [Decidable c] (hp : Nz p) (hq : Nz q) : Nz (fun b k => if c then p b k else q b k) := by
  by_cases h : c
  · simp only [if_pos h]; exact hp
  · simp only [if_neg h]; exact hq
theorem Nz.grp (c : Nat) : Nz (fun b k => rGrp b c k) := ⟨Loc.grp c, fun b k _ h => by
  unfold rGrp at h
  split at h
  · cases h
  · injection h with h; cases h⟩
theorem Nz.sym (l : List Nat) : Nz (fun b k => rSym b l k) := ⟨Loc.sym l, fun b k _ h => by
  unfold rSym at h
  split at h
  · cases h
  · split at h
    · injection h with h; cases h
    · injection h with h; cases h⟩
theorem Nz.congr {α : Type} {p q : List Nat → Nat → Res α} (h : Nz p) (e : ∀ b k, q b k = p b k) : Nz q := by
  have : q = p := funext fun b => funext fun k => e b k
  rw [this]; exact h
theorem Nz.align : Nz (fun _ k => Res.ok () (upN k)) := ⟨Loc.align, fun _ _ _ h => by cases h⟩
theorem Nz.text (n : Nat) : Nz (fun b k => rText b n k) := ⟨Loc.text n, fun b k _ h => by
  unfold rText at h
  by_cases hc : k + 8 * n ≤ 8 * b.length
  · rw [rIf_yes (decide_eq_true hc), Res.then_ok] at h; cases h
  · rw [rIf_no (decide_eq_false hc)] at h; injection h with h; cases h⟩
theorem Nz.loop {σ : Type} {step : List Nat → σ → Nat → Res (Bool × σ)} {F : List Nat → σ → Nat → Res σ} (hs : ∀ s, Nz (fun b k => step b s k)) (up : ∀ b s k s1 k1, step b s k = .ok (false, s1) k1 → k ≤ 8 * b.length → k < k1)
    (h1 : ∀ b s k e, step b s k = .no e → F b s k = .no e) (h2 : ∀ b s k s1 k1, step b s k = .ok (true, s1) k1 → F b s k = .ok s1 k1)
    (h3 : ∀ b s k s1 k1, step b s k = .ok (false, s1) k1 → F b s k = if k < k1 ∧ k1 ≤ 8 * b.length then F b s1 k1 else .no 0) : ∀ s, Nz (fun b k => F b s k) := by
  have key : ∀ (m : Nat) (b : List Nat) (s : σ) (k : Nat), 8 * b.length - k ≤ m → k ≤ 8 * b.length → F b s k ≠ .no 0 := by
    intro m
    induction m with
    | zero =>
      intro b s k hm hk h
      cases hx : step b s k with
      | no e =>
        rw [h1 _ _ _ _ hx] at h
        injection h with h
        subst h
        exact (hs s).of b k hk hx
      | ok lt k1 =>
        obtain ⟨last, s1⟩ := lt
        cases last with
        | true => rw [h2 _ _ _ _ _ hx] at h; cases h
        | false =>
          have := up _ _ _ _ _ hx hk
          have := ((hs s).loc.of b k _ k1 hx hk).2.1
          omega
    | succ m ih =>
      intro b s k hm hk h
      cases hx : step b s k with
      | no e =>
        rw [h1 _ _ _ _ hx] at h
        injection h with h
        subst h
        exact (hs s).of b k hk hx
      | ok lt k1 =>
        obtain ⟨last, s1⟩ := lt
        cases last with
        | true => rw [h2 _ _ _ _ _ hx] at h; cases h
        | false =>
          have q1 := up _ _ _ _ _ hx hk
          have q2 := ((hs s).loc.of b k _ k1 hx hk).2.1
          rw [h3 _ _ _ _ _ hx, if_pos ⟨q1, q2⟩] at h
          exact ih b s1 k1 (by omega) q2 h
  exact fun s => ⟨Loc.loop (fun s => (hs s).loc) h1 h2 h3 s, fun b k hk => key _ b s k (Nat.le_refl _) hk⟩

theorem Nz.short : ∀ (syms l : List Nat), Nz (fun b k => rShort b syms l k)
  | [], l => Nz.pure l
  | s :: r, l => (Nz.grp 3).then fun x => Nz.short r (l.set s x)
theorem Nz.code (many : Nat) : Nz (fun b k => rCode b many k) :=
  (Nz.short (order.take many) (List.replicate 19 0)).then fun cl => (Nz.rIf (decide (ful cl)) 62 (by decide)).then fun _ => Nz.pure cl
theorem Nz.run (cl l : List Nat) : Nz (fun b k => rRun b cl l k) :=
  (Nz.sym cl).then fun _ => Nz.ite _ ((Nz.rIf _ 62 (by decide)).then fun _ => (Nz.grp 2).then fun _ => Nz.pure _)
    (Nz.ite _ ((Nz.grp 3).then fun _ => Nz.pure _) (Nz.ite _ ((Nz.grp 7).then fun _ => Nz.pure _) (Nz.pure _)))
theorem Nz.lens (cl : List Nat) (many : Nat) : ∀ (d : Nat) (l : List Nat), many - l.length ≤ d → Nz (fun b k => rLens b cl many l k) := by
  intro d
  induction d with
  | zero =>
    intro l hd
    refine (Nz.pure l).congr fun b k => ?_
    rw [rLens, dif_pos (by omega)]
  | succ d ih =>
    intro l hd
    by_cases hm : many ≤ l.length
    · refine (Nz.pure l).congr fun b k => ?_
      rw [rLens, dif_pos hm]
    · refine ((Nz.run cl l).then (q := fun xt b k => if many < l.length + xt.2 + 1 then .no 62 else rLens b cl many (l ++ List.replicate (xt.2 + 1) xt.1) k) fun xt => Nz.ite _ (Nz.fail 62 (by decide)) (ih _ ?_)).congr fun b k => ?_
      · rw [List.length_append, List.length_replicate]; omega
      · rw [rLens, dif_neg hm]
        cases rRun b cl l k <;> rfl
theorem Nz.codes : Nz (fun b k => rCodes b k) :=
  (Nz.grp 5).then fun n1 => (Nz.grp 5).then fun n2 => (Nz.grp 4).then fun n3 => (Nz.rIf _ 62 (by decide)).then fun _ => (Nz.code (4 + n3)).then fun cl =>
    (Nz.lens cl (257 + n1 + (1 + n2)) _ [] (Nat.le_refl _)).then fun _ => (Nz.rIf _ 62 (by decide)).then fun _ => Nz.pure _
theorem Nz.back (lim : Nat) (spn T : List Nat) (s : Nat) : Nz (fun b k => rBack b lim spn T s k) :=
  (Nz.rIf _ 62 (by decide)).then fun _ => (Nz.grp _).then fun _ => (Nz.sym spn).then fun _ => (Nz.rIf _ 62 (by decide)).then fun _ => (Nz.grp _).then fun _ => (Nz.rIf _ 63 (by decide)).then fun _ => (Nz.rIf _ 64 (by decide)).then fun _ => Nz.pure _
theorem Nz.step (lim : Nat) (lit spn T : List Nat) : Nz (fun b k => rStep b lim lit spn T k) :=
  (Nz.sym lit).then fun s => Nz.ite _ ((Nz.rIf _ 64 (by decide)).then fun _ => Nz.pure _) (Nz.ite _ (Nz.pure _) ((Nz.back lim spn T s).then fun _ => Nz.pure _))
theorem step_up {b lit spn T : List Nat} {lim k k1 : Nat} {x : Bool × List Nat} (h : rStep b lim lit spn T k = .ok x k1) (hk : k ≤ 8 * b.length) : k < k1 := by
  unfold rStep at h
  cases h1 : rSym b lit k with
  | no e => rw [h1] at h; cases h
  | ok s j =>
    obtain ⟨hh, hj⟩ := rSym_in h1
    have hp := hh.1
    have hj2 := ((Loc.sym lit).of b k s j h1 hk).2.1
    rw [h1, Res.then_ok] at h
    have L : Loc (fun b k => if s < 256 then (rIf (decide (T.length + 1 ≤ lim)) 64 k).then fun _ k2 => .ok (false, T ++ [s]) k2
      else if s = 256 then .ok (true, T) k
      else (rBack b lim spn T s k).then fun T1 k2 => .ok (false, T1) k2) :=
      Loc.ite _ ((Loc.rIf _ 64).then fun _ => Loc.pure _) (Loc.ite _ (Loc.pure _) ((Loc.back lim spn T s).then fun _ => Loc.pure _))
    have := (L.of b j x k1 h hj2).1
    omega
theorem Nz.syms (lim : Nat) (lit spn : List Nat) : ∀ T, Nz (fun b k => rSyms b lim lit spn T k) :=
  Nz.loop (step := fun b T k => rStep b lim lit spn T k) (fun T => Nz.step lim lit spn T) (fun b T k s1 k1 h hk => step_up h hk) (fun b s k e h => by rw [rSyms, h]) (fun b s k s1 k1 h => by rw [rSyms, h]) (fun b s k s1 k1 h => by
    rw [rSyms, h]
    show (if _h : k < k1 ∧ k1 ≤ 8 * b.length then _ else _) = _
    split <;> rfl)
theorem Nz.stored (lim : Nat) (T : List Nat) : Nz (fun b k => rStored b lim T k) := by
  refine (Nz.align.then fun _ => (Nz.grp 16).then fun n => (Nz.grp 16).then fun m => (Nz.rIf (decide (n + m = 65535)) 61 (by decide)).then fun _ => (Nz.rIf (decide (T.length + n ≤ lim)) 64 (by decide)).then fun _ => (Nz.text n).then fun x => Nz.pure (T ++ x)).congr fun b k => ?_
  unfold rStored rText
  simp only [Res.then_ok]
  congr 1
  funext n k1
  congr 1
  funext m k2
  congr 1
  funext u k2
  congr 1
  funext u k2
  by_cases hc : k2 + 8 * n ≤ 8 * b.length
  · rw [rIf_yes (decide_eq_true hc)]; rfl
  · rw [rIf_no (decide_eq_false hc)]; rfl
theorem Nz.kind (lim : Nat) (T : List Nat) (n : Nat) : Nz (fun b k => rKind b lim T n k) :=
  Nz.ite _ (Nz.stored lim T) (Nz.ite _ (Nz.syms lim _ _ T) (Nz.ite _ (Nz.codes.then fun c => Nz.syms lim c.1 c.2 T) (Nz.fail 60 (by decide))))
theorem Nz.block (lim : Nat) (T : List Nat) : Nz (fun b k => rBlock b lim T k) :=
  (Nz.grp 1).then fun _ => (Nz.grp 2).then fun n => (Nz.kind lim T n).then fun _ => Nz.pure _
theorem Nz.blocks (lim : Nat) : ∀ T, Nz (fun b k => rBlocks b lim T k) :=
  Nz.loop (step := fun b T k => rBlock b lim T k) (fun T => Nz.block lim T) (fun b T k s1 k1 h _ => block_up h) (fun b s k e h => by rw [rBlocks, h]) (fun b s k s1 k1 h => by rw [rBlocks, h]) (fun b s k s1 k1 h => by
    rw [rBlocks, h]
    show (if _h : k < k1 ∧ k1 ≤ 8 * b.length then _ else _) = _
    split <;> rfl)
end Go.Proofs.YtnndgpggjlhhpaaGreat
