/- Groups and symbols are read; the tables. -/
import Derived.Test.YtfibhgohenkfbaaInfBase
namespace Go.Proofs.Ytfibhgohenkfbaa
open Go.RowKit

/-- how a call ends that reads -/
def RdEnds (x : Res Nat) (w : World) (gr : Nat) (r : Option Nat) (b : List Nat) (e : Ending) (w' : World) : Prop :=
  match x with
  | .ok n j => e = .returned (.int .i64 (n : Nat)) ∧ RdTo w w' gr r b j
  | .no m => e = .panicked (chn m) ∧ Fr (· = gr) w w'
theorem RdEnds.of {x y : Res Nat} {w : World} {gr : Nat} {r : Option Nat} {b : List Nat} {e : Ending} {w' : World} (h : x = y) (k : RdEnds y w gr r b e w') : RdEnds x w gr r b e w' := by rw [h]; exact k
theorem rGrp_yes {b : List Nat} {c k : Nat} (h : k + c ≤ 8 * b.length) : rGrp b c k = .ok (num (bitsAt b k c)) (k + c) := by unfold rGrp; rw [if_pos h]
theorem rGrp_no {b : List Nat} {c k : Nat} (h : ¬ k + c ≤ 8 * b.length) : rGrp b c k = .no 20 := by unfold rGrp; rw [if_neg h]

section
variable {g gr : Nat} {r t : Option Nat} {b : List Nat} {k lim : Nat} {T : List Nat} {L S : Value}
set_option maxRecDepth 100000 in
set_option maxHeartbeats 400000 in
theorem group_any (c : Nat) (w : World) (h : StIs w g gr r t b k lim T L S) (hc : c ≤ 16) :
    Calls Try.prog 56 #[.pointer (some ⟨g, 0, none⟩), .int .i64 (c : Nat)] w (RdEnds (rGrp b c k) w gr r b) := by
  have h0 := h.c0
  have hr := h.rd
  have hs := h.few.2.2
  by_cases hk : k + c ≤ 8 * b.length
  · have HG := Lib.hid (rgroup_ok gr r b k c w hr (by omega) hk hs)
    have hb : num (bitsAt b k c) < 65536 := Nat.lt_of_lt_of_le (bitsAt_lt b k c) (Nat.pow_le_pow_right (n := 2) (by decide) hc)
    rw [rGrp_yes hk]
    obtain ⟨n, hn⟩ : ∃ n, num (bitsAt b k c) = n := ⟨_, rfl⟩
    rw [hn] at HG hb ⊢
    have HY := Lib.hid (fun W => got32_yes n W)
    clear h hr hs hk hn hc
    go_enter Try.func56, Try.ntmps56
    go_wp2_with fail
    refine HG.out.mono ?_
    rintro e w1 ⟨rfl, t1⟩
    go_wp2_with fail
    refine (HY.out w1).mono ?_
    rintro e w' ⟨rfl, rfl⟩
    go_wp2_with fail
    go_ret
    exact ⟨rfl, t1⟩
  · have HG := Lib.hid (rgroup_end gr r b k c w hr (by omega) (by omega) hs)
    have HY := Lib.hid (fun W => got32_no 0 20 (by decide) W)
    rw [rGrp_no hk]
    clear h hr hs hk hc
    go_enter Try.func56, Try.ntmps56
    go_wp2_with fail
    refine HG.out.mono ?_
    rintro e w1 ⟨rfl, f1⟩
    go_wp2_with fail
    refine (HY.out w1).mono ?_
    rintro e w' ⟨rfl, rfl⟩
    go_wp2_with fail
    exact ⟨rfl, rfl, f1.mono fun _ _ h => h.elim⟩

theorem rSym_hit {b l : List Nat} {k i : Nat} (h : hits l ((bts b).drop k) i) : rSym b l k = .ok i (k + len l i) := by
  have hb : Bit01 ((bts b).drop k) := (bts_bit b).sub fun _ hx => List.mem_of_mem_drop hx
  unfold rSym
  cases hf : (List.range l.length).find? (fun i => decide (hits l ((bts b).drop k) i)) with
  | none =>
    have := List.find?_eq_none.1 hf i (List.mem_range.2 (len_in h.1))
    simp only [decide_eq_true_eq] at this
    exact absurd h this
  | some j =>
    have := List.find?_some hf
    simp only [decide_eq_true_eq] at this
    rw [hits_one hb this h]
theorem rSym_none {b l : List Nat} {k : Nat} (h : ∀ i, ¬ hits l ((bts b).drop k) i) : rSym b l k = if ((bts b).drop k).length < mx l then .no 20 else .no 62 := by
  unfold rSym
  rw [List.find?_eq_none.2 (fun i _ => by simpa using h i)]
theorem rSym_in {b l : List Nat} {k i j : Nat} (h : rSym b l k = .ok i j) : hits l ((bts b).drop k) i ∧ j = k + len l i := by
  unfold rSym at h
  split at h
  · rename_i i' hf
    have := List.find?_some hf
    simp only [decide_eq_true_eq] at this
    simp only [Res.ok.injEq] at h
    obtain ⟨rfl, rfl⟩ := h
    exact ⟨this, rfl⟩
  · split at h <;> cases h
theorem rSym_lt {b l : List Nat} {k i j : Nat} (h : rSym b l k = .ok i j) : i < l.length := len_in (rSym_in h).1.1

set_option maxRecDepth 100000 in
set_option maxHeartbeats 400000 in
theorem symbol_any (A B gs : Nat) (l : List Nat) (w : World) (h : StIs w g gr r t b k lim T L S) (hs : SetIs w A B gs l) (hw : gr < A ∨ B ≤ gr) :
    Calls Try.prog 103 #[.pointer (some ⟨g, 0, none⟩), .pointer (some ⟨gs, 0, none⟩)] w (RdEnds (rSym b l k) w gr r b) := by
  have h0 := h.c0
  have HR := Lib.hid (read_any A B gs l gr r b k w hs h.rd hw h.few.2.2)
  clear h hs hw
  go_enter Try.func103, Try.ntmps103
  go_wp2_with fail
  refine HR.out.mono ?_
  rintro e w1 ⟨n, hn, hto⟩
  rcases hn with ⟨i, hi, rfl, e1⟩ | ⟨hi, hm, rfl, e1⟩ | ⟨hi, hm, rfl, e1⟩
  · have HY := Lib.hid (gotInt_yes i w1)
    have HE : Hid (rSym b l k = .ok i (k + n)) := Lib.hid (by rw [rSym_hit hi, ← e1])
    clear hi e1
    go_wp2_with fail
    refine HY.out.mono ?_
    rintro e w' ⟨rfl, rfl⟩
    go_wp2_with fail
    go_ret
    exact RdEnds.of HE.out ⟨rfl, hto⟩
  · have HY := Lib.hid (gotInt_no (.int .i64 0) 20 (by decide) w1)
    have HE : Hid (rSym b l k = .no 20) := Lib.hid (by rw [rSym_none hi, if_pos hm])
    clear hi e1 hm
    go_wp2_with fail
    refine HY.out.mono ?_
    rintro e w' ⟨rfl, rfl⟩
    go_wp2_with fail
    exact ⟨rfl, RdEnds.of HE.out ⟨rfl, hto.2⟩⟩
  · have HY := Lib.hid (gotInt_no (.int .i64 0) 62 (by decide) w1)
    have HE : Hid (rSym b l k = .no 62) := Lib.hid (by rw [rSym_none hi, if_neg (by omega)])
    clear hi e1 hm
    go_wp2_with fail
    refine HY.out.mono ?_
    rintro e w' ⟨rfl, rfl⟩
    go_wp2_with fail
    exact ⟨rfl, RdEnds.of HE.out ⟨rfl, hto.2⟩⟩

/-- a sum and what is read -/
def rMore (b : List Nat) (least c k : Nat) : Res Nat := (rGrp b c k).then fun n j => .ok (least + n) j
set_option maxRecDepth 100000 in
set_option maxHeartbeats 400000 in
theorem more_any (least c : Nat) (w : World) (h : StIs w g gr r t b k lim T L S) (hc : c ≤ 16) (hl : least ≤ 1000000) :
    Calls Try.prog 110 #[.pointer (some ⟨g, 0, none⟩), .int .i64 (least : Nat), .int .i64 (c : Nat)] w (RdEnds (rMore b least c k) w gr r b) := by
  have HG := Lib.hid (group_any c w h hc)
  have hb : num (bitsAt b k c) < 65536 := Nat.lt_of_lt_of_le (bitsAt_lt b k c) (Nat.pow_le_pow_right (n := 2) (by decide) hc)
  unfold rMore
  unfold rGrp at HG ⊢
  obtain ⟨n, hn⟩ : ∃ n, num (bitsAt b k c) = n := ⟨_, rfl⟩
  rw [hn] at HG hb ⊢
  clear h hc hn
  go_enter Try.func110, Try.ntmps110
  go_wp2_with fail
  refine HG.out.mono ?_
  intro e w1 h1
  clear HG
  split at h1
  · obtain ⟨rfl, t1⟩ := h1
    go_wp2_with fail
    go_ret
    exact ⟨by go_num, t1⟩
  · obtain ⟨rfl, t1⟩ := h1
    go_wp2_with fail
    exact ⟨rfl, rfl, t1⟩
end

set_option maxRecDepth 100000 in
set_option maxHeartbeats 400000 in
theorem spread_few (n m : Nat) (w : World) (h : n < m) :
    Calls Try.prog 42 #[.int .i64 (n : Nat), .int .i64 (m : Nat)] w fun e w' => e = .returned (.tuple #[.int .i64 (n : Nat), .int .i64 0]) ∧ w = w' := by
  have h1 : (n : Int) < (m : Int) := by omega
  clear h
  go_enter Try.func42, Try.ntmps42
  go_wp2_with fail
  go_ret2
  exact ⟨rfl, rfl⟩
set_option maxRecDepth 100000 in
set_option maxHeartbeats 1000000 in
theorem spread_more (n m c x : Nat) (w : World) (h : m ≤ n) (hm : m ≤ 4) (h0 : 0 < m) (hc : c = n / m - 1) (hcs : c ≤ 30) (hx : x = (m + n % m) * 2 ^ c) (hn : n ≤ 1000) :
    Calls Try.prog 42 #[.int .i64 (n : Nat), .int .i64 (m : Nat)] w fun e w' => e = .returned (.tuple #[.int .i64 (x : Nat), .int .i64 (c : Nat)]) ∧ w = w' := by
  have h1 : ¬ (n : Int) < (m : Int) := by omega
  have h2 : ¬ (m : Int) = 0 := by omega
  have h3 : 1 ≤ n / m := Nat.div_pos h h0
  have h5 := Nat.div_le_self n m
  have h6 := Nat.mod_lt n h0
  have q1 : (n : Int).tdiv (m : Int) = ((n / m : Nat) : Int) := by rw [Int.ofNat_tdiv]
  have q2 : (n : Int).tmod (m : Int) = ((n % m : Nat) : Int) := by rw [Int.ofNat_tmod]
  have q3 : ((n / m : Nat) : Int) - 1 = (c : Int) := by omega
  obtain ⟨D, hD⟩ : ∃ D, n / m = D := ⟨_, rfl⟩
  obtain ⟨R, hR⟩ : ∃ R, n % m = R := ⟨_, rfl⟩
  rw [hD] at q1 q3 h3 h5
  rw [hR] at q2 h6 hx
  have hp : 2 ^ c ≤ 1073741824 := Nat.le_trans (Nat.pow_le_pow_right (n := 2) (by decide) hcs) (by decide)
  have hxs : x ≤ 8 * 1073741824 := by rw [hx]; exact Nat.mul_le_mul (by omega) hp
  have q4 : ((m : Int) + (R : Int)) * 2 ^ c = (x : Int) := by rw [hx]; simp
  have q5 : ((c : Nat) : Int).toNat = c := by omega
  clear h hc hD hR hx hp
  go_enter Try.func42, Try.ntmps42
  go_wp2_with fail
  go_ret2
  exact ⟨rfl, rfl⟩

theorem base_few {s n : Nat} (hs : s = 257 + n) (h : n < 4) : baseN s = 3 + n ∧ baseC s = 0 := by
  subst hs
  unfold baseN baseC
  rw [if_neg (by omega), if_pos (by omega), if_neg (by omega), if_pos (by omega)]
  exact ⟨by omega, rfl⟩
theorem base_more {s n : Nat} (hs : s = 257 + n) (h : ¬ n < 4) (h8 : n < 28) : baseN s = 3 + (4 + n % 4) * 2 ^ (n / 4 - 1) ∧ baseC s = n / 4 - 1 := by
  subst hs
  unfold baseN baseC
  rw [if_neg (by omega), if_neg (by omega), if_neg (by omega), if_neg (by omega), show 257 + n - 257 = n by omega]
  exact ⟨rfl, rfl⟩
theorem baseN_le (s : Nat) (h : 257 ≤ s) (h2 : s ≤ 285) : baseN s ≤ 258 ∧ baseC s ≤ 5 := by
  have key : ∀ n : Fin 29, baseN (257 + n.val) ≤ 258 ∧ baseC (257 + n.val) ≤ 5 := by decide
  have := key ⟨s - 257, by omega⟩
  simpa [show 257 + (s - 257) = s by omega] using this
theorem farN_le (n : Nat) (h : n ≤ 29) : farN n ≤ 24577 ∧ farC n ≤ 13 := by
  have key : ∀ n : Fin 30, farN n.val ≤ 24577 ∧ farC n.val ≤ 13 := by decide
  exact key ⟨n, by omega⟩
theorem far_few {n : Nat} (h : n < 2) : farN n = 1 + n ∧ farC n = 0 := by
  unfold farN farC
  rw [if_pos h, if_pos h]
  exact ⟨by omega, rfl⟩
theorem far_more {n : Nat} (h : ¬ n < 2) : farN n = 1 + (2 + n % 2) * 2 ^ (n / 2 - 1) ∧ farC n = n / 2 - 1 := by
  unfold farN farC
  rw [if_neg h, if_neg h]
  exact ⟨rfl, rfl⟩
set_option maxRecDepth 100000 in
set_option maxHeartbeats 400000 in
theorem base_any (s : Nat) (w : World) (h : 257 ≤ s) (h' : s ≤ 285) :
    Calls Try.prog 20 #[.int .i64 (s : Nat)] w fun e w' => e = .returned (.tuple #[.int .i64 (baseN s : Nat), .int .i64 (baseC s : Nat)]) ∧ w = w' := by
  by_cases h8 : s = 285
  · subst h8
    go_enter Try.func20, Try.ntmps20
    go_wp2_with fail
    go_ret2
    exact ⟨rfl, rfl⟩
  · have hs := baseN_le s h h'
    obtain ⟨n, hn⟩ : ∃ n, s = 257 + n := ⟨s - 257, by omega⟩
    have q1 : (s : Int) - 257 = (n : Int) := by omega
    have q2 : ¬ (s : Int) < 257 := by omega
    have q3 : ¬ (s : Int) > 285 := by omega
    have q4 : ((s : Int) == 285) = false := by rw [beq_eq_false_iff_ne]; omega
    have q5 : ¬ (s : Int) = 285 := by omega
    by_cases h4 : n < 4
    · obtain ⟨e1, e2⟩ := base_few hn h4
      have HS : Hid (Calls Try.prog 42 #[.int .i64 (n : Nat), .int .i64 4] w fun e w' => e = .returned (.tuple #[.int .i64 (n : Nat), .int .i64 0]) ∧ w = w') := Lib.hid (spread_few n 4 w h4)
      have HE : Hid ((3 : Int) + (n : Int) = (baseN s : Nat)) := Lib.hid (by omega)
      have hns : n ≤ 28 := by omega
      rw [e2]
      clear h h' h8 hs e1 e2 h4 hn
      go_enter Try.func20, Try.ntmps20
      go_wp2_with fail
      refine HS.out.mono ?_
      rintro e w' ⟨rfl, rfl⟩
      go_wp2_with fail
      go_ret2
      exact ⟨by rw [← HE.out]; rfl, rfl⟩
    · obtain ⟨e1, e2⟩ := base_more hn h4 (by omega)
      obtain ⟨X, hX⟩ : ∃ X, (4 + n % 4) * 2 ^ (n / 4 - 1) = X := ⟨_, rfl⟩
      obtain ⟨C, hC⟩ : ∃ C, n / 4 - 1 = C := ⟨_, rfl⟩
      have HS : Hid (Calls Try.prog 42 #[.int .i64 (n : Nat), .int .i64 4] w fun e w' => e = .returned (.tuple #[.int .i64 (X : Nat), .int .i64 (C : Nat)]) ∧ w = w') := Lib.hid (spread_more n 4 C X w (by omega) (by omega) (by omega) hC.symm (by omega) (by rw [← hX, hC]) (by omega))
      rw [hX] at e1
      rw [hC] at e2
      have HE : Hid ((3 : Int) + (X : Int) = (baseN s : Nat)) := Lib.hid (by omega)
      have hxs : X ≤ 300 := by omega
      rw [e2]
      clear h h' h8 hs e1 e2 h4 hn hX hC
      go_enter Try.func20, Try.ntmps20
      go_wp2_with fail
      refine HS.out.mono ?_
      rintro e w' ⟨rfl, rfl⟩
      go_wp2_with fail
      go_ret2
      exact ⟨by rw [← HE.out]; rfl, rfl⟩
set_option maxRecDepth 100000 in
set_option maxHeartbeats 400000 in
theorem far_any (n : Nat) (w : World) (h : n ≤ 29) :
    Calls Try.prog 21 #[.int .i64 (n : Nat)] w fun e w' => e = .returned (.tuple #[.int .i64 (farN n : Nat), .int .i64 (farC n : Nat)]) ∧ w = w' := by
  have hs := farN_le n h
  have q2 : ¬ (n : Int) < 0 := by omega
  have q3 : ¬ (n : Int) > 29 := by omega
  by_cases h4 : n < 2
  · obtain ⟨e1, e2⟩ := far_few h4
    have HS : Hid (Calls Try.prog 42 #[.int .i64 (n : Nat), .int .i64 2] w fun e w' => e = .returned (.tuple #[.int .i64 (n : Nat), .int .i64 0]) ∧ w = w') := Lib.hid (spread_few n 2 w h4)
    have HE : Hid ((1 : Int) + (n : Int) = (farN n : Nat)) := Lib.hid (by omega)
    rw [e2]
    clear hs e1 e2 h4
    go_enter Try.func21, Try.ntmps21
    go_wp2_with fail
    refine HS.out.mono ?_
    rintro e w' ⟨rfl, rfl⟩
    go_wp2_with fail
    go_ret2
    exact ⟨by rw [← HE.out]; rfl, rfl⟩
  · obtain ⟨e1, e2⟩ := far_more h4
    obtain ⟨X, hX⟩ : ∃ X, (2 + n % 2) * 2 ^ (n / 2 - 1) = X := ⟨_, rfl⟩
    obtain ⟨C, hC⟩ : ∃ C, n / 2 - 1 = C := ⟨_, rfl⟩
    have HS : Hid (Calls Try.prog 42 #[.int .i64 (n : Nat), .int .i64 2] w fun e w' => e = .returned (.tuple #[.int .i64 (X : Nat), .int .i64 (C : Nat)]) ∧ w = w') := Lib.hid (spread_more n 2 C X w (by omega) (by omega) (by omega) hC.symm (by omega) (by rw [← hX, hC]) (by omega))
    rw [hX] at e1
    rw [hC] at e2
    have HE : Hid ((1 : Int) + (X : Int) = (farN n : Nat)) := Lib.hid (by omega)
    have hxs : X ≤ 30000 := by omega
    rw [e2]
    clear hs e1 e2 h4 hX hC
    go_enter Try.func21, Try.ntmps21
    go_wp2_with fail
    refine HS.out.mono ?_
    rintro e w' ⟨rfl, rfl⟩
    go_wp2_with fail
    go_ret2
    exact ⟨by rw [← HE.out]; rfl, rfl⟩
/-- symbols that stand for no length, no distance -/
theorem base_no (s : Int) (w : World) (h : ¬ (257 ≤ s ∧ s ≤ 285)) :
    Calls Try.prog 20 #[.int .i64 s] w fun e w' => e = .returned (.tuple #[.int .i64 0, .int .i64 0]) ∧ w = w' := by
  by_cases h1 : s < 257
  · clear h
    go_enter Try.func20, Try.ntmps20
    go_wp2_with fail
    go_ret2
    exact ⟨rfl, rfl⟩
  · have h2 : s > 285 := by omega
    clear h
    go_enter Try.func20, Try.ntmps20
    go_wp2_with fail
    go_ret2
    exact ⟨rfl, rfl⟩
theorem far_no (s : Int) (w : World) (h : ¬ (0 ≤ s ∧ s ≤ 29)) :
    Calls Try.prog 21 #[.int .i64 s] w fun e w' => e = .returned (.tuple #[.int .i64 0, .int .i64 0]) ∧ w = w' := by
  by_cases h1 : s < 0
  · clear h
    go_enter Try.func21, Try.ntmps21
    go_wp2_with fail
    go_ret2
    exact ⟨rfl, rfl⟩
  · have h2 : s > 29 := by omega
    clear h
    go_enter Try.func21, Try.ntmps21
    go_wp2_with fail
    go_ret2
    exact ⟨rfl, rfl⟩
end Go.Proofs.Ytfibhgohenkfbaa
