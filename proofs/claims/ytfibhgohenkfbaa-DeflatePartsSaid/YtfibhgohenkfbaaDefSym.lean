/- Lengths' and distances' symbols are sought. -/
import Derived.Test.YtfibhgohenkfbaaDefModel
import Derived.Test.YtfibhgohenkfbaaInfRead
namespace Go.Proofs.Ytfibhgohenkfbaa
open Go.RowKit

/-- what the test in sought answers of the numbers 0, 1 .., in any world that goes on from w -/
def Tells (p q r : Nat) (w : World) (n s : Nat) : Prop :=
  ∀ (k : Nat) (w' : World), k < n → Fr S0 w w' → Calls Try.prog 59 #[.int .i64 k, .pointer (some ⟨p, 0, none⟩), .pointer (some ⟨q, 0, none⟩), .pointer (some ⟨r, 0, none⟩)] w' fun e w'' => e = .returned (.bool (decide (s ≤ k))) ∧ w' = w''

set_option maxRecDepth 100000 in
set_option maxHeartbeats 1000000 in
theorem search_any (n s p q r : Nat) (w : World) (hn : n ≤ 1000) (hs : s ≤ n) (hF : Tells p q r w n s) :
    Calls Try.prog 58 #[.int .i64 n, .func (.func 59) #[] #[.pointer (some ⟨p, 0, none⟩), .pointer (some ⟨q, 0, none⟩), .pointer (some ⟨r, 0, none⟩)]] w fun e w' => e = .returned (.int .i64 (s : Nat)) ∧ w = w' := by
  have HF := Lib.hid hF
  clear hF
  go_enter Try.func58, Try.ntmps58
  go_wp2_with fail
  go_loopw [5, 6] (fun i j wr => ∃ a b : Nat, i = .int .i64 a ∧ j = .int .i64 b ∧ a ≤ s ∧ s ≤ b ∧ b ≤ n ∧ w = wr) (fun i j _ => (intOf j - intOf i).toNat)
  case atStart => exact ⟨0, n, rfl, rfl, by omega, by omega, by omega, rfl⟩
  case round =>
    obtain ⟨a, b, rfl, rfl, ha, hb, hbn, rfl⟩ := hrel
    by_cases hab : (a : Int) < (b : Int)
    · obtain ⟨h, hh⟩ : ∃ h : Nat, h = (a + b) / 2 := ⟨_, rfl⟩
      have e1 : ((a : Int) + (b : Int)) / 2 = (h : Int) := by omega
      have hlt : a ≤ h ∧ h < b := by omega
      have HC := Lib.hid (HF.out h w (by omega) (Fr.refl _ _))
      have E1 := Lib.hid e1
      clear hh e1
      go_wp2_with fail
      rw [E1.out]
      refine HC.out.mono ?_
      rintro e w' ⟨rfl, rfl⟩
      by_cases hsh : s ≤ h
      · rw [decide_eq_true hsh]
        go_wp2_with fail
        go_roundw
        case rel => exact ⟨a, h, rfl, rfl, by omega, by omega, by omega, by trivial⟩
        case measure => simp [intOf]; omega
      · rw [decide_eq_false hsh]
        go_wp2_with fail
        go_roundw
        case rel => exact ⟨h + 1, b, by go_num, rfl, by omega, by omega, by omega, by trivial⟩
        case measure => simp [intOf]; omega
    · obtain rfl : a = b := by omega
      obtain rfl : s = a := by omega
      go_wp2_with fail
      go_ret
      exact ⟨rfl, rfl⟩

/-- the function has a body -/
def Has (B : Nat) : Prop := ∀ (args : Array Value) (w : World), (callFunc B args).run Try.prog w = .ok (.enter B args) w
set_option maxRecDepth 100000 in
set_option maxHeartbeats 1000000 in
theorem test_any (B F C first n p q r k : Nat) (w : World) (h0 : w.cell? ⟨p, 0, none⟩ = some (.func (.func B) #[] #[])) (h1 : w.cell? ⟨q, 0, none⟩ = some (.int .i64 (first : Nat))) (h2 : w.cell? ⟨r, 0, none⟩ = some (.int .i64 (n : Nat)))
    (hk : k ≤ 1000) (hf : first ≤ 1000) (hE : Has B) (hB : Calls Try.prog B #[.int .i64 ((first + 1 + k : Nat) : Int)] w fun e w' => e = .returned (.tuple #[.int .i64 (F : Nat), .int .i64 (C : Nat)]) ∧ w = w') :
    Calls Try.prog 59 #[.int .i64 k, .pointer (some ⟨p, 0, none⟩), .pointer (some ⟨q, 0, none⟩), .pointer (some ⟨r, 0, none⟩)] w fun e w' => e = .returned (.bool (decide (n < F))) ∧ w = w' := by
  obtain ⟨m, hm⟩ : ∃ m : Nat, first + 1 + k = m := ⟨_, rfl⟩
  have e1 : (first : Int) + 1 + (k : Int) = (m : Int) := by omega
  rw [hm] at hB
  have HB := Lib.hid hB
  have E1 := Lib.hid e1
  have HD : Hid (decide ((n : Int) < (F : Int)) = decide (n < F)) := Lib.hid (by rw [decide_eq_decide]; omega)
  clear hB hm e1
  have hEm : (callFunc B #[.int .i64 ((first : Int) + 1 + (k : Int))]).run Try.prog w = .ok (.enter B #[.int .i64 ((first : Int) + 1 + (k : Int))]) w := hE _ _
  go_enter Try.func59, Try.ntmps59
  go_wp2_with fail
  rw [E1.out]
  refine HB.out.mono ?_
  rintro e w' ⟨rfl, rfl⟩
  go_wp2_with fail
  go_ret
  exact ⟨by rw [← HD.out]; rfl, rfl⟩

set_option maxRecDepth 100000 in
set_option maxHeartbeats 1000000 in
/-- the greatest of the symbols from first to last whose number isn't above n -/
theorem sought_any (B n first last s : Nat) (f c : Nat → Nat) (w : World) (hn : n ≤ 1000000) (hl : last ≤ 1000) (hfl : first ≤ last) (hs : s ≤ last - first) (hE : Has B)
    (hB : ∀ (j : Nat) (w' : World), j ≤ last - first → Calls Try.prog B #[.int .i64 ((first + j : Nat) : Int)] w' fun e w'' => e = .returned (.tuple #[.int .i64 (f j : Nat), .int .i64 (c j : Nat)]) ∧ w' = w'')
    (hr : ∀ k, k < last - first → f k < f (k + 1)) (h1 : f s ≤ n) (h2 : s < last - first → n < f (s + 1)) :
    Calls Try.prog 39 #[.int .i64 n, .int .i64 first, .int .i64 last, .func (.func B) #[] #[]] w fun e w' => e = .returned (.tuple #[.int .i64 ((first + s : Nat) : Int), .int .i64 (c s : Nat), .int .i64 ((n - f s : Nat) : Int)]) ∧ Fr S0 w w' := by
  obtain ⟨m, hm⟩ : ∃ m : Nat, last - first = m := ⟨_, rfl⟩
  have e1 : (last : Int) - (first : Int) = (m : Int) := by omega
  rw [hm] at hs hB hr h2
  obtain ⟨a, ha⟩ : ∃ a : Nat, first + s = a := ⟨_, rfl⟩
  have e2 : (first : Int) + (s : Int) = (a : Int) := by omega
  have HB := Lib.hid hB
  have E1 := Lib.hid e1
  have E2 := Lib.hid e2
  have HA := Lib.hid ha
  have HT : Hid (∀ w1 p q r, w1.cell? ⟨p, 0, none⟩ = some (.func (.func B) #[] #[]) → w1.cell? ⟨q, 0, none⟩ = some (.int .i64 (first : Nat)) → w1.cell? ⟨r, 0, none⟩ = some (.int .i64 (n : Nat)) → Tells p q r w1 m s) := Lib.hid (by
    intro w1 p q r k0 k1 k2 k w2 hk f2
    have := test_any B (f (k + 1)) (c (k + 1)) first n p q r k w2 (f2.cell k0 (fun h => h)) (f2.cell k1 (fun h => h)) (f2.cell k2 (fun h => h)) (by omega) (by omega) hE
      (by rw [show first + 1 + k = first + (k + 1) by omega]; exact hB (k + 1) w2 (by omega))
    rw [show decide (n < f (k + 1)) = decide (s ≤ k) by
      rw [decide_eq_decide]
      constructor
      · intro q
        by_cases hsk : s ≤ k
        · exact hsk
        · have := rising_le hr (k + 1) (s - (k + 1)) (by omega)
          rw [show k + 1 + (s - (k + 1)) = s by omega] at this
          omega
      · intro q
        have := rising_le hr (s + 1) (k - s) (by omega)
        rw [show s + 1 + (k - s) = k + 1 by omega] at this
        have := h2 (by omega)
        omega] at this
    exact this)
  obtain ⟨F, hF⟩ : ∃ F, f s = F := ⟨_, rfl⟩
  obtain ⟨C, hC⟩ : ∃ C, c s = C := ⟨_, rfl⟩
  have HBS := Lib.hid fun w' => hB s w' hs
  rw [ha, hF, hC] at HBS
  rw [hF] at h1 ⊢
  rw [hC, ha]
  have hms : m ≤ 1000 := by omega
  have e3 : (n : Int) - (F : Int) = ((n - F : Nat) : Int) := by omega
  have E3 := Lib.hid e3
  clear hB hr h2 hm e1 e2 ha hF hC e3
  have hmf : ∀ (fn : Fn) (first cap : Array Value) (w : World), (Instr.makeFunc fn first cap).run Try.prog w = .ok (.func fn first cap) w := fun _ _ _ _ => rfl
  go_enter Try.func39, Try.ntmps39
  go_wp2_with fail
  obtain ⟨w1, hw1⟩ : ∃ w1, ((w.alloc (.cells #[.int .i64 (n : Nat)] 3)).alloc (.cells #[.int .i64 (first : Nat)] 3)).alloc (.cells #[.func (.func B) #[] #[]] 37) = w1 := ⟨_, rfl⟩
  have f1 : Fr S0 w w1 := by rw [← hw1]; exact ((Fr.alloc S0 w _).trans0 (Fr.alloc _ _ _)).trans0 (Fr.alloc _ _ _)
  have k0 : w1.cell? ⟨w.heap.size, 0, none⟩ = some (.int .i64 (n : Nat)) := by
    rw [← hw1]
    exact (Fr.alloc S0 _ _).cell ((Fr.alloc S0 _ _).cell ((cell_of_row _ _ 0 _ _ _ (heap_alloc_new w _)).trans rfl) (fun h => h)) (fun h => h)
  have k1 : w1.cell? ⟨w.heap.size + 1, 0, none⟩ = some (.int .i64 (first : Nat)) := by
    rw [← hw1]
    have := (cell_of_row _ _ 0 _ _ _ (heap_alloc_new (w.alloc (.cells #[.int .i64 (n : Nat)] 3)) (.cells #[.int .i64 (first : Nat)] 3))).trans rfl
    rw [size_alloc] at this
    exact (Fr.alloc S0 _ _).cell this (fun h => h)
  have k2 : w1.cell? ⟨w.heap.size + 1 + 1, 0, none⟩ = some (.func (.func B) #[] #[]) := by
    rw [← hw1]
    have := (cell_of_row _ _ 0 _ _ _ (heap_alloc_new ((w.alloc (.cells #[.int .i64 (n : Nat)] 3)).alloc (.cells #[.int .i64 (first : Nat)] 3)) (.cells #[.func (.func B) #[] #[]] 37))).trans rfl
    rw [size_alloc, size_alloc] at this
    exact this
  rw [hw1]
  have HF1 := Lib.hid f1
  have HS := Lib.hid (search_any m s _ _ _ w1 hms hs (HT.out w1 _ _ _ k2 k1 k0))
  have hEm : (callFunc B #[.int .i64 ((first : Int) + (s : Int))]).run Try.prog w1 = .ok (.enter B #[.int .i64 ((first : Int) + (s : Int))]) w1 := hE _ _
  clear f1 hw1 HT
  rw [E1.out]
  refine HS.out.mono ?_
  rintro e w' ⟨rfl, rfl⟩
  clear HS
  go_wp2_with fail
  rw [E2.out]
  refine (HBS.out w1).mono ?_
  rintro e w' ⟨rfl, rfl⟩
  clear HBS HB hEm
  go_wp2_with fail
  go_quiet (fail)
  go_wp2_with fail
  go_ret3
  exact ⟨by rw [E3.out]; rfl, HF1.out.trans0 (Fr.drewN _ _ _)⟩

theorem has_base : Has 20 := fun _ _ => by kernel_rfl
theorem has_far : Has 21 := fun _ _ => by kernel_rfl

/-- a length's symbol, its bits, the rest -/
def lenI3 (n : Int) : Nat × Nat × Nat := if 3 ≤ n ∧ n ≤ 258 then (lenS n.toNat, baseC (lenS n.toNat), n.toNat - baseN (lenS n.toNat)) else (0, 0, 0)
theorem lenI3_yes {n : Nat} (h : 3 ≤ n) (h2 : n ≤ 258) : lenI3 n = (lenS n, baseC (lenS n), n - baseN (lenS n)) := by unfold lenI3; rw [if_pos (by omega), Int.toNat_natCast]
theorem lenI3_no {n : Int} (h : ¬ (3 ≤ n ∧ n ≤ 258)) : lenI3 n = (0, 0, 0) := by unfold lenI3; rw [if_neg h]

set_option maxRecDepth 100000 in
set_option maxHeartbeats 1000000 in
theorem length_yes (n : Nat) (w : World) (h : 3 ≤ n) (h2 : n ≤ 258) :
    Calls Try.prog 16 #[.int .i64 n] w fun e w' => e = .returned (.tuple #[.int .i64 (lenS n : Nat), .int .i64 (baseC (lenS n) : Nat), .int .i64 ((n - baseN (lenS n) : Nat) : Int)]) ∧ Fr S0 w w' := by
  have hc := cnt_is (n := n) base_rise (show baseN (257 + 0) ≤ n from h)
  have HS : Hid (∀ w : World, Calls Try.prog 39 #[.int .i64 n, .int .i64 257, .int .i64 285, .func (.func 20) #[] #[]] w fun e w' => e = .returned (.tuple #[.int .i64 (lenS n : Nat), .int .i64 (baseC (lenS n) : Nat), .int .i64 ((n - baseN (lenS n) : Nat) : Int)]) ∧ Fr S0 w w') :=
    Lib.hid fun w => sought_any 20 n 257 285 (cnt (fun k => baseN (257 + k)) 28 n) (fun k => baseN (257 + k)) (fun k => baseC (257 + k)) w (by omega) (by decide) (by decide) (cnt_le _ _ _) has_base
      (fun j w' hj => base_any (257 + j) w' (by omega) (by omega)) base_rise hc.1 hc.2
  obtain ⟨a, ha⟩ : ∃ a, lenS n = a := ⟨_, rfl⟩
  rw [ha] at HS ⊢
  obtain ⟨b, hb⟩ : ∃ b, baseC a = b := ⟨_, rfl⟩
  obtain ⟨c, hc'⟩ : ∃ c, n - baseN a = c := ⟨_, rfl⟩
  rw [hb, hc'] at HS ⊢
  clear ha hb hc' hc
  have q1 : ¬ (n : Int) < 3 := by omega
  have q2 : ¬ (n : Int) > 258 := by omega
  go_enter Try.func16, Try.ntmps16
  go_wp2_with fail
  refine (HS.out _).mono ?_
  rintro e w' ⟨rfl, f⟩
  have HF := Lib.hid f
  clear f HS
  go_wp2_with fail
  go_ret3
  exact ⟨rfl, HF.out⟩
end Go.Proofs.Ytfibhgohenkfbaa
