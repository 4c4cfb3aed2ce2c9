/- Lengths' and distances' symbols: none; the document's. -/
import Derived.Test.YtfibhgohenkfbaaDefSym
import Derived.Test.YtfibhgohenkfbaaInfLawTables
namespace Go.Proofs.Ytfibhgohenkfbaa
open Go.RowKit

set_option maxRecDepth 100000 in
set_option maxHeartbeats 1000000 in
theorem length_no (n : Int) (w : World) (h : ¬ (3 ≤ n ∧ n ≤ 258)) :
    Calls Try.prog 16 #[.int .i64 n] w fun e w' => e = .returned (.tuple #[.int .i64 0, .int .i64 0, .int .i64 0]) ∧ w = w' := by
  by_cases q1 : n < 3
  · clear h
    go_enter Try.func16, Try.ntmps16
    go_wp2_with fail
    go_ret3
    exact ⟨rfl, rfl⟩
  · have q2 : n > 258 := by omega
    clear h
    go_enter Try.func16, Try.ntmps16
    go_wp2_with fail
    go_ret3
    exact ⟨rfl, rfl⟩

set_option maxRecDepth 100000 in
set_option maxHeartbeats 1000000 in
theorem span_yes (n : Nat) (w : World) (h : 1 ≤ n) (h2 : n ≤ 32768) :
    Calls Try.prog 18 #[.int .i64 n] w fun e w' => e = .returned (.tuple #[.int .i64 (spnS n : Nat), .int .i64 (farC (spnS n) : Nat), .int .i64 ((n - farN (spnS n) : Nat) : Int)]) ∧ Fr S0 w w' := by
  have hc := cnt_is (n := n) far_rise (show farN 0 ≤ n from h)
  have HS : Hid (∀ w : World, Calls Try.prog 39 #[.int .i64 n, .int .i64 0, .int .i64 29, .func (.func 21) #[] #[]] w fun e w' => e = .returned (.tuple #[.int .i64 (spnS n : Nat), .int .i64 (farC (spnS n) : Nat), .int .i64 ((n - farN (spnS n) : Nat) : Int)]) ∧ Fr S0 w w') :=
    Lib.hid fun w => by
      have := sought_any 21 n 0 29 (cnt farN 29 n) farN farC w (by omega) (by decide) (by decide) (cnt_le _ _ _) has_far
        (fun j w' hj => by rw [Nat.zero_add]; exact far_any j w' (by omega)) far_rise hc.1 hc.2
      rw [Nat.zero_add] at this
      exact this
  obtain ⟨a, ha⟩ : ∃ a, spnS n = a := ⟨_, rfl⟩
  rw [ha] at HS ⊢
  obtain ⟨b, hb⟩ : ∃ b, farC a = b := ⟨_, rfl⟩
  obtain ⟨c, hc'⟩ : ∃ c, n - farN a = c := ⟨_, rfl⟩
  rw [hb, hc'] at HS ⊢
  clear ha hb hc' hc
  have q1 : ¬ (n : Int) < 1 := by omega
  have q2 : ¬ (n : Int) > 32768 := by omega
  go_enter Try.func18, Try.ntmps18
  go_wp2_with fail
  refine (HS.out _).mono ?_
  rintro e w' ⟨rfl, f⟩
  have HF := Lib.hid f
  clear f HS
  go_wp2_with fail
  go_ret3
  exact ⟨rfl, HF.out⟩
set_option maxRecDepth 100000 in
set_option maxHeartbeats 1000000 in
theorem span_no (n : Int) (w : World) (h : ¬ (1 ≤ n ∧ n ≤ 32768)) :
    Calls Try.prog 18 #[.int .i64 n] w fun e w' => e = .returned (.tuple #[.int .i64 (-1), .int .i64 0, .int .i64 0]) ∧ w = w' := by
  by_cases q1 : n < 1
  · clear h
    go_enter Try.func18, Try.ntmps18
    go_wp2_with fail
    go_ret3
    exact ⟨rfl, rfl⟩
  · have q2 : n > 32768 := by omega
    clear h
    go_enter Try.func18, Try.ntmps18
    go_wp2_with fail
    go_ret3
    exact ⟨rfl, rfl⟩

theorem cnt_step {f : Nat → Nat} {m n : Nat} (h : ∀ k, k < m + 1 → f k < f (k + 1)) : cnt f (m + 1) n = if f (m + 1) ≤ n then m + 1 else cnt f m n := by
  by_cases q : f (m + 1) ≤ n
  · rw [if_pos q]
    exact cnt_eq h (Nat.le_refl _) (fun _ => q) (fun z => by omega)
  · rw [if_neg q]
    unfold cnt
    rw [List.range_succ, List.countP_append, List.countP_singleton, if_neg (by rw [decide_eq_true_iff]; exact q)]
    rfl
/-- what the document's loop over lengths' symbols has at j -/
def lenTo (n j : Nat) : Nat := 257 + cnt (fun k => baseN (257 + k)) (j - 258) n
theorem lenTo_step (n j : Nat) (hn : 3 ≤ n) (h : 257 ≤ j) (h2 : j < 285) : lenTo n (j + 1) = if baseN j ≤ n then j else lenTo n j := by
  unfold lenTo
  by_cases e : j = 257
  · subst e
    rw [if_pos (show baseN 257 ≤ n from hn)]
    rfl
  · have hs := cnt_step (f := fun k => baseN (257 + k)) (m := j - 258) (n := n) fun k hk => base_rise k (by omega)
    rw [show j + 1 - 258 = j - 258 + 1 by omega, hs]
    rw [show 257 + (j - 258 + 1) = j by omega]
    split
    · omega
    · rfl
theorem lenTo_end (n : Nat) (hn : n < 258) : lenTo n 285 = lenS n := by
  have hs := cnt_step (f := fun k => baseN (257 + k)) (m := 27) (n := n) base_rise
  rw [if_neg (show ¬ baseN (257 + 28) ≤ n from by have : baseN (257 + 28) = 258 := by decide
                                                  omega)] at hs
  unfold lenTo lenS
  rw [show cnt (fun k => baseN (257 + k)) 28 n = cnt (fun k => baseN (257 + k)) (27 + 1) n from rfl, hs]
theorem lenTo_le (n j : Nat) (hj : j ≤ 285) : 257 ≤ lenTo n j ∧ lenTo n j ≤ 285 := by have := cnt_le (fun k => baseN (257 + k)) (j - 258) n; unfold lenTo; omega
/-- what the document's loop over distances' symbols has at j -/
def spnTo (n j : Nat) : Nat := cnt farN (j - 1) n
theorem spnTo_step (n j : Nat) (hn : 1 ≤ n) (h2 : j < 30) : spnTo n (j + 1) = if farN j ≤ n then j else spnTo n j := by
  unfold spnTo
  by_cases e : j = 0
  · subst e
    rw [if_pos (show farN 0 ≤ n from hn)]
    rfl
  · have hs := cnt_step (f := farN) (m := j - 1) (n := n) fun k hk => far_rise k (by omega)
    rw [show j + 1 - 1 = j - 1 + 1 by omega, hs, show j - 1 + 1 = j by omega]
theorem spnTo_le (n j : Nat) (hj : j ≤ 30) : spnTo n j ≤ 29 := by have := cnt_le farN (j - 1) n; unfold spnTo; omega

set_option maxRecDepth 100000 in
set_option maxHeartbeats 1000000 in
theorem rlength_yes (n : Nat) (w : World) (h : 3 ≤ n) (h2 : n ≤ 258) :
    Calls Try.prog 17 #[.int .i64 n] w fun e w' => e = .returned (.tuple #[.int .i64 (lenS n : Nat), .int .i64 (baseC (lenS n) : Nat), .int .i64 ((n - baseN (lenS n) : Nat) : Int)]) ∧ w = w' := by
  have q1 : ¬ (n : Int) < 3 := by omega
  have q2 : ¬ (n : Int) > 258 := by omega
  by_cases h8 : n = 258
  · subst h8
    have e1 : lenS 258 = 285 := by decide +kernel
    rw [e1]
    go_enter Try.func17, Try.ntmps17
    go_wp2_with fail
    go_ret3
    exact ⟨rfl, rfl⟩
  · have q3 : ((n : Int) == 258) = false := by rw [beq_eq_false_iff_ne]; omega
    have HB := Lib.hid (fun j w (a : 257 ≤ j) (b : j ≤ 285) => rbase_any j w a b)
    have HE := Lib.hid (lenTo_end n (by omega))
    have HI := Lib.hid (lenS_is h h2)
    clear h8
    go_enter Try.func17, Try.ntmps17
    go_wp2_with fail
    go_loopw [5, 6, 7, 8] (fun s i _ _ wr => ∃ j : Nat, 257 ≤ j ∧ j ≤ 285 ∧ i = .int .i64 j ∧ s = .int .i64 (lenTo n j : Nat) ∧ w = wr) (fun _ i _ _ _ => 285 - (intOf i).toNat)
    case atStart => exact ⟨257, by omega, by omega, rfl, rfl, rfl⟩
    case round =>
      obtain ⟨j, hj, hj2, rfl, rfl, rfl⟩ := hrel
      by_cases hlt : (j : Int) < 285
      · have HS := Lib.hid (lenTo_step n j h hj (by omega))
        have HBJ := Lib.hid (HB.out j w hj (by omega))
        obtain ⟨T, hT⟩ : ∃ T, lenTo n j = T := ⟨_, rfl⟩
        rw [hT] at HS ⊢
        obtain ⟨A, hA⟩ : ∃ A, baseN j = A := ⟨_, rfl⟩
        obtain ⟨C, hC⟩ : ∃ C, baseC j = C := ⟨_, rfl⟩
        rw [hA] at HS HBJ
        rw [hC] at HBJ
        clear hT hA hC
        by_cases hAn : (A : Int) ≤ (n : Int)
        · have HS2 : Hid (lenTo n (j + 1) = j) := Lib.hid (by rw [HS.out, if_pos (by omega)])
          clear HS
          go_wp2_with fail
          refine HBJ.out.mono ?_
          rintro e w' ⟨rfl, rfl⟩
          clear HBJ
          go_wp2_with fail
          go_roundw
          case rel => exact ⟨j + 1, by omega, by omega, by go_num, by rw [HS2.out], by trivial⟩
          case measure => simp [intOf]; omega
        · have HS2 : Hid (lenTo n (j + 1) = T) := Lib.hid (by rw [HS.out, if_neg (by omega)])
          clear HS
          go_wp2_with fail
          refine HBJ.out.mono ?_
          rintro e w' ⟨rfl, rfl⟩
          clear HBJ
          go_wp2_with fail
          go_roundw
          case rel => exact ⟨j + 1, by omega, by omega, by go_num, by rw [HS2.out], by trivial⟩
          case measure => simp [intOf]; omega
      · obtain rfl : j = 285 := by omega
        rw [HE.out]
        have HBJ := Lib.hid (HB.out (lenS n) w (lenS_le n).1 (lenS_le n).2)
        obtain ⟨s, hs⟩ : ∃ s, lenS n = s := ⟨_, rfl⟩
        have hin := HI.out.1
        rw [hs] at HBJ hin ⊢
        obtain ⟨A, hA⟩ : ∃ A, baseN s = A := ⟨_, rfl⟩
        obtain ⟨C, hC⟩ : ∃ C, baseC s = C := ⟨_, rfl⟩
        rw [hA, hC] at HBJ
        rw [hA] at hin
        have HS1 := Lib.hid hs
        have HA1 := Lib.hid hA
        have HC1 := Lib.hid hC
        have E1 : Hid ((n : Int) - (A : Int) = ((n - A : Nat) : Int)) := Lib.hid (by omega)
        clear hs hA hC HE HI
        go_wp2_with fail
        refine HBJ.out.mono ?_
        rintro e w' ⟨rfl, rfl⟩
        clear HBJ
        go_wp2_with fail
        go_ret3
        exact ⟨by rw [HS1.out, HA1.out, HC1.out, ← E1.out]; rfl, rfl⟩
set_option maxRecDepth 100000 in
set_option maxHeartbeats 1000000 in
theorem rlength_no (n : Int) (w : World) (h : ¬ (3 ≤ n ∧ n ≤ 258)) :
    Calls Try.prog 17 #[.int .i64 n] w fun e w' => e = .returned (.tuple #[.int .i64 0, .int .i64 0, .int .i64 0]) ∧ w = w' := by
  by_cases q1 : n < 3
  · clear h
    go_enter Try.func17, Try.ntmps17
    go_wp2_with fail
    go_ret3
    exact ⟨rfl, rfl⟩
  · have q2 : n > 258 := by omega
    clear h
    go_enter Try.func17, Try.ntmps17
    go_wp2_with fail
    go_ret3
    exact ⟨rfl, rfl⟩

set_option maxRecDepth 100000 in
set_option maxHeartbeats 1000000 in
theorem rspan_yes (n : Nat) (w : World) (h : 1 ≤ n) (h2 : n ≤ 32768) :
    Calls Try.prog 19 #[.int .i64 n] w fun e w' => e = .returned (.tuple #[.int .i64 (spnS n : Nat), .int .i64 (farC (spnS n) : Nat), .int .i64 ((n - farN (spnS n) : Nat) : Int)]) ∧ w = w' := by
  have q1 : ¬ (n : Int) < 1 := by omega
  have q2 : ¬ (n : Int) > 32768 := by omega
  have HB := Lib.hid (fun j w (b : j ≤ 29) => rfar_any j w b)
  have HI := Lib.hid (spnS_is h h2)
  go_enter Try.func19, Try.ntmps19
  go_wp2_with fail
  go_loopw [5, 6, 7, 8] (fun s i _ _ wr => ∃ j : Nat, j ≤ 30 ∧ i = .int .i64 j ∧ s = .int .i64 (spnTo n j : Nat) ∧ w = wr) (fun _ i _ _ _ => 30 - (intOf i).toNat)
  case atStart => exact ⟨0, by omega, rfl, rfl, rfl⟩
  case round =>
    obtain ⟨j, hj2, rfl, rfl, rfl⟩ := hrel
    by_cases hlt : (j : Int) < 30
    · have HS := Lib.hid (spnTo_step n j h (by omega))
      have HBJ := Lib.hid (HB.out j w (by omega))
      obtain ⟨T, hT⟩ : ∃ T, spnTo n j = T := ⟨_, rfl⟩
      rw [hT] at HS ⊢
      obtain ⟨A, hA⟩ : ∃ A, farN j = A := ⟨_, rfl⟩
      obtain ⟨C, hC⟩ : ∃ C, farC j = C := ⟨_, rfl⟩
      rw [hA] at HS HBJ
      rw [hC] at HBJ
      clear hT hA hC
      by_cases hAn : (A : Int) ≤ (n : Int)
      · have HS2 : Hid (spnTo n (j + 1) = j) := Lib.hid (by rw [HS.out, if_pos (by omega)])
        clear HS
        go_wp2_with fail
        refine HBJ.out.mono ?_
        rintro e w' ⟨rfl, rfl⟩
        clear HBJ
        go_wp2_with fail
        go_roundw
        case rel => exact ⟨j + 1, by omega, by go_num, by rw [HS2.out], by trivial⟩
        case measure => simp [intOf]; omega
      · have HS2 : Hid (spnTo n (j + 1) = T) := Lib.hid (by rw [HS.out, if_neg (by omega)])
        clear HS
        go_wp2_with fail
        refine HBJ.out.mono ?_
        rintro e w' ⟨rfl, rfl⟩
        clear HBJ
        go_wp2_with fail
        go_roundw
        case rel => exact ⟨j + 1, by omega, by go_num, by rw [HS2.out], by trivial⟩
        case measure => simp [intOf]; omega
    · obtain rfl : j = 30 := by omega
      rw [show spnTo n 30 = spnS n from rfl]
      have HBJ := Lib.hid (HB.out (spnS n) w (spnS_le n))
      obtain ⟨s, hs⟩ : ∃ s, spnS n = s := ⟨_, rfl⟩
      have hin := HI.out.1
      rw [hs] at HBJ hin ⊢
      obtain ⟨A, hA⟩ : ∃ A, farN s = A := ⟨_, rfl⟩
      obtain ⟨C, hC⟩ : ∃ C, farC s = C := ⟨_, rfl⟩
      rw [hA, hC] at HBJ
      rw [hA] at hin
      have HS1 := Lib.hid hs
      have HA1 := Lib.hid hA
      have HC1 := Lib.hid hC
      have E1 : Hid ((n : Int) - (A : Int) = ((n - A : Nat) : Int)) := Lib.hid (by omega)
      clear hs hA hC HI
      go_wp2_with fail
      refine HBJ.out.mono ?_
      rintro e w' ⟨rfl, rfl⟩
      clear HBJ
      go_wp2_with fail
      go_ret3
      exact ⟨by rw [HS1.out, HA1.out, HC1.out, ← E1.out]; rfl, rfl⟩
set_option maxRecDepth 100000 in
set_option maxHeartbeats 1000000 in
theorem rspan_no (n : Int) (w : World) (h : ¬ (1 ≤ n ∧ n ≤ 32768)) :
    Calls Try.prog 19 #[.int .i64 n] w fun e w' => e = .returned (.tuple #[.int .i64 (-1), .int .i64 0, .int .i64 0]) ∧ w = w' := by
  by_cases q1 : n < 1
  · clear h
    go_enter Try.func19, Try.ntmps19
    go_wp2_with fail
    go_ret3
    exact ⟨rfl, rfl⟩
  · have q2 : n > 32768 := by omega
    clear h
    go_enter Try.func19, Try.ntmps19
    go_wp2_with fail
    go_ret3
    exact ⟨rfl, rfl⟩
end Go.Proofs.Ytfibhgohenkfbaa
