/- The document's answers: whether a pattern is right; one number written. -/
import Derived.Test.YtgjiepbaagmmiaaRefSmall
import Derived.Test.YtgjiepbaagmmiaaMath
import Derived.Test.YtgjiepbaagmmiaaMany
namespace Go.Proofs.Ytgjiepbaagmmiaa
open Go.RowKit

theorem fixed_row (k : Nat) (hk : k < 10) (w : World) : Calls Try.prog 21 #[.int .u8 ((fRow k).1 : Nat)] w fun e w' => e = .returned (.tuple #[.int .i64 (fixS (some k)).1, .bool (fixS (some k)).2]) ∧ w = w' := by
  have e : fIdx (fRow k).1 = some k := ten (fun k => fIdx (fRow k).1 = some k) k hk rfl rfl rfl rfl rfl rfl rfl rfl rfl rfl
  have := rfixed_any (fRow k).1 w
  unfold FixedIs at this
  rw [e] at this
  exact this
theorem fixS_neg (c : Nat) : (fIdx c = none → (fixS (fIdx c)).1 = -1) ∧ (∀ k, fIdx c = some k → 0 ≤ (fixS (fIdx c)).1) := by
  refine ⟨fun h => by rw [h]; rfl, fun k h => ?_⟩
  rw [h]
  unfold fixS
  dsimp only
  split <;> simp

set_option maxRecDepth 100000 in
set_option maxHeartbeats 1000000 in
theorem right_any (s : ByteArray) (w : World) (hs : s.size ≤ maxLen) :
    Calls Try.prog 18 #[.string s] w fun e w' => e = .returned (.bool (formsS (pat s)).isSome) ∧ Fr S0 w w' := by
  unfold maxLen at hs
  go_enter Try.func18, Try.ntmps18
  go_wp2
  go_loopw [3, 4, 5] (fun i _ _ wr => ∃ (k : Nat) (ks : List Nat), k ≤ s.size ∧ k ≤ 65 ∧ i = .int .i64 k ∧ rowsOf ((pat s).take k) = some ks ∧ Fr S0 w wr) (fun i _ _ _ => s.size - (intOf i).toNat)
  case atStart => exact ⟨0, [], by omega, by omega, rfl, rfl, Fr.refl _ _⟩
  case round =>
    obtain ⟨k, ks, hk, h65, rfl, hks, hfr⟩ := hrel
    by_cases hlt : (k : Int) < (s.size : Int)
    · by_cases h65' : (k : Int) < 65
      · have hlt' : k < s.size := by omega
        have HP := Lib.hid (pat_take s k hlt')
        obtain ⟨c, hc⟩ : ∃ c, s[k].toNat = c := ⟨_, rfl⟩
        obtain ⟨x, hx⟩ : ∃ x, (fixS (fIdx c)).1 = x := ⟨_, rfl⟩
        obtain ⟨y, hy⟩ : ∃ y, (fixS (fIdx c)).2 = y := ⟨_, rfl⟩
        have hfix := rfixed_any c wr
        unfold FixedIs at hfix
        rw [hx, hy] at hfix
        have HFIX := Lib.hid hfix
        have HC := Lib.hid hc
        cases hi : fIdx c with
        | none =>
          have hx0 : x < 0 := by rw [← hx, (fixS_neg c).1 hi]; decide
          have HN : Hid (formsS (pat s) = none) := Lib.hid (by
            unfold formsS
            split
            · rfl
            · rw [← List.take_append_drop (k + 1) (pat s)]
              refine rowsOf_none _ _ ?_
              rw [HP.out, rowsOf_snoc, hks, hc, hi])
          clear hc hx hy hfix hi hks
          go_wp2_with (go_at_call 21; rw [HC.out]; refine HFIX.out.mono ?_; rintro e w' ⟨rfl, rfl⟩)
          go_ret
          rw [HN.out]
          exact ⟨rfl, hfr⟩
        | some j =>
          have hx0 : 0 ≤ x := by rw [← hx]; exact (fixS_neg c).2 j hi
          have HN : Hid (rowsOf ((pat s).take (k + 1)) = some (ks ++ [j])) := Lib.hid (by rw [HP.out, rowsOf_snoc, hks, hc, hi])
          clear hc hx hy hfix hi hks
          go_wp2_with (go_at_call 21; rw [HC.out]; refine HFIX.out.mono ?_; rintro e w' ⟨rfl, rfl⟩)
          go_roundw
          case rel => exact ⟨k + 1, ks ++ [j], by omega, by omega, by go_num, HN.out, hfr⟩
          case measure => simp [intOf]; omega
      · have HN : Hid (formsS (pat s) = none) := Lib.hid (if_pos (by rw [pat_length]; omega))
        have h64 : ¬ (s.size : Int) ≤ 64 := by omega
        clear hks
        go_wp2
        go_ret
        rw [HN.out]
        exact ⟨by simp, hfr⟩
    · obtain rfl : k = s.size := by omega
      have HK : Hid (rowsOf (pat s) = some ks) := Lib.hid (by rw [← hks, List.take_of_length_le (by rw [pat_length]; omega)])
      clear hks
      go_wp2
      go_ret
      refine ⟨?_, hfr⟩
      unfold formsS
      rw [HK.out, pat_length]
      by_cases h64 : s.size ≤ 64
      · rw [if_neg (by omega)]; simp; omega
      · rw [if_pos (by omega)]; simp; omega
end Go.Proofs.Ytgjiepbaagmmiaa
