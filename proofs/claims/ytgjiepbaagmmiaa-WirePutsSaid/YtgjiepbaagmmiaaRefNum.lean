/- The document's answer: one number written by a letter. -/
import Derived.Test.YtgjiepbaagmmiaaRefOne
import Derived.Test.YtgjiepbaagmmiaaLawBack
namespace Go.Proofs.Ytgjiepbaagmmiaa
open Go.RowKit

def OnePost (w : World) (e : Ending) (w' : World) (k n : Nat) : Prop :=
  ∃ v, e = .returned (.tuple #[v, .bool (fits k n)]) ∧ Fr S0 w w' ∧ w'.ownsRow 0 5 1 v (enc k n).length (u8s (enc k n)) ∧ Fresh w v

theorem lEnc_snoc : ∀ (j n : Nat), lEnc (j + 1) n = lEnc j n ++ [n / 256 ^ j % 256]
  | 0, n => by simp [lEnc]
  | j + 1, n => by
    rw [lEnc, lEnc_snoc j (n / 256), lEnc, Nat.div_div_eq_div_mul, Nat.pow_succ, Nat.mul_comm]
    rfl
theorem low_enc (k n : Nat) (hk : k < 7) (h : (k == 2 || k == 4 || k == 6) = false) : enc k n = lEnc (most k) n := by
  have : k = 0 ∨ k = 1 ∨ k = 3 ∨ k = 5 := by simp at h; omega
  rcases this with rfl | rfl | rfl | rfl
  · exact enc_0 n
  · exact enc_1 n
  · exact enc_3 n
  · exact enc_5 n
theorem high_enc (k n : Nat) (hk : k < 7) (h : (k == 2 || k == 4 || k == 6) = true) : enc k n = (lEnc (most k) n).reverse := by
  have : k = 2 ∨ k = 4 ∨ k = 6 := by simp at h; omega
  rcases this with rfl | rfl | rfl
  · exact enc_2 n
  · exact enc_4 n
  · exact enc_6 n
theorem most8 (k : Nat) (hk : k < 7) : 1 ≤ most k ∧ most k ≤ 8 := by
  have : k = 0 ∨ k = 1 ∨ k = 2 ∨ k = 3 ∨ k = 4 ∨ k = 5 ∨ k = 6 := by omega
  rcases this with rfl | rfl | rfl | rfl | rfl | rfl | rfl <;> decide
theorem fits_div (k n : Nat) (hk : k < 7) : fits k n = ((n / 256 ^ most k : Nat) == 0) := by
  have := most8 k hk
  unfold fits
  rw [Nat.min_eq_left (by omega), Nat.pow_mul]

theorem wrap256 (a : Nat) (h : a < 18446744073709551616) : IntKind.u64.wrap ((a : Int) / 256) = ((a / 256 : Nat) : Int) := by
  rw [IntKind.wrap_u64]; omega
theorem wrap128 (a : Nat) (h : a < 18446744073709551616) : IntKind.u64.wrap ((a : Int) / 128) = ((a / 128 : Nat) : Int) := by
  rw [IntKind.wrap_u64]; omega
set_option maxRecDepth 100000 in
set_option maxHeartbeats 1000000 in
theorem one_low (k n : Nat) (w : World) (hk : k < 7) (hn : n < 18446744073709551616) (hh : (k == 2 || k == 4 || k == 6) = false) :
    Calls Try.prog 19 #[.int .u8 ((fRow k).1 : Nat), .int .u64 n] w fun e w' => OnePost w e w' k n := by
  have hm := most8 k hk
  have hfix := fixed_row k (by omega) w
  rw [show fixS (some k) = (((most k : Nat) : Int), (k == 2 || k == 4 || k == 6)) by unfold fixS; dsimp only; rw [if_pos hk], hh] at hfix
  have HFIX := Lib.hid hfix
  have HE := Lib.hid (low_enc k n hk hh)
  have HT := Lib.hid (fits_div k n hk)
  have HN := Lib.hid hn
  clear hfix hh hn
  obtain ⟨m, hmm⟩ : ∃ m, most k = m := ⟨_, rfl⟩
  rw [hmm] at hm
  have HM := Lib.hid hmm
  have hpos : decide (0 < m) = true := by simp; omega
  clear hmm
  go_enter Try.func19, Try.ntmps19
  go_wp2_with (go_at_call 21; refine HFIX.out.mono ?_; rw [HM.out]; rintro e w' ⟨rfl, rfl⟩)
  go_loopw [8, 9, 10] (fun b a i wr => ∃ (j : Nat) (p : Option Addr) (c : Nat), j ≤ m ∧ i = .int .i64 j ∧ a = .int .u64 (n / 256 ^ j : Nat) ∧ b = .slice p j c ∧ wr.ownsRow 0 5 1 (.slice p j c) j (u8s (lEnc j n)) ∧ Fresh w (.slice p j c) ∧ Fr S0 w wr) (fun _ _ i _ => m - (intOf i).toNat)
  case atStart => exact ⟨0, none, 0, by omega, rfl, by simp, rfl, World.ownsRow_nil _ _ _ _, (fun g h => by simp [Value.ownBlock] at h), Fr.refl _ _⟩
  case round =>
    obtain ⟨j, p, c, hj, rfl, rfl, rfl, own, hfv, hfr⟩ := hrel
    obtain ⟨a, ha⟩ : ∃ a, n / 256 ^ j = a := ⟨_, rfl⟩
    have HA := Lib.hid ha
    have HA256 : Hid (a < 18446744073709551616) := Lib.hid (by rw [← ha]; exact Nat.lt_of_le_of_lt (Nat.div_le_self _ _) HN.out)
    rw [ha]
    clear ha
    by_cases hlt : (j : Int) < (m : Int)
    · have HR : Hid (Room (j + 1)) := Lib.hid (Room.mk (by omega))
      go_wp2_with ((with_reducible show wpList _ _ _ (Oper.mk (some 37) _ _ _ _ _ :: _) _ _); refine app_one el5 (.tmp 32) (.tmp 36) rfl own rfl rfl rfl rfl rfl one8 HR.out ?_; intro g cap w1 hown hgrow hat hlt1)
      go_roundw
      case rel =>
        refine ⟨j + 1, some ⟨g, 0, none⟩, cap, by omega, by go_num, ?_, rfl, ?_, ?_, ?_⟩
        · rw [wrap256 _ HA256.out]
          exact congrArg _ (by rw [Nat.pow_succ, ← Nat.div_div_eq_div_mul, HA.out])
        · rw [lEnc_snoc, ← u8s_append, HA.out]
          exact hown
        · exact fresh_many hfv (by have := hfr.size; simp; omega) (show _ = _ ∨ _ = some ((wr.alloc (.cells #[.int .u8 ((a : Int) % 256)] 5)).heap.size) by rw [size_alloc]; rcases hat with h | h; exact Or.inl h.symm; exact Or.inr (by rw [h]; rfl))
        · exact (hfr.trans0 (Fr.alloc S0 wr _)).append hgrow hfv
      case measure => simp [intOf]; omega
    · obtain rfl : j = m := by omega
      have hb : ((a : Int) == 0) = fits k n := by
        rw [HT.out, HM.out, HA.out]
        cases h : (a == 0)
        · rw [beq_eq_false_iff_ne] at h ⊢; omega
        · rw [beq_iff_eq] at h ⊢; omega
      have HB := Lib.hid hb
      clear hb
      go_wp2
      go_ret2
      refine ⟨.slice p j c, by rw [← HB.out]; rfl, hfr, ?_, hfv⟩
      rw [HE.out, HM.out, lEnc_length]
      exact own

theorem own_lit1 (w : World) (x : Int) : (w.alloc (.cells #[.int .u8 x] 5)).ownsRow 0 5 1 (.slice (some ⟨w.heap.size, 0, none⟩) 1 1) 1 [.int .u8 x] :=
  ⟨rfl, .inr ⟨w.heap.size, 1, #[.int .u8 x], rfl, Nat.zero_le _, heap_alloc_new w _, Nat.le_refl _, by decide, rfl, rfl⟩⟩

set_option maxRecDepth 100000 in
set_option maxHeartbeats 1000000 in
theorem one_high (k n : Nat) (w : World) (hk : k < 7) (hn : n < 18446744073709551616) (hh : (k == 2 || k == 4 || k == 6) = true) :
    Calls Try.prog 19 #[.int .u8 ((fRow k).1 : Nat), .int .u64 n] w fun e w' => OnePost w e w' k n := by
  have hm := most8 k hk
  have hfix := fixed_row k (by omega) w
  rw [show fixS (some k) = (((most k : Nat) : Int), (k == 2 || k == 4 || k == 6)) by unfold fixS; dsimp only; rw [if_pos hk], hh] at hfix
  have HFIX := Lib.hid hfix
  have HE := Lib.hid (high_enc k n hk hh)
  have HT := Lib.hid (fits_div k n hk)
  have HN := Lib.hid hn
  clear hfix hh hn
  obtain ⟨m, hmm⟩ : ∃ m, most k = m := ⟨_, rfl⟩
  rw [hmm] at hm
  have HM := Lib.hid hmm
  have hpos : decide (0 < m) = true := by simp; omega
  clear hmm
  go_enter Try.func19, Try.ntmps19
  go_wp2_with (go_at_call 21; refine HFIX.out.mono ?_; rw [HM.out]; rintro e w' ⟨rfl, rfl⟩)
  go_loopw [8, 9, 10] (fun b a i wr => ∃ (j : Nat) (p : Option Addr) (c : Nat), j ≤ m ∧ i = .int .i64 j ∧ a = .int .u64 (n / 256 ^ j : Nat) ∧ b = .slice p j c ∧ wr.ownsRow 0 5 1 (.slice p j c) j (u8s (lEnc j n).reverse) ∧ Fresh w (.slice p j c) ∧ Fr S0 w wr) (fun _ _ i _ => m - (intOf i).toNat)
  case atStart => exact ⟨0, none, 0, by omega, rfl, by simp, rfl, World.ownsRow_nil _ _ _ _, (fun g h => by simp [Value.ownBlock] at h), Fr.refl _ _⟩
  case round =>
    obtain ⟨j, p, c, hj, rfl, rfl, rfl, own, hfv, hfr⟩ := hrel
    obtain ⟨a, ha⟩ : ∃ a, n / 256 ^ j = a := ⟨_, rfl⟩
    have HA := Lib.hid ha
    have HA256 : Hid (a < 18446744073709551616) := Lib.hid (by rw [← ha]; exact Nat.lt_of_le_of_lt (Nat.div_le_self _ _) HN.out)
    rw [ha]
    clear ha
    by_cases hlt : (j : Int) < (m : Int)
    · have HJ : Hid (1 + j = j + 1) := Lib.hid (Nat.add_comm 1 j)
      have HR : Hid (Room (j + 1)) := Lib.hid (Room.mk (by omega))
      go_wp2_with ((with_reducible show wpList _ _ _ (Oper.mk (some 31) _ _ _ _ _ :: _) _ _); refine app_many el5 (.tmp 29) (.tmp 30) (own_lit1 wr _) (SrcIs.ofOwns (own.alloc _)) HJ.out rfl rfl rfl rfl (one8s _) HR.out ?_; intro pn cn w1 hown hgrow hat)
      go_roundw
      case rel =>
        refine ⟨j + 1, pn, cn, by omega, by go_num, ?_, rfl, ?_, ?_, ?_⟩
        · rw [wrap256 _ HA256.out]
          exact congrArg _ (by rw [Nat.pow_succ, ← Nat.div_div_eq_div_mul, HA.out])
        · rw [lEnc_snoc, List.reverse_append, List.reverse_singleton, ← u8s_append, HA.out]
          exact hown
        · exact fresh_many (fresh_made hfr (n := 1) (c := 1)) (size_le hfr) hat
        · exact fr_made hfr hgrow
      case measure => simp [intOf]; omega
    · obtain rfl : j = m := by omega
      have hb : ((a : Int) == 0) = fits k n := by
        rw [HT.out, HM.out, HA.out]
        cases h : (a == 0)
        · rw [beq_eq_false_iff_ne] at h ⊢; omega
        · rw [beq_iff_eq] at h ⊢; omega
      have HB := Lib.hid hb
      clear hb
      go_wp2
      go_ret2
      refine ⟨.slice p j c, by rw [← HB.out]; rfl, hfr, ?_, hfv⟩
      rw [HE.out, HM.out, List.length_reverse, lEnc_length]
      exact own

end Go.Proofs.Ytgjiepbaagmmiaa
