/- The document's answers of layer 2: what each of them computes. -/
import Derived.Test.YtbffdgeocacigaaCrcMath
import Derived.Test.YtbffdgeocacigaaBytes
namespace Go.Proofs.Ytbffdgeocacigaa
open Go.RowKit

theorem wrap32_nat (a : Nat) (h : a < 4294967296) : IntKind.u32.wrap (a : Int) = (a : Int) := by rw [IntKind.wrap_u32]; omega
theorem T_even (c : Nat) (h : ¬ c % 2 = 1) : T c = c / 2 := if_neg h
theorem T_odd (c : Nat) (h : c % 2 = 1) : T c = c / 2 ^^^ 3988292384 := if_pos h
theorem TN_snoc (k c : Nat) : TN (k + 1) c = T (TN k c) := TN_add k 1 c

set_option maxRecDepth 100000 in
set_option maxHeartbeats 400000 in
theorem rfeed_any (c x : Nat) (w : World) (hc : c < 4294967296) (hx : x < 256) :
    Calls Try.prog 21 #[.int .u32 c, .int .u8 x] w fun e w' => e = .returned (.int .u32 (feed c x : Nat)) ∧ w = w' := by
  have hlt : c ^^^ x < 4294967296 := Nat.xor_lt_two_pow (n := 32) hc (by omega)
  have H0 := Lib.hid (u32_xor_nat c x hc (by omega))
  have HC := Lib.hid hlt
  clear hc hlt
  go_enter Try.func21, Try.ntmps21
  go_wp2
  rw [H0.out]
  go_loopw [0, 5, 6] (fun v i _ wr => ∃ (k a : Nat), k ≤ 8 ∧ i = .int .i64 k ∧ v = .int .u32 a ∧ a = TN k (c ^^^ x) ∧ w = wr) (fun _ i _ _ => 8 - (intOf i).toNat)
  case atStart => exact ⟨0, c ^^^ x, by omega, rfl, rfl, rfl, rfl⟩
  case round =>
    obtain ⟨k, a, hk, rfl, rfl, ha, rfl⟩ := hrel
    have HA := Lib.hid ha
    have HA32 : Hid (a < 4294967296) := Lib.hid (by rw [ha]; exact TN_lt _ _ HC.out)
    clear ha
    by_cases h8 : (k : Int) < 8
    · by_cases hodd : a % 2 = 1
      · have hb : ((a : Int) % 2 == 1) = true := by rw [beq_iff_eq]; omega
        have HN : Hid (TN (k + 1) (c ^^^ x) = a / 2 ^^^ 3988292384) := Lib.hid (by rw [TN_snoc, ← HA.out, T_odd a hodd])
        have HX := Lib.hid (u32_xor_nat (a / 2) 3988292384 (by have := HA32.out; omega) (by decide))
        have HW := Lib.hid (wrap32_nat (a / 2) (by have := HA32.out; omega))
        clear hodd
        go_wp2
        go_roundw
        case rel =>
          refine ⟨k + 1, a / 2 ^^^ 3988292384, by omega, by go_num, ?_, HN.out.symm, by trivial⟩
          rw [show ((a : Int) / 2 % 4294967296) = ((a / 2 : Nat) : Int) from by have := HA32.out; omega]
          exact congrArg (Value.int IntKind.u32) HX.out
        case measure => simp [intOf]; omega
      · have hb : ((a : Int) % 2 == 1) = false := by rw [beq_eq_false_iff_ne]; omega
        have HN : Hid (TN (k + 1) (c ^^^ x) = a / 2) := Lib.hid (by rw [TN_snoc, ← HA.out, T_even a hodd])
        have HW := Lib.hid (wrap32_nat (a / 2) (by have := HA32.out; omega))
        clear hodd
        go_wp2
        go_roundw
        case rel =>
          refine ⟨k + 1, a / 2, by omega, by go_num, ?_, HN.out.symm, by trivial⟩
          rw [show ((a : Int) / 2 % 4294967296) = ((a / 2 : Nat) : Int) from by have := HA32.out; omega]
        case measure => simp [intOf]; omega
    · obtain rfl : k = 8 := by omega
      go_wp2
      go_ret
      exact ⟨by rw [feed, ← HA.out]; rfl, rfl⟩

theorem more_step (c0 : Nat) (l : List Nat) (k : Nat) (hk : k < l.length) : feeds (4294967295 - c0) (l.take (k + 1)) = feed (feeds (4294967295 - c0) (l.take k)) l[k] := by
  rw [List.take_succ_eq_append_getElem hk, feeds_append]; rfl
theorem feeds_take_lt (c0 : Nat) (l : List Nat) (k : Nat) (hb : ∀ x ∈ l, x < 256) : feeds (4294967295 - c0) (l.take k) < 4294967296 :=
  feeds_lt _ _ (by omega) fun x hx => hb x (List.mem_of_mem_take hx)

set_option maxRecDepth 100000 in
set_option maxHeartbeats 400000 in
theorem rmore_any (c0 : Nat) (p : Option Addr) (d : Nat) (l : List Nat) (w : World) (hc : c0 < 4294967296) (hl : SlI w .u8 p l) (hb : ∀ x ∈ l, x < 256) :
    Calls Try.prog 13 #[.int .u32 c0, .slice p l.length d] w fun e w' => e = .returned (.int .u32 (more c0 l : Nat)) ∧ w = w' := by
  have hlen := hl.1
  unfold maxLen at hlen
  have HB := Lib.hid hb
  have hcI : (c0 : Int) ≤ 4294967295 := by omega
  have HC := Lib.hid hc
  have HI : Hid ((4294967295 : Int) - (c0 : Int) = ((4294967295 - c0 : Nat) : Int)) := Lib.hid (by omega)
  clear hb hc
  go_enter Try.func13, Try.ntmps13
  go_wp2
  rw [HI.out]
  go_loopw [0, 5] (fun v i wr => ∃ (k a : Nat), k ≤ l.length ∧ i = .int .i64 k ∧ v = .int .u32 a ∧ a = feeds (4294967295 - c0) (l.take k) ∧ w = wr) (fun _ i _ => l.length - (intOf i).toNat)
  case atStart => exact ⟨0, 4294967295 - c0, by omega, rfl, rfl, rfl, rfl⟩
  case round =>
    obtain ⟨k, a, hk, rfl, rfl, ha, rfl⟩ := hrel
    have HA := Lib.hid ha
    have ha32 : a < 4294967296 := by rw [ha]; exact feeds_take_lt _ _ _ HB.out
    clear ha
    by_cases h8 : (k : Int) < (l.length : Int)
    · have hkl : k < l.length := by omega
      obtain ⟨bl, ol, rfl, hcl⟩ := hl.at k hkl
      have HA32 := Lib.hid ha32
      have HN := Lib.hid (more_step c0 l k hkl)
      have HX : Hid (l[k] < 256) := Lib.hid (HB.out _ (List.getElem_mem hkl))
      obtain ⟨x, hx⟩ : ∃ x, l[k] = x := ⟨_, rfl⟩
      rw [hx] at hcl HN HX
      clear hx ha32
      go_wp2_with (go_at_call 21; refine (rfeed_any a x _ HA32.out HX.out).mono ?_; rintro e w' ⟨rfl, rfl⟩)
      go_roundw
      case rel => exact ⟨k + 1, feed a x, by omega, by go_num, rfl, by rw [HN.out, ← HA.out], by trivial⟩
      case measure => simp [intOf]; omega
    · obtain rfl : k = l.length := by omega
      have HM : Hid ((more c0 l : Nat) = 4294967295 - a) := Lib.hid (by rw [HA.out, List.take_length]; rfl)
      have haI : (a : Int) ≤ 4294967295 := by omega
      have HF : Hid ((4294967295 : Int) - (a : Int) = ((4294967295 - a : Nat) : Int)) := Lib.hid (by omega)
      clear ha32
      go_wp2
      go_ret
      rw [HM.out]
      refine ⟨?_, rfl⟩
      rw [← HF.out]
      rfl

set_option maxRecDepth 100000 in
set_option maxHeartbeats 400000 in
theorem rsum_any (p : Option Addr) (d : Nat) (l : List Nat) (w : World) (hl : SlI w .u8 p l) (hb : ∀ x ∈ l, x < 256) :
    Calls Try.prog 11 #[.slice p l.length d] w fun e w' => e = .returned (.int .u32 (sum l : Nat)) ∧ w = w' := by
  have HM := Lib.hid (rmore_any 0 p d l w (by decide) hl hb)
  clear hl hb
  go_enter Try.func11, Try.ntmps11
  go_wp2_with (go_at_call 13; refine HM.out.mono ?_; rintro e w' ⟨rfl, rfl⟩)
  go_ret
  exact ⟨rfl, rfl⟩

theorem shift_succ (c k : Nat) : shift c (k + 1) = feed (shift c k) 0 := by
  unfold shift feed; rw [Nat.mul_add, TN_add, Nat.xor_zero]

set_option maxRecDepth 100000 in
set_option maxHeartbeats 400000 in
theorem rshift_any (c : Nat) (n : Int) (w : World) (hc : c < 4294967296) (hn : n ≤ 9223372036854775807) :
    Calls Try.prog 19 #[.int .u32 c, .int .i64 n] w fun e w' => e = .returned (.int .u32 (shift c n.toNat : Nat)) ∧ w = w' := by
  have HC := Lib.hid hc
  clear hc
  go_enter Try.func19, Try.ntmps19
  go_wp2
  go_loopw [0, 5] (fun v i wr => ∃ (k a : Nat), k ≤ n.toNat ∧ i = .int .i64 k ∧ v = .int .u32 a ∧ a = shift c k ∧ w = wr) (fun _ i _ => n.toNat - (intOf i).toNat)
  case atStart => exact ⟨0, c, by omega, rfl, rfl, rfl, rfl⟩
  case round =>
    obtain ⟨k, a, hk, rfl, rfl, ha, rfl⟩ := hrel
    have HA := Lib.hid ha
    have HA32 : Hid (a < 4294967296) := Lib.hid (by rw [ha]; exact shift_lt _ _ HC.out)
    clear ha
    by_cases h8 : (k : Int) < n
    · go_wp2_with (go_at_call 21; refine (rfeed_any a 0 _ HA32.out (by decide)).mono ?_; rintro e w' ⟨rfl, rfl⟩)
      go_roundw
      case rel => exact ⟨k + 1, feed a 0, by omega, by go_num, rfl, by rw [shift_succ, ← HA.out], by trivial⟩
      case measure => simp [intOf]; omega
    · obtain rfl : k = n.toNat := by omega
      go_wp2
      go_ret
      exact ⟨by rw [← HA.out]; rfl, rfl⟩
end Go.Proofs.Ytbffdgeocacigaa
