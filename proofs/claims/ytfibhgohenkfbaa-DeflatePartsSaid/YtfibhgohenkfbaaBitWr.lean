/- Groups, codes, alignments and texts are written. -/
import Derived.Test.YtfibhgohenkfbaaBitPut
namespace Go.Proofs.Ytfibhgohenkfbaa
open Go.RowKit
variable {X : Wx}

/-- the bits of a code, the highest one first -/
def code (n c : Nat) : List Nat := (grp n c).reverse
theorem code_bit (n c : Nat) : Bit01 (code n c) := (grp_bit n c).rev
theorem code_length (n c : Nat) : (code n c).length = c := by simp [code]

theorem and_one (x : Nat) (hx : x < 4294967296) : bits .and .u32 (x : Int) 1 = ((x % 2 : Nat) : Int) := by
  have h := u32_and_nat x 1 hx (by decide)
  rw [Nat.and_one_is_mod] at h
  exact h

set_option maxRecDepth 100000 in
set_option maxHeartbeats 1000000 in
theorem fromHighest_any (g : Nat) (r : Option Nat) (L : List Nat) (n c : Nat) (w : World) (h : WrIs X w g r L) (hn : n < 4294967296) (hc : c ≤ 32) (hL : L.length + c ≤ 1099511627776) :
    Calls Try.prog 84 #[.int .u32 n, .int .i64 c, .func (.func 85) #[.pointer (some ⟨g, 0, none⟩)] #[]] w fun e w' => e = .returned (.tuple #[]) ∧ WrTo X w w' g r (L ++ code n c) := by
  have H := Lib.hid h
  have HLL := Lib.hid hL
  have HC := Lib.hid hc
  clear h hL
  go_enter Try.func84, Try.ntmps84
  go_wp2
  go_loopw [8] (fun i wr => ∃ k : Nat, k ≤ c ∧ i = .int .i64 k ∧ WrTo X w wr g r (L ++ (code n c).take k)) (fun i _ => c - (intOf i).toNat)
  case atStart => exact ⟨0, by omega, rfl, by rw [List.take_zero, List.append_nil]; exact H.out.self⟩
  case round =>
    obtain ⟨k, hk, rfl, hto⟩ := hrel
    by_cases hkc : (k : Int) < (c : Int)
    · have hkl : k < c := by omega
      obtain ⟨r1, h1, f1, hr1⟩ := hto
      have HF := Lib.hid f1
      have HR := Lib.hid hr1
      have e1 : (c : Int) - 1 - (k : Int) = ((c - 1 - k : Nat) : Int) := by omega
      have e2 := and_one (n / 2 ^ (c - 1 - k)) (Nat.lt_of_le_of_lt (Nat.div_le_self _ _) hn)
      rw [Int.natCast_ediv, Int.natCast_pow] at e2
      have HT : Hid ((code n c).take (k + 1) = (code n c).take k ++ [n / 2 ^ (c - 1 - k) % 2]) := Lib.hid (rev_take n c k hkl)
      have HP := Lib.hid (put_any g r1 (L ++ (code n c).take k) (n / 2 ^ (c - 1 - k) % 2) wr h1 (Nat.mod_lt _ (by decide)) (by rw [List.length_append, List.length_take, code_length]; have := HLL.out; omega))
      have E1 := Lib.hid e1
      have E2 := Lib.hid e2
      clear f1 hr1 h1 e1 e2
      go_wp2_with fail
      rw [show (bits .and .u32 ((n : Int) / 2 ^ (c - 1 - k)) 1) = ((n / 2 ^ (c - 1 - k) % 2 : Nat) : Int) from E2.out]
      refine HP.out.mono ?_
      rintro e w2 ⟨rfl, hto⟩
      rw [List.append_assoc, ← HT.out] at hto
      have K := Lib.hid (WrTo.trans HF.out HR.out hto)
      clear hto HP HF HR
      go_wp2
      go_roundw
      case rel => exact ⟨k + 1, by omega, by go_num, K.out⟩
      case measure => simp [intOf]; omega
    · obtain rfl : k = c := by omega
      rw [List.take_of_length_le (by rw [code_length]; exact Nat.le_refl _)] at hto
      have HT := Lib.hid hto
      clear hto
      go_wp2
      go_end0
      exact ⟨rfl, HT.out⟩

set_option maxRecDepth 100000 in
set_option maxHeartbeats 400000 in
theorem code_yes (g : Nat) (r : Option Nat) (L : List Nat) (n : Nat) (c : Int) (w : World) (h : WrIs X w g r L) (hn : n < 4294967296) (hf : fitB n c = true) (hL : L.length + 32 ≤ 1099511627776) :
    Calls Try.prog 65 #[.pointer (some ⟨g, 0, none⟩), .int .u32 n, .int .i64 c] w fun e w' => e = .returned (.int .i64 0) ∧ WrTo X w w' g r (L ++ code n c.toNat) := by
  have hF := Lib.hid (fits_any n c w)
  rw [hf] at hF
  have hf' := of_decide_eq_true hf
  obtain ⟨k, rfl⟩ : ∃ k : Nat, c = k := ⟨c.toNat, by omega⟩
  have HP := Lib.hid (fromHighest_any g r L n k w h hn (by omega) (by omega))
  have hmf : ∀ (fn : Fn) (first cap : Array Value) (w : World), (Instr.makeFunc fn first cap).run Try.prog w = .ok (.func fn first cap) w := fun _ _ _ _ => rfl
  clear h hf hf' hL
  go_enter Try.func65, Try.ntmps65
  go_wp2_with fail
  refine hF.out.mono ?_
  rintro e w' ⟨rfl, rfl⟩
  go_wp2_with fail
  refine HP.out.mono ?_
  rintro e w2 ⟨rfl, hto⟩
  have K := Lib.hid hto
  clear hto HP
  go_wp2
  go_ret
  exact ⟨rfl, K.out⟩
set_option maxRecDepth 100000 in
theorem code_no (g : Nat) (n : Nat) (c : Int) (w : World) (hf : fitB n c = false) :
    Calls Try.prog 65 #[.pointer (some ⟨g, 0, none⟩), .int .u32 n, .int .i64 c] w fun e w' => e = .returned (.int .i64 5) ∧ w = w' := by
  have hF := Lib.hid (fits_any n c w)
  rw [hf] at hF
  clear hf
  go_enter Try.func65, Try.ntmps65
  go_wp2_with fail
  refine hF.out.mono ?_
  rintro e w' ⟨rfl, rfl⟩
  go_wp2
  go_ret
  exact ⟨rfl, rfl⟩

theorem fit_turn (n : Nat) (k : Nat) (hk : k ≤ 32) : fitB (turn n k) k = true :=
  decide_eq_true ⟨by omega, by omega, by rw [Int.toNat_natCast]; exact turn_lt n k⟩
theorem turn_32 (n k : Nat) (hk : k ≤ 32) : turn n k < 4294967296 :=
  Nat.lt_of_lt_of_le (turn_lt n k) (Nat.pow_le_pow_right (n := 2) (by decide) hk)

set_option maxRecDepth 100000 in
set_option maxHeartbeats 400000 in
theorem group_yes (g : Nat) (r : Option Nat) (L : List Nat) (n : Nat) (c : Int) (w : World) (h : WrIs X w g r L) (hn : n < 4294967296) (hf : fitB n c = true) (hL : L.length + 32 ≤ 1099511627776) :
    Calls Try.prog 53 #[.pointer (some ⟨g, 0, none⟩), .int .u32 n, .int .i64 c] w fun e w' => e = .returned (.int .i64 0) ∧ WrTo X w w' g r (L ++ grp n c.toNat) := by
  have hF := Lib.hid (fits_any n c w)
  rw [hf] at hF
  have hf' := of_decide_eq_true hf
  obtain ⟨k, rfl⟩ : ∃ k : Nat, c = k := ⟨c.toNat, by omega⟩
  have HT := Lib.hid (turn_any n k w hn (by omega) (by omega))
  have hC := code_yes g r L (turn n k) k w h (turn_32 n k (by omega)) (fit_turn n k (by omega)) hL
  rw [show code (turn n k) (k : Int).toNat = grp n (k : Int).toNat by rw [Int.toNat_natCast, code, grp_turn, List.reverse_reverse]] at hC
  have HC := Lib.hid hC
  rw [Int.toNat_natCast] at HT
  obtain ⟨T, hT⟩ : ∃ T, turn n k = T := ⟨_, rfl⟩
  rw [hT] at HT HC
  clear h hf hf' hL hC hT
  go_enter Try.func53, Try.ntmps53
  go_wp2_with fail
  refine hF.out.mono ?_
  rintro e w' ⟨rfl, rfl⟩
  go_wp2_with fail
  refine HT.out.mono ?_
  rintro e w' ⟨rfl, rfl⟩
  go_wp2_with fail
  refine HC.out.mono ?_
  rintro e w2 ⟨rfl, hto⟩
  have K := Lib.hid hto
  clear hto HC
  go_wp2
  go_ret
  exact ⟨rfl, K.out⟩
set_option maxRecDepth 100000 in
theorem group_no (g : Nat) (n : Nat) (c : Int) (w : World) (hf : fitB n c = false) :
    Calls Try.prog 53 #[.pointer (some ⟨g, 0, none⟩), .int .u32 n, .int .i64 c] w fun e w' => e = .returned (.int .i64 5) ∧ w = w' := by
  have hF := Lib.hid (fits_any n c w)
  rw [hf] at hF
  clear hf
  go_enter Try.func53, Try.ntmps53
  go_wp2_with fail
  refine hF.out.mono ?_
  rintro e w' ⟨rfl, rfl⟩
  go_wp2
  go_ret
  exact ⟨rfl, rfl⟩

set_option maxRecDepth 100000 in
set_option maxHeartbeats 400000 in
theorem align_raw (g M n c : Nat) (p : Option Addr) (w : World) (hb : w.heap[g]? = some (.cells (X.cs (.slice p n c) (.int .i64 (M : Nat))) X.ty (0, 0))) (hn : n ≤ 1099511627776) :
    Calls Try.prog 52 #[.pointer (some ⟨g, 0, none⟩)] w fun e w' => e = .returned (.tuple #[]) ∧ w' = w.setCell ⟨g, 1, none⟩ (.int .i64 (8 * n : Nat)) := by
  have h0 := wr_c0 hb
  have h1 := wr_c1 hb
  have h2 := wr_f hb
  clear hb
  go_enter Try.func52, Try.ntmps52
  go_wp2
  go_end0
  exact ⟨rfl, rfl⟩

end Go.Proofs.Ytfibhgohenkfbaa
