/- What the documents of layer 17 answer: values at indexes, the greatest values, shapes. -/
import Derived.Test.YtggpnjiankejmaaHmRef
namespace Go.Proofs.Ytggpnjiankejmaa
open Go.RowKit

theorem iqu_first (m n : Nat) (h : n / 2 ^ (m - 1) = 0) : ibk m n = 0 ∧ iqu m n = n % 2 ^ (m - 1) := by
  have e := Nat.div_add_mod n (2 ^ (m - 1))
  rw [h, Nat.mul_zero, Nat.zero_add] at e
  have hb : ibk m n = 0 := by rw [ibk, h]
  refine ⟨hb, ?_⟩
  rw [iqu, hb, Nat.zero_mul, e]; omega
theorem iqu_more (m n : Nat) (h : 0 < n / 2 ^ (m - 1)) : iqu m n = n % 2 ^ (m - 1) + 2 ^ (m - 1) := by
  have e := Nat.div_add_mod n (2 ^ (m - 1))
  rw [Nat.mul_comm] at e
  have e2 : n / 2 ^ (m - 1) * 2 ^ (m - 1) = (n / 2 ^ (m - 1) - 1) * 2 ^ (m - 1) + 2 ^ (m - 1) := by
    rw [← Nat.succ_mul, Nat.succ_eq_add_one, Nat.sub_add_cancel h]
  rw [iqu, ibk]; omega

/-- where a document ends that tells a value at an index -/
def ValEnds (e : Ending) (u m n : Nat) : Prop := (vof u m n < 9223372036854775808 ∧ e = .returned (.tuple #[.int .i64 (vof u m n : Nat), .bool true])) ∨ (9223372036854775808 ≤ vof u m n ∧ e = .returned (.tuple #[.int .i64 0, .bool false]))

set_option maxRecDepth 100000 in
set_option maxHeartbeats 400000 in
theorem rvalue_neg (u m : Nat) (i : Int) (w : World) (hm : 1 ≤ m) (hx : m ≤ 18) (h0 : i < 0) :
    Calls Try.prog 23 #[.int .i64 (u : Nat), .int .i64 (m : Nat), .int .i64 i] w fun e w' => e = .returned (.tuple #[.int .i64 0, .bool false]) ∧ w' = w := by
  have HH := Lib.hid (rpower_any (m - 1) w (by omega))
  have hH := half_le hx
  obtain ⟨H, eH⟩ : ∃ H, 2 ^ (m - 1) = H := ⟨_, rfl⟩
  obtain ⟨M, eM⟩ : ∃ M, m - 1 = M := ⟨_, rfl⟩
  have e0 : (m : Int) - 1 = (M : Int) := by omega
  have hM : M ≤ 17 := by omega
  rw [eH, eM] at HH
  rw [eH] at hH
  clear eH eM hm hx
  go_enter Try.func23, Try.ntmps23
  go_wp2_with fail
  refine HH.out.mono ?_
  rintro e w1 ⟨rfl, rfl⟩
  go_wp2_with fail
  go_ret2
  exact ⟨rfl, rfl⟩

set_option maxRecDepth 100000 in
set_option maxHeartbeats 400000 in
theorem rvalue_big (u m n : Nat) (w : World) (hm : 1 ≤ m) (hx : m ≤ 18) (h0 : 66 * 2 ^ (m - 1) ≤ n) :
    Calls Try.prog 23 #[.int .i64 (u : Nat), .int .i64 (m : Nat), .int .i64 (n : Nat)] w fun e w' => e = .returned (.tuple #[.int .i64 0, .bool false]) ∧ w' = w := by
  have HH := Lib.hid (rpower_any (m - 1) w (by omega))
  have hH := half_le hx
  obtain ⟨H, eH⟩ : ∃ H, 2 ^ (m - 1) = H := ⟨_, rfl⟩
  obtain ⟨M, eM⟩ : ∃ M, m - 1 = M := ⟨_, rfl⟩
  have e0 : (m : Int) - 1 = (M : Int) := by omega
  have hM : M ≤ 17 := by omega
  rw [eH, eM] at HH
  rw [eH] at hH h0
  obtain ⟨L, eL⟩ : ∃ L, 66 * H = L := ⟨_, rfl⟩
  rw [eL] at h0
  have e1 : 66 * (H : Int) = (L : Int) := by omega
  have hL : L ≤ 10000000 := by omega
  clear eH eM hm hx eL
  go_enter Try.func23, Try.ntmps23
  go_wp2_with fail
  refine HH.out.mono ?_
  rintro e w1 ⟨rfl, rfl⟩
  go_wp2_with fail
  go_ret2
  exact ⟨rfl, rfl⟩

set_option maxRecDepth 100000 in
set_option maxHeartbeats 400000 in
theorem rvalue_any (u m n : Nat) (w : World) (hm : 1 ≤ m) (hx : m ≤ 18) (hs : u + m ≤ 62) (h0 : n < 66 * 2 ^ (m - 1)) :
    Calls Try.prog 23 #[.int .i64 (u : Nat), .int .i64 (m : Nat), .int .i64 (n : Nat)] w fun e w' => ValEnds e u m n ∧ w' = w := by
  have HH := Lib.hid (rpower_any (m - 1) w (by omega))
  have hH := half_le hx
  have p := two_pos (m - 1)
  have hq := iqu_lt m n hm
  have hm18 : 2 ^ m ≤ 262144 := two_le (b := 18) hx
  have hD : n / 2 ^ (m - 1) < 66 := by rw [Nat.div_lt_iff_lt_mul p]; exact h0
  have hR := Nat.mod_lt n p
  have z1 := iqu_first m n
  have z2 := iqu_more m n
  have eb : n / 2 ^ (m - 1) - 1 = ibk m n := rfl
  have eV : iqu m n * 2 ^ (u + ibk m n) = vof u m n := rfl
  obtain ⟨H, eH⟩ : ∃ H, 2 ^ (m - 1) = H := ⟨_, rfl⟩
  obtain ⟨M, eM⟩ : ∃ M, m - 1 = M := ⟨_, rfl⟩
  have e0 : (m : Int) - 1 = (M : Int) := by omega
  have hM : M ≤ 17 := by omega
  rw [eH, eM] at HH
  rw [eH] at hH p h0 hD hR z1 z2 eb
  obtain ⟨L, eL⟩ : ∃ L, 66 * H = L := ⟨_, rfl⟩
  rw [eL] at h0
  have e1 : 66 * (H : Int) = (L : Int) := by omega
  have hL : L ≤ 10000000 := by omega
  obtain ⟨D, eD⟩ : ∃ D, n / H = D := ⟨_, rfl⟩
  obtain ⟨R, eR⟩ : ∃ R, n % H = R := ⟨_, rfl⟩
  rw [eD] at hD z1 z2 eb
  rw [eR] at hR z1 z2
  have e2 : (n : Int) / (H : Int) = (D : Int) := by rw [← eD, Int.natCast_ediv]
  have e3 : (n : Int) % (H : Int) = (R : Int) := by rw [← eR, Int.natCast_emod]
  obtain ⟨b, eb2⟩ : ∃ b, ibk m n = b := ⟨_, rfl⟩
  obtain ⟨q, eq⟩ : ∃ q, iqu m n = q := ⟨_, rfl⟩
  obtain ⟨N, eN⟩ : ∃ N, u + b = N := ⟨_, rfl⟩
  rw [eb2] at eb z1 eV
  rw [eq] at hq z1 z2 eV
  rw [eN] at eV
  have eN1 : (b : Int) + (u : Int) = (N : Int) := by omega
  have hN : N ≤ 200 := by omega
  have hq2 : q ≤ 262144 := by omega
  have LOOP : ∀ (i k : Nat), i + 1 ≤ N → 4611686018427387904 ≤ k → q * 2 ^ i = k → 9223372036854775808 ≤ q * 2 ^ N := by
    intro i k hi hk he
    have : q * 2 ^ (i + 1) ≤ q * 2 ^ N := Nat.mul_le_mul_left _ (two_le hi)
    rw [Nat.pow_succ, ← Nat.mul_assoc, he] at this
    omega
  have HL := Lib.hid LOOP
  have HV := Lib.hid (show ∀ e, (q * 2 ^ N < 9223372036854775808 ∧ e = .returned (.tuple #[.int .i64 (q * 2 ^ N : Nat), .bool true]) ∨ 9223372036854775808 ≤ q * 2 ^ N ∧ e = .returned (.tuple #[.int .i64 0, .bool false])) → ValEnds e u m n from fun e h => by unfold ValEnds; rw [← eV]; exact h)
  clear LOOP hq hm18
  by_cases hD0 : D = 0
  · obtain ⟨zb, zq⟩ := z1 hD0
    subst hD0
    have zb0 : b = 0 := zb
    subst zb0
    obtain rfl : R = q := zq.symm
    obtain rfl : N = u := by omega
    have e5 : (n : Int) / (H : Int) = 0 := by simpa using e2
    clear e2 z1 z2 eb eb2 eq eR eD eL eV eH eM eN zq hm hx hs zb p eN1
    go_enter Try.func23, Try.ntmps23
    go_wp2_with fail
    refine HH.out.mono ?_
    rintro e w1 ⟨rfl, rfl⟩
    go_wp2_with fail
    go_loopw [11, 12] (fun x y wr => ∃ k i : Nat, x = .int .u64 (k : Int) ∧ y = .int .i64 (i : Int) ∧ i ≤ N ∧ k < 9223372036854775808 ∧ Hid (R * 2 ^ i = k) ∧ w1 = wr) (fun _ y _ => N - (intOf y).toNat)
    case atStart => exact ⟨R, 0, rfl, rfl, by omega, by omega, Lib.hid (by simp), rfl⟩
    case round =>
      obtain ⟨k, i, rfl, rfl, hi, hk, hm, rfl⟩ := hrel
      by_cases hlt : (i : Int) < (N : Int)
      · by_cases hbig : (4611686018427387904 : Int) ≤ (k : Int)
        · have HE2 := Lib.hid (HV.out _ (Or.inr ⟨HL.out i k (by omega) (by omega) hm.out, rfl⟩))
          clear HL HV hm
          go_wp2
          go_ret2
          exact ⟨HE2.out, rfl⟩
        · have HN : Hid (R * 2 ^ (i + 1) = 2 * k) := Lib.hid (by rw [Nat.pow_succ, ← Nat.mul_assoc, hm.out, Nat.mul_comm])
          clear hm
          go_wp2
          go_roundw
          case rel => exact ⟨2 * k, i + 1, by go_num, by go_num, by omega, by omega, HN, by trivial⟩
          case measure => simp [intOf]; omega
      · obtain rfl : i = N := by omega
        have HE2 := HV.out _ (Or.inl ⟨by rw [hm.out]; exact hk, rfl⟩)
        rw [hm.out] at HE2
        have HE3 := Lib.hid HE2
        clear HL HV hm HE2
        go_wp2
        go_ret2
        exact ⟨HE3.out, rfl⟩
  · have zq := z2 (by omega)
    have e5 : (R : Int) + (H : Int) = (q : Int) := by omega
    have e6 : (D : Int) - 1 = (b : Int) := by omega
    have hb : b ≤ 66 := by omega
    clear z1 z2 eb eb2 eq eR eD eL eV eH eM eN zq hm hx hs p
    go_enter Try.func23, Try.ntmps23
    go_wp2_with fail
    refine HH.out.mono ?_
    rintro e w1 ⟨rfl, rfl⟩
    go_wp2_with fail
    go_loopw [11, 12] (fun x y wr => ∃ k i : Nat, x = .int .u64 (k : Int) ∧ y = .int .i64 (i : Int) ∧ i ≤ N ∧ k < 9223372036854775808 ∧ Hid (q * 2 ^ i = k) ∧ w1 = wr) (fun _ y _ => N - (intOf y).toNat)
    case atStart => exact ⟨q, 0, rfl, rfl, by omega, by omega, Lib.hid (by simp), rfl⟩
    case round =>
      obtain ⟨k, i, rfl, rfl, hi, hk, hm, rfl⟩ := hrel
      by_cases hlt : (i : Int) < (N : Int)
      · by_cases hbig : (4611686018427387904 : Int) ≤ (k : Int)
        · have HE2 := Lib.hid (HV.out _ (Or.inr ⟨HL.out i k (by omega) (by omega) hm.out, rfl⟩))
          clear HL HV hm
          go_wp2
          go_ret2
          exact ⟨HE2.out, rfl⟩
        · have HN : Hid (q * 2 ^ (i + 1) = 2 * k) := Lib.hid (by rw [Nat.pow_succ, ← Nat.mul_assoc, hm.out, Nat.mul_comm])
          clear hm
          go_wp2
          go_roundw
          case rel => exact ⟨2 * k, i + 1, by go_num, by go_num, by omega, by omega, HN, by trivial⟩
          case measure => simp [intOf]; omega
      · obtain rfl : i = N := by omega
        have HE2 := HV.out _ (Or.inl ⟨by rw [hm.out]; exact hk, rfl⟩)
        rw [hm.out] at HE2
        have HE3 := Lib.hid HE2
        clear HL HV hm HE2
        go_wp2
        go_ret2
        exact ⟨HE3.out, rfl⟩
end Go.Proofs.Ytggpnjiankejmaa
