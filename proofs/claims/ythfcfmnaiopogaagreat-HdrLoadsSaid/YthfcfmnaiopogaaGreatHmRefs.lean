/- HmRef, HmRef2, HmShape in one text. -/
import Derived.Test.YthfcfmnaiopogaaGreatHmAll

/- What the documents of layer 17 answer. -/
namespace Go.Proofs.YthfcfmnaiopogaaGreat
open Go.RowKit

set_option maxRecDepth 100000 in
set_option maxHeartbeats 400000 in
theorem rpower_any (n : Nat) (w : World) (h : n ≤ 63) :
    Calls Tryz.prog 34 #[.int .i64 (n : Nat)] w fun e w' => e = .returned (.int .u64 (2 ^ n : Nat)) ∧ w' = w := by
  obtain ⟨T, hT⟩ : ∃ T, 2 ^ n = T := ⟨_, rfl⟩
  have HT := Lib.hid hT
  rw [hT]
  clear hT
  go_enter Tryz.func34, Tryz.ntmps34
  go_wp2
  go_loopw [3, 4] (fun x y wr => ∃ m i : Nat, x = .int .u64 (m : Int) ∧ y = .int .i64 (i : Int) ∧ i ≤ n ∧ Hid (2 ^ i = m) ∧ w = wr) (fun _ y _ => n - (intOf y).toNat)
  case atStart => exact ⟨1, 0, rfl, rfl, by omega, Lib.hid rfl, rfl⟩
  case round =>
    obtain ⟨m, i, rfl, rfl, hi, hm, rfl⟩ := hrel
    by_cases hlt : (i : Int) < (n : Int)
    · have hs : 2 ^ i ≤ 2 ^ 62 := two_le (by omega)
      have HN : Hid (2 ^ (i + 1) = 2 * m) := Lib.hid (by rw [Nat.pow_succ, hm.out, Nat.mul_comm])
      rw [hm.out] at hs
      have hm2 : m ≤ 4611686018427387904 := hs
      clear hm hs
      go_wp2
      go_roundw
      case rel => exact ⟨2 * m, i + 1, by go_num, by go_num, by omega, HN, by trivial⟩
      case measure => simp [intOf]; omega
    · obtain rfl : i = n := by omega
      have e := hm.out
      rw [HT.out] at e
      subst e
      clear hm HT
      go_wp2
      go_ret
      exact ⟨rfl, rfl⟩

set_option maxRecDepth 100000 in
set_option maxHeartbeats 400000 in
theorem rbucket_any (u m v : Nat) (w : World) (hs : u + m ≤ 62) (hv : v < 9223372036854775808) :
    Calls Tryz.prog 72 #[.int .i64 (u : Nat), .int .i64 (m : Nat), .int .i64 (v : Nat)] w fun e w' => e = .returned (.int .i64 (bkt (u + m) v : Nat)) ∧ w' = w := by
  have HP := Lib.hid (fun n (h : n ≤ 63) => rpower_any n w h)
  have hb := bkt_most (u + m) v (by omega) hv
  have HI := Lib.hid (fun b => bkt_iff (u + m) v b (by omega))
  obtain ⟨T, hT⟩ : ∃ T, bkt (u + m) v = T := ⟨_, rfl⟩
  rw [hT] at hb HI ⊢
  obtain ⟨A, hA⟩ : ∃ A, u + m = A := ⟨_, rfl⟩
  rw [hA] at hb HI hs
  have e1 : (u : Int) + (m : Int) = (A : Int) := by omega
  clear hT hA
  go_enter Tryz.func72, Tryz.ntmps72
  go_wp2_with fail
  go_loopw [7] (fun x wr => ∃ b : Nat, x = .int .i64 (b : Int) ∧ b ≤ T ∧ w = wr) (fun x _ => T - (intOf x).toNat)
  case atStart => exact ⟨0, rfl, by omega, rfl⟩
  case round =>
    obtain ⟨b, rfl, hbT, rfl⟩ := hrel
    obtain ⟨B, hB⟩ : ∃ B, A + b = B := ⟨_, rfl⟩
    have e2 : (A : Int) + (b : Int) = (B : Int) := by omega
    have hi := HI.out b
    rw [hB] at hi
    by_cases h63 : B < 63
    · have HPB := Lib.hid (HP.out B (by omega))
      obtain ⟨Z, hZ⟩ : ∃ Z, 2 ^ B = Z := ⟨_, rfl⟩
      rw [hZ] at hi HPB
      by_cases hlt : Z ≤ v
      · have hbl : b < T := by omega
        clear hi hB HI hZ HP
        go_wp2_with fail
        refine HPB.out.mono ?_
        rintro e w1 ⟨rfl, rfl⟩
        go_wp2_with fail
        go_roundw
        case rel => exact ⟨b + 1, by go_num, by omega, by trivial⟩
        case measure => simp [intOf]; omega
      · obtain rfl : b = T := by omega
        have hlt2 : v < Z := by omega
        clear hi hB HI hZ HP hlt
        go_wp2_with fail
        refine HPB.out.mono ?_
        rintro e w1 ⟨rfl, rfl⟩
        go_wp2_with fail
        go_ret
        exact ⟨rfl, rfl⟩
    · obtain rfl : b = T := by omega
      clear hi hB HI HP
      go_wp2_with fail
      go_ret
      exact ⟨rfl, rfl⟩

set_option maxRecDepth 100000 in
set_option maxHeartbeats 400000 in
theorem rcell_any (u m v : Nat) (w : World) (hm : 1 ≤ m) (hs : u + m ≤ 62) (hv : v < 9223372036854775808) :
    Calls Tryz.prog 50 #[.int .i64 (u : Nat), .int .i64 (m : Nat), .int .i64 (v : Nat)] w fun e w' => e = .returned (.tuple #[.int .i64 (beg u m v : Nat), .int .i64 (2 ^ hwid u m v : Nat)]) ∧ w' = w := by
  have HB := Lib.hid (rbucket_any u m v w hs hv)
  have hk := hwid_most u m v hm hs hv
  have HP := Lib.hid (rpower_any (hwid u m v) w (by omega))
  have hE := end_le u m v hs hv
  have p := two_pos (hwid u m v)
  obtain ⟨b, eb⟩ : ∃ b, bkt (u + m) v = b := ⟨_, rfl⟩
  obtain ⟨K, eK⟩ : ∃ K, hwid u m v = K := ⟨_, rfl⟩
  have eK2 : (u : Int) + (b : Int) = (K : Int) := by rw [← eK, hwid, eb]; omega
  obtain ⟨Z, eZ⟩ : ∃ Z, 2 ^ K = Z := ⟨_, rfl⟩
  obtain ⟨Q, eQ⟩ : ∃ Q, quo u m v = Q := ⟨_, rfl⟩
  obtain ⟨R, eR⟩ : ∃ R, beg u m v = R := ⟨_, rfl⟩
  rw [eb] at HB
  rw [eK, eZ] at HP
  rw [eK, eZ, eR] at hE
  rw [eK, eZ] at p
  rw [eK] at hk
  rw [eR, eK, eZ]
  have e1 : (v : Int) / (Z : Int) = (Q : Int) := by rw [← eQ, quo, eK, eZ, Int.natCast_ediv]
  have e2 : (Q : Int) * (Z : Int) = (R : Int) := by rw [← eR, beg, eQ, eK, eZ, Int.natCast_mul]
  have hZ : Z ≤ 9223372036854775807 := by have : 2 ^ K ≤ 2 ^ 62 := two_le hk; omega
  have hR : R ≤ 9223372036854775807 := by omega
  have hQ : Q ≤ 9223372036854775807 := by have := Nat.div_le_self v (2 ^ hwid u m v); rw [quo] at eQ; omega
  clear hE eb eK eZ eQ eR hv hs hm
  go_enter Tryz.func50, Tryz.ntmps50
  go_wp2_with fail
  refine HB.out.mono ?_
  rintro e w1 ⟨rfl, rfl⟩
  go_wp2_with fail
  refine HP.out.mono ?_
  rintro e w1 ⟨rfl, rfl⟩
  go_wp2_with fail
  go_ret2
  exact ⟨rfl, rfl⟩

set_option maxRecDepth 100000 in
set_option maxHeartbeats 400000 in
theorem rindex_any (u m v : Nat) (w : World) (hm : 1 ≤ m) (hx : m ≤ 18) (hs : u + m ≤ 62) (hv : v < 9223372036854775808) :
    Calls Tryz.prog 28 #[.int .i64 (u : Nat), .int .i64 (m : Nat), .int .i64 (v : Nat)] w fun e w' => e = .returned (.int .i64 (idx u m v : Nat)) ∧ w' = w := by
  have HB := Lib.hid (rbucket_any u m v w hs hv)
  have hk := hwid_most u m v hm hs hv
  have hbk := bkt_most (u + m) v (by omega) hv
  have HP := Lib.hid (rpower_any (hwid u m v) w (by omega))
  have HH := Lib.hid (rpower_any (m - 1) w (by omega))
  have hH := half_le hx
  have p := two_pos (hwid u m v)
  have hq := quo_lt u m v (by omega)
  have hm18 : 2 ^ m ≤ 262144 := two_le (b := 18) hx
  have eI : bkt (u + m) v * 2 ^ (m - 1) + quo u m v = idx u m v := rfl
  obtain ⟨b, eb⟩ : ∃ b, bkt (u + m) v = b := ⟨_, rfl⟩
  obtain ⟨K, eK⟩ : ∃ K, hwid u m v = K := ⟨_, rfl⟩
  have eK2 : (u : Int) + (b : Int) = (K : Int) := by rw [← eK, hwid, eb]; omega
  obtain ⟨Z, eZ⟩ : ∃ Z, 2 ^ K = Z := ⟨_, rfl⟩
  obtain ⟨H, eH⟩ : ∃ H, 2 ^ (m - 1) = H := ⟨_, rfl⟩
  obtain ⟨M, eM⟩ : ∃ M, m - 1 = M := ⟨_, rfl⟩
  have e0 : (m : Int) - 1 = (M : Int) := by omega
  obtain ⟨Q, eQ⟩ : ∃ Q, quo u m v = Q := ⟨_, rfl⟩
  obtain ⟨I, eJ⟩ : ∃ I, idx u m v = I := ⟨_, rfl⟩
  rw [eb] at HB hbk
  rw [eK, eZ] at HP
  rw [eK, eZ] at p
  rw [eK] at hk
  rw [eH, eM] at HH
  rw [eH] at hH
  rw [eb, eH, eQ, eJ] at eI
  rw [eQ] at hq
  rw [eJ]
  have e1 : (v : Int) / (Z : Int) = (Q : Int) := by rw [← eQ, quo, eK, eZ, Int.natCast_ediv]
  obtain ⟨B1, eB1⟩ : ∃ B1, b + 1 = B1 := ⟨_, rfl⟩
  obtain ⟨P, eP⟩ : ∃ P, B1 * H = P := ⟨_, rfl⟩
  have eP2 : P = b * H + H := by rw [← eP, ← eB1, Nat.succ_mul]
  have hP : P ≤ 64 * 131072 := by rw [← eP]; exact Nat.mul_le_mul (by omega) hH
  have e3 : (b : Int) + 1 = (B1 : Int) := by omega
  have e4 : (B1 : Int) * (H : Int) = (P : Int) := by rw [← eP, Int.natCast_mul]
  obtain ⟨S, eS⟩ : ∃ S, P + Q = S := ⟨_, rfl⟩
  have e5 : (P : Int) + (Q : Int) = (S : Int) := by omega
  have e6 : (S : Int) - (H : Int) = (I : Int) := by omega
  have hZ : Z ≤ 9223372036854775807 := by have : 2 ^ K ≤ 2 ^ 62 := two_le hk; omega
  have hQ : Q ≤ 262144 := by omega
  have hS : S ≤ 100000000 := by omega
  have hI : I ≤ 100000000 := by omega
  have hB1 : B1 ≤ 64 := by omega
  clear eb eK eZ eH eM eQ eJ eI eB1 eP eP2 eS hq hm18 hs hm hbk
  go_enter Tryz.func28, Tryz.ntmps28
  go_wp2_with fail
  refine HB.out.mono ?_
  rintro e w1 ⟨rfl, rfl⟩
  go_wp2_with fail
  refine HH.out.mono ?_
  rintro e w1 ⟨rfl, rfl⟩
  go_wp2_with fail
  refine HP.out.mono ?_
  rintro e w1 ⟨rfl, rfl⟩
  go_wp2_with fail
  go_ret
  exact ⟨rfl, rfl⟩
end Go.Proofs.YthfcfmnaiopogaaGreat

/- What the documents of layer 17 answer: values at indexes, the greatest values, shapes. -/
namespace Go.Proofs.YthfcfmnaiopogaaGreat
open Go.RowKit

theorem iqu_first (m n : Nat) (h : n / 2 ^ (m - 1) = 0) : ibk m n = 0 ∧ iqu m n = n % 2 ^ (m - 1) := by
  have e := Nat.div_add_mod n (2 ^ (m - 1))
  rw [h, Nat.mul_zero, Nat.zero_add] at e
  have hb : ibk m n = 0 := by rw [ibk, h]
  refine ⟨hb, ?_⟩
  rw [iqu, hb, Nat.zero_mul, e]; omega
theorem iqu_more (m n : Nat) (h : 0 < n / 2 ^ (m - 1)) : iqu m n = n % 2 ^ (m - 1) + 2 ^ (m - 1) := by
  have e := Nat.div_add_mod n (2 ^ (m - 1))
  rw [Nat.mul_comm] at e
  have e2 : n / 2 ^ (m - 1) * 2 ^ (m - 1) = (n / 2 ^ (m - 1) - 1) * 2 ^ (m - 1) + 2 ^ (m - 1) := by
    rw [← Nat.succ_mul, Nat.succ_eq_add_one, Nat.sub_add_cancel h]
  rw [iqu, ibk]; omega

/-- where a document ends that tells a value at an index -/
def ValEnds (e : Ending) (u m n : Nat) : Prop := (vof u m n < 9223372036854775808 ∧ e = .returned (.tuple #[.int .i64 (vof u m n : Nat), .bool true])) ∨ (9223372036854775808 ≤ vof u m n ∧ e = .returned (.tuple #[.int .i64 0, .bool false]))

set_option maxRecDepth 100000 in
set_option maxHeartbeats 400000 in
theorem rvalue_neg (u m : Nat) (i : Int) (w : World) (hm : 1 ≤ m) (hx : m ≤ 18) (h0 : i < 0) :
    Calls Tryz.prog 40 #[.int .i64 (u : Nat), .int .i64 (m : Nat), .int .i64 i] w fun e w' => e = .returned (.tuple #[.int .i64 0, .bool false]) ∧ w' = w := by
  have HH := Lib.hid (rpower_any (m - 1) w (by omega))
  have hH := half_le hx
  obtain ⟨H, eH⟩ : ∃ H, 2 ^ (m - 1) = H := ⟨_, rfl⟩
  obtain ⟨M, eM⟩ : ∃ M, m - 1 = M := ⟨_, rfl⟩
  have e0 : (m : Int) - 1 = (M : Int) := by omega
  have hM : M ≤ 17 := by omega
  rw [eH, eM] at HH
  rw [eH] at hH
  clear eH eM hm hx
  go_enter Tryz.func40, Tryz.ntmps40
  go_wp2_with fail
  refine HH.out.mono ?_
  rintro e w1 ⟨rfl, rfl⟩
  go_wp2_with fail
  go_ret2
  exact ⟨rfl, rfl⟩

set_option maxRecDepth 100000 in
set_option maxHeartbeats 400000 in
theorem rvalue_big (u m n : Nat) (w : World) (hm : 1 ≤ m) (hx : m ≤ 18) (h0 : 66 * 2 ^ (m - 1) ≤ n) :
    Calls Tryz.prog 40 #[.int .i64 (u : Nat), .int .i64 (m : Nat), .int .i64 (n : Nat)] w fun e w' => e = .returned (.tuple #[.int .i64 0, .bool false]) ∧ w' = w := by
  have HH := Lib.hid (rpower_any (m - 1) w (by omega))
  have hH := half_le hx
  obtain ⟨H, eH⟩ : ∃ H, 2 ^ (m - 1) = H := ⟨_, rfl⟩
  obtain ⟨M, eM⟩ : ∃ M, m - 1 = M := ⟨_, rfl⟩
  have e0 : (m : Int) - 1 = (M : Int) := by omega
  have hM : M ≤ 17 := by omega
  rw [eH, eM] at HH
  rw [eH] at hH h0
  obtain ⟨L, eL⟩ : ∃ L, 66 * H = L := ⟨_, rfl⟩
  rw [eL] at h0
  have e1 : 66 * (H : Int) = (L : Int) := by omega
  have hL : L ≤ 10000000 := by omega
  clear eH eM hm hx eL
  go_enter Tryz.func40, Tryz.ntmps40
  go_wp2_with fail
  refine HH.out.mono ?_
  rintro e w1 ⟨rfl, rfl⟩
  go_wp2_with fail
  go_ret2
  exact ⟨rfl, rfl⟩

set_option maxRecDepth 100000 in
set_option maxHeartbeats 400000 in
theorem rvalue_any (u m n : Nat) (w : World) (hm : 1 ≤ m) (hx : m ≤ 18) (hs : u + m ≤ 62) (h0 : n < 66 * 2 ^ (m - 1)) :
    Calls Tryz.prog 40 #[.int .i64 (u : Nat), .int .i64 (m : Nat), .int .i64 (n : Nat)] w fun e w' => ValEnds e u m n ∧ w' = w := by
  have HH := Lib.hid (rpower_any (m - 1) w (by omega))
  have hH := half_le hx
  have p := two_pos (m - 1)
  have hq := iqu_lt m n hm
  have hm18 : 2 ^ m ≤ 262144 := two_le (b := 18) hx
  have hD : n / 2 ^ (m - 1) < 66 := by rw [Nat.div_lt_iff_lt_mul p]; exact h0
  have hR := Nat.mod_lt n p
  have z1 := iqu_first m n
  have z2 := iqu_more m n
  have eb : n / 2 ^ (m - 1) - 1 = ibk m n := rfl
  have eV : iqu m n * 2 ^ (u + ibk m n) = vof u m n := rfl
  obtain ⟨H, eH⟩ : ∃ H, 2 ^ (m - 1) = H := ⟨_, rfl⟩
  obtain ⟨M, eM⟩ : ∃ M, m - 1 = M := ⟨_, rfl⟩
  have e0 : (m : Int) - 1 = (M : Int) := by omega
  have hM : M ≤ 17 := by omega
  rw [eH, eM] at HH
  rw [eH] at hH p h0 hD hR z1 z2 eb
  obtain ⟨L, eL⟩ : ∃ L, 66 * H = L := ⟨_, rfl⟩
  rw [eL] at h0
  have e1 : 66 * (H : Int) = (L : Int) := by omega
  have hL : L ≤ 10000000 := by omega
  obtain ⟨D, eD⟩ : ∃ D, n / H = D := ⟨_, rfl⟩
  obtain ⟨R, eR⟩ : ∃ R, n % H = R := ⟨_, rfl⟩
  rw [eD] at hD z1 z2 eb
  rw [eR] at hR z1 z2
  have e2 : (n : Int) / (H : Int) = (D : Int) := by rw [← eD, Int.natCast_ediv]
  have e3 : (n : Int) % (H : Int) = (R : Int) := by rw [← eR, Int.natCast_emod]
  obtain ⟨b, eb2⟩ : ∃ b, ibk m n = b := ⟨_, rfl⟩
  obtain ⟨q, eq⟩ : ∃ q, iqu m n = q := ⟨_, rfl⟩
  obtain ⟨N, eN⟩ : ∃ N, u + b = N := ⟨_, rfl⟩
  rw [eb2] at eb z1 eV
  rw [eq] at hq z1 z2 eV
  rw [eN] at eV
  have eN1 : (b : Int) + (u : Int) = (N : Int) := by omega
  have hN : N ≤ 200 := by omega
  have hq2 : q ≤ 262144 := by omega
  have LOOP : ∀ (i k : Nat), i + 1 ≤ N → 4611686018427387904 ≤ k → q * 2 ^ i = k → 9223372036854775808 ≤ q * 2 ^ N := by
    intro i k hi hk he
    have : q * 2 ^ (i + 1) ≤ q * 2 ^ N := Nat.mul_le_mul_left _ (two_le hi)
    rw [Nat.pow_succ, ← Nat.mul_assoc, he] at this
    omega
  have HL := Lib.hid LOOP
  have HV := Lib.hid (show ∀ e, (q * 2 ^ N < 9223372036854775808 ∧ e = .returned (.tuple #[.int .i64 (q * 2 ^ N : Nat), .bool true]) ∨ 9223372036854775808 ≤ q * 2 ^ N ∧ e = .returned (.tuple #[.int .i64 0, .bool false])) → ValEnds e u m n from fun e h => by unfold ValEnds; rw [← eV]; exact h)
  clear LOOP hq hm18
  by_cases hD0 : D = 0
  · obtain ⟨zb, zq⟩ := z1 hD0
    subst hD0
    have zb0 : b = 0 := zb
    subst zb0
    obtain rfl : R = q := zq.symm
    obtain rfl : N = u := by omega
    have e5 : (n : Int) / (H : Int) = 0 := by simpa using e2
    clear e2 z1 z2 eb eb2 eq eR eD eL eV eH eM eN zq hm hx hs zb p eN1
    go_enter Tryz.func40, Tryz.ntmps40
    go_wp2_with fail
    refine HH.out.mono ?_
    rintro e w1 ⟨rfl, rfl⟩
    go_wp2_with fail
    go_loopw [11, 12] (fun x y wr => ∃ k i : Nat, x = .int .u64 (k : Int) ∧ y = .int .i64 (i : Int) ∧ i ≤ N ∧ k < 9223372036854775808 ∧ Hid (R * 2 ^ i = k) ∧ w1 = wr) (fun _ y _ => N - (intOf y).toNat)
    case atStart => exact ⟨R, 0, rfl, rfl, by omega, by omega, Lib.hid (by simp), rfl⟩
    case round =>
      obtain ⟨k, i, rfl, rfl, hi, hk, hm, rfl⟩ := hrel
      by_cases hlt : (i : Int) < (N : Int)
      · by_cases hbig : (4611686018427387904 : Int) ≤ (k : Int)
        · have HE2 := Lib.hid (HV.out _ (Or.inr ⟨HL.out i k (by omega) (by omega) hm.out, rfl⟩))
          clear HL HV hm
          go_wp2
          go_ret2
          exact ⟨HE2.out, rfl⟩
        · have HN : Hid (R * 2 ^ (i + 1) = 2 * k) := Lib.hid (by rw [Nat.pow_succ, ← Nat.mul_assoc, hm.out, Nat.mul_comm])
          clear hm
          go_wp2
          go_roundw
          case rel => exact ⟨2 * k, i + 1, by go_num, by go_num, by omega, by omega, HN, by trivial⟩
          case measure => simp [intOf]; omega
      · obtain rfl : i = N := by omega
        have HE2 := HV.out _ (Or.inl ⟨by rw [hm.out]; exact hk, rfl⟩)
        rw [hm.out] at HE2
        have HE3 := Lib.hid HE2
        clear HL HV hm HE2
        go_wp2
        go_ret2
        exact ⟨HE3.out, rfl⟩
  · have zq := z2 (by omega)
    have e5 : (R : Int) + (H : Int) = (q : Int) := by omega
    have e6 : (D : Int) - 1 = (b : Int) := by omega
    have hb : b ≤ 66 := by omega
    clear z1 z2 eb eb2 eq eR eD eL eV eH eM eN zq hm hx hs p
    go_enter Tryz.func40, Tryz.ntmps40
    go_wp2_with fail
    refine HH.out.mono ?_
    rintro e w1 ⟨rfl, rfl⟩
    go_wp2_with fail
    go_loopw [11, 12] (fun x y wr => ∃ k i : Nat, x = .int .u64 (k : Int) ∧ y = .int .i64 (i : Int) ∧ i ≤ N ∧ k < 9223372036854775808 ∧ Hid (q * 2 ^ i = k) ∧ w1 = wr) (fun _ y _ => N - (intOf y).toNat)
    case atStart => exact ⟨q, 0, rfl, rfl, by omega, by omega, Lib.hid (by simp), rfl⟩
    case round =>
      obtain ⟨k, i, rfl, rfl, hi, hk, hm, rfl⟩ := hrel
      by_cases hlt : (i : Int) < (N : Int)
      · by_cases hbig : (4611686018427387904 : Int) ≤ (k : Int)
        · have HE2 := Lib.hid (HV.out _ (Or.inr ⟨HL.out i k (by omega) (by omega) hm.out, rfl⟩))
          clear HL HV hm
          go_wp2
          go_ret2
          exact ⟨HE2.out, rfl⟩
        · have HN : Hid (q * 2 ^ (i + 1) = 2 * k) := Lib.hid (by rw [Nat.pow_succ, ← Nat.mul_assoc, hm.out, Nat.mul_comm])
          clear hm
          go_wp2
          go_roundw
          case rel => exact ⟨2 * k, i + 1, by go_num, by go_num, by omega, by omega, HN, by trivial⟩
          case measure => simp [intOf]; omega
      · obtain rfl : i = N := by omega
        have HE2 := HV.out _ (Or.inl ⟨by rw [hm.out]; exact hk, rfl⟩)
        rw [hm.out] at HE2
        have HE3 := Lib.hid HE2
        clear HL HV hm HE2
        go_wp2
        go_ret2
        exact ⟨HE3.out, rfl⟩
end Go.Proofs.YthfcfmnaiopogaaGreat

/- The document's unit and magnitude of a shape, and the greatest value of buckets; the law's shapes. -/
namespace Go.Proofs.YthfcfmnaiopogaaGreat
open Go.RowKit

set_option maxRecDepth 100000 in
set_option maxHeartbeats 400000 in
theorem rtop_any (u m : Nat) (n : Int) (w : World) (hm : 1 ≤ m) (hs : u + m ≤ 62) :
    Calls Tryz.prog 42 #[.int .i64 (u : Nat), .int .i64 (m : Nat), .int .i64 n] w fun e w' => e = .returned (.int .i64 (top u m (cntB n) : Nat)) ∧ w' = w := by
  obtain ⟨M, hM⟩ : ∃ M, max n 1 = M := ⟨_, rfl⟩
  have hc := cntB_bd n
  have eC0 : min M 64 = (cntB n : Int) := by rw [← hM, cntB]; omega
  have hT := top_lt u m (cntB n)
  obtain ⟨C, hC⟩ : ∃ C, cntB n = C := ⟨_, rfl⟩
  rw [hC] at eC0 hc hT ⊢
  obtain ⟨A, eA⟩ : ∃ A, C - 1 = A := ⟨_, rfl⟩
  obtain ⟨B, eB⟩ : ∃ B, A + u = B := ⟨_, rfl⟩
  obtain ⟨D, eD⟩ : ∃ D, B + m = D := ⟨_, rfl⟩
  have e1 : (C : Int) - 1 = (A : Int) := by omega
  have e2 : (A : Int) + (u : Int) = (B : Int) := by omega
  have e3 : (B : Int) + (m : Int) = (D : Int) := by omega
  have hA : A ≤ 63 := by omega
  have hB : B ≤ 200 := by omega
  have hD : D ≤ 200 := by omega
  have hmin : min (u + m + C - 1) 63 = min D 63 := by omega
  rw [top, hmin] at hT ⊢
  by_cases h63 : D < 63
  · have HP := Lib.hid (rpower_any D w (by omega))
    rw [show min D 63 = D by omega] at hT ⊢
    have p := two_pos D
    obtain ⟨Z, eZ⟩ : ∃ Z, 2 ^ D = Z := ⟨_, rfl⟩
    rw [eZ] at hT p HP ⊢
    obtain ⟨T, eT⟩ : ∃ T, Z - 1 = T := ⟨_, rfl⟩
    rw [eT] at hT ⊢
    have e4 : (Z : Int) - 1 = (T : Int) := by omega
    have hZ : Z ≤ 9223372036854775807 := by have : 2 ^ D ≤ 2 ^ 62 := two_le (by omega); omega
    clear hC eA eB eD eZ eT hmin p hc hm hs
    go_enter Tryz.func42, Tryz.ntmps42
    go_wp2_with fail
    refine HP.out.mono ?_
    rintro e w1 ⟨rfl, rfl⟩
    go_wp2_with fail
    go_ret
    exact ⟨rfl, rfl⟩
  · rw [show min D 63 = 63 by omega, show (2 : Nat) ^ 63 - 1 = 9223372036854775807 by decide]
    clear hC eA eB eD hmin hc hm hs hT
    go_enter Tryz.func42, Tryz.ntmps42
    go_wp2_with fail
    go_ret
    exact ⟨rfl, rfl⟩

set_option maxRecDepth 100000 in
set_option maxHeartbeats 400000 in
theorem rshape_no (lo hi d : Int) (w : World) (h : ¬ May lo hi d) (hl : -9223372036854775808 ≤ lo ∧ lo ≤ 9223372036854775807) (hh : hi ≤ 9223372036854775807) :
    Calls Tryz.prog 33 #[.agg #[.int .i64 lo, .int .i64 hi, .int .i64 d]] w fun e w' => e = .returned (.tuple #[.int .i64 0, .int .i64 0, .bool false]) ∧ Fr S0 w w' := by
  unfold May at h
  by_cases h1 : d < 1
  · clear h
    go_enter Tryz.func33, Tryz.ntmps33
    go_wp2_with fail
    go_ret3
    exact ⟨rfl, Fr.alloc _ _ _⟩
  · by_cases h2 : 5 < d
    · clear h
      go_enter Tryz.func33, Tryz.ntmps33
      go_wp2_with fail
      go_ret3
      exact ⟨rfl, Fr.alloc _ _ _⟩
    · by_cases h3 : lo < 1
      · clear h
        go_enter Tryz.func33, Tryz.ntmps33
        go_wp2_with fail
        go_ret3
        exact ⟨rfl, Fr.alloc _ _ _⟩
      · by_cases h4 : hi < lo
        · clear h
          go_enter Tryz.func33, Tryz.ntmps33
          go_wp2_with fail
          go_ret3
          exact ⟨rfl, Fr.alloc _ _ _⟩
        · obtain ⟨X, hX⟩ : ∃ X, hi - lo = X := ⟨_, rfl⟩
          have h5 : X < lo := by omega
          have h6 : 0 ≤ X ∧ X ≤ 9223372036854775807 := by omega
          clear h
          go_enter Tryz.func33, Tryz.ntmps33
          go_wp2_with fail
          go_ret3
          exact ⟨rfl, Fr.alloc _ _ _⟩

set_option maxRecDepth 100000 in
set_option maxHeartbeats 400000 in
theorem rshape_yes (l h D : Nat) (w : World) (h1 : 1 ≤ D) (h5 : D ≤ 5) (h0 : 0 < l) (hh : 2 * l ≤ h) (hb : h < 9223372036854775808) :
    Calls Tryz.prog 33 #[.agg #[.int .i64 (l : Nat), .int .i64 (h : Nat), .int .i64 (D : Nat)]] w fun e w' => e = .returned (.tuple #[.int .i64 (unt l : Nat), .int .i64 (mag D : Nat), .bool (decide (unt l + mag D ≤ 62))]) ∧ Fr S0 w w' := by
  have HU := Lib.hid (fun u h1 h2 => unt_is l u (by omega) h1 h2)
  have hp5 : 10 ^ D ≤ 10 ^ 5 := Nat.pow_le_pow_right (by decide) h5
  have HM := Lib.hid (fun m h1 h2 => mag_is D m (by omega) h1 h2)
  have hU := unt_bd l (by omega)
  have hM := (mag_bd D h1 h5).2
  obtain ⟨U, eU⟩ : ∃ U, unt l = U := ⟨_, rfl⟩
  obtain ⟨M, eM⟩ : ∃ M, mag D = M := ⟨_, rfl⟩
  rw [eU] at HU hU ⊢
  rw [eM] at HM hM ⊢
  obtain ⟨S, eS⟩ : ∃ S, U + M = S := ⟨_, rfl⟩
  have HS := Lib.hid (show (U : Int) + (M : Int) = (S : Int) ∧ decide ((S : Int) ≤ 62) = decide (S ≤ 62) ∧ S ≤ 100 from ⟨by omega, decide_eq_decide.2 (by omega), by omega⟩)
  rw [eS]
  have hN0 : 2 ≤ 2 * 10 ^ D := by have : 0 < 10 ^ D := Nat.pow_pos (by decide); omega
  obtain ⟨N10, eN⟩ : ∃ N10, 2 * 10 ^ D = N10 := ⟨_, rfl⟩
  rw [eN] at HM hN0
  have HN := Lib.hid eN
  have HTEN := Lib.hid (fun i (hi : i ≤ D) => show 10 ^ i ≤ 10 ^ 5 from Nat.pow_le_pow_right (by decide) (by omega))
  obtain ⟨X, hX⟩ : ∃ X, h - l = X := ⟨_, rfl⟩
  have e1 : (h : Int) - (l : Int) = (X : Int) := by omega
  have h6 : l ≤ X := by omega
  have h7 : l ≤ h := by omega
  have hX2 : X ≤ 9223372036854775807 := by omega
  have hl2 : l ≤ 9223372036854775807 := by omega
  have hb2 : h ≤ 9223372036854775807 := by omega
  clear eU eM eS hp5 eN hX hh hb
  go_enter Tryz.func33, Tryz.ntmps33
  go_wp2_with fail
  go_loopw [5, 6] (fun x y wr => ∃ u n : Nat, x = .int .i64 (u : Int) ∧ y = .int .i64 (n : Int) ∧ 1 ≤ n ∧ n + u ≤ l ∧ Hid (l / 2 ^ u = n) ∧ (w.alloc (.cells #[.int .i64 (l : Nat), .int .i64 (h : Nat), .int .i64 (D : Nat)] 30)) = wr) (fun _ y _ => (intOf y).toNat)
  case atStart => exact ⟨0, l, rfl, rfl, by omega, by omega, Lib.hid (by simp), rfl⟩
  case round =>
    obtain ⟨u, n, rfl, rfl, hn, hul, hd, rfl⟩ := hrel
    by_cases hlt : (1 : Int) < (n : Int)
    · obtain ⟨n2, e2⟩ : ∃ n2, n / 2 = n2 := ⟨_, rfl⟩
      have e3 : (n : Int) / 2 = (n2 : Int) := by omega
      have HD2 : Hid (l / 2 ^ (u + 1) = n2) := Lib.hid (by rw [Nat.pow_succ, ← Nat.div_div_eq_div_mul, hd.out, e2])
      have hq1 : 1 ≤ n2 := by omega
      have hq2 : n2 + (u + 1) ≤ l := by omega
      have hq3 : n2 < n := by omega
      clear hd e2
      go_wp2
      go_roundw
      case rel => exact ⟨u + 1, n2, by go_num, by go_num, hq1, hq2, HD2, by trivial⟩
      case measure => simp [intOf]; omega
    · obtain rfl : n = 1 := by omega
      have hd2 := hd.out
      have p := two_pos u
      have hu1 : 2 ^ u ≤ l := by
        have := (Nat.le_div_iff_mul_le p (x := 1) (y := l)).1 (by omega)
        omega
      have hu2 : l < 2 ^ (u + 1) := by
        have := (Nat.div_lt_iff_lt_mul p (x := l) (y := 2)).1 (by omega)
        rw [Nat.pow_succ]; omega
      have hUu := HU.out u hu1 hu2
      clear hd hd2 p hu1 hu2 HU hlt hn hul
      subst hUu
      go_wp2_with fail
      go_loopw [7, 8] (fun x y wr => ∃ n i : Nat, x = .int .u64 (n : Int) ∧ y = .int .i64 (i : Int) ∧ i ≤ D ∧ Hid (2 * 10 ^ i = n) ∧ n ≤ 200000 ∧ (w.alloc (.cells #[.int .i64 (l : Nat), .int .i64 (h : Nat), .int .i64 (D : Nat)] 30)) = wr) (fun _ y _ => D - (intOf y).toNat)
      case atStart => exact ⟨2, 0, rfl, rfl, by omega, Lib.hid rfl, by omega, rfl⟩
      case round =>
        obtain ⟨n, i, rfl, rfl, hi, hn, hn2, rfl⟩ := hrel
        by_cases hlt : (i : Int) < (D : Int)
        · have ht := HTEN.out (i + 1) (by omega)
          have HN2 : Hid (2 * 10 ^ (i + 1) = 10 * n) := Lib.hid (by rw [← hn.out, Nat.pow_succ]; omega)
          have hb3 : 10 * n ≤ 200000 := by rw [← HN2.out]; omega
          clear hn ht
          go_wp2
          go_roundw
          case rel => exact ⟨10 * n, i + 1, by go_num, by go_num, by omega, HN2, hb3, by trivial⟩
          case measure => simp [intOf]; omega
        · obtain rfl : i = D := by omega
          have hnn := hn.out
          rw [HN.out] at hnn
          subst hnn
          clear hn HN HTEN hlt hi
          go_wp2_with fail
          go_loopw [9, 10] (fun x y wr => ∃ j p : Nat, x = .int .i64 (j : Int) ∧ y = .int .u64 (p : Int) ∧ Hid (2 ^ j = p) ∧ Hid (0 < j → 2 ^ (j - 1) < N10) ∧ p ≤ 2 * N10 ∧ 1 ≤ p ∧ j ≤ p ∧ (w.alloc (.cells #[.int .i64 (l : Nat), .int .i64 (h : Nat), .int .i64 (i : Nat)] 30)) = wr) (fun _ y _ => N10 - (intOf y).toNat)
          case atStart => exact ⟨0, 1, rfl, rfl, Lib.hid rfl, Lib.hid (by intro h; omega), by omega, by omega, by omega, rfl⟩
          case round =>
            obtain ⟨j, p, rfl, rfl, hp, hj, hp2, hp1, hjp, rfl⟩ := hrel
            by_cases hlt : p < N10
            · have HP2 : Hid (2 ^ (j + 1) = 2 * p) := Lib.hid (by rw [Nat.pow_succ, hp.out]; omega)
              have HJ2 : Hid (0 < j + 1 → 2 ^ (j + 1 - 1) < N10) := Lib.hid (by intro _; rw [Nat.add_sub_cancel, hp.out]; exact hlt)
              clear hp hj
              go_wp2
              go_roundw
              case rel => exact ⟨j + 1, 2 * p, by go_num, by go_num, HP2, HJ2, by omega, by omega, by omega, by trivial⟩
              case measure => simp [intOf]; omega
            · have hMm := HM.out j (by rw [hp.out]; omega) hj.out
              clear hp hj HM
              subst hMm
              have e4 := HS.out.1
              have eb := HS.out.2.1
              have hS := HS.out.2.2
              go_wp2_with fail
              go_ret3
              exact ⟨rfl, Fr.alloc _ _ _⟩
end Go.Proofs.YthfcfmnaiopogaaGreat
