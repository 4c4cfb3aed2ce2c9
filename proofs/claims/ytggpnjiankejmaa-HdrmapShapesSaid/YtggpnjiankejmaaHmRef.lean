/- What the documents of layer 17 answer. -/
import Derived.Test.YtggpnjiankejmaaHmNew
namespace Go.Proofs.Ytggpnjiankejmaa
open Go.RowKit

set_option maxRecDepth 100000 in
set_option maxHeartbeats 400000 in
theorem rpower_any (n : Nat) (w : World) (h : n ≤ 63) :
    Calls Try.prog 24 #[.int .i64 (n : Nat)] w fun e w' => e = .returned (.int .u64 (2 ^ n : Nat)) ∧ w' = w := by
  obtain ⟨T, hT⟩ : ∃ T, 2 ^ n = T := ⟨_, rfl⟩
  have HT := Lib.hid hT
  rw [hT]
  clear hT
  go_enter Try.func24, Try.ntmps24
  go_wp2
  go_loopw [3, 4] (fun x y wr => ∃ m i : Nat, x = .int .u64 (m : Int) ∧ y = .int .i64 (i : Int) ∧ i ≤ n ∧ Hid (2 ^ i = m) ∧ w = wr) (fun _ y _ => n - (intOf y).toNat)
  case atStart => exact ⟨1, 0, rfl, rfl, by omega, Lib.hid rfl, rfl⟩
  case round =>
    obtain ⟨m, i, rfl, rfl, hi, hm, rfl⟩ := hrel
    by_cases hlt : (i : Int) < (n : Int)
    · have hs : 2 ^ i ≤ 2 ^ 62 := two_le (by omega)
      have HN : Hid (2 ^ (i + 1) = 2 * m) := Lib.hid (by rw [Nat.pow_succ, hm.out, Nat.mul_comm])
      rw [hm.out] at hs
      have hm2 : m ≤ 4611686018427387904 := hs
      clear hm hs
      go_wp2
      go_roundw
      case rel => exact ⟨2 * m, i + 1, by go_num, by go_num, by omega, HN, by trivial⟩
      case measure => simp [intOf]; omega
    · obtain rfl : i = n := by omega
      have e := hm.out
      rw [HT.out] at e
      subst e
      clear hm HT
      go_wp2
      go_ret
      exact ⟨rfl, rfl⟩

set_option maxRecDepth 100000 in
set_option maxHeartbeats 400000 in
theorem rbucket_any (u m v : Nat) (w : World) (hs : u + m ≤ 62) (hv : v < 9223372036854775808) :
    Calls Try.prog 25 #[.int .i64 (u : Nat), .int .i64 (m : Nat), .int .i64 (v : Nat)] w fun e w' => e = .returned (.int .i64 (bkt (u + m) v : Nat)) ∧ w' = w := by
  have HP := Lib.hid (fun n (h : n ≤ 63) => rpower_any n w h)
  have hb := bkt_most (u + m) v (by omega) hv
  have HI := Lib.hid (fun b => bkt_iff (u + m) v b (by omega))
  obtain ⟨T, hT⟩ : ∃ T, bkt (u + m) v = T := ⟨_, rfl⟩
  rw [hT] at hb HI ⊢
  obtain ⟨A, hA⟩ : ∃ A, u + m = A := ⟨_, rfl⟩
  rw [hA] at hb HI hs
  have e1 : (u : Int) + (m : Int) = (A : Int) := by omega
  clear hT hA
  go_enter Try.func25, Try.ntmps25
  go_wp2_with fail
  go_loopw [7] (fun x wr => ∃ b : Nat, x = .int .i64 (b : Int) ∧ b ≤ T ∧ w = wr) (fun x _ => T - (intOf x).toNat)
  case atStart => exact ⟨0, rfl, by omega, rfl⟩
  case round =>
    obtain ⟨b, rfl, hbT, rfl⟩ := hrel
    obtain ⟨B, hB⟩ : ∃ B, A + b = B := ⟨_, rfl⟩
    have e2 : (A : Int) + (b : Int) = (B : Int) := by omega
    have hi := HI.out b
    rw [hB] at hi
    by_cases h63 : B < 63
    · have HPB := Lib.hid (HP.out B (by omega))
      obtain ⟨Z, hZ⟩ : ∃ Z, 2 ^ B = Z := ⟨_, rfl⟩
      rw [hZ] at hi HPB
      by_cases hlt : Z ≤ v
      · have hbl : b < T := by omega
        clear hi hB HI hZ HP
        go_wp2_with fail
        refine HPB.out.mono ?_
        rintro e w1 ⟨rfl, rfl⟩
        go_wp2_with fail
        go_roundw
        case rel => exact ⟨b + 1, by go_num, by omega, by trivial⟩
        case measure => simp [intOf]; omega
      · obtain rfl : b = T := by omega
        have hlt2 : v < Z := by omega
        clear hi hB HI hZ HP hlt
        go_wp2_with fail
        refine HPB.out.mono ?_
        rintro e w1 ⟨rfl, rfl⟩
        go_wp2_with fail
        go_ret
        exact ⟨rfl, rfl⟩
    · obtain rfl : b = T := by omega
      clear hi hB HI HP
      go_wp2_with fail
      go_ret
      exact ⟨rfl, rfl⟩

set_option maxRecDepth 100000 in
set_option maxHeartbeats 400000 in
theorem rcell_any (u m v : Nat) (w : World) (hm : 1 ≤ m) (hs : u + m ≤ 62) (hv : v < 9223372036854775808) :
    Calls Try.prog 20 #[.int .i64 (u : Nat), .int .i64 (m : Nat), .int .i64 (v : Nat)] w fun e w' => e = .returned (.tuple #[.int .i64 (beg u m v : Nat), .int .i64 (2 ^ wid u m v : Nat)]) ∧ w' = w := by
  have HB := Lib.hid (rbucket_any u m v w hs hv)
  have hk := wid_most u m v hm hs hv
  have HP := Lib.hid (rpower_any (wid u m v) w (by omega))
  have hE := end_le u m v hs hv
  have p := two_pos (wid u m v)
  obtain ⟨b, eb⟩ : ∃ b, bkt (u + m) v = b := ⟨_, rfl⟩
  obtain ⟨K, eK⟩ : ∃ K, wid u m v = K := ⟨_, rfl⟩
  have eK2 : (u : Int) + (b : Int) = (K : Int) := by rw [← eK, wid, eb]; omega
  obtain ⟨Z, eZ⟩ : ∃ Z, 2 ^ K = Z := ⟨_, rfl⟩
  obtain ⟨Q, eQ⟩ : ∃ Q, quo u m v = Q := ⟨_, rfl⟩
  obtain ⟨R, eR⟩ : ∃ R, beg u m v = R := ⟨_, rfl⟩
  rw [eb] at HB
  rw [eK, eZ] at HP
  rw [eK, eZ, eR] at hE
  rw [eK, eZ] at p
  rw [eK] at hk
  rw [eR, eK, eZ]
  have e1 : (v : Int) / (Z : Int) = (Q : Int) := by rw [← eQ, quo, eK, eZ, Int.natCast_ediv]
  have e2 : (Q : Int) * (Z : Int) = (R : Int) := by rw [← eR, beg, eQ, eK, eZ, Int.natCast_mul]
  have hZ : Z ≤ 9223372036854775807 := by have : 2 ^ K ≤ 2 ^ 62 := two_le hk; omega
  have hR : R ≤ 9223372036854775807 := by omega
  have hQ : Q ≤ 9223372036854775807 := by have := Nat.div_le_self v (2 ^ wid u m v); rw [quo] at eQ; omega
  clear hE eb eK eZ eQ eR hv hs hm
  go_enter Try.func20, Try.ntmps20
  go_wp2_with fail
  refine HB.out.mono ?_
  rintro e w1 ⟨rfl, rfl⟩
  go_wp2_with fail
  refine HP.out.mono ?_
  rintro e w1 ⟨rfl, rfl⟩
  go_wp2_with fail
  go_ret2
  exact ⟨rfl, rfl⟩

set_option maxRecDepth 100000 in
set_option maxHeartbeats 400000 in
theorem rindex_any (u m v : Nat) (w : World) (hm : 1 ≤ m) (hx : m ≤ 18) (hs : u + m ≤ 62) (hv : v < 9223372036854775808) :
    Calls Try.prog 22 #[.int .i64 (u : Nat), .int .i64 (m : Nat), .int .i64 (v : Nat)] w fun e w' => e = .returned (.int .i64 (idx u m v : Nat)) ∧ w' = w := by
  have HB := Lib.hid (rbucket_any u m v w hs hv)
  have hk := wid_most u m v hm hs hv
  have hbk := bkt_most (u + m) v (by omega) hv
  have HP := Lib.hid (rpower_any (wid u m v) w (by omega))
  have HH := Lib.hid (rpower_any (m - 1) w (by omega))
  have hH := half_le hx
  have p := two_pos (wid u m v)
  have hq := quo_lt u m v (by omega)
  have hm18 : 2 ^ m ≤ 262144 := two_le (b := 18) hx
  have eI : bkt (u + m) v * 2 ^ (m - 1) + quo u m v = idx u m v := rfl
  obtain ⟨b, eb⟩ : ∃ b, bkt (u + m) v = b := ⟨_, rfl⟩
  obtain ⟨K, eK⟩ : ∃ K, wid u m v = K := ⟨_, rfl⟩
  have eK2 : (u : Int) + (b : Int) = (K : Int) := by rw [← eK, wid, eb]; omega
  obtain ⟨Z, eZ⟩ : ∃ Z, 2 ^ K = Z := ⟨_, rfl⟩
  obtain ⟨H, eH⟩ : ∃ H, 2 ^ (m - 1) = H := ⟨_, rfl⟩
  obtain ⟨M, eM⟩ : ∃ M, m - 1 = M := ⟨_, rfl⟩
  have e0 : (m : Int) - 1 = (M : Int) := by omega
  obtain ⟨Q, eQ⟩ : ∃ Q, quo u m v = Q := ⟨_, rfl⟩
  obtain ⟨I, eJ⟩ : ∃ I, idx u m v = I := ⟨_, rfl⟩
  rw [eb] at HB hbk
  rw [eK, eZ] at HP
  rw [eK, eZ] at p
  rw [eK] at hk
  rw [eH, eM] at HH
  rw [eH] at hH
  rw [eb, eH, eQ, eJ] at eI
  rw [eQ] at hq
  rw [eJ]
  have e1 : (v : Int) / (Z : Int) = (Q : Int) := by rw [← eQ, quo, eK, eZ, Int.natCast_ediv]
  obtain ⟨B1, eB1⟩ : ∃ B1, b + 1 = B1 := ⟨_, rfl⟩
  obtain ⟨P, eP⟩ : ∃ P, B1 * H = P := ⟨_, rfl⟩
  have eP2 : P = b * H + H := by rw [← eP, ← eB1, Nat.succ_mul]
  have hP : P ≤ 64 * 131072 := by rw [← eP]; exact Nat.mul_le_mul (by omega) hH
  have e3 : (b : Int) + 1 = (B1 : Int) := by omega
  have e4 : (B1 : Int) * (H : Int) = (P : Int) := by rw [← eP, Int.natCast_mul]
  obtain ⟨S, eS⟩ : ∃ S, P + Q = S := ⟨_, rfl⟩
  have e5 : (P : Int) + (Q : Int) = (S : Int) := by omega
  have e6 : (S : Int) - (H : Int) = (I : Int) := by omega
  have hZ : Z ≤ 9223372036854775807 := by have : 2 ^ K ≤ 2 ^ 62 := two_le hk; omega
  have hQ : Q ≤ 262144 := by omega
  have hS : S ≤ 100000000 := by omega
  have hI : I ≤ 100000000 := by omega
  have hB1 : B1 ≤ 64 := by omega
  clear eb eK eZ eH eM eQ eJ eI eB1 eP eP2 eS hq hm18 hs hm hbk
  go_enter Try.func22, Try.ntmps22
  go_wp2_with fail
  refine HB.out.mono ?_
  rintro e w1 ⟨rfl, rfl⟩
  go_wp2_with fail
  refine HH.out.mono ?_
  rintro e w1 ⟨rfl, rfl⟩
  go_wp2_with fail
  refine HP.out.mono ?_
  rintro e w1 ⟨rfl, rfl⟩
  go_wp2_with fail
  go_ret
  exact ⟨rfl, rfl⟩
end Go.Proofs.Ytggpnjiankejmaa
