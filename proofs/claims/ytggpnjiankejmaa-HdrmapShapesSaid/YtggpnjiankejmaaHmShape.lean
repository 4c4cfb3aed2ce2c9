/- The document's unit and magnitude of a shape, and the greatest value of buckets; the law's shapes. -/
import Derived.Test.YtggpnjiankejmaaHmRef2
namespace Go.Proofs.Ytggpnjiankejmaa
open Go.RowKit

set_option maxRecDepth 100000 in
set_option maxHeartbeats 400000 in
theorem rtop_any (u m : Nat) (n : Int) (w : World) (hm : 1 ≤ m) (hs : u + m ≤ 62) :
    Calls Try.prog 28 #[.int .i64 (u : Nat), .int .i64 (m : Nat), .int .i64 n] w fun e w' => e = .returned (.int .i64 (top u m (cnt n) : Nat)) ∧ w' = w := by
  obtain ⟨M, hM⟩ : ∃ M, max n 1 = M := ⟨_, rfl⟩
  have hc := cnt_bd n
  have eC0 : min M 64 = (cnt n : Int) := by rw [← hM, cnt]; omega
  have hT := top_lt u m (cnt n)
  obtain ⟨C, hC⟩ : ∃ C, cnt n = C := ⟨_, rfl⟩
  rw [hC] at eC0 hc hT ⊢
  obtain ⟨A, eA⟩ : ∃ A, C - 1 = A := ⟨_, rfl⟩
  obtain ⟨B, eB⟩ : ∃ B, A + u = B := ⟨_, rfl⟩
  obtain ⟨D, eD⟩ : ∃ D, B + m = D := ⟨_, rfl⟩
  have e1 : (C : Int) - 1 = (A : Int) := by omega
  have e2 : (A : Int) + (u : Int) = (B : Int) := by omega
  have e3 : (B : Int) + (m : Int) = (D : Int) := by omega
  have hA : A ≤ 63 := by omega
  have hB : B ≤ 200 := by omega
  have hD : D ≤ 200 := by omega
  have hmin : min (u + m + C - 1) 63 = min D 63 := by omega
  rw [top, hmin] at hT ⊢
  by_cases h63 : D < 63
  · have HP := Lib.hid (rpower_any D w (by omega))
    rw [show min D 63 = D by omega] at hT ⊢
    have p := two_pos D
    obtain ⟨Z, eZ⟩ : ∃ Z, 2 ^ D = Z := ⟨_, rfl⟩
    rw [eZ] at hT p HP ⊢
    obtain ⟨T, eT⟩ : ∃ T, Z - 1 = T := ⟨_, rfl⟩
    rw [eT] at hT ⊢
    have e4 : (Z : Int) - 1 = (T : Int) := by omega
    have hZ : Z ≤ 9223372036854775807 := by have : 2 ^ D ≤ 2 ^ 62 := two_le (by omega); omega
    clear hC eA eB eD eZ eT hmin p hc hm hs
    go_enter Try.func28, Try.ntmps28
    go_wp2_with fail
    refine HP.out.mono ?_
    rintro e w1 ⟨rfl, rfl⟩
    go_wp2_with fail
    go_ret
    exact ⟨rfl, rfl⟩
  · rw [show min D 63 = 63 by omega, show (2 : Nat) ^ 63 - 1 = 9223372036854775807 by decide]
    clear hC eA eB eD hmin hc hm hs hT
    go_enter Try.func28, Try.ntmps28
    go_wp2_with fail
    go_ret
    exact ⟨rfl, rfl⟩

set_option maxRecDepth 100000 in
set_option maxHeartbeats 400000 in
theorem rshape_no (lo hi d : Int) (w : World) (h : ¬ May lo hi d) (hl : -9223372036854775808 ≤ lo ∧ lo ≤ 9223372036854775807) (hh : hi ≤ 9223372036854775807) :
    Calls Try.prog 10 #[.agg #[.int .i64 lo, .int .i64 hi, .int .i64 d]] w fun e w' => e = .returned (.tuple #[.int .i64 0, .int .i64 0, .bool false]) ∧ Fr S0 w w' := by
  unfold May at h
  by_cases h1 : d < 1
  · clear h
    go_enter Try.func10, Try.ntmps10
    go_wp2_with fail
    go_ret3
    exact ⟨rfl, Fr.alloc _ _ _⟩
  · by_cases h2 : 5 < d
    · clear h
      go_enter Try.func10, Try.ntmps10
      go_wp2_with fail
      go_ret3
      exact ⟨rfl, Fr.alloc _ _ _⟩
    · by_cases h3 : lo < 1
      · clear h
        go_enter Try.func10, Try.ntmps10
        go_wp2_with fail
        go_ret3
        exact ⟨rfl, Fr.alloc _ _ _⟩
      · by_cases h4 : hi < lo
        · clear h
          go_enter Try.func10, Try.ntmps10
          go_wp2_with fail
          go_ret3
          exact ⟨rfl, Fr.alloc _ _ _⟩
        · obtain ⟨X, hX⟩ : ∃ X, hi - lo = X := ⟨_, rfl⟩
          have h5 : X < lo := by omega
          have h6 : 0 ≤ X ∧ X ≤ 9223372036854775807 := by omega
          clear h
          go_enter Try.func10, Try.ntmps10
          go_wp2_with fail
          go_ret3
          exact ⟨rfl, Fr.alloc _ _ _⟩

set_option maxRecDepth 100000 in
set_option maxHeartbeats 400000 in
theorem rshape_yes (l h D : Nat) (w : World) (h1 : 1 ≤ D) (h5 : D ≤ 5) (h0 : 0 < l) (hh : 2 * l ≤ h) (hb : h < 9223372036854775808) :
    Calls Try.prog 10 #[.agg #[.int .i64 (l : Nat), .int .i64 (h : Nat), .int .i64 (D : Nat)]] w fun e w' => e = .returned (.tuple #[.int .i64 (unt l : Nat), .int .i64 (mag D : Nat), .bool (decide (unt l + mag D ≤ 62))]) ∧ Fr S0 w w' := by
  have HU := Lib.hid (fun u h1 h2 => unt_is l u (by omega) h1 h2)
  have hp5 : 10 ^ D ≤ 10 ^ 5 := Nat.pow_le_pow_right (by decide) h5
  have HM := Lib.hid (fun m h1 h2 => mag_is D m (by omega) h1 h2)
  have hU := unt_bd l (by omega)
  have hM := (mag_bd D h1 h5).2
  obtain ⟨U, eU⟩ : ∃ U, unt l = U := ⟨_, rfl⟩
  obtain ⟨M, eM⟩ : ∃ M, mag D = M := ⟨_, rfl⟩
  rw [eU] at HU hU ⊢
  rw [eM] at HM hM ⊢
  obtain ⟨S, eS⟩ : ∃ S, U + M = S := ⟨_, rfl⟩
  have HS := Lib.hid (show (U : Int) + (M : Int) = (S : Int) ∧ decide ((S : Int) ≤ 62) = decide (S ≤ 62) ∧ S ≤ 100 from ⟨by omega, decide_eq_decide.2 (by omega), by omega⟩)
  rw [eS]
  have hN0 : 2 ≤ 2 * 10 ^ D := by have : 0 < 10 ^ D := Nat.pow_pos (by decide); omega
  obtain ⟨N10, eN⟩ : ∃ N10, 2 * 10 ^ D = N10 := ⟨_, rfl⟩
  rw [eN] at HM hN0
  have HN := Lib.hid eN
  have HTEN := Lib.hid (fun i (hi : i ≤ D) => show 10 ^ i ≤ 10 ^ 5 from Nat.pow_le_pow_right (by decide) (by omega))
  obtain ⟨X, hX⟩ : ∃ X, h - l = X := ⟨_, rfl⟩
  have e1 : (h : Int) - (l : Int) = (X : Int) := by omega
  have h6 : l ≤ X := by omega
  have h7 : l ≤ h := by omega
  have hX2 : X ≤ 9223372036854775807 := by omega
  have hl2 : l ≤ 9223372036854775807 := by omega
  have hb2 : h ≤ 9223372036854775807 := by omega
  clear eU eM eS hp5 eN hX hh hb
  go_enter Try.func10, Try.ntmps10
  go_wp2_with fail
  go_loopw [5, 6] (fun x y wr => ∃ u n : Nat, x = .int .i64 (u : Int) ∧ y = .int .i64 (n : Int) ∧ 1 ≤ n ∧ n + u ≤ l ∧ Hid (l / 2 ^ u = n) ∧ (w.alloc (.cells #[.int .i64 (l : Nat), .int .i64 (h : Nat), .int .i64 (D : Nat)] 23)) = wr) (fun _ y _ => (intOf y).toNat)
  case atStart => exact ⟨0, l, rfl, rfl, by omega, by omega, Lib.hid (by simp), rfl⟩
  case round =>
    obtain ⟨u, n, rfl, rfl, hn, hul, hd, rfl⟩ := hrel
    by_cases hlt : (1 : Int) < (n : Int)
    · obtain ⟨n2, e2⟩ : ∃ n2, n / 2 = n2 := ⟨_, rfl⟩
      have e3 : (n : Int) / 2 = (n2 : Int) := by omega
      have HD2 : Hid (l / 2 ^ (u + 1) = n2) := Lib.hid (by rw [Nat.pow_succ, ← Nat.div_div_eq_div_mul, hd.out, e2])
      have hq1 : 1 ≤ n2 := by omega
      have hq2 : n2 + (u + 1) ≤ l := by omega
      have hq3 : n2 < n := by omega
      clear hd e2
      go_wp2
      go_roundw
      case rel => exact ⟨u + 1, n2, by go_num, by go_num, hq1, hq2, HD2, by trivial⟩
      case measure => simp [intOf]; omega
    · obtain rfl : n = 1 := by omega
      have hd2 := hd.out
      have p := two_pos u
      have hu1 : 2 ^ u ≤ l := by
        have := (Nat.le_div_iff_mul_le p (x := 1) (y := l)).1 (by omega)
        omega
      have hu2 : l < 2 ^ (u + 1) := by
        have := (Nat.div_lt_iff_lt_mul p (x := l) (y := 2)).1 (by omega)
        rw [Nat.pow_succ]; omega
      have hUu := HU.out u hu1 hu2
      clear hd hd2 p hu1 hu2 HU hlt hn hul
      subst hUu
      go_wp2_with fail
      go_loopw [7, 8] (fun x y wr => ∃ n i : Nat, x = .int .u64 (n : Int) ∧ y = .int .i64 (i : Int) ∧ i ≤ D ∧ Hid (2 * 10 ^ i = n) ∧ n ≤ 200000 ∧ (w.alloc (.cells #[.int .i64 (l : Nat), .int .i64 (h : Nat), .int .i64 (D : Nat)] 23)) = wr) (fun _ y _ => D - (intOf y).toNat)
      case atStart => exact ⟨2, 0, rfl, rfl, by omega, Lib.hid rfl, by omega, rfl⟩
      case round =>
        obtain ⟨n, i, rfl, rfl, hi, hn, hn2, rfl⟩ := hrel
        by_cases hlt : (i : Int) < (D : Int)
        · have ht := HTEN.out (i + 1) (by omega)
          have HN2 : Hid (2 * 10 ^ (i + 1) = 10 * n) := Lib.hid (by rw [← hn.out, Nat.pow_succ]; omega)
          have hb3 : 10 * n ≤ 200000 := by rw [← HN2.out]; omega
          clear hn ht
          go_wp2
          go_roundw
          case rel => exact ⟨10 * n, i + 1, by go_num, by go_num, by omega, HN2, hb3, by trivial⟩
          case measure => simp [intOf]; omega
        · obtain rfl : i = D := by omega
          have hnn := hn.out
          rw [HN.out] at hnn
          subst hnn
          clear hn HN HTEN hlt hi
          go_wp2_with fail
          go_loopw [9, 10] (fun x y wr => ∃ j p : Nat, x = .int .i64 (j : Int) ∧ y = .int .u64 (p : Int) ∧ Hid (2 ^ j = p) ∧ Hid (0 < j → 2 ^ (j - 1) < N10) ∧ p ≤ 2 * N10 ∧ 1 ≤ p ∧ j ≤ p ∧ (w.alloc (.cells #[.int .i64 (l : Nat), .int .i64 (h : Nat), .int .i64 (i : Nat)] 23)) = wr) (fun _ y _ => N10 - (intOf y).toNat)
          case atStart => exact ⟨0, 1, rfl, rfl, Lib.hid rfl, Lib.hid (by intro h; omega), by omega, by omega, by omega, rfl⟩
          case round =>
            obtain ⟨j, p, rfl, rfl, hp, hj, hp2, hp1, hjp, rfl⟩ := hrel
            by_cases hlt : p < N10
            · have HP2 : Hid (2 ^ (j + 1) = 2 * p) := Lib.hid (by rw [Nat.pow_succ, hp.out]; omega)
              have HJ2 : Hid (0 < j + 1 → 2 ^ (j + 1 - 1) < N10) := Lib.hid (by intro _; rw [Nat.add_sub_cancel, hp.out]; exact hlt)
              clear hp hj
              go_wp2
              go_roundw
              case rel => exact ⟨j + 1, 2 * p, by go_num, by go_num, HP2, HJ2, by omega, by omega, by omega, by trivial⟩
              case measure => simp [intOf]; omega
            · have hMm := HM.out j (by rw [hp.out]; omega) hj.out
              clear hp hj HM
              subst hMm
              have e4 := HS.out.1
              have eb := HS.out.2.1
              have hS := HS.out.2.2
              go_wp2_with fail
              go_ret3
              exact ⟨rfl, Fr.alloc _ _ _⟩
end Go.Proofs.Ytggpnjiankejmaa
