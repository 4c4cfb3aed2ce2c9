/- Index, Value, Same, Buckets, Cells, Top. -/
import Derived.Test.YtggpnjiankejmaaHmAsk
namespace Go.Proofs.Ytggpnjiankejmaa
open Go.RowKit

theorem half_le {m : Nat} (h : m ≤ 18) : 2 ^ (m - 1) ≤ 131072 := two_le (b := 17) (by omega)
theorem bkt_top (s : Nat) : bkt s 9223372036854775807 = 63 - s := by
  rw [bkt, show Lib.bitLen 9223372036854775807 = 63 by decide]
/-- how many buckets a number counts as -/
def cnt (n : Int) : Nat := (min (max n 1) 64).toNat
theorem cnt_bd (n : Int) : 1 ≤ cnt n ∧ cnt n ≤ 64 := by unfold cnt; omega

set_option maxRecDepth 100000 in
set_option maxHeartbeats 400000 in
theorem counted_any (n : Int) (w : World) : Calls Try.prog 40 #[.int .i64 n] w fun e w' => e = .returned (.int .i64 (cnt n : Nat)) ∧ w' = w := by
  obtain ⟨M, hM⟩ : ∃ M, max n 1 = M := ⟨_, rfl⟩
  obtain ⟨C, hC⟩ : ∃ C, cnt n = C := ⟨_, rfl⟩
  have eC : min M 64 = (C : Int) := by rw [← hC, ← hM, cnt]; omega
  rw [hC]
  clear hC
  go_enter Try.func40, Try.ntmps40
  go_wp2_with fail
  go_ret
  exact ⟨rfl, rfl⟩

section
variable (g : Nat) (lo hi d : Int) (u m : Nat) (w : World) (s : MapIs w g lo hi d u m)
include s
set_option maxRecDepth 100000 in
set_option maxHeartbeats 400000 in
theorem index_any (v : Nat) (hv : v < 9223372036854775808) :
    Calls Try.prog 15 #[.pointer (some ⟨g, 0, none⟩), .int .i64 (v : Nat)] w fun e w' => e = .returned (.tuple #[.int .i64 (idx u m v : Nat), .int .i64 0]) ∧ Fr S0 w w' := by
  have hbk := bkt_most (u + m) v (by have := s.hs; omega) hv
  have HB := Lib.hid (fun W (f : Fr S0 w W) => bucket_any g lo hi d u m W (s.fr0 f) v hv)
  have HW := Lib.hid (fun W (f : Fr S0 w W) => width_any g lo hi d u m W (s.fr0 f) (bkt (u + m) v) (by omega))
  have HH := Lib.hid (fun W (f : Fr S0 w W) => half_any g lo hi d u m W (s.fr0 f))
  have hH := half_le s.hx
  have hq := quo_lt u m v (by omega)
  have hm18 : 2 ^ m ≤ 262144 := two_le (b := 18) s.hx
  have eI : bkt (u + m) v * 2 ^ (m - 1) + quo u m v = idx u m v := rfl
  obtain ⟨b, eb⟩ : ∃ b, bkt (u + m) v = b := ⟨_, rfl⟩
  obtain ⟨K, eK⟩ : ∃ K, wid u m v = K := ⟨_, rfl⟩
  obtain ⟨H, eH⟩ : ∃ H, 2 ^ (m - 1) = H := ⟨_, rfl⟩
  have eK2 : u + b = K := by rw [← eK, wid, eb]
  rw [eb] at HB HW eI hbk
  rw [eK2] at HW
  rw [eH] at HH eI hH
  obtain ⟨Q, eQ⟩ : ∃ Q, quo u m v = Q := ⟨_, rfl⟩
  have e1 : (v : Int) / 2 ^ K = (Q : Int) := by rw [← eQ, quo, eK, Int.natCast_ediv, Int.natCast_pow]; rfl
  obtain ⟨P, eP⟩ : ∃ P, b * H = P := ⟨_, rfl⟩
  obtain ⟨I, eJ⟩ : ∃ I, idx u m v = I := ⟨_, rfl⟩
  rw [eQ, eP, eJ] at eI
  have hP : P ≤ 63 * 131072 := by rw [← eP]; exact Nat.mul_le_mul (by omega) hH
  have e2 : (b : Int) * (H : Int) = (P : Int) := by rw [← eP, Int.natCast_mul]
  have e3 : (P : Int) + (Q : Int) = (I : Int) := by omega
  have hI : I ≤ 100000000 := by omega
  have hk := wid_most u m v s.hm s.hs hv
  rw [eK] at hk
  rw [eJ]
  clear s hm18 hq eb eK eK2 eH eQ eP eI eJ hbk hH hv
  go_enter Try.func15, Try.ntmps15
  go_wp2_with fail
  refine (HB.out _ (Fr.refl _ _)).mono ?_
  rintro e w1 ⟨rfl, f1⟩
  have F1 := Lib.hid f1
  clear f1
  go_wp2_with fail
  refine (HH.out _ F1.out).mono ?_
  rintro e w2 ⟨rfl, rfl⟩
  go_wp2_with fail
  refine (HW.out _ F1.out).mono ?_
  rintro e w3 ⟨rfl, rfl⟩
  go_wp2_with fail
  go_ret2
  exact ⟨rfl, F1.out⟩
omit s in
set_option maxRecDepth 100000 in
set_option maxHeartbeats 400000 in
theorem index_no (v : Int) (hv : v < 0) :
    Calls Try.prog 15 #[.pointer (some ⟨g, 0, none⟩), .int .i64 v] w fun e w' => e = .returned (.tuple #[.int .i64 0, .int .i64 5]) ∧ Fr S0 w w' := by
  go_enter Try.func15, Try.ntmps15
  go_wp2_with fail
  go_ret2
  exact ⟨rfl, Fr.refl _ _⟩

set_option maxRecDepth 100000 in
set_option maxHeartbeats 400000 in
theorem value_neg (i : Int) (h0 : i < 0) (h1 : -9223372036854775808 ≤ i) :
    Calls Try.prog 21 #[.pointer (some ⟨g, 0, none⟩), .int .i64 i] w fun e w' => e = .returned (.tuple #[.int .i64 0, .int .i64 5]) ∧ Fr S0 w w' := by
  have HH := Lib.hid (half_any g lo hi d u m w s)
  have hH := half_le s.hx
  have p : 2 ^ 1 ≤ 2 ^ (m - 1) := two_le (by have := s.h5; omega)
  obtain ⟨H, eH⟩ : ∃ H, 2 ^ (m - 1) = H := ⟨_, rfl⟩
  rw [eH] at HH hH p
  obtain ⟨T, eT⟩ : ∃ T, i.tdiv (H : Int) = T := ⟨_, rfl⟩
  have hT : -4611686018427387905 ≤ T ∧ T ≤ 0 := by
    obtain ⟨k, rfl⟩ : ∃ k : Nat, i = -(k : Int) := ⟨i.natAbs, by omega⟩
    rw [Int.neg_tdiv, Int.tdiv_eq_ediv_of_nonneg (by omega), ← Int.natCast_ediv] at eT
    have : k / H ≤ k / 2 := Nat.div_le_div_left (by omega) (by omega)
    generalize k / H = Z at *
    omega
  obtain ⟨X, eX⟩ : ∃ X, T - 1 = X := ⟨_, rfl⟩
  have em : max X 0 = 0 := by omega
  have hX : X ≤ 0 ∧ -4611686018427387906 ≤ X := by omega
  clear s eH
  go_enter Try.func21, Try.ntmps21
  go_wp2_with fail
  refine HH.out.mono ?_
  rintro e w2 ⟨rfl, rfl⟩
  go_wp2_with fail
  go_ret2
  exact ⟨rfl, Fr.refl _ _⟩
set_option maxRecDepth 100000 in
set_option maxHeartbeats 400000 in
theorem value_no (n : Nat) (hn : n < 9223372036854775808) (h : 63 - (u + m) < ibk m n) :
    Calls Try.prog 21 #[.pointer (some ⟨g, 0, none⟩), .int .i64 (n : Nat)] w fun e w' => e = .returned (.tuple #[.int .i64 0, .int .i64 5]) ∧ Fr S0 w w' := by
  have HB := Lib.hid (bucket_any g lo hi d u m w s 9223372036854775807 (by omega))
  rw [bkt_top] at HB
  have HH := Lib.hid (half_any g lo hi d u m w s)
  have p := two_pos (m - 1)
  obtain ⟨H, eH⟩ : ∃ H, 2 ^ (m - 1) = H := ⟨_, rfl⟩
  have hD : n / H ≤ n := Nat.div_le_self _ _
  rw [ibk, eH] at h
  rw [eH] at HH p
  obtain ⟨D, eD⟩ : ∃ D, n / H = D := ⟨_, rfl⟩
  obtain ⟨b, eb⟩ : ∃ b, D - 1 = b := ⟨_, rfl⟩
  obtain ⟨T, eT⟩ : ∃ T, 63 - (u + m) = T := ⟨_, rfl⟩
  rw [eD] at h hD
  rw [eb, eT] at h
  rw [eT] at HB
  have e1 : (n : Int) / (H : Int) = (D : Int) := by rw [← eD, Int.natCast_ediv]
  obtain ⟨X, eX⟩ : ∃ X, (D : Int) - 1 = X := ⟨_, rfl⟩
  have em : max X 0 = (b : Int) := by omega
  have hX : X ≤ 9223372036854775807 ∧ -1 ≤ X := by omega
  have hD2 : D ≤ 9223372036854775807 := by omega
  clear s eH eD eb eT hD hn
  go_enter Try.func21, Try.ntmps21
  go_wp2_with fail
  refine HH.out.mono ?_
  rintro e w2 ⟨rfl, rfl⟩
  go_wp2_with fail
  refine HB.out.mono ?_
  rintro e w3 ⟨rfl, f3⟩
  have F3 := Lib.hid f3
  clear f3
  go_wp2_with fail
  go_ret2
  exact ⟨rfl, F3.out⟩
set_option maxRecDepth 100000 in
set_option maxHeartbeats 400000 in
theorem value_yes (n : Nat) (hn : n < 9223372036854775808) (h : ibk m n ≤ 63 - (u + m)) :
    Calls Try.prog 21 #[.pointer (some ⟨g, 0, none⟩), .int .i64 (n : Nat)] w fun e w' => e = .returned (.tuple #[.int .i64 (vof u m n : Nat), .int .i64 0]) ∧ Fr S0 w w' := by
  have HB := Lib.hid (bucket_any g lo hi d u m w s 9223372036854775807 (by omega))
  rw [bkt_top] at HB
  have HH := Lib.hid (fun W (f : Fr S0 w W) => half_any g lo hi d u m W (s.fr0 f))
  have HW := Lib.hid (fun W (f : Fr S0 w W) => width_any g lo hi d u m W (s.fr0 f) (ibk m n) (by omega))
  have p := two_pos (m - 1)
  have hH := half_le s.hx
  have hV := vof_lt u m n s.hm (by have := s.hs; omega) h
  have hV2 := two_pos (u + ibk m n)
  have hq := iqu_lt m n s.hm
  have hm18 : 2 ^ m ≤ 262144 := two_le (b := 18) s.hx
  have hat := iqu_at m n
  have hk : u + ibk m n ≤ 62 := by have := s.hs; have := s.h5; omega
  obtain ⟨b, eb⟩ : ∃ b, ibk m n = b := ⟨_, rfl⟩
  obtain ⟨H, eH⟩ : ∃ H, 2 ^ (m - 1) = H := ⟨_, rfl⟩
  obtain ⟨q, eq⟩ : ∃ q, iqu m n = q := ⟨_, rfl⟩
  obtain ⟨V, eV⟩ : ∃ V, vof u m n = V := ⟨_, rfl⟩
  have eb2 := eb
  rw [ibk, eH] at eb2
  have hD : n / H ≤ n := Nat.div_le_self _ _
  obtain ⟨K, eK⟩ : ∃ K, u + b = K := ⟨_, rfl⟩
  have e5 : (q : Int) * 2 ^ K = (V : Int) := by rw [← eV, vof, eq, eb, eK, Int.natCast_mul, Int.natCast_pow]; rfl
  rw [eb] at h HW hat hk hV hV2
  rw [eK] at HW hk hV hV2
  rw [eH] at HH p hH hat
  obtain ⟨P, eP⟩ : ∃ P, b * H = P := ⟨_, rfl⟩
  rw [eP] at hat
  have eq2 : n - P = q := by rw [← eP, ← eq, iqu, eb, eH]
  have e3 : (b : Int) * (H : Int) = (P : Int) := by rw [← eP, Int.natCast_mul]
  have e4 : (n : Int) - (P : Int) = (q : Int) := by omega
  rw [eV]
  rw [eV] at hV
  rw [eq] at hq
  obtain ⟨D, eD⟩ : ∃ D, n / H = D := ⟨_, rfl⟩
  obtain ⟨T, eT⟩ : ∃ T, 63 - (u + m) = T := ⟨_, rfl⟩
  rw [eD] at eb2 hD
  rw [eT] at h HB
  have e1 : (n : Int) / (H : Int) = (D : Int) := by rw [← eD, Int.natCast_ediv]
  obtain ⟨X, eX⟩ : ∃ X, (D : Int) - 1 = X := ⟨_, rfl⟩
  have em : max X 0 = (b : Int) := by omega
  have hX : X ≤ 9223372036854775807 ∧ -1 ≤ X := by omega
  have hD2 : D ≤ 9223372036854775807 := by omega
  have hP2 : P ≤ 9223372036854775807 := by omega
  have hV3 : V ≤ 9223372036854775807 := by omega
  have hq2 : q ≤ 262144 := by omega
  clear s eH eD eb eb2 eT hD hn hV hV2 hq hm18 hat eq eq2 eV eP eK hH
  go_enter Try.func21, Try.ntmps21
  go_wp2_with fail
  refine (HH.out _ (Fr.refl _ _)).mono ?_
  rintro e w2 ⟨rfl, rfl⟩
  go_wp2_with fail
  refine HB.out.mono ?_
  rintro e w3 ⟨rfl, f3⟩
  have F3 := Lib.hid f3
  clear f3
  go_wp2_with fail
  refine (HH.out _ F3.out).mono ?_
  rintro e w4 ⟨rfl, rfl⟩
  go_wp2_with fail
  refine (HW.out _ F3.out).mono ?_
  rintro e w5 ⟨rfl, rfl⟩
  go_wp2_with fail
  go_ret2
  exact ⟨rfl, F3.out⟩

set_option maxRecDepth 100000 in
set_option maxHeartbeats 400000 in
theorem same_yes (v x : Nat) (hv : v < 9223372036854775808) (hx : x < 9223372036854775808) :
    Calls Try.prog 19 #[.pointer (some ⟨g, 0, none⟩), .int .i64 (v : Nat), .int .i64 (x : Nat)] w fun e w' => e = .returned (.bool (decide (idx u m v = idx u m x))) ∧ Fr S0 w w' := by
  have H1 := Lib.hid (index_any g lo hi d u m w s v hv)
  have H2 := Lib.hid (fun W (f : Fr S0 w W) => index_any g lo hi d u m W (s.fr0 f) x hx)
  obtain ⟨I, eI⟩ : ∃ I, idx u m v = I := ⟨_, rfl⟩
  obtain ⟨J, eJ⟩ : ∃ J, idx u m x = J := ⟨_, rfl⟩
  rw [eI] at H1 ⊢
  rw [eJ] at H2 ⊢
  have e1 : ((I : Int) == (J : Int)) = decide (I = J) := by rw [Bool.beq_eq_decide_eq]; exact decide_eq_decide.2 (by omega)
  clear s eI eJ hv hx
  go_enter Try.func19, Try.ntmps19
  go_wp2_with fail
  refine H1.out.mono ?_
  rintro e w1 ⟨rfl, f1⟩
  have F1 := Lib.hid f1
  clear f1
  go_wp2_with fail
  refine (H2.out _ F1.out).mono ?_
  rintro e w2 ⟨rfl, f2⟩
  have F2 := Lib.hid (F1.out.trans0 f2)
  clear f2
  go_wp2_with fail
  go_ret
  exact ⟨rfl, F2.out⟩
omit s in
set_option maxRecDepth 100000 in
set_option maxHeartbeats 400000 in
theorem same_neg (v : Int) (hv : v < 0) :
    Calls Try.prog 19 #[.pointer (some ⟨g, 0, none⟩), .int .i64 v, .int .i64 v] w fun e w' => e = .returned (.bool false) ∧ Fr S0 w w' := by
  have H1 := Lib.hid (fun W => index_no g W v hv)
  clear hv
  go_enter Try.func19, Try.ntmps19
  go_wp2_with fail
  refine (H1.out _).mono ?_
  rintro e w1 ⟨rfl, f1⟩
  have F1 := Lib.hid f1
  clear f1
  go_wp2_with fail
  refine (H1.out _).mono ?_
  rintro e w2 ⟨rfl, f2⟩
  have F2 := Lib.hid (F1.out.trans0 f2)
  clear f2
  go_wp2_with fail
  go_ret
  exact ⟨rfl, F2.out⟩

set_option maxRecDepth 100000 in
set_option maxHeartbeats 400000 in
theorem buckets_any (v : Int) (hv : v < 9223372036854775808) :
    Calls Try.prog 26 #[.pointer (some ⟨g, 0, none⟩), .int .i64 v] w fun e w' => e = .returned (.int .i64 (1 + bkt (u + m) v.toNat : Nat)) ∧ Fr S0 w w' := by
  have HB := Lib.hid (bucket_any g lo hi d u m w s v.toNat (by omega))
  have hb := bkt_most (u + m) v.toNat (by have := s.hs; omega) (by omega)
  obtain ⟨V, eV⟩ : ∃ V, v.toNat = V := ⟨_, rfl⟩
  have em : max v 0 = (V : Int) := by omega
  rw [eV] at HB hb ⊢
  obtain ⟨b, eb⟩ : ∃ b, bkt (u + m) V = b := ⟨_, rfl⟩
  rw [eb] at HB hb ⊢
  have hb2 : b ≤ 63 := by omega
  clear s eb eV hb hv
  go_enter Try.func26, Try.ntmps26
  go_wp2_with fail
  refine HB.out.mono ?_
  rintro e w1 ⟨rfl, f1⟩
  have F1 := Lib.hid f1
  clear f1
  go_wp2_with fail
  go_ret
  exact ⟨rfl, F1.out⟩

set_option maxRecDepth 100000 in
set_option maxHeartbeats 400000 in
theorem cells_any (n : Int) :
    Calls Try.prog 29 #[.pointer (some ⟨g, 0, none⟩), .int .i64 n] w fun e w' => e = .returned (.int .i64 ((cnt n + 1) * 2 ^ (m - 1) : Nat)) ∧ Fr S0 w w' := by
  have HC := Lib.hid (counted_any n w)
  have HH := Lib.hid (half_any g lo hi d u m w s)
  have hc := (cnt_bd n).2
  have hH := half_le s.hx
  obtain ⟨C, eC⟩ : ∃ C, cnt n = C := ⟨_, rfl⟩
  obtain ⟨H, eH⟩ : ∃ H, 2 ^ (m - 1) = H := ⟨_, rfl⟩
  obtain ⟨R, eR⟩ : ∃ R, (C + 1) * H = R := ⟨_, rfl⟩
  obtain ⟨D, eD⟩ : ∃ D, C + 1 = D := ⟨_, rfl⟩
  rw [eC] at HC hc ⊢
  rw [eH] at HH hH ⊢
  have hR : R ≤ 65 * 131072 := by rw [← eR]; exact Nat.mul_le_mul (by omega) hH
  rw [eR]
  rw [eD] at eR
  have e1 : (C : Int) + 1 = (D : Int) := by omega
  have e2 : (D : Int) * (H : Int) = (R : Int) := by rw [← eR, Int.natCast_mul]
  have hD : D ≤ 65 := by omega
  clear s eC eH eR eD
  go_enter Try.func29, Try.ntmps29
  go_wp2_with fail
  refine HC.out.mono ?_
  rintro e w1 ⟨rfl, rfl⟩
  go_wp2_with fail
  refine HH.out.mono ?_
  rintro e w1 ⟨rfl, rfl⟩
  go_wp2_with fail
  go_ret
  exact ⟨rfl, Fr.refl _ _⟩

set_option maxRecDepth 100000 in
set_option maxHeartbeats 400000 in
theorem top_any (n : Int) :
    Calls Try.prog 27 #[.pointer (some ⟨g, 0, none⟩), .int .i64 n] w fun e w' => e = .returned (.int .i64 (top u m (cnt n) : Nat)) ∧ Fr S0 w w' := by
  have HC := Lib.hid (fun W => counted_any n W)
  have hc := cnt_bd n
  have c3 := s.c3
  have c4 := s.c4
  have hs := s.hs
  have hx := s.hx
  have hT := top_lt u m (cnt n)
  obtain ⟨C, eC⟩ : ∃ C, cnt n = C := ⟨_, rfl⟩
  rw [eC] at HC hc hT ⊢
  obtain ⟨E, eE⟩ : ∃ E, min (u + m + C - 1) 63 = E := ⟨_, rfl⟩
  have eT : top u m C = 2 ^ E - 1 := by rw [top, eE]
  rw [eT] at hT ⊢
  have p := two_pos E
  obtain ⟨Z, eZ⟩ : ∃ Z, 2 ^ E = Z := ⟨_, rfl⟩
  have wZ : (2 : Int) ^ E = (Z : Int) := by rw [← eZ, Int.natCast_pow]; rfl
  rw [eZ] at hT p ⊢
  obtain ⟨T, eT2⟩ : ∃ T, Z - 1 = T := ⟨_, rfl⟩
  have e3 : (Z : Int) - 1 = (T : Int) := by omega
  rw [eT2] at hT ⊢
  obtain ⟨A, eA⟩ : ∃ A, u + m = A := ⟨_, rfl⟩
  obtain ⟨B, eB⟩ : ∃ B, A + C = B := ⟨_, rfl⟩
  obtain ⟨D, eD⟩ : ∃ D, B - 1 = D := ⟨_, rfl⟩
  have e4 : (u : Int) + (m : Int) = (A : Int) := by omega
  have e5 : (A : Int) + (C : Int) = (B : Int) := by omega
  have e6 : (B : Int) - 1 = (D : Int) := by omega
  have w4 : IntKind.i64.wrap (A : Int) = (A : Int) := by rw [IntKind.wrap_i64]; omega
  have w5 : IntKind.i64.wrap (B : Int) = (B : Int) := by rw [IntKind.wrap_i64]; omega
  have w6 : IntKind.i64.wrap (D : Int) = (D : Int) := by rw [IntKind.wrap_i64]; omega
  have e7 : min (D : Int) 63 = (E : Int) := by omega
  have hE : E ≤ 63 := by omega
  have hZ : Z ≤ 9223372036854775808 := by omega
  have hT2 : T ≤ 9223372036854775807 := by omega
  clear s eC eE eT eZ eT2 eA eB eD hc hs hx hT p
  go_enter Try.func27, Try.ntmps27
  go_upto_region 15 with fail
  go_region_held3 (fun w' => w'.cell? ⟨g, 3, none⟩ = some (.int .i64 (u : Nat)) ∧ w'.cell? ⟨g, 4, none⟩ = some (.int .i64 (m : Nat)))
    (first
      | (go_split_ands; exact ⟨by assumption, by assumption⟩))
    (first | (go_at_call 40; ((with_reducible refine (HC.out _).mono ?_); rintro _ _ ⟨rfl, rfl⟩)))
  all_goals
    go_wp2_with fail
    go_ret
    exact ⟨rfl, Fr.drew _ _⟩

set_option maxRecDepth 100000 in
set_option maxHeartbeats 400000 in
theorem shape_any :
    Calls Try.prog 11 #[.pointer (some ⟨g, 0, none⟩)] w fun e w' => e = .returned (.agg #[.int .i64 lo, .int .i64 hi, .int .i64 d]) ∧ Fr S0 w w' := by
  have c0 := fun o => (Fr.alloc S0 w o).cell s.c0 (fun h => h)
  have c1 := fun o => (Fr.alloc S0 w o).cell s.c1 (fun h => h)
  have c2 := fun o => (Fr.alloc S0 w o).cell s.c2 (fun h => h)
  clear s
  go_enter Try.func11, Try.ntmps11
  go_wp2_with fail
  exact bodyPost_ret (v := .agg #[.int .i64 lo, .int .i64 hi, .int .i64 d]) (by simp [results, Try.results11, go_sem]) rfl ⟨rfl, Fr.alloc _ _ _⟩
end
end Go.Proofs.Ytggpnjiankejmaa
