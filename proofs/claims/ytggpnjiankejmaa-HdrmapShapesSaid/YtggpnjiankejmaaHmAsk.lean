/- The cell of a value; Low, High, Size. -/
import Derived.Test.YtggpnjiankejmaaHmCell
namespace Go.Proofs.Ytggpnjiankejmaa
open Go.RowKit

/-- a store into a block that is new to w -/
theorem Fr.set {w W : World} (h : Fr S0 w W) (a : Addr) (x : Value) (ha : w.heap.size ≤ a.block) : Fr S0 w (W.setCell a x) :=
  h.trans (Fr.setCell (fun k => k = a.block) W a x rfl) fun j hj e => by omega

section
variable (g : Nat) (lo hi d : Int) (u m : Nat) (w : World) (s : MapIs w g lo hi d u m)
include s
set_option maxRecDepth 100000 in
set_option maxHeartbeats 400000 in
theorem cell_any (v : Nat) (hv : v < 9223372036854775808) : Calls Try.prog 43 #[.pointer (some ⟨g, 0, none⟩), .int .i64 (v : Nat)] w fun e w' => e = .returned (.agg #[.int .i64 (beg u m v : Nat), .int .i64 (wid u m v : Nat)]) ∧ Fr S0 w w' := by
  have hbk := bkt_most (u + m) v (by have := s.hs; omega) hv
  have HB := Lib.hid (fun W (f : Fr S0 w W) => bucket_any g lo hi d u m W (s.fr0 f) v hv)
  have HW := Lib.hid (fun W (f : Fr S0 w W) => width_any g lo hi d u m W (s.fr0 f) (bkt (u + m) v) (by omega))
  have hk := wid_most u m v s.hm s.hs hv
  have hE := end_le u m v s.hs hv
  obtain ⟨b, eb⟩ : ∃ b, bkt (u + m) v = b := ⟨_, rfl⟩
  obtain ⟨K, eK⟩ : ∃ K, wid u m v = K := ⟨_, rfl⟩
  have eK2 : u + b = K := by rw [← eK, wid, eb]
  rw [eb] at HB HW
  rw [eK2] at HW
  obtain ⟨Q, eQ⟩ : ∃ Q, quo u m v = Q := ⟨_, rfl⟩
  obtain ⟨R, eR⟩ : ∃ R, beg u m v = R := ⟨_, rfl⟩
  have e1 : (v : Int) / 2 ^ K = (Q : Int) := by rw [← eQ, quo, eK, Int.natCast_ediv, Int.natCast_pow]; rfl
  have e2 : (Q : Int) * 2 ^ K = (R : Int) := by rw [← eR, beg, eQ, eK, Int.natCast_mul, Int.natCast_pow]; rfl
  have hR : R < 9223372036854775808 := by have := two_pos (wid u m v); omega
  have hb0 := heap_alloc_new w (.cells #[.int .i64 0, .int .i64 0] 63)
  have HB0 := Lib.hid hb0
  rw [eR, eK]
  rw [eK] at hk
  clear s hE eQ eR eb eK eK2 hbk hv hb0
  go_enter Try.func43, Try.ntmps43
  go_wp2_with fail
  refine (HB.out _ (Fr.alloc _ _ _)).mono ?_
  rintro e w1 ⟨rfl, f1⟩
  have F1 := Lib.hid ((Fr.alloc S0 _ _).trans0 f1)
  have HB1 := Lib.hid (f1.row HB0.out (fun h => h))
  clear f1 HB0 HB
  go_wp2_with fail
  refine (HW.out _ F1.out).mono ?_
  rintro e w2 ⟨rfl, rfl⟩
  obtain ⟨q0, q1, z0, z1⟩ := Box2.of HB1.out
  go_wp2_with fail
  refine bodyPost_ret (v := .agg #[.int .i64 (R : Nat), .int .i64 (K : Nat)]) (results_row Try.results43 _ _ rfl (two_set HB1.out _ _) Try.underlying63 rfl (by kernel_rfl)) rfl ⟨rfl, (F1.out.set _ _ (Nat.le_refl _)).set _ _ (Nat.le_refl _)⟩

set_option maxRecDepth 100000 in
set_option maxHeartbeats 400000 in
theorem tell_low (v : Nat) (hv : v < 9223372036854775808) :
    Calls Try.prog 36 #[.pointer (some ⟨g, 0, none⟩), .int .i64 (v : Nat), .func (.func 37) #[] #[]] w fun e w' => e = .returned (.tuple #[.int .i64 (beg u m v : Nat), .int .i64 0]) ∧ Fr S0 w w' := by
  have HC := Lib.hid (cell_any g lo hi d u m w s v hv)
  have HN := Lib.hid (fun W => low_any (beg u m v : Nat) (wid u m v : Nat) W)
  obtain ⟨B, hB⟩ : ∃ B, beg u m v = B := ⟨_, rfl⟩
  obtain ⟨K, hK⟩ : ∃ K, wid u m v = K := ⟨_, rfl⟩
  rw [hB, hK] at HC HN
  rw [hB]
  clear s hB hK
  go_enter Try.func36, Try.ntmps36
  go_wp2_with fail
  refine HC.out.mono ?_
  rintro e w1 ⟨rfl, f1⟩
  have F1 := Lib.hid f1
  clear f1
  go_wp2_with fail
  refine (HN.out _).mono ?_
  rintro e w2 ⟨rfl, f2⟩
  have F2 := Lib.hid (F1.out.trans0 f2)
  clear f2
  go_wp2_with fail
  go_ret2
  exact ⟨rfl, F2.out⟩
omit s in
set_option maxRecDepth 100000 in
set_option maxHeartbeats 400000 in
theorem tell_low_no (v : Int) (hv : v < 0) :
    Calls Try.prog 36 #[.pointer (some ⟨g, 0, none⟩), .int .i64 v, .func (.func 37) #[] #[]] w fun e w' => e = .returned (.tuple #[.int .i64 0, .int .i64 5]) ∧ Fr S0 w w' := by
  go_enter Try.func36, Try.ntmps36
  go_wp2_with fail
  go_ret2
  exact ⟨rfl, Fr.refl _ _⟩
set_option maxRecDepth 100000 in
set_option maxHeartbeats 400000 in
theorem ask_low (v : Nat) (hv : v < 9223372036854775808) :
    Calls Try.prog 16 #[.pointer (some ⟨g, 0, none⟩), .int .i64 (v : Nat)] w fun e w' => e = .returned (.tuple #[.int .i64 (beg u m v : Nat), .int .i64 0]) ∧ Fr S0 w w' := by
  have HT := Lib.hid (tell_low g lo hi d u m w s v hv)
  obtain ⟨R, hR⟩ : ∃ R : Nat, beg u m v = R := ⟨_, rfl⟩
  rw [hR] at HT ⊢
  clear s hR
  go_enter Try.func16, Try.ntmps16
  go_wp2_with fail
  refine HT.out.mono ?_
  rintro e w1 ⟨rfl, f1⟩
  have F1 := Lib.hid f1
  clear f1
  go_wp2_with fail
  go_ret2
  exact ⟨rfl, F1.out⟩
omit s in
set_option maxRecDepth 100000 in
set_option maxHeartbeats 400000 in
theorem ask_low_no (v : Int) (hv : v < 0) :
    Calls Try.prog 16 #[.pointer (some ⟨g, 0, none⟩), .int .i64 v] w fun e w' => e = .returned (.tuple #[.int .i64 0, .int .i64 5]) ∧ Fr S0 w w' := by
  have HT := Lib.hid (tell_low_no g w v hv)
  go_enter Try.func16, Try.ntmps16
  go_wp2_with fail
  refine HT.out.mono ?_
  rintro e w1 ⟨rfl, f1⟩
  have F1 := Lib.hid f1
  clear f1
  go_wp2_with fail
  go_ret2
  exact ⟨rfl, F1.out⟩

set_option maxRecDepth 100000 in
set_option maxHeartbeats 400000 in
theorem tell_high (v : Nat) (hv : v < 9223372036854775808) :
    Calls Try.prog 36 #[.pointer (some ⟨g, 0, none⟩), .int .i64 (v : Nat), .func (.func 38) #[] #[]] w fun e w' => e = .returned (.tuple #[.int .i64 (beg u m v + (2 ^ wid u m v - 1) : Nat), .int .i64 0]) ∧ Fr S0 w w' := by
  have HC := Lib.hid (cell_any g lo hi d u m w s v hv)
  have HN := Lib.hid (fun W => high_any (beg u m v) (wid u m v) W (wid_most u m v s.hm s.hs hv) (end_le u m v s.hs hv))
  obtain ⟨B, hB⟩ : ∃ B, beg u m v = B := ⟨_, rfl⟩
  obtain ⟨K, hK⟩ : ∃ K, wid u m v = K := ⟨_, rfl⟩
  rw [hB, hK] at HC HN
  rw [hB, hK]
  obtain ⟨R, hR⟩ : ∃ R : Nat, B + (2 ^ K - 1) = R := ⟨_, rfl⟩
  rw [hR] at HN ⊢
  clear s hB hK hR
  go_enter Try.func36, Try.ntmps36
  go_wp2_with fail
  refine HC.out.mono ?_
  rintro e w1 ⟨rfl, f1⟩
  have F1 := Lib.hid f1
  clear f1
  go_wp2_with fail
  refine (HN.out _).mono ?_
  rintro e w2 ⟨rfl, f2⟩
  have F2 := Lib.hid (F1.out.trans0 f2)
  clear f2
  go_wp2_with fail
  go_ret2
  exact ⟨rfl, F2.out⟩
omit s in
set_option maxRecDepth 100000 in
set_option maxHeartbeats 400000 in
theorem tell_high_no (v : Int) (hv : v < 0) :
    Calls Try.prog 36 #[.pointer (some ⟨g, 0, none⟩), .int .i64 v, .func (.func 38) #[] #[]] w fun e w' => e = .returned (.tuple #[.int .i64 0, .int .i64 5]) ∧ Fr S0 w w' := by
  go_enter Try.func36, Try.ntmps36
  go_wp2_with fail
  go_ret2
  exact ⟨rfl, Fr.refl _ _⟩
set_option maxRecDepth 100000 in
set_option maxHeartbeats 400000 in
theorem ask_high (v : Nat) (hv : v < 9223372036854775808) :
    Calls Try.prog 17 #[.pointer (some ⟨g, 0, none⟩), .int .i64 (v : Nat)] w fun e w' => e = .returned (.tuple #[.int .i64 (beg u m v + (2 ^ wid u m v - 1) : Nat), .int .i64 0]) ∧ Fr S0 w w' := by
  have HT := Lib.hid (tell_high g lo hi d u m w s v hv)
  obtain ⟨R, hR⟩ : ∃ R : Nat, beg u m v + (2 ^ wid u m v - 1) = R := ⟨_, rfl⟩
  rw [hR] at HT ⊢
  clear s hR
  go_enter Try.func17, Try.ntmps17
  go_wp2_with fail
  refine HT.out.mono ?_
  rintro e w1 ⟨rfl, f1⟩
  have F1 := Lib.hid f1
  clear f1
  go_wp2_with fail
  go_ret2
  exact ⟨rfl, F1.out⟩
omit s in
set_option maxRecDepth 100000 in
set_option maxHeartbeats 400000 in
theorem ask_high_no (v : Int) (hv : v < 0) :
    Calls Try.prog 17 #[.pointer (some ⟨g, 0, none⟩), .int .i64 v] w fun e w' => e = .returned (.tuple #[.int .i64 0, .int .i64 5]) ∧ Fr S0 w w' := by
  have HT := Lib.hid (tell_high_no g w v hv)
  go_enter Try.func17, Try.ntmps17
  go_wp2_with fail
  refine HT.out.mono ?_
  rintro e w1 ⟨rfl, f1⟩
  have F1 := Lib.hid f1
  clear f1
  go_wp2_with fail
  go_ret2
  exact ⟨rfl, F1.out⟩

set_option maxRecDepth 100000 in
set_option maxHeartbeats 400000 in
theorem tell_size (v : Nat) (hv : v < 9223372036854775808) :
    Calls Try.prog 36 #[.pointer (some ⟨g, 0, none⟩), .int .i64 (v : Nat), .func (.func 39) #[] #[]] w fun e w' => e = .returned (.tuple #[.int .i64 (2 ^ wid u m v : Nat), .int .i64 0]) ∧ Fr S0 w w' := by
  have HC := Lib.hid (cell_any g lo hi d u m w s v hv)
  have HN := Lib.hid (fun W => size_any (beg u m v : Nat) (wid u m v) W (wid_most u m v s.hm s.hs hv))
  obtain ⟨B, hB⟩ : ∃ B, beg u m v = B := ⟨_, rfl⟩
  obtain ⟨K, hK⟩ : ∃ K, wid u m v = K := ⟨_, rfl⟩
  rw [hB, hK] at HC HN
  rw [hK]
  obtain ⟨R, hR⟩ : ∃ R : Nat, 2 ^ K = R := ⟨_, rfl⟩
  rw [hR] at HN ⊢
  clear s hB hK hR
  go_enter Try.func36, Try.ntmps36
  go_wp2_with fail
  refine HC.out.mono ?_
  rintro e w1 ⟨rfl, f1⟩
  have F1 := Lib.hid f1
  clear f1
  go_wp2_with fail
  refine (HN.out _).mono ?_
  rintro e w2 ⟨rfl, f2⟩
  have F2 := Lib.hid (F1.out.trans0 f2)
  clear f2
  go_wp2_with fail
  go_ret2
  exact ⟨rfl, F2.out⟩
omit s in
set_option maxRecDepth 100000 in
set_option maxHeartbeats 400000 in
theorem tell_size_no (v : Int) (hv : v < 0) :
    Calls Try.prog 36 #[.pointer (some ⟨g, 0, none⟩), .int .i64 v, .func (.func 39) #[] #[]] w fun e w' => e = .returned (.tuple #[.int .i64 0, .int .i64 5]) ∧ Fr S0 w w' := by
  go_enter Try.func36, Try.ntmps36
  go_wp2_with fail
  go_ret2
  exact ⟨rfl, Fr.refl _ _⟩
set_option maxRecDepth 100000 in
set_option maxHeartbeats 400000 in
theorem ask_size (v : Nat) (hv : v < 9223372036854775808) :
    Calls Try.prog 18 #[.pointer (some ⟨g, 0, none⟩), .int .i64 (v : Nat)] w fun e w' => e = .returned (.tuple #[.int .i64 (2 ^ wid u m v : Nat), .int .i64 0]) ∧ Fr S0 w w' := by
  have HT := Lib.hid (tell_size g lo hi d u m w s v hv)
  obtain ⟨R, hR⟩ : ∃ R : Nat, 2 ^ wid u m v = R := ⟨_, rfl⟩
  rw [hR] at HT ⊢
  clear s hR
  go_enter Try.func18, Try.ntmps18
  go_wp2_with fail
  refine HT.out.mono ?_
  rintro e w1 ⟨rfl, f1⟩
  have F1 := Lib.hid f1
  clear f1
  go_wp2_with fail
  go_ret2
  exact ⟨rfl, F1.out⟩
omit s in
set_option maxRecDepth 100000 in
set_option maxHeartbeats 400000 in
theorem ask_size_no (v : Int) (hv : v < 0) :
    Calls Try.prog 18 #[.pointer (some ⟨g, 0, none⟩), .int .i64 v] w fun e w' => e = .returned (.tuple #[.int .i64 0, .int .i64 5]) ∧ Fr S0 w w' := by
  have HT := Lib.hid (tell_size_no g w v hv)
  go_enter Try.func18, Try.ntmps18
  go_wp2_with fail
  refine HT.out.mono ?_
  rintro e w1 ⟨rfl, f1⟩
  have F1 := Lib.hid f1
  clear f1
  go_wp2_with fail
  go_ret2
  exact ⟨rfl, F1.out⟩
end
end Go.Proofs.Ytggpnjiankejmaa
