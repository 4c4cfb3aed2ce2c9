/- Which shapes may be; the map of a shape. -/
import Derived.Test.YtggpnjiankejmaaHmIdx
namespace Go.Proofs.Ytggpnjiankejmaa
open Go.RowKit

def May (lo hi d : Int) : Prop := (1 ≤ d ∧ d ≤ 5) ∧ 1 ≤ lo ∧ 2 * lo ≤ hi
def shp (lo hi d : Int) : Value := .agg #[.int .i64 lo, .int .i64 hi, .int .i64 d]

set_option maxRecDepth 100000 in
set_option maxHeartbeats 400000 in
theorem unit_of (l : Nat) (hi d : Int) (w : World) (h0 : 0 < l) (hl : l < 9223372036854775808) :
    Calls Try.prog 31 #[.agg #[.int .i64 (l : Nat), .int .i64 hi, .int .i64 d]] w fun e w' => e = .returned (.int .i64 (unt l : Nat)) ∧ Fr S0 w w' := by
  have hL : Lib.bitLen l ≤ 64 := (bits_iff l 64 (by omega)).2 (by omega)
  have hL0 : ¬ Lib.bitLen l ≤ 0 := by rw [bits_iff l 0 (by omega)]; have := two_pos 0; simp; omega
  have HL := Lib.hid (fun W => bits_Len64 (l : Int) W (by omega) (by omega))
  rw [show ((l : Int).toNat) = l by omega] at HL
  rw [unt]
  obtain ⟨L, eL⟩ : ∃ L, Lib.bitLen l = L := ⟨_, rfl⟩
  rw [eL] at HL hL hL0 ⊢
  obtain ⟨U, eU⟩ : ∃ U, L - 1 = U := ⟨_, rfl⟩
  have e1 : (L : Int) - 1 = (U : Int) := by omega
  have hU : U ≤ 64 := by omega
  rw [eU]
  clear eL hL hL0 eU h0
  go_enter Try.func31, Try.ntmps31
  go_wp2_with fail
  refine (HL.out _).mono ?_
  rintro e w1 ⟨rfl, rfl⟩
  go_wp2_with fail
  go_ret
  exact ⟨rfl, Fr.alloc _ _ _⟩

set_option maxRecDepth 100000 in
set_option maxHeartbeats 400000 in
theorem magnitude_of (lo hi : Int) (D : Nat) (w : World) (h1 : 1 ≤ D) (h5 : D ≤ 5) :
    Calls Try.prog 32 #[.agg #[.int .i64 lo, .int .i64 hi, .int .i64 (D : Nat)]] w fun e w' => e = .returned (.int .i64 (mag D : Nat)) ∧ Fr S0 w w' := by
  have hp : 10 ^ D ≤ 10 ^ 5 := Nat.pow_le_pow_right (by decide) h5
  have hp0 : 0 < 10 ^ D := Nat.pow_pos (by decide)
  have HP := Lib.hid (fun W => power_yes D W (by omega))
  have HL := Lib.hid (fun W => bits_Len64 ((2 * 10 ^ D - 1 : Nat) : Int) W (by omega) (by omega))
  rw [show (((2 * 10 ^ D - 1 : Nat) : Int).toNat) = 2 * 10 ^ D - 1 by omega] at HL
  have hm := mag_bd D h1 h5
  rw [mag] at hm ⊢
  obtain ⟨L, eL⟩ : ∃ L, Lib.bitLen (2 * 10 ^ D - 1) = L := ⟨_, rfl⟩
  rw [eL] at HL hm ⊢
  obtain ⟨P, eP⟩ : ∃ P, 10 ^ D = P := ⟨_, rfl⟩
  rw [eP] at HP HL hp hp0
  obtain ⟨Q, eQ⟩ : ∃ Q, 2 * P = Q := ⟨_, rfl⟩
  rw [eQ] at HL
  obtain ⟨R, eR⟩ : ∃ R, Q - 1 = R := ⟨_, rfl⟩
  rw [eR] at HL
  have e1 : 2 * (P : Int) = (Q : Int) := by omega
  have e2 : (Q : Int) - 1 = (R : Int) := by omega
  have hQ : Q ≤ 200000 := by omega
  have hR : R ≤ 200000 := by omega
  clear eL eP eQ eR h1 h5 hp hp0
  go_enter Try.func32, Try.ntmps32
  go_wp2_with fail
  refine (HP.out _).mono ?_
  rintro e w1 ⟨rfl, f1⟩
  have F1 := Lib.hid ((Fr.alloc S0 _ _).trans0 f1)
  clear f1
  go_wp2_with fail
  refine (HL.out _).mono ?_
  rintro e w2 ⟨rfl, rfl⟩
  go_wp2_with fail
  go_ret
  exact ⟨rfl, F1.out⟩

theorem box3 (w : World) (a b c : Value) (t : TypeId) : (w.alloc (.cells #[a, b, c] t)).cell? ⟨w.heap.size, 0, none⟩ = some a ∧ (w.alloc (.cells #[a, b, c] t)).cell? ⟨w.heap.size, 1, none⟩ = some b ∧ (w.alloc (.cells #[a, b, c] t)).cell? ⟨w.heap.size, 2, none⟩ = some c := by
  have hb0 := heap_alloc_new w (.cells #[a, b, c] t)
  exact ⟨by rw [World.cell?, hb0]; rfl, by rw [World.cell?, hb0]; rfl, by rw [World.cell?, hb0]; rfl⟩

set_option maxRecDepth 100000 in
set_option maxHeartbeats 400000 in
theorem maybe_no (lo hi d : Int) (w : World) (h : ¬ May lo hi d) (hh : -9223372036854775808 ≤ hi ∧ hi ≤ 9223372036854775807) :
    Calls Try.prog 30 #[.agg #[.int .i64 lo, .int .i64 hi, .int .i64 d]] w fun e w' => e = .returned (.bool false) ∧ Fr S0 w w' := by
  unfold May at h
  by_cases h1 : d < 1
  · clear h
    go_enter Try.func30, Try.ntmps30
    go_wp2_with fail
    go_ret
    exact ⟨rfl, Fr.alloc _ _ _⟩
  · by_cases h2 : 5 < d
    · clear h
      go_enter Try.func30, Try.ntmps30
      go_wp2_with fail
      go_ret
      exact ⟨rfl, Fr.alloc _ _ _⟩
    · by_cases h3 : lo < 1
      · clear h
        go_enter Try.func30, Try.ntmps30
        go_wp2_with fail
        go_ret
        exact ⟨rfl, Fr.alloc _ _ _⟩
      · obtain ⟨H, hH⟩ : ∃ H, hi.tdiv 2 = H := ⟨_, rfl⟩
        have hH3 : H ≤ hi / 2 + 1 ∧ hi / 2 ≤ H ∧ (0 ≤ hi → H = hi / 2) ∧ (hi < 0 → H ≤ 0) := by
          by_cases hs : 0 ≤ hi
          · rw [Int.tdiv_eq_ediv_of_nonneg hs] at hH; omega
          · obtain ⟨k, rfl⟩ : ∃ k : Nat, hi = -(k : Int) := ⟨hi.natAbs, by omega⟩
            rw [Int.neg_tdiv, Int.tdiv_eq_ediv_of_nonneg (by omega)] at hH; omega
        have h4 : H < lo := by omega
        have hH2 : -9223372036854775808 ≤ H ∧ H ≤ 9223372036854775807 := by omega
        clear h hh hH3
        go_enter Try.func30, Try.ntmps30
        go_wp2_with fail
        go_ret
        exact ⟨rfl, Fr.alloc _ _ _⟩

set_option maxRecDepth 100000 in
set_option maxHeartbeats 400000 in
theorem maybe_yes (l h D : Nat) (w : World) (h1 : 1 ≤ D) (h5 : D ≤ 5) (h0 : 0 < l) (hh : 2 * l ≤ h) (hb : h < 9223372036854775808) :
    Calls Try.prog 30 #[.agg #[.int .i64 (l : Nat), .int .i64 (h : Nat), .int .i64 (D : Nat)]] w fun e w' => e = .returned (.bool (decide (unt l + mag D ≤ 62))) ∧ Fr S0 w w' := by
  have HU := Lib.hid (fun W => unit_of l (h : Int) (D : Int) W h0 (by omega))
  have HM := Lib.hid (fun W => magnitude_of (l : Int) (h : Int) D W h1 h5)
  have hU := unt_bd l (by omega)
  have hM := (mag_bd D h1 h5).2
  obtain ⟨U, eU⟩ : ∃ U, unt l = U := ⟨_, rfl⟩
  obtain ⟨M, eM⟩ : ∃ M, mag D = M := ⟨_, rfl⟩
  rw [eU] at HU hU ⊢
  rw [eM] at HM hM ⊢
  obtain ⟨S, eS⟩ : ∃ S, U + M = S := ⟨_, rfl⟩
  rw [eS]
  have e1 : (U : Int) + (M : Int) = (S : Int) := by omega
  have w1 : IntKind.i64.wrap (S : Int) = (S : Int) := by rw [IntKind.wrap_i64]; omega
  obtain ⟨H, hH⟩ : ∃ H, h / 2 = H := ⟨_, rfl⟩
  have e2 : (h : Int) / 2 = (H : Int) := by omega
  have h4 : l ≤ H := by omega
  have eb : decide ((S : Int) ≤ 62) = decide (S ≤ 62) := decide_eq_decide.2 (by omega)
  have HC := Lib.hid (box3 w (.int .i64 (l : Nat)) (.int .i64 (h : Nat)) (.int .i64 (D : Nat)) 23)
  clear eU eM eS hU hM hh hH
  go_enter Try.func30, Try.ntmps30
  go_upto_region 7 with fail
  go_region_held3 (fun w' => w'.cell? ⟨w.heap.size, 0, none⟩ = some (.int .i64 (l : Nat)) ∧ w'.cell? ⟨w.heap.size, 1, none⟩ = some (.int .i64 (h : Nat)) ∧ w'.cell? ⟨w.heap.size, 2, none⟩ = some (.int .i64 (D : Nat)))
    (first
      | (go_split_ands; exact ⟨by assumption, by assumption, by assumption⟩)
      | exact HC.out
      | (go_split_ands; exact ⟨f9.cell (by assumption) (fun h => h), f9.cell (by assumption) (fun h => h), f9.cell (by assumption) (fun h => h)⟩))
    (first
      | (go_at_call 31; ((with_reducible refine (HU.out _).mono ?_); rintro _ w3 ⟨rfl, f9⟩; have F9 := Lib.hid f9))
      | (go_at_call 32; ((with_reducible refine (HM.out _).mono ?_); rintro _ w4 ⟨rfl, f9⟩; have F8 := Lib.hid f9)))
  all_goals
    go_wp2_with fail
    go_ret
    first
      | exact ⟨rfl, (Fr.alloc S0 _ _).trans0 ((Fr.drew _ _).trans0 (F9.out.trans0 F8.out))⟩
      | exact ⟨rfl, (Fr.alloc S0 _ _).trans0 ((Fr.drew _ _).trans0 (F8.out.trans0 F9.out))⟩

/-- what New makes -/
structure NewM (w w' : World) (g : Nat) (lo hi d : Int) (u m : Nat) : Prop where
  map : MapIs w' g lo hi d u m
  new : w.heap.size ≤ g
  fr : Fr S0 w w'

set_option maxRecDepth 100000 in
set_option maxHeartbeats 400000 in
theorem new_no (lo hi d : Int) (w : World) (h : ¬ May lo hi d) (hh : -9223372036854775808 ≤ hi ∧ hi ≤ 9223372036854775807) :
    Calls Try.prog 9 #[.agg #[.int .i64 lo, .int .i64 hi, .int .i64 d]] w fun e w' => e = .returned (.tuple #[.pointer none, .int .i64 1]) ∧ Fr S0 w w' := by
  have HM := Lib.hid (fun W => maybe_no lo hi d W h hh)
  clear h hh
  go_enter Try.func9, Try.ntmps9
  go_wp2_with fail
  refine (HM.out _).mono ?_
  rintro e w1 ⟨rfl, f1⟩
  have F1 := Lib.hid ((Fr.alloc S0 _ _).trans0 f1)
  clear f1
  go_wp2_with fail
  go_ret2
  exact ⟨rfl, F1.out⟩

set_option maxRecDepth 100000 in
set_option maxHeartbeats 400000 in
theorem new_big (l h D : Nat) (w : World) (h1 : 1 ≤ D) (h5 : D ≤ 5) (h0 : 0 < l) (hh : 2 * l ≤ h) (hb : h < 9223372036854775808) (hs : 62 < unt l + mag D) :
    Calls Try.prog 9 #[.agg #[.int .i64 (l : Nat), .int .i64 (h : Nat), .int .i64 (D : Nat)]] w fun e w' => e = .returned (.tuple #[.pointer none, .int .i64 1]) ∧ Fr S0 w w' := by
  have HM := Lib.hid (fun W => maybe_yes l h D W h1 h5 h0 hh hb)
  rw [show decide (unt l + mag D ≤ 62) = false from decide_eq_false (by omega)] at HM
  clear h1 h5 h0 hh hb hs
  go_enter Try.func9, Try.ntmps9
  go_wp2_with fail
  refine (HM.out _).mono ?_
  rintro e w1 ⟨rfl, f1⟩
  have F1 := Lib.hid ((Fr.alloc S0 _ _).trans0 f1)
  clear f1
  go_wp2_with fail
  go_ret2
  exact ⟨rfl, F1.out⟩

set_option maxRecDepth 100000 in
set_option maxHeartbeats 400000 in
theorem new_yes (l h D : Nat) (w : World) (h1 : 1 ≤ D) (h5 : D ≤ 5) (h0 : 0 < l) (hh : 2 * l ≤ h) (hb : h < 9223372036854775808) (hs : unt l + mag D ≤ 62) :
    Calls Try.prog 9 #[.agg #[.int .i64 (l : Nat), .int .i64 (h : Nat), .int .i64 (D : Nat)]] w fun e w' => ∃ g, e = .returned (.tuple #[.pointer (some ⟨g, 0, none⟩), .int .i64 0]) ∧ NewM w w' g (l : Nat) (h : Nat) (D : Nat) (unt l) (mag D) := by
  have HB := Lib.hid (fun W => maybe_yes l h D W h1 h5 h0 hh hb)
  rw [show decide (unt l + mag D ≤ 62) = true from decide_eq_true (by omega)] at HB
  have HU := Lib.hid (fun W => unit_of l (h : Int) (D : Int) W h0 (by omega))
  have HM := Lib.hid (fun W => magnitude_of (l : Int) (h : Int) D W h1 h5)
  have hM := mag_bd D h1 h5
  obtain ⟨U, eU⟩ : ∃ U, unt l = U := ⟨_, rfl⟩
  obtain ⟨M, eM⟩ : ∃ M, mag D = M := ⟨_, rfl⟩
  rw [eU] at HU hs ⊢
  rw [eM] at HM hM hs ⊢
  have HK := Lib.hid (And.intro hM hs)
  have HC := Lib.hid (box3 w (.int .i64 (l : Nat)) (.int .i64 (h : Nat)) (.int .i64 (D : Nat)) 23)
  clear eU eM hM hs h1 h5 h0 hh hb
  go_enter Try.func9, Try.ntmps9
  go_wp2_with fail
  refine (HB.out _).mono ?_
  rintro e w1 ⟨rfl, f1⟩
  have F1 := Lib.hid ((Fr.alloc S0 _ _).trans0 f1)
  have HC1 := Lib.hid (And.intro (f1.cell HC.out.1 (fun h => h)) (And.intro (f1.cell HC.out.2.1 (fun h => h)) (f1.cell HC.out.2.2 (fun h => h))))
  clear f1 HC
  go_upto_region 9 with fail
  go_region_held3 (fun w' => w'.cell? ⟨w.heap.size, 0, none⟩ = some (.int .i64 (l : Nat)) ∧ w'.cell? ⟨w.heap.size, 1, none⟩ = some (.int .i64 (h : Nat)) ∧ w'.cell? ⟨w.heap.size, 2, none⟩ = some (.int .i64 (D : Nat)))
    (first
      | (go_split_ands; exact ⟨by assumption, by assumption, by assumption⟩)
      | exact HC1.out
      | (go_split_ands; exact ⟨f9.cell (by assumption) (fun h => h), f9.cell (by assumption) (fun h => h), f9.cell (by assumption) (fun h => h)⟩)
      | (go_split_ands; exact ⟨(Fr.alloc S0 _ _).cell (by assumption) (fun h => h), (Fr.alloc S0 _ _).cell (by assumption) (fun h => h), (Fr.alloc S0 _ _).cell (by assumption) (fun h => h)⟩))
    (first
      | (go_at_call 31; ((with_reducible refine (HU.out _).mono ?_); rintro _ w3 ⟨rfl, f9⟩; have F9 := Lib.hid f9))
      | (go_at_call 32; ((with_reducible refine (HM.out _).mono ?_); rintro _ w4 ⟨rfl, f9⟩; have F8 := Lib.hid f9)))
  all_goals
    go_wp2_with fail
    go_ret2
    have F := F1.out.trans0 ((Fr.drew _ _).trans0 (F9.out.trans0 F8.out))
    exact ⟨_, rfl, ⟨heap_alloc_new _ _, HK.out.1.1, HK.out.1.2, HK.out.2⟩, F.size, F.trans0 (Fr.alloc _ _ _)⟩
end Go.Proofs.Ytggpnjiankejmaa
