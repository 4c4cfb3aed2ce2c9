/- The code's lists by size: a place is searched, two lists are merged, one is copied. -/
import Derived.Test.YtbpfmjekpjfceaaKcMath
import Derived.Test.YtbpfmjekpjfceaaKlRow
import Derived.Deep.RegionLaw
import Derived.Deep.RegionHeld3
import Derived.BigRegion
namespace Go.Proofs.Ytbpfmjekpjfceaa
open Go.RowKit

set_option maxRecDepth 100000 in
set_option maxHeartbeats 400000 in
theorem isnan_no (a : Int) (w : World) : Calls Try.prog 78 #[.int .i64 a] w fun e w' => e = .returned (.bool false) ∧ w = w' := by
  have h : (a != a) = false := by simp
  go_enter Try.func78, Try.ntmps78
  go_wp2_with fail
  go_ret
  exact ⟨by simp, rfl⟩
set_option maxRecDepth 100000 in
set_option maxHeartbeats 400000 in
theorem isnan2_no (a : Int) (w : World) : Calls Try.prog 108 #[.int .i64 a] w fun e w' => e = .returned (.bool false) ∧ w = w' := by
  have h : (a != a) = false := by simp
  go_enter Try.func108, Try.ntmps108
  go_wp2_with fail
  go_ret
  exact ⟨by simp, rfl⟩
set_option maxRecDepth 100000 in
set_option maxHeartbeats 400000 in
theorem less_any (a b : Int) (w : World) : Calls Try.prog 80 #[.int .i64 a, .int .i64 b] w fun e w' => e = .returned (.bool (decide (a < b))) ∧ w = w' := by
  have HA := Lib.hid (isnan_no a w)
  have HB := Lib.hid (isnan_no b w)
  by_cases h : a < b
  · have k : decide (a < b) = true := decide_eq_true h
    rw [k]
    go_enter Try.func80, Try.ntmps80
    go_wp2_with fail
    refine HA.out.mono ?_
    rintro e w1 ⟨rfl, rfl⟩
    go_wp2_with fail
    go_ret
    exact ⟨rfl, rfl⟩
  · have k : decide (a < b) = false := decide_eq_false h
    rw [k]
    go_enter Try.func80, Try.ntmps80
    go_wp2_with fail
    refine HA.out.mono ?_
    rintro e w1 ⟨rfl, rfl⟩
    go_wp2_with fail
    go_ret
    exact ⟨rfl, rfl⟩
theorem Asc.at {l : List Int} (h : Asc l) (i j : Nat) (hij : i ≤ j) (hj : j < l.length) : l[i]'(by omega) ≤ l[j] := by
  by_cases e : i = j
  · subst e; exact Int.le_refl _
  · exact List.pairwise_iff_getElem.1 h i j (by omega) hj (by omega)
/-- is it there? -/
def fndB (v : Int) (l : List Int) : Bool := l[lbz v l]? == some v
set_option maxRecDepth 100000 in
set_option maxHeartbeats 2000000 in
/-- the first place whose value isn't less -/
theorem bsearch_any (p : Option Addr) (n c : Nat) (l : List Int) (v : Int) (w : World) (h : Sz w p n c l) (ha : Asc l) (hN : n ≤ 1000000000000) :
    Calls Try.prog 90 #[.slice p n c, .int .i64 v] w fun e w' => e = .returned (.tuple #[.int .i64 (lbz v l : Nat), .bool (fndB v l)]) ∧ Fr S0 w w' := by
  have HS := Lib.hid h
  have HA := Lib.hid ha
  have HL := Lib.hid h.len
  clear h ha
  have hNi : (n : Int) ≤ 1000000000000 := by omega
  go_enter Try.func90, Try.ntmps90
  go_wp2_with fail
  go_loopw [7, 8, 9] (fun a b _ wr => ∃ i j : Nat, i ≤ j ∧ j ≤ n ∧ a = .int .i64 i ∧ b = .int .i64 j ∧ Hid (∀ k, (hk : k < l.length) → k < i → l[k] < v) ∧ Hid (∀ k, (hk : k < l.length) → j ≤ k → v ≤ l[k]) ∧ Hid (Fr S0 w wr)) (fun a b _ _ => (intOf b).toNat - (intOf a).toNat)
  case atStart => exact ⟨0, n, by omega, by omega, rfl, rfl, Lib.hid fun k _ hk => absurd hk (Nat.not_lt_zero k), Lib.hid fun k h1 h2 => by have := HL.out; omega, Lib.hid (Fr.refl _ _)⟩
  case round =>
    obtain ⟨i, j, hij, hjn, rfl, rfl, h1, h2, hfr⟩ := hrel
    by_cases hlt : (i : Int) < (j : Int)
    · obtain ⟨h, hh⟩ : ∃ h, (i + j) / 2 = h := ⟨_, rfl⟩
      have hih : i ≤ h := by omega
      have hhj : h < j := by omega
      have e1 : ((i : Int) + (j : Int)) / 2 ^ 1 = (h : Int) := by omega
      have e2 : ((i : Int) + (j : Int)) / 2 = (h : Int) := by omega
      have hs : (i : Int) + (j : Int) < 9223372036854775808 := by omega
      have hhl : h < l.length := by rw [HL.out]; omega
      obtain ⟨b, o, rfl, d0⟩ := (HS.out.fr0 hfr.out).at h hhl
      obtain ⟨x, hx⟩ : ∃ x, l[h] = x := ⟨_, rfl⟩
      rw [hx] at d0
      have hhn : (h : Int) < (n : Int) := by omega
      have hh0 : (0 : Int) ≤ (h : Int) := by omega
      have HC := Lib.hid (fun W => less_any x v W)
      have HX := Lib.hid hx
      clear hx hh
      by_cases hv : x < v
      · have kv : decide (x < v) = true := decide_eq_true hv
        rw [kv] at HC
        have HV := Lib.hid hv
        clear hv kv
        go_wp2_with fail
        refine (HC.out _).mono ?_
        rintro e w1 ⟨rfl, rfl⟩
        go_wp2_with fail
        go_roundw
        case rel => exact ⟨h + 1, j, by omega, by omega, by go_num, rfl, Lib.hid (fun k hk hkh => by
            have := HA.out.at k h (by omega) hhl
            have := HX.out
            have := HV.out
            omega), h2, hfr⟩
        case measure => simp [intOf]; omega
      · have kv : decide (x < v) = false := decide_eq_false hv
        rw [kv] at HC
        have HV := Lib.hid hv
        clear hv kv
        go_wp2_with fail
        refine (HC.out _).mono ?_
        rintro e w1 ⟨rfl, rfl⟩
        go_wp2_with fail
        go_roundw
        case rel => exact ⟨i, h, by omega, by omega, rfl, rfl, h1, Lib.hid (fun k hk hkh => by
            have := HA.out.at h k hkh hk
            have := HX.out
            have := HV.out
            omega), hfr⟩
        case measure => simp [intOf]; omega
    · obtain rfl : i = j := by omega
      have HI : Hid (lbz v l = i) := Lib.hid (lbz_is v l i (by rw [HL.out]; omega) (fun j hj hji => h1.out j hj hji) fun hi => h2.out i hi (Nat.le_refl _))
      clear h1 h2
      by_cases hin : i < n
      · have hil : i < l.length := by rw [HL.out]; omega
        obtain ⟨b, o, rfl, d0⟩ := (HS.out.fr0 hfr.out).at i hil
        obtain ⟨x, hx⟩ : ∃ x, l[i] = x := ⟨_, rfl⟩
        rw [hx] at d0
        have kin : decide (i < n) = true := decide_eq_true hin
        have hini : (i : Int) < (n : Int) := by omega
        have hi0 : (0 : Int) ≤ (i : Int) := by omega
        have HNA := Lib.hid (isnan2_no x)
        have HX := Lib.hid hx
        clear hx
        by_cases hxv : x = v
        · have HB : Hid (fndB v l = true) := Lib.hid (by unfold fndB; rw [HI.out, List.getElem?_eq_getElem hil, HX.out, hxv]; simp)
          have k1 : (x == v) = true := by simp [hxv]
          clear hxv
          go_wp2_with fail
          go_ret2
          exact ⟨by rw [HI.out, HB.out]; rfl, hfr.out⟩
        · have HB : Hid (fndB v l = false) := Lib.hid (by unfold fndB; rw [HI.out, List.getElem?_eq_getElem hil, HX.out]; simp [hxv])
          have k1 : (x == v) = false := by simp [hxv]
          clear hxv
          go_wp2_with fail
          refine (HNA.out _).mono ?_
          rintro e w1 ⟨rfl, rfl⟩
          go_wp2_with fail
          go_ret2
          exact ⟨by rw [HI.out, HB.out]; rfl, hfr.out⟩
      · have kin : decide (i < n) = false := decide_eq_false hin
        have HB : Hid (fndB v l = false) := Lib.hid (by unfold fndB; rw [HI.out, List.getElem?_eq_none (by rw [HL.out]; omega)]; rfl)
        clear hlt hin
        go_wp2_with fail
        go_ret2
        exact ⟨by rw [HI.out, HB.out]; rfl, hfr.out⟩
end Go.Proofs.Ytbpfmjekpjfceaa
