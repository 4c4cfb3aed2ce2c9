/- The code's rooms; the least level that is too full. -/
import Derived.Test.YtbpfmjekpjfceaaKcRooms
namespace Go.Proofs.Ytbpfmjekpjfceaa
open Go.RowKit

theorem xrooms_any (g n c k T E : Nat) (C D : Nat → Prop) (p : Option Addr) (rs : List Sv) (L : Lv) (w : World) (s : KsIs w g C D p n c rs k L T E) (hn : n ≤ 100000) (hk : k ≤ 100000) (hk2 : 2 ≤ k) :
    Calls Try.prog 60 #[.pointer (some ⟨g, 0, none⟩)] w fun e W' => ∃ b, e = .returned (.slice (some ⟨b, 0, none⟩) n n) ∧ (∀ i, i < n → W'.cell? ⟨b, i, none⟩ = some (.int .i64 (room k n i : Nat))) ∧ Fr S0 w W' :=
  (callsIn_wide.1 (rooms_in g n c k T E C D p rs L w s hn hk hk2)).mono fun e W' h => by
    obtain ⟨b, h1, -, h3, h4⟩ := h
    refine ⟨b, h1, fun i hi => ?_, Fr.ofBelow h4⟩
    have := row_cell h3 i (by simp [rooms, hi])
    simpa [rooms] using this
/-- the least level that is too full, or -1 -/
def ovI (k : Nat) (L : Lv) : Int := match over k L with
  | some h => (h : Int)
  | none => -1
section
variable (g k T E : Nat) (C D : Nat → Prop) (L : Lv) (w : World)
set_option maxRecDepth 100000 in
set_option maxHeartbeats 4000000 in
theorem xcrowded_any (s : KsS w g C D k L T E) (hn : L.length ≤ 100000) (hk : k ≤ 100000) (hk2 : 2 ≤ k) :
    Calls Try.prog 62 #[.pointer (some ⟨g, 0, none⟩)] w fun e w' => e = .returned (.int .i64 (ovI k L)) ∧ Fr S0 w w' := by
  obtain ⟨p, n, c, rs, s⟩ := s
  have hlen := s.len
  rw [hlen] at hn
  have HRM := Lib.hid (xrooms_any g n c k T E C D p rs L w s hn hk hk2)
  have HS := Lib.hid s
  have HL := Lib.hid hlen
  have hni : (n : Int) ≤ 100000 := by omega
  clear s hlen hk hk2
  go_enter Try.func62, Try.ntmps62
  go_wp2_with fail
  refine HRM.out.mono ?_
  rintro e w1 ⟨b, rfl, hrow, f1⟩
  have HROW := Lib.hid hrow
  have S1 := Lib.hid (HS.out.fr0 f1)
  have F1 := Lib.hid f1
  have c1 := S1.out.c1
  clear hrow f1 HRM
  go_wp2_with fail
  go_loopw [3, 4, 8] (fun _ _ z wr => ∃ i : Nat, z = .int .i64 i ∧ i ≤ n ∧ Hid (∀ j, (hj : j < L.length) → j < i → L[j].length ≤ room k L.length j) ∧ wr = w1) (fun _ _ z _ => n - (intOf z).toNat)
  case atStart => exact ⟨0, rfl, Nat.zero_le _, Lib.hid fun j _ h => absurd h (Nat.not_lt_zero _), rfl⟩
  case round =>
    obtain ⟨i, rfl, hi, hle, rfl⟩ := hrel
    by_cases hlt : (i : Int) < (n : Int)
    · have hil : i < L.length := by rw [HL.out]; omega
      obtain ⟨b1, rfl, -, -, q, m, d, ch, z, -, -⟩ := S1.out.lev i hil
      have k1 := HROW.out i (by omega)
      have hi0 : (0 : Int) ≤ (i : Int) := by omega
      have hm := z.len
      have HM := Lib.hid hm
      obtain ⟨R, hR⟩ : ∃ R, room k n i = R := ⟨_, rfl⟩
      rw [hR] at k1
      have HR : Hid (room k L.length i = R) := Lib.hid (by rw [HL.out]; exact hR)
      clear hR hm z
      by_cases hov : R < m
      · have kov : decide (R < m) = true := decide_eq_true hov
        have hovi : (R : Int) < (m : Int) := by omega
        have HO : Hid (ovI k L = (i : Int)) := Lib.hid (by
          unfold ovI
          rw [over_is hil (by rw [HR.out, HM.out]; exact hov) fun j hj => hle.out j (by omega) hj])
        clear hle hov
        go_wp2_with fail
        go_ret
        exact ⟨by rw [HO.out]; rfl, F1.out⟩
      · have kov : decide (R < m) = false := decide_eq_false hov
        have HLE : Hid (∀ j, (hj : j < L.length) → j < i + 1 → L[j].length ≤ room k L.length j) := Lib.hid fun j hj hj2 => by
          rcases (by omega : j < i ∨ j = i) with h | rfl
          · exact hle.out j hj h
          · rw [HR.out, HM.out]; omega
        clear hle hov
        go_wp2_with fail
        go_roundw
        case rel => exact ⟨i + 1, by go_num, by omega, HLE, trivial⟩
        case measure => simp [intOf]; omega
    · obtain rfl : i = n := by omega
      have HO : Hid (ovI k L = -1) := Lib.hid (by
        unfold ovI
        rw [over_no fun j hj => hle.out j hj (by rw [HL.out] at hj; exact hj)])
      clear hle
      go_wp2_with fail
      go_ret
      exact ⟨by rw [HO.out]; rfl, F1.out⟩
set_option maxRecDepth 100000 in
set_option maxHeartbeats 4000000 in
theorem xroom_any (h : Nat) (s : KsS w g C D k L T E) (hn : L.length ≤ 100000) (hk : k ≤ 100000) (hk2 : 2 ≤ k) :
    Calls Try.prog 34 #[.pointer (some ⟨g, 0, none⟩), .int .i64 (h : Nat)] w fun e w' => e = .returned (.int .i64 (room k L.length h : Nat)) ∧ Fr S0 w w' := by
  obtain ⟨p, n, c, rs, s⟩ := s
  have hlen := s.len
  rw [hlen] at hn ⊢
  have c1 := s.c1
  have k0 : decide ((h : Int) < 0) = false := decide_eq_false (by omega)
  have HRM := Lib.hid (xrooms_any g n c k T E C D p rs L w s hn hk hk2)
  obtain ⟨R, hR⟩ : ∃ R, room k n h = R := ⟨_, rfl⟩
  have HR := Lib.hid hR
  by_cases hh : h < n
  · have k1 : decide (n ≤ h) = false := decide_eq_false (by omega)
    have hhi : (h : Int) < (n : Int) := by omega
    have hh0 : (0 : Int) ≤ (h : Int) := by omega
    rw [hR]
    clear s hR hk hk2
    go_enter Try.func34, Try.ntmps34
    go_wp2_with fail
    refine HRM.out.mono ?_
    rintro e w1 ⟨b, rfl, hrow, f1⟩
    have r1 := hrow h hh
    rw [HR.out] at r1
    clear hrow c1
    go_wp2_with fail
    go_ret
    exact ⟨rfl, f1⟩
  · have k1 : decide (n ≤ h) = true := decide_eq_true (by omega)
    have e0 : R = 0 := by rw [← hR]; unfold room; rw [if_neg hh]
    rw [hR, e0]
    clear s hR hk hk2 HRM HR e0
    go_enter Try.func34, Try.ntmps34
    go_wp2_with fail
    go_ret
    exact ⟨rfl, Fr.refl _ _⟩
set_option maxRecDepth 100000 in
set_option maxHeartbeats 1000000 in
theorem xroom_neg : Calls Try.prog 34 #[.pointer (some ⟨g, 0, none⟩), .int .i64 (-1)] w fun e w' => e = .returned (.int .i64 0) ∧ w = w' := by
  go_enter Try.func34, Try.ntmps34
  go_wp2_with fail
  go_ret
  exact ⟨rfl, rfl⟩
end
end Go.Proofs.Ytbpfmjekpjfceaa
