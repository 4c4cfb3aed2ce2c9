/- Places are sought by halves: sort.Search, place; what a list has below a key, and up to it. -/
import Derived.Test.YtegdhggilaehdaaSpList
import Derived.Deep.RegionLaw
import Derived.Deep.RegionHeld3
namespace Go.Proofs.Ytegdhggilaehdaa
open Go.RowKit

def Has (B : Nat) : Prop := ∀ (args : Array Value) (w : World), (callFunc B args).run Try.prog w = .ok (.enter B args) w
set_option maxRecDepth 100000 in
set_option maxHeartbeats 1000000 in
theorem search_any (B : Nat) (x y : Value) (p : Nat → Bool) (n : Nat) (w : World) (hB : Has B) (hn : n ≤ 1000000000) (mono : ∀ i j, i ≤ j → j < n → p i = true → p j = true)
    (hf : ∀ h, h < n → ∀ W, Fr S0 w W → Calls Try.prog B #[.int .i64 (h : Nat), x, y] W fun e w' => e = .returned (.bool (p h)) ∧ Fr S0 W w') :
    Calls Try.prog 42 #[.int .i64 (n : Nat), .func (.func B) #[] #[x, y]] w fun e w' => ∃ i : Nat, e = .returned (.int .i64 (i : Nat)) ∧ i ≤ n ∧ (∀ j, j < i → p j = false) ∧ (∀ j, i ≤ j → j < n → p j = true) ∧ Fr S0 w w' := by
  have HB := Lib.hid hB
  have HM := Lib.hid mono
  have HF := Lib.hid hf
  clear hB mono hf
  go_enter Try.func42, Try.ntmps42
  go_wp2_with fail
  go_loopw [5, 6, 7] (fun a b _ wr => ∃ i j : Nat, i ≤ j ∧ j ≤ n ∧ a = .int .i64 i ∧ b = .int .i64 j ∧ Hid (∀ k, k < i → p k = false) ∧ Hid (∀ k, j ≤ k → k < n → p k = true) ∧ Hid (Fr S0 w wr)) (fun a b _ _ => (intOf b).toNat - (intOf a).toNat)
  case atStart => exact ⟨0, n, by omega, by omega, rfl, rfl, Lib.hid fun k hk => absurd hk (Nat.not_lt_zero k), Lib.hid fun k h1 h2 => by omega, Lib.hid (Fr.refl _ _)⟩
  case round =>
    obtain ⟨i, j, hij, hjn, rfl, rfl, h1, h2, hfr⟩ := hrel
    by_cases hlt : (i : Int) < (j : Int)
    · obtain ⟨h, hh⟩ : ∃ h, (i + j) / 2 = h := ⟨_, rfl⟩
      have hih : i ≤ h := by omega
      have hhj : h < j := by omega
      have e1 : ((i : Int) + (j : Int)) / 2 ^ 1 = (h : Int) := by omega
      have e2 : ((i : Int) + (j : Int)) / 2 = (h : Int) := by omega
      have hs : (i : Int) + (j : Int) < 9223372036854775808 := by omega
      have hcf := HB.out #[.int .i64 (h : Int), x, y] wr
      have HC := Lib.hid (HF.out h (by omega) wr hfr.out)
      obtain ⟨q, hq⟩ : ∃ q, p h = q := ⟨_, rfl⟩
      rw [hq] at HC
      have HQ := Lib.hid hq
      clear hq hh
      cases q with
      | true =>
        go_wp2_with fail
        refine HC.out.mono ?_
        rintro e w1 ⟨rfl, f1⟩
        have HF1 := Lib.hid (hfr.out.trans0 f1)
        clear HC f1 hcf
        go_wp2_with fail
        go_roundw
        case rel => exact ⟨i, h, by omega, by omega, rfl, rfl, h1, Lib.hid fun k hk hkn => HM.out h k hk hkn HQ.out, HF1⟩
        case measure => simp [intOf]; omega
      | false =>
        go_wp2_with fail
        refine HC.out.mono ?_
        rintro e w1 ⟨rfl, f1⟩
        have HF1 := Lib.hid (hfr.out.trans0 f1)
        clear HC f1 hcf
        go_wp2_with fail
        go_roundw
        case rel => exact ⟨h + 1, j, by omega, by omega, by go_num, rfl, Lib.hid (fun k hk => by
            by_cases e : p k = true
            · have := HM.out k h (by omega) (by omega) e
              rw [HQ.out] at this
              cases this
            · simpa using e), h2, HF1⟩
        case measure => simp [intOf]; omega
    · obtain rfl : i = j := by omega
      go_wp2_with fail
      go_ret
      exact ⟨i, rfl, hjn, h1.out, h2.out, hfr.out⟩

/-- a closure that holds a key against another one -/
def Asks (C : Nat) (k : Int) (q : Int → Bool) : Prop := ∀ (b : Nat) (x : Int) (W : World), W.cell? ⟨b, 0, none⟩ = some (.int .i64 k) → Calls Try.prog C #[.int .i64 x, .pointer (some ⟨b, 0, none⟩)] W fun e w' => e = .returned (.bool (q x)) ∧ W = w'
/-- what is seen of a list: its row -/
def Seen (w : World) (g : Nat) (l : List Pr) : Prop := ∃ p n c, w.cell? ⟨g, 0, none⟩ = some (.slice p n c) ∧ PrI w p l ∧ l.length = n ∧ Srt l ∧ n ≤ 2097153
theorem Seen.fr0 {w w' : World} {g : Nat} {l : List Pr} (s : Seen w g l) (f : Fr S0 w w') : Seen w' g l := let ⟨p, n, c, h1, h2, h3⟩ := s; ⟨p, n, c, f.cell h1 (fun h => h), h2.fr0 f, h3⟩

section
variable (C b g bg bf : Nat) (k : Int) (q : Int → Bool) (l : List Pr) (w : World)
end
end Go.Proofs.Ytegdhggilaehdaa
