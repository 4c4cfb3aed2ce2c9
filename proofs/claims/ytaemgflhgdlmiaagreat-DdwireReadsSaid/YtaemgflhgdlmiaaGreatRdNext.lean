import Derived.Test.YtaemgflhgdlmiaaGreatPw1
import Derived.Test.YtaemgflhgdlmiaaGreatPw2
import Derived.Test.YtaemgflhgdlmiaaGreatPw3
import Derived.Test.YtaemgflhgdlmiaaGreatPw4
import Derived.Test.YtaemgflhgdlmiaaGreatPw5
import Derived.Test.YtaemgflhgdlmiaaGreatPw6
import Derived.Test.YtaemgflhgdlmiaaGreatPw7
import Derived.Test.YtaemgflhgdlmiaaGreatPw8
import Derived.Test.YtaemgflhgdlmiaaGreatPw9
import Derived.Test.YtaemgflhgdlmiaaGreatPw10
import Derived.Test.YtaemgflhgdlmiaaGreatPw11
import Derived.Test.YtaemgflhgdlmiaaGreatPw12
import Derived.Test.YtaemgflhgdlmiaaGreatPw13
import Derived.Test.YtaemgflhgdlmiaaGreatPw14
import Derived.Test.YtaemgflhgdlmiaaGreatPw15
import Derived.Test.YtaemgflhgdlmiaaGreatPw16
import Derived.Test.YtaemgflhgdlmiaaGreatPw17
import Derived.Test.YtaemgflhgdlmiaaGreatPw18
import Derived.Test.YtaemgflhgdlmiaaGreatPw19
import Derived.Test.YtaemgflhgdlmiaaGreatPw20
import Derived.Test.YtaemgflhgdlmiaaGreatPw21
import Derived.Test.YtaemgflhgdlmiaaGreatPw22
import Derived.Test.YtaemgflhgdlmiaaGreatPw23
import Derived.Test.YtaemgflhgdlmiaaGreatPw24
import Derived.Test.YtaemgflhgdlmiaaGreatPw25
import Derived.Test.YtaemgflhgdlmiaaGreatPw26
import Derived.Test.YtaemgflhgdlmiaaGreatPw27
import Derived.Test.YtaemgflhgdlmiaaGreatPw28
import Derived.Test.YtaemgflhgdlmiaaGreatPw29
import Derived.Test.YtaemgflhgdlmiaaGreatPw30
import Derived.Test.YtaemgflhgdlmiaaGreatPw31
import Derived.Test.YtaemgflhgdlmiaaGreatPw32
import Derived.Test.YtaemgflhgdlmiaaGreatPw33
import Derived.Test.YtaemgflhgdlmiaaGreatPw34
import Derived.Test.YtaemgflhgdlmiaaGreatPw35
import Derived.Test.YtaemgflhgdlmiaaGreatPw36
import Derived.Test.YtaemgflhgdlmiaaGreatPw37
import Derived.Test.YtaemgflhgdlmiaaGreatPw38
import Derived.Test.YtaemgflhgdlmiaaGreatPw39
import Derived.Test.YtaemgflhgdlmiaaGreatPw40
import Derived.Test.YtaemgflhgdlmiaaGreatPw41
import Derived.Test.YtaemgflhgdlmiaaGreatPw42
import Derived.Test.YtaemgflhgdlmiaaGreatPw43
import Derived.Test.YtaemgflhgdlmiaaGreatPw44
import Derived.Test.YtaemgflhgdlmiaaGreatPw45
/- The document's next number by letter v (layer 1). -/
namespace Go.Proofs.YtaemgflhgdlmiaaGreat
open Go.RowKit

/-- how the document's next number is told -/
def rnV : Except Nat (Nat × Nat) → Value
  | .ok (x, u) => .tuple #[.int .u64 (x : Nat), .int .i64 (u : Nat), .int .i64 0]
  | .error x => .tuple #[.int .u64 0, .int .i64 0, .int .i64 (x : Nat)]
theorem vd_more (N k f x : Nat) (first : Bool) (r : List Nat) (h : 128 ≤ x) : after N k (vDec 1 (f + 1) first (x :: r)) = after (N + 128 ^ k * (x % 128)) (k + 1) (vDec 1 f false r) := by
  rw [vDec, if_neg (by omega), if_neg (by omega), after_step]
theorem vd_zero (N k f : Nat) (r : List Nat) : after N k (vDec 1 (f + 1) false (0 :: r)) = .error 21 := by
  rw [vDec, if_pos ⟨rfl, rfl⟩]
  rfl
theorem vd_one (N k f x : Nat) (first : Bool) (r : List Nat) (h : x < 128) (h0 : x ≠ 0 ∨ first = true) : after N k (vDec 1 (f + 1) first (x :: r)) = .ok (N + 128 ^ k * x, k + 1) := by
  rw [vDec, if_neg (by rintro ⟨e1, e2⟩; rcases h0 with h0 | h0; exact h0 e1; rw [h0] at e2; cases e2), if_pos h]
  rfl
theorem vd_last (N k x : Nat) (first : Bool) (r : List Nat) : after N k (vDec 1 0 first (x :: r)) = if x = 1 then .ok (N + 128 ^ k * 1, k + 1) else .error 21 := by
  rw [vDec]
  by_cases h : x = 1
  · subst h
    rw [if_neg (by decide), if_pos rfl]
    rfl
  · rw [if_pos (by omega), if_neg h]
    rfl
theorem vd_none (N k f : Nat) (first : Bool) : after N k (vDec 1 f first []) = .error 20 := by cases f <;> rfl
theorem ok_eq {v : Int} {M : Nat} (h : v = (M : Int)) (i : Int) (u : Nat) (hi : i = (u : Int)) : Ending.returned (.tuple #[.int .u64 v, .int .i64 i, .int .i64 0]) = .returned (rnV (.ok (M, u))) := by
  subst h hi
  rfl
theorem addAcc7 (N x k : Nat) (hk : k ≤ 9) (hN : N < 128 ^ k) (h : k ≤ 8 ∨ x % 128 ≤ 1) : IntKind.u64.wrap ((N : Int) + IntKind.u64.wrap ((x : Int) % 128 * 2 ^ (7 * k))) = ((N + 128 ^ k * (x % 128) : Nat) : Int) := by
  have h2k : (2 : Int) ^ (7 * k) = ((128 ^ k : Nat) : Int) := by rw [Int.natCast_pow, Int.pow_mul]; rfl
  have e1 : (x : Int) % 128 * 2 ^ (7 * k) = ((128 ^ k * (x % 128) : Nat) : Int) := by rw [h2k, Int.natCast_mul, Int.mul_comm]; rfl
  have hb : N + 128 ^ k * (x % 128) < 18446744073709551616 := by
    rcases h with h | h
    · have h1 : 128 ^ k * (x % 128) ≤ 128 ^ k * 127 := Nat.mul_le_mul_left _ (by omega)
      have h3 : 128 ^ k ≤ 128 ^ 8 := Nat.pow_le_pow_right (by decide) h
      omega
    · have h1 : 128 ^ k * (x % 128) ≤ 128 ^ k * 1 := Nat.mul_le_mul_left _ h
      have h3 : 128 ^ k ≤ 128 ^ 9 := Nat.pow_le_pow_right (by decide) hk
      omega
  rw [e1]
  show ((N : Int) + (((128 ^ k * (x % 128) : Nat) : Int) % 18446744073709551616)) % 18446744073709551616 = _
  omega
set_option maxRecDepth 100000 in
set_option maxHeartbeats 4000000 in
theorem rnext_any (q : Option Addr) (n c : Nat) (l : List Nat) (w : World) (hn : l.length = n) (hl : SlI w .u8 q l) (h8 : ∀ x ∈ l, x < 256) :
    Calls Tryz.prog 40 #[.int .u8 118, .slice q n c] w fun e w' => e = .returned (rnV (dec 7 l)) ∧ Fr S0 w w' := by
  have hfix : ∀ W, Calls Tryz.prog 71 #[.int .u8 118] W fun e w' => e = .returned (.tuple #[.int .i64 0, .bool false]) ∧ W = w' := fun W => fixed_row 7 (by decide) W
  have HFX := Lib.hid hfix
  have hlen := hl.1
  rw [hn] at hlen
  unfold maxLen at hlen
  have HL := Lib.hid hl
  have H8 := Lib.hid h8
  have HN := Lib.hid hn
  have HST : Hid (dec 7 l = after 0 0 (vDec 1 9 true (l.drop 0))) := Lib.hid (by
    rw [dec_7, List.drop_zero]
    cases vDec 1 9 true l with
    | error x => rfl
    | ok a => obtain ⟨x, u⟩ := a; simp [after])
  generalize dec 7 l = R at HST ⊢
  clear hl h8 hn hfix
  go_enter Tryz.func40, Tryz.ntmps40
  go_wp2_with fail
  refine (HFX.out _).mono ?_
  rintro e w1 ⟨rfl, rfl⟩
  go_wp2_with fail
  go_loopw [9, 11, 12] (fun a i _ wr => ∃ k N : Nat, k ≤ n ∧ k ≤ 9 ∧ i = .int .i64 k ∧ a = .int .u64 N ∧ Hid (N < 128 ^ k) ∧ Hid (R = after N k (vDec 1 (9 - k) (decide (k = 0)) (l.drop k))) ∧ Hid (Fr S0 w wr)) (fun _ i _ _ => n - (intOf i).toNat)
  case atStart => exact ⟨0, 0, by omega, by omega, rfl, rfl, Lib.hid (by decide), HST, Lib.hid (Fr.refl _ _)⟩
  case round =>
    obtain ⟨k, N, hk, hk9, rfl, rfl, hN, hR, hfr⟩ := hrel
    by_cases hkn : (k : Int) < (n : Int)
    · have hkl : k < l.length := by rw [HN.out]; omega
      obtain ⟨b, o, rfl, d0⟩ := (HL.out.fr0 hfr.out).at k hkl
      have hx8 := H8.out _ (List.getElem_mem hkl)
      have hdr := List.drop_eq_getElem_cons hkl
      obtain ⟨x, hx⟩ : ∃ x, l[k] = x := ⟨_, rfl⟩
      rw [hx] at d0 hx8 hdr
      rw [hdr] at hR
      have hxb : (x : Int) < 256 := by omega
      have hN2 := hN.out
      clear hx hdr hN hk HST hkl
      have h2k : (2 : Int) ^ (7 * k) = ((128 ^ k : Nat) : Int) := by rw [Int.natCast_pow, Int.pow_mul]; rfl
      by_cases hk8 : (k : Int) ≤ 8
      · have hk98 : ((k : Int) == 9) = false := by rw [beq_eq_false_iff_ne]; omega
        have hp9 : 128 ^ (k + 1) ≤ 128 ^ 9 := Nat.pow_le_pow_right (by decide) (by omega)
        obtain ⟨f, hf⟩ : ∃ f, 9 - k = f + 1 := ⟨8 - k, by omega⟩
        have HB := Lib.hid (addAcc7 N x k (by omega) hN2 (by omega))
        by_cases h128 : 128 ≤ x
        · have g1 : decide ((127 : Int) < (x : Int)) = true := decide_eq_true (by omega)
          have g2 : (127 : Int) < (x : Int) := by omega
          have HR2 : Hid (R = after (N + 128 ^ k * (x % 128)) (k + 1) (vDec 1 f false (l.drop (k + 1)))) := Lib.hid (by rw [hR.out, hf]; exact vd_more N k f x _ _ h128)
          have HLT : Hid (N + 128 ^ k * (x % 128) < 128 ^ (k + 1)) := Lib.hid (by
            have h1 : 128 ^ k * (x % 128) ≤ 128 ^ k * 127 := Nat.mul_le_mul_left _ (by omega)
            rw [Nat.pow_succ]
            omega)
          have HF := Lib.hid (show f = 9 - (k + 1) by omega)
          clear hR h128 hp9 hf h2k
          go_wp2_with fail
          refine ⟨⟨k + 1, N + 128 ^ k * (x % 128), by omega, by omega, by go_num, by rw [HB.out], HLT, ?_, hfr⟩, by simp [intOf]; omega⟩
          refine Lib.hid ?_
          rw [HR2.out, HF.out, decide_eq_false (by omega)]
        · have g1 : decide ((127 : Int) < (x : Int)) = false := decide_eq_false (by omega)
          have g2 : (x : Int) ≤ 127 := by omega
          by_cases hz : x = 0 ∧ 0 < k
          · obtain ⟨rfl, hk0⟩ := hz
            have hR2 : Hid (R = .error 21) := Lib.hid (by rw [hR.out, hf, decide_eq_false (by omega)]; exact vd_zero N k f _)
            have hk1 : decide ((0 : Int) < (k : Int)) = true := decide_eq_true (by omega)
            have hk2 : decide (0 < k) = true := decide_eq_true (by omega)
            clear hR h128 hp9 hf HB h2k
            go_wp2_with fail
            go_ret3
            rw [hR2.out]
            exact ⟨rfl, hfr.out⟩
          · have hR2 : Hid (R = .ok (N + 128 ^ k * x, k + 1)) := Lib.hid (by rw [hR.out, hf]; exact vd_one N k f x _ _ (by omega) (by
              by_cases h0 : x = 0
              · exact .inr (decide_eq_true (by omega))
              · exact .inl h0))
            have hxm : x % 128 = x := by omega
            rw [hxm] at HB
            by_cases h0 : x = 0
            · have hz1 : ((x : Int) == 0) = true := by rw [h0]; rfl
              have hk1 : decide ((0 : Int) < (k : Int)) = false := decide_eq_false (by omega)
              have hk2 : decide (0 < k) = false := decide_eq_false (by omega)
              clear hR h128 hp9 hf hz h2k h0 hxm
              go_wp2_with fail
              go_ret3
              rw [hR2.out]
              exact ⟨ok_eq HB.out _ _ rfl, hfr.out⟩
            · have hz1 : ((x : Int) == 0) = false := by rw [beq_eq_false_iff_ne]; omega
              clear hR h128 hp9 hf hz hxm h2k
              go_wp2_with fail
              go_ret3
              rw [hR2.out]
              exact ⟨ok_eq HB.out _ _ rfl, hfr.out⟩
      · have hke : k = 9 := by omega
        have hk99 : ((k : Int) == 9) = true := by rw [hke]; rfl
        have hk9i : (k : Int) ≤ 9 := by omega
        have hk1 : decide ((0 : Int) < (k : Int)) = true := decide_eq_true (by omega)
        have hk2 : decide (0 < k) = true := decide_eq_true (by omega)
        have hR1 : Hid (R = if x = 1 then .ok (N + 128 ^ k * 1, k + 1) else .error 21) := Lib.hid (by rw [hR.out, show 9 - k = 0 by omega]; exact vd_last N k x _ _)
        by_cases h1 : x = 1
        · have hR2 : Hid (R = .ok (N + 128 ^ k * 1, k + 1)) := Lib.hid (by rw [hR1.out, if_pos h1])
          have HB := Lib.hid (addAcc7 N x k (by omega) hN2 (by omega))
          have hxm : x % 128 = 1 := by omega
          rw [hxm] at HB
          have g1 : decide ((1 : Int) < (x : Int)) = false := decide_eq_false (by omega)
          have g3 : decide ((127 : Int) < (x : Int)) = false := decide_eq_false (by omega)
          have g4 : (x : Int) ≤ 1 := by omega
          have hz1 : ((x : Int) == 0) = false := by rw [beq_eq_false_iff_ne]; omega
          clear hR hR1 h2k hke h1 hxm
          go_wp2_with fail
          go_ret3
          rw [hR2.out]
          exact ⟨ok_eq HB.out _ _ rfl, hfr.out⟩
        · have hR2 : Hid (R = .error 21) := Lib.hid (by rw [hR1.out, if_neg h1])
          by_cases h0 : x = 0
          · have g1 : decide ((1 : Int) < (x : Int)) = false := decide_eq_false (by omega)
            have g3 : decide ((127 : Int) < (x : Int)) = false := decide_eq_false (by omega)
            have g4 : (x : Int) ≤ 1 := by omega
            have hz1 : ((x : Int) == 0) = true := by rw [h0]; rfl
            clear hR hR1 h2k hke h0
            go_wp2_with fail
            go_ret3
            rw [hR2.out]
            exact ⟨rfl, hfr.out⟩
          · have g1 : decide ((1 : Int) < (x : Int)) = true := decide_eq_true (by omega)
            have g2 : (1 : Int) < (x : Int) := by omega
            clear hR hR1 h2k hke
            go_wp2_with fail
            go_ret3
            rw [hR2.out]
            exact ⟨rfl, hfr.out⟩
    · have hR2 : Hid (R = .error 20) := Lib.hid (by rw [hR.out, List.drop_eq_nil_of_le (by rw [HN.out]; omega)]; exact vd_none _ _ _ _)
      clear hR
      go_wp2_with fail
      go_ret3
      rw [hR2.out]
      exact ⟨rfl, hfr.out⟩
end Go.Proofs.YtaemgflhgdlmiaaGreat
