/- The document's stacks: how much they weigh. -/
import Derived.Test.YtbpfmjekpjfceaaKrPut
namespace Go.Proofs.Ytbpfmjekpjfceaa
open Go.RowKit

theorem wtL_take : ∀ (L : Lv) (h : Nat) (hh : h < L.length), wtL (L.take (h + 1)) = wtL (L.take h) + L[h].length * 2 ^ h ∧ wtL (L.take (h + 1)) ≤ wtL L
  | [], h, hh => absurd hh (Nat.not_lt_zero _)
  | l :: r, 0, _ => by
    refine ⟨?_, ?_⟩
    · simp [wtL_cons, show wtL [] = 0 from rfl]
    · rw [show (l :: r).take (0 + 1) = [l] from by simp, wtL_cons, wtL_cons, show wtL [] = 0 from rfl]
      omega
  | l :: r, h + 1, hh => by
    obtain ⟨i1, i2⟩ := wtL_take r h (by simpa using hh)
    rw [List.take_succ_cons, List.take_succ_cons, wtL_cons, wtL_cons, wtL_cons, i1, List.getElem_cons_succ, Nat.pow_succ]
    rw [i1] at i2
    refine ⟨?_, by omega⟩
    rw [Nat.mul_add, Nat.add_assoc, Nat.mul_comm 2 (_ * _), Nat.mul_assoc]
section
variable (g k E : Nat) (C D : Nat → Prop) (L : Lv) (w : World)
set_option maxRecDepth 100000 in
set_option maxHeartbeats 4000000 in
theorem rstotal_any (s : RkS w g C D k L E) (hH : L.length ≤ 60) (hw : wtL L ≤ 4611686018427387904) :
    Calls Try.prog 29 #[.pointer (some ⟨g, 0, none⟩)] w fun e w' => e = .returned (.int .u64 (wtL L : Nat)) ∧ w' = w := by
  obtain ⟨p, n, c, rs, s⟩ := s
  have c1 := s.c1
  have hlen := s.len
  have HS := Lib.hid s
  have HW := Lib.hid hw
  clear s hw
  go_enter Try.func29, Try.ntmps29
  go_wp2_with fail
  go_loopw [3, 4, 5] (fun t x i wr => ∃ j T X : Nat, j ≤ n ∧ i = .int .i64 j ∧ t = .int .u64 (T : Nat) ∧ x = .int .u64 (X : Nat) ∧ Hid (T = wtL (L.take j)) ∧ Hid (X = 2 ^ j) ∧ wr = w) (fun _ _ i _ => n - (intOf i).toNat)
  case atStart => exact ⟨0, 0, 1, by omega, rfl, rfl, rfl, Lib.hid rfl, Lib.hid rfl, rfl⟩
  case round =>
    obtain ⟨j, T, X, hj, rfl, rfl, rfl, hT, hX, rfl⟩ := hrel
    by_cases hjn : (j : Int) < (n : Int)
    · have hjM : j < L.length := by omega
      obtain ⟨b, rfl, -, -, q, m, d, ch, z, -, -⟩ := HS.out.lev j hjM
      obtain ⟨h1, h2⟩ := wtL_take L j hjM
      rw [z.len, ← hT.out, ← hX.out] at h1
      have hw := HW.out
      have hX2 : X ≤ 1152921504606846976 := by rw [hX.out]; exact Nat.pow_le_pow_right (by decide) (by omega : j ≤ 60)
      obtain ⟨Q, hQ⟩ : ∃ Q, m * X = Q := ⟨_, rfl⟩
      rw [hQ] at h1
      have iQ : (m : Int) * (X : Int) = (Q : Int) := by rw [← hQ, Int.natCast_mul]
      have wQ : IntKind.u64.wrap (Q : Int) = (Q : Int) := by rw [IntKind.wrap_u64]; omega
      have HN : Hid (T + Q = wtL (L.take (j + 1))) := Lib.hid h1.symm
      have HX : Hid (X * 2 = 2 ^ (j + 1)) := Lib.hid (by rw [hX.out, Nat.pow_succ])
      have hj0 : (0 : Int) ≤ (j : Int) := by omega
      have hm : (m : Int) ≤ 9223372036854775807 := by have := z.max; have := z.cap; simp only [maxLen] at *; omega
      have hTQ : T + Q ≤ 4611686018427387904 := by omega
      clear z h1 h2 hQ hw hT hX
      go_wp2_with fail
      go_roundw
      case rel => exact ⟨j + 1, T + Q, X * 2, by omega, by go_num, by go_num, by go_num, HN, HX, trivial⟩
      case measure => simp [intOf]; omega
    · obtain rfl : j = n := by omega
      have HN : Hid (T = wtL L) := Lib.hid (by rw [hT.out, ← hlen, List.take_length])
      clear hT
      go_wp2_with fail
      go_ret
      exact ⟨by rw [HN.out]; rfl, rfl⟩
end
end Go.Proofs.Ytbpfmjekpjfceaa
