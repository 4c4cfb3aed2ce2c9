/- Bits are read. -/
import Derived.Test.YtbpfmjekpjfceaaBitText
namespace Go.Proofs.Ytbpfmjekpjfceaa
open Go.RowKit

theorem RdIs.drewN {w : World} {g : Nat} {r : Option Nat} {b : List Nat} {k : Nat} (h : RdIs w g r b k) (n : Nat) : RdTo w (w.drewN n) g r b k := ⟨h.fr0 (Fr.drewN _ _ _), Fr.drewN _ _ _⟩
theorem RdTo.fr0 {w w1 w2 : World} {g : Nat} {r : Option Nat} {b : List Nat} {k : Nat} (h : RdTo w w1 g r b k) (hf : Fr S0 w1 w2) : RdTo w w2 g r b k := ⟨h.1.fr0 hf, h.2.trans0 hf⟩
/-- the bits of the row at the bit k -/
def bitsAt (b : List Nat) (k c : Nat) : List Nat := ((bts b).drop k).take c
theorem bitsAt_length (b : List Nat) (k c : Nat) (h : k + c ≤ 8 * b.length) : (bitsAt b k c).length = c := by
  unfold bitsAt
  rw [List.length_take, List.length_drop, bts_length]; omega
theorem bitsAt_bit (b : List Nat) (k c : Nat) : Bit01 (bitsAt b k c) := (bts_bit b).sub fun _ hx => List.mem_of_mem_drop (List.mem_of_mem_take hx)
theorem bitsAt_lt (b : List Nat) (k c : Nat) : num (bitsAt b k c) < 2 ^ c := by
  refine Nat.lt_of_lt_of_le (num_lt _ (bitsAt_bit b k c)) (Nat.pow_le_pow_right (by decide) ?_)
  unfold bitsAt
  rw [List.length_take]; omega
theorem and_one8 (x k : Nat) (hx : x < 256) : bits .and .u8 ((x : Int) / 2 ^ k) 1 = ((x / 2 ^ k % 2 : Nat) : Int) := by
  have h := u8_and_nat (x / 2 ^ k) 1 (Nat.lt_of_le_of_lt (Nat.div_le_self _ _) hx) (by decide)
  rw [Nat.and_one_is_mod, Int.natCast_ediv, Int.natCast_pow] at h
  exact h
theorem getD_at (l : List Nat) (i : Nat) (h : i < l.length) : l.getD i 0 = l[i] := by simp [List.getD, h]
/-- the bit k of the row -/
def bitAt (b : List Nat) (k : Nat) : Nat := b.getD (k / 8) 0 / 2 ^ (k % 8) % 2
theorem bitsAt_succ (b : List Nat) (k c : Nat) (h : k + c < 8 * b.length) : bitsAt b k (c + 1) = bitsAt b k c ++ [bitAt b (k + c)] := by
  have hl : k + c < (bts b).length := by rw [bts_length]; exact h
  unfold bitsAt
  rw [take_drop_succ _ _ _ hl, bts_get b _ hl (by omega)]
  unfold bitAt
  rw [getD_at _ _ (by omega)]

set_option maxRecDepth 100000 in
set_option maxHeartbeats 1000000 in
theorem get_any (g : Nat) (r : Option Nat) (b : List Nat) (k : Nat) (w : World) (h : RdIs w g r b k) (hk : k < 8 * b.length) (hs : b.length ≤ 140737488355328) :
    Calls Try.prog 92 #[.pointer (some ⟨g, 0, none⟩)] w fun e w' => e = .returned (.int .u32 (bitAt b k : Nat)) ∧ RdTo w w' g r b (k + 1) := by
  obtain ⟨p, c, hb, own, hr⟩ := h.ex
  have H := Lib.hid h
  obtain ⟨B, hB⟩ : ∃ B, k / 8 = B := ⟨_, rfl⟩
  have hBl : B < b.length := by omega
  have eB : (k : Int) / 8 = (B : Int) := by omega
  obtain ⟨q, cap, hv, -, hq⟩ := own.form (by omega)
  simp only [Value.slice.injEq] at hv
  obtain ⟨rfl, -, rfl⟩ := hv
  have cc := own.cellAt B (by omega)
  rw [show (u8s b)[B]? = some (.int .u8 (b[B] : Nat)) by simp [u8s, hBl]] at cc
  have hx8 := h.bytes _ (List.getElem_mem hBl)
  have hbit : bitAt b k = b[B] / 2 ^ (k % 8) % 2 := by unfold bitAt; rw [hB, getD_at _ _ hBl]
  obtain ⟨x, hx⟩ : ∃ x, b[B] = x := ⟨_, rfl⟩
  rw [hx] at cc hx8 hbit
  have HBIT := Lib.hid hbit
  have HA := Lib.hid (and_one8 x (k % 8) hx8)
  have HS := Lib.hid (fun n => ((h.drewN n).trans ((h.fr0 (Fr.drewN S0 w n)).set (k + 1) (by omega))))
  have h0 := wr_c0 hb
  have h1 := wr_c1 hb
  have h2 := wr_f hb
  have hBs : B < 140737488355328 := by omega
  have hks : k < 1125899906842624 := by omega
  clear hb own hr hq hbit hx hB h
  go_enter Try.func92, Try.ntmps92
  go_wp2
  go_quiet (fail)
  go_wp2
  go_ret
  refine ⟨?_, HS.out _⟩
  have e : ((x / 2 ^ (k % 8) % 2 : Nat) : Int) % 4294967296 = ((bitAt b k : Nat) : Int) := by rw [HBIT.out]; omega
  rw [← e, ← HA.out]
  rfl

set_option maxRecDepth 100000 in
set_option maxHeartbeats 400000 in
theorem left_any (g : Nat) (r : Option Nat) (b : List Nat) (k : Nat) (w : World) (h : RdIs w g r b k) (hs : b.length ≤ 140737488355328) :
    Calls Try.prog 46 #[.pointer (some ⟨g, 0, none⟩)] w fun e w' => e = .returned (.int .i64 (8 * (b.length : Int) - k)) ∧ Fr S0 w w' := by
  obtain ⟨p, c, hb, -, -⟩ := h.ex
  have h0 := wr_c0 hb
  have h1 := wr_c1 hb
  have hks : k ≤ 1125899906842624 := by have := h.inside; omega
  clear hb h
  go_enter Try.func46, Try.ntmps46
  go_wp2
  go_quiet (fail)
  go_wp2
  go_ret
  exact ⟨rfl, Fr.drewN _ _ _⟩
/-- the next whole byte's first bit -/
def upN (k : Nat) : Nat := (k + 7) / 8 * 8
theorem or_num (m x k : Nat) (hk : k < 32) (hm : m < 2 ^ k) (hx : x < 2) : bits .or .u32 (m : Int) ((x : Int) * 2 ^ k % 4294967296) = ((m + 2 ^ k * x : Nat) : Int) := by
  have hp : 2 ^ k ≤ 2147483648 := Nat.le_trans (Nat.pow_le_pow_right (by decide) (show k ≤ 31 by omega)) (by decide)
  have h2 : x * 2 ^ k ≤ 2147483648 := Nat.le_trans (Nat.mul_le_mul (show x ≤ 1 by omega) hp) (by decide)
  rw [show ((x : Int) * 2 ^ k % 4294967296) = ((x * 2 ^ k : Nat) : Int) by
    have e : ((x * 2 ^ k : Nat) : Int) = (x : Int) * 2 ^ k := by simp
    rw [← e]
    omega, u32_or_nat _ _ (by omega) (by omega)]
  congr 1
  rw [Nat.or_comm, ← Nat.shiftLeft_eq, ← Nat.shiftLeft_add_eq_or_of_lt hm, Nat.add_comm, Nat.shiftLeft_eq, Nat.mul_comm]
theorem bitAt_lt (b : List Nat) (k : Nat) : bitAt b k < 2 := Nat.mod_lt _ (by decide)

set_option maxRecDepth 100000 in
set_option maxHeartbeats 1000000 in
theorem rgroup_ok (g : Nat) (r : Option Nat) (b : List Nat) (k c : Nat) (w : World) (h : RdIs w g r b k) (hc : c ≤ 32) (hk : k + c ≤ 8 * b.length) (hs : b.length ≤ 140737488355328) :
    Calls Try.prog 73 #[.pointer (some ⟨g, 0, none⟩), .int .i64 c] w fun e w' => e = .returned (.tuple #[.int .u32 (num (bitsAt b k c) : Nat), .int .i64 0]) ∧ RdTo w w' g r b (k + c) := by
  have HM := Lib.hid (some_any (c : Int) w)
  rw [someB_yes (by omega) (by omega)] at HM
  have HL := Lib.hid (left_any g r b k w h hs)
  have H := Lib.hid h
  have HK := Lib.hid hk
  have hks : k ≤ 1125899906842624 := by omega
  have hle : ¬ (c : Int) > 8 * (b.length : Int) - (k : Int) := by omega
  clear h hk
  go_enter Try.func73, Try.ntmps73
  go_wp2_with fail
  refine HM.out.mono ?_
  rintro e w' ⟨rfl, rfl⟩
  go_wp2_with fail
  refine HL.out.mono ?_
  rintro e w1 ⟨rfl, f1⟩
  have F1 := Lib.hid f1
  clear f1
  go_wp2_with fail
  go_loopw [6, 16] (fun m i wr => ∃ j : Nat, j ≤ c ∧ i = .int .i64 j ∧ m = .int .u32 (num (bitsAt b k j) : Nat) ∧ RdTo w wr g r b (k + j)) (fun _ i _ => c - (intOf i).toNat)
  case atStart => exact ⟨0, by omega, rfl, rfl, (H.out.self).fr0 F1.out⟩
  case round =>
    obtain ⟨j, hj, rfl, rfl, hto⟩ := hrel
    have HT := Lib.hid hto
    clear hto
    by_cases hjc : (j : Int) < (c : Int)
    · have hjl : j < c := by omega
      have HG := Lib.hid (get_any g r b (k + j) wr HT.out.1 (by have := HK.out; omega) hs)
      have HO := Lib.hid (or_num (num (bitsAt b k j)) (bitAt b (k + j)) j (by omega) (bitsAt_lt b k j) (bitAt_lt _ _))
      have HN : Hid (num (bitsAt b k (j + 1)) = num (bitsAt b k j) + 2 ^ j * bitAt b (k + j)) := Lib.hid (by
        have := HK.out
        rw [bitsAt_succ b k j (by omega), num_append, num_one, bitsAt_length b k j (by omega)])
      obtain ⟨X, hX⟩ : ∃ X, bitAt b (k + j) = X := ⟨_, rfl⟩
      obtain ⟨m, hm⟩ : ∃ m, num (bitsAt b k j) = m := ⟨_, rfl⟩
      rw [hX] at HG HO HN
      rw [hm] at HO HN ⊢
      clear hX hm
      go_wp2_with fail
      refine HG.out.mono ?_
      rintro e w2 ⟨rfl, hto⟩
      have K := Lib.hid (HT.out.trans hto)
      clear hto HT HG
      go_wp2
      go_roundw
      case rel => exact ⟨j + 1, by omega, by go_num, by rw [HN.out, HO.out], K.out⟩
      case measure => simp [intOf]; omega
    · obtain rfl : j = c := by omega
      obtain ⟨m, hm⟩ : ∃ m, num (bitsAt b k j) = m := ⟨_, rfl⟩
      rw [hm]
      have HM := Lib.hid hm
      clear hm
      go_wp2
      go_ret2
      exact ⟨by rw [HM.out]; rfl, HT.out⟩
set_option maxRecDepth 100000 in
set_option maxHeartbeats 400000 in
theorem rgroup_end (g : Nat) (r : Option Nat) (b : List Nat) (k c : Nat) (w : World) (h : RdIs w g r b k) (hc : c ≤ 32) (hk : 8 * b.length < k + c) (hs : b.length ≤ 140737488355328) :
    Calls Try.prog 73 #[.pointer (some ⟨g, 0, none⟩), .int .i64 c] w fun e w' => e = .returned (.tuple #[.int .u32 0, .int .i64 20]) ∧ Fr S0 w w' := by
  have HM := Lib.hid (some_any (c : Int) w)
  rw [someB_yes (by omega) (by omega)] at HM
  have HL := Lib.hid (left_any g r b k w h hs)
  have hgt : (c : Int) > 8 * (b.length : Int) - (k : Int) := by omega
  clear h hk
  go_enter Try.func73, Try.ntmps73
  go_wp2_with fail
  refine HM.out.mono ?_
  rintro e w' ⟨rfl, rfl⟩
  go_wp2_with fail
  refine HL.out.mono ?_
  rintro e w1 ⟨rfl, f1⟩
  go_wp2
  go_ret2
  exact ⟨rfl, f1⟩
set_option maxRecDepth 100000 in
set_option maxHeartbeats 400000 in
theorem rgroup_no (g : Nat) (c : Int) (w : World) (hc : ¬ (0 ≤ c ∧ c ≤ 32)) :
    Calls Try.prog 73 #[.pointer (some ⟨g, 0, none⟩), .int .i64 c] w fun e w' => e = .returned (.tuple #[.int .u32 0, .int .i64 5]) ∧ w = w' := by
  have HM := Lib.hid (some_any c w)
  rw [someB_no hc] at HM
  clear hc
  go_enter Try.func73, Try.ntmps73
  go_wp2_with fail
  refine HM.out.mono ?_
  rintro e w' ⟨rfl, rfl⟩
  go_wp2
  go_ret2
  exact ⟨rfl, rfl⟩
set_option maxRecDepth 100000 in
set_option maxHeartbeats 400000 in
theorem rbit_of (g : Nat) (w : World) (x y : Value) (R : World → Prop) (h : Calls Try.prog 73 #[.pointer (some ⟨g, 0, none⟩), .int .i64 1] w fun e w' => e = .returned (.tuple #[x, y]) ∧ R w') :
    Calls Try.prog 51 #[.pointer (some ⟨g, 0, none⟩)] w fun e w' => e = .returned (.tuple #[x, y]) ∧ R w' := by
  go_enter Try.func51, Try.ntmps51
  go_wp2_with fail
  refine h.mono ?_
  rintro e w1 ⟨rfl, f1⟩
  go_wp2
  go_ret2
  exact ⟨rfl, f1⟩

theorem own_form {w : World} {e : TypeId} {p : Option Addr} {n c : Nat} {xs : List Value} (h : w.ownsRow 0 e 1 (.slice p n c) n xs) : ((p = none ∧ c = 0) ∨ ∃ q, p = some ⟨q, 0, none⟩) ∧ n ≤ c := by
  rcases h.2 with ⟨h, h0⟩ | ⟨q, cap, cur, h, _, _, h1, _⟩
  · simp only [Value.slice.injEq] at h
    exact ⟨.inl ⟨h.1, h.2.2⟩, by omega⟩
  · simp only [Value.slice.injEq] at h
    exact ⟨.inr ⟨q, h.1⟩, by omega⟩
theorem upN_le {b : List Nat} {k : Nat} (h : k ≤ 8 * b.length) : upN k ≤ 8 * b.length := by unfold upN; omega

end Go.Proofs.Ytbpfmjekpjfceaa
