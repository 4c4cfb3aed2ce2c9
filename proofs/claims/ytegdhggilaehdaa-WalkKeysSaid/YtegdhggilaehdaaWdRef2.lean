/- The document's sums, which number is more, differences. -/
import Derived.Test.YtegdhggilaehdaaWdRef
namespace Go.Proofs.Ytegdhggilaehdaa
open Go.RowKit

theorem u64s_append (a b : List Nat) : u64s a ++ u64s b = u64s (a ++ b) := by simp [u64s]
theorem u64s_one (x : Nat) : u64s [x] = [.int .u64 (x : Int)] := rfl

/-- which number is more -/
def cmpR (x y : Nat) : Int := if x = y then 0 else if x < y then -1 else 1

theorem drewN_two (w : World) (a b : Nat) : (w.drewN a).drewN b = w.drewN (a + b) := by simp only [World.drewN, Nat.add_assoc]
theorem drewN_three (w : World) (a b c : Nat) : ((w.drewN a).drewN b).drewN c = w.drewN (a + b + c) := by simp only [World.drewN, Nat.add_assoc]

set_option maxRecDepth 100000 in
set_option maxHeartbeats 1000000 in
theorem rcmp_any (p q : Option Addr) (c d x y : Nat) (w : World) (hx : Dig w p x) (hy : Dig w q y) (bx : x < 340282366920938463463374607431768211456) (hby : y < 340282366920938463463374607431768211456) :
    Calls Try.prog 38 #[.slice p 8 c, .slice q 8 d] w fun e w' => e = .returned (.int .i64 (cmpR x y)) ∧ ∃ n, w' = w.drewN n := by
  have HX := Lib.hid hx
  have HY := Lib.hid hy
  have HS : Hid (x / 65536 ^ 8 = y / 65536 ^ 8) := Lib.hid (by
    have e : (65536 : Nat) ^ 8 = 340282366920938463463374607431768211456 := by decide
    rw [e, Nat.div_eq_of_lt bx, Nat.div_eq_of_lt hby])
  clear hx hy bx hby
  go_enter Try.func38, Try.ntmps38
  go_wp2
  go_loopw [5] (fun i wr => ∃ j n : Nat, j ≤ 8 ∧ i = .int .i64 (7 - (j : Int)) ∧ x / 65536 ^ (8 - j) = y / 65536 ^ (8 - j) ∧ wr = w.drewN n) (fun i _ => (intOf i + 1).toNat)
  case atStart => exact ⟨0, 0, by omega, rfl, HS.out, rfl⟩
  case round =>
    obtain ⟨j, n, hj, rfl, hs, rfl⟩ := hrel
    by_cases h8 : j < 8
    · obtain ⟨i, hi⟩ : ∃ i, 7 - j = i := ⟨_, rfl⟩
      rw [show 8 - j = i + 1 by omega] at hs
      have HE := Lib.hid hs
      have ei : 7 - (j : Int) = (i : Int) := by omega
      have HI : Hid (8 - (j + 1) = i) := Lib.hid (by omega)
      have hi8 : (i : Int) < 8 := by omega
      rw [ei]
      clear hi hs ei
      obtain ⟨b, o, rfl, hc⟩ := HX.out.at i (by omega)
      obtain ⟨b2, o2, rfl, hc2⟩ := HY.out.at i (by omega)
      obtain ⟨X, hX⟩ : ∃ X, dg x i = X := ⟨_, rfl⟩
      obtain ⟨Y, hY⟩ : ∃ Y, dg y i = Y := ⟨_, rfl⟩
      have EX := Lib.hid hX
      have EY := Lib.hid hY
      rw [hX] at hc
      rw [hY] at hc2
      clear hX hY
      by_cases h1 : X < Y
      · have HL : Hid (x < y) := Lib.hid (cmp_more HE.out (by rw [EX.out, EY.out]; exact h1))
        go_wp2_with fail
        go_quiet (fail)
        go_wp2
        go_ret
        exact ⟨congrArg (fun z => Ending.returned (Value.int .i64 z)) (by have := HL.out; unfold cmpR; rw [if_neg (by omega), if_pos this]), _, drewN_two _ _ _⟩
      · by_cases h2 : Y < X
        · have HL : Hid (y < x) := Lib.hid (cmp_more HE.out.symm (by rw [EX.out, EY.out]; exact h2))
          go_wp2_with fail
          go_quiet (fail)
          go_wp2_with fail
          go_quiet (fail)
          go_wp2
          go_ret
          exact ⟨congrArg (fun z => Ending.returned (Value.int .i64 z)) (by have := HL.out; unfold cmpR; rw [if_neg (by omega), if_neg (by omega)]), _, drewN_three _ _ _ _⟩
        · have HL : Hid (x / 65536 ^ i = y / 65536 ^ i) := Lib.hid (cmp_same HE.out (by rw [EX.out, EY.out]; omega))
          go_wp2_with fail
          go_quiet (fail)
          go_wp2_with fail
          go_quiet (fail)
          go_wp2_with fail
          go_roundw
          case rel => exact ⟨j + 1, _, by omega, congrArg (Value.int .i64) (by have := HI.out; omega), by rw [HI.out]; exact HL.out, rfl⟩
          case measure => simp [intOf]
    · obtain rfl : j = 8 := by omega
      have HL : Hid (x = y) := Lib.hid (by simpa using hs)
      clear hs
      go_wp2
      go_ret
      exact ⟨congrArg (fun z => Ending.returned (Value.int .i64 z)) (by unfold cmpR; rw [if_pos HL.out]), _, rfl⟩

/-- a slice of eight noughts -/
theorem make8 : ∀ w : World, (Instr.makeSlice 77 (.int .i64 8) (.int .i64 8)).run Try.prog w = .ok (.slice (some ⟨w.heap.size, 0, none⟩) 8 8) (w.alloc (.cells #[.int .u64 0, .int .u64 0, .int .u64 0, .int .u64 0, .int .u64 0, .int .u64 0, .int .u64 0, .int .u64 0] 29)) :=
  fun _ => by kernel_rfl
theorem own8 (w : World) : (w.alloc (.cells #[.int .u64 0, .int .u64 0, .int .u64 0, .int .u64 0, .int .u64 0, .int .u64 0, .int .u64 0, .int .u64 0] 29)).ownsRow 0 29 1 (.slice (some ⟨w.heap.size, 0, none⟩) 8 8) 8 (u64s (digs 8 0)) :=
  own_new w (u64s (digs 8 0)) 29 (by unfold maxLen; simp [u64s, digs])

def SubEnds (w : World) (x y : Nat) (e : Ending) (w' : World) : Prop := ∃ v n, e = .returned (.tuple #[v, .bool (decide (y ≤ x))]) ∧ NewDig w w' v n ∧ (y ≤ x → n = x - y)

end Go.Proofs.Ytegdhggilaehdaa
