/- WdRef, WdRef2 -/
import Derived.Test.YtmieeoceckcnkaaGreatPz1
import Derived.Test.YtmieeoceckcnkaaGreatPz2
import Derived.Test.YtmieeoceckcnkaaGreatPz5
import Derived.StillTailTactics
import Derived.Lib.BitFns
import Derived.Laws.BytesArg
import Derived.Lib.SlBytesConst
import Derived.Maps.AppendAt
import Derived.Laws.AppendOwnNone
import Derived.WalkKit
import Derived.WalkSpells
import Derived.WalkLawsBesides
import Derived.Deep.QuietTactic
import Derived.BigQuiet
import Derived.RegionTactic
import Derived.Deep.AppendLies
import Derived.Deep.RegionLaw
import Derived.Laws.ResultCell
import Derived.Laws.EntriesVeiled
import Derived.Lib.Hide
import Derived.Test.YtmieeoceckcnkaaGreatRows
set_option maxRecDepth 100000
set_option maxHeartbeats 8000000
namespace Go.Proofs.YtmieeoceckcnkaaGreat
open Go.RowKit
def u64s (bs : List Nat) : List Value := bs.map fun (x : Nat) => Value.int .u64 (x : Int)
theorem own_new (w : World) (xs : List Value) (t : TypeId) (hl : xs.length ≤ maxLen) : (w.alloc (.cells xs.toArray t)).ownsRow 0 t 1 (.slice (some ⟨w.heap.size, 0, none⟩) xs.length xs.length) xs.length xs :=
  ⟨by simp, .inr ⟨w.heap.size, xs.length, xs.toArray, rfl, Nat.zero_le _, heap_alloc_new w _, Nat.le_refl _, hl, by simp, by simp⟩⟩
def Dig (w : World) (p : Option Addr) (n : Nat) : Prop := SlI w .u64 p (digs 8 n)
theorem Dig.fr0 {w w' : World} {p : Option Addr} {n : Nat} (h : Dig w p n) (f : Fr S0 w w') : Dig w' p n := SlI.fr0 h f
theorem Dig.at {w : World} {p : Option Addr} {n : Nat} (h : Dig w p n) (i : Nat) (hi : i < 8) : ∃ b o, p = some ⟨b, o, none⟩ ∧ w.cell? ⟨b, o + i, none⟩ = some (.int .u64 (dg n i : Nat)) := by
  obtain ⟨b, o, hp, hc⟩ := SlI.at h i (by rw [digs_len]; exact hi)
  exact ⟨b, o, hp, by rw [hc, digs_get]; rfl⟩
theorem Dig.ofOwns {w : World} {p : Option Addr} {c n : Nat} (h : w.ownsRow 0 36 1 (.slice p 8 c) 8 (u64s (digs 8 n))) : Dig w p n := SlI.ofOwns h
def NewDig (w w' : World) (v : Value) (n : Nat) : Prop := ∃ p c, v = .slice p 8 c ∧ Dig w' p n ∧ Fr S0 w w'
theorem NewDig.mk {w w' : World} {p : Option Addr} {c n : Nat} (h : w'.ownsRow 0 36 1 (.slice p 8 c) 8 (u64s (digs 8 n))) (f : Fr S0 w w') : NewDig w w' (.slice p 8 c) n := ⟨p, c, rfl, Dig.ofOwns h, f⟩
theorem digs4 (n : Nat) (hn : n < 18446744073709551616) : digs 4 n = [n % 65536, n / 65536 % 65536, n / 4294967296 % 65536, n / 281474976710656] := by
  simp only [digs, Nat.div_div_eq_div_mul, List.cons.injEq, and_true, true_and]
  omega
theorem rdigits_any (n : Nat) (w : World) (hn : n < 18446744073709551616) :
    Calls Tryz.prog 87 #[.int .u64 (n : Int)] w fun e w' => ∃ g, e = .returned (.slice (some ⟨g, 0, none⟩) 4 4) ∧ w'.ownsRow 0 36 1 (.slice (some ⟨g, 0, none⟩) 4 4) 4 (u64s (digs 4 n)) ∧ Fr S0 w w' ∧ w.heap.size ≤ g := by
  have hd := digs4 n hn
  have a0 : (n : Int) % 65536 = ((n % 65536 : Nat) : Int) := by omega
  have a1 : (n : Int) / 65536 % 65536 = ((n / 65536 % 65536 : Nat) : Int) := by omega
  have a2 : (n : Int) / 4294967296 % 65536 = ((n / 4294967296 % 65536 : Nat) : Int) := by omega
  have a3 : (n : Int) / 281474976710656 = ((n / 281474976710656 : Nat) : Int) := by omega
  have HO : Hid ((w.alloc (.cells #[.int .u64 ((n : Int) % 65536), .int .u64 ((n : Int) / 65536 % 65536), .int .u64 ((n : Int) / 4294967296 % 65536), .int .u64 ((n : Int) / 281474976710656)] 36)).ownsRow 0 36 1
      (.slice (some ⟨w.heap.size, 0, none⟩) 4 4) 4 (u64s (digs 4 n))) := Lib.hid (by
    rw [a0, a1, a2, a3, hd]
    exact own_new w (u64s [n % 65536, n / 65536 % 65536, n / 4294967296 % 65536, n / 281474976710656]) 36 (by unfold maxLen; simp [u64s]))
  clear a0 a1 a2 a3 hd
  go_enter Tryz.func87, Tryz.ntmps87
  go_wp2
  go_ret
  exact ⟨w.heap.size, rfl, HO.out, Fr.alloc _ _ _, Nat.le_refl _⟩
theorem rnumber_any (p : Option Addr) (c n f : Nat) (w : World) (h : Dig w p n) (hf : f ≤ 4) :
    Calls Tryz.prog 89 #[.slice p 8 c, .int .i64 (f : Int)] w fun e w' => e = .returned (.int .u64 (n / 65536 ^ f % 18446744073709551616 : Nat)) ∧ w = w' := by
  have H := Lib.hid h
  clear h
  go_enter Tryz.func89, Tryz.ntmps89
  go_wp2
  go_loopw [5, 6] (fun m i wr => ∃ j : Nat, j ≤ 4 ∧ i = .int .i64 ((f : Int) + 3 - (j : Int)) ∧ m = .int .u64 (n / 65536 ^ (f + 4 - j) % 65536 ^ j : Nat) ∧ w = wr) (fun _ i _ => (intOf i + 1 - (f : Int)).toNat)
  case atStart => exact ⟨0, by omega, by simp, by simp [Nat.mod_one], rfl⟩
  case round =>
    obtain ⟨j, hj, rfl, rfl, rfl⟩ := hrel
    by_cases h4 : j < 4
    · obtain ⟨i, hi⟩ : ∃ i, f + 3 - j = i := ⟨_, rfl⟩
      have hm : n / 65536 ^ (f + 4 - j) % 65536 ^ j < 281474976710656 := by
        have h1 : n / 65536 ^ (f + 4 - j) % 65536 ^ j < 65536 ^ j := Nat.mod_lt _ (Nat.pow_pos (by decide))
        have h2 : 65536 ^ j ≤ 65536 ^ 3 := Nat.pow_le_pow_right (by decide) (by omega)
        omega
      have hnx := four_next n i j
      rw [show i + 1 = f + 4 - j by omega] at hnx
      obtain ⟨m, hme⟩ : ∃ m, n / 65536 ^ (f + 4 - j) % 65536 ^ j = m := ⟨_, rfl⟩
      rw [hme] at hm hnx ⊢
      obtain ⟨b, o, rfl, hc⟩ := H.out.at i (by omega)
      have hx8 := dg_lt n i
      obtain ⟨x, hx⟩ : ∃ x, dg n i = x := ⟨_, rfl⟩
      rw [hx] at hc hnx hx8
      have HN := Lib.hid hnx
      have ei : (f : Int) + 3 - (j : Int) = (i : Int) := by omega
      have HI : Hid (f + 4 - (j + 1) = i) := Lib.hid (by omega)
      rw [ei]
      have q1 : (f : Int) ≤ (i : Int) := by omega
      have q2 : i < 8 := by omega
      clear hi hme hx hnx ei
      go_wp2
      go_roundw
      case rel => exact ⟨j + 1, by omega, congrArg (Value.int .i64) (by have := HI.out; omega), by rw [HI.out, HN.out]; go_num, by trivial⟩
      case measure => simp [intOf]; omega
    · obtain rfl : j = 4 := by omega
      have HE : Hid (n / 65536 ^ (f + 4 - 4) % 65536 ^ 4 = n / 65536 ^ f % 18446744073709551616) := Lib.hid (by rw [show f + 4 - 4 = f by omega, show (65536 : Nat) ^ 4 = 18446744073709551616 by decide])
      obtain ⟨m, hme⟩ : ∃ m, n / 65536 ^ (f + 4 - 4) % 65536 ^ 4 = m := ⟨_, rfl⟩
      rw [hme] at HE ⊢
      clear hme
      go_wp2
      go_ret
      exact ⟨congrArg (fun z : Nat => Ending.returned (Value.int .u64 (z : Int))) HE.out, rfl⟩
end Go.Proofs.YtmieeoceckcnkaaGreat

namespace Go.Proofs.YtmieeoceckcnkaaGreat
open Go.RowKit
def cmpR (x y : Nat) : Int := if x = y then 0 else if x < y then -1 else 1
theorem drewN_two (w : World) (a b : Nat) : (w.drewN a).drewN b = w.drewN (a + b) := by simp only [World.drewN, Nat.add_assoc]
theorem drewN_three (w : World) (a b c : Nat) : ((w.drewN a).drewN b).drewN c = w.drewN (a + b + c) := by simp only [World.drewN, Nat.add_assoc]
theorem rcmp_any (p q : Option Addr) (c d x y : Nat) (w : World) (hx : Dig w p x) (hy : Dig w q y) (bx : x < 340282366920938463463374607431768211456) (hby : y < 340282366920938463463374607431768211456) :
    Calls Tryz.prog 78 #[.slice p 8 c, .slice q 8 d] w fun e w' => e = .returned (.int .i64 (cmpR x y)) ∧ ∃ n, w' = w.drewN n := by
  have HX := Lib.hid hx
  have HY := Lib.hid hy
  have HS : Hid (x / 65536 ^ 8 = y / 65536 ^ 8) := Lib.hid (by
    have e : (65536 : Nat) ^ 8 = 340282366920938463463374607431768211456 := by decide
    rw [e, Nat.div_eq_of_lt bx, Nat.div_eq_of_lt hby])
  clear hx hy bx hby
  go_enter Tryz.func78, Tryz.ntmps78
  go_wp2
  go_loopw [5] (fun i wr => ∃ j n : Nat, j ≤ 8 ∧ i = .int .i64 (7 - (j : Int)) ∧ x / 65536 ^ (8 - j) = y / 65536 ^ (8 - j) ∧ wr = w.drewN n) (fun i _ => (intOf i + 1).toNat)
  case atStart => exact ⟨0, 0, by omega, rfl, HS.out, rfl⟩
  case round =>
    obtain ⟨j, n, hj, rfl, hs, rfl⟩ := hrel
    by_cases h8 : j < 8
    · obtain ⟨i, hi⟩ : ∃ i, 7 - j = i := ⟨_, rfl⟩
      rw [show 8 - j = i + 1 by omega] at hs
      have HE := Lib.hid hs
      have ei : 7 - (j : Int) = (i : Int) := by omega
      have HI : Hid (8 - (j + 1) = i) := Lib.hid (by omega)
      have hi8 : (i : Int) < 8 := by omega
      rw [ei]
      clear hi hs ei
      obtain ⟨b, o, rfl, hc⟩ := HX.out.at i (by omega)
      obtain ⟨b2, o2, rfl, hc2⟩ := HY.out.at i (by omega)
      obtain ⟨X, hX⟩ : ∃ X, dg x i = X := ⟨_, rfl⟩
      obtain ⟨Y, hY⟩ : ∃ Y, dg y i = Y := ⟨_, rfl⟩
      have EX := Lib.hid hX
      have EY := Lib.hid hY
      rw [hX] at hc
      rw [hY] at hc2
      clear hX hY
      by_cases h1 : X < Y
      · have HL : Hid (x < y) := Lib.hid (cmp_more HE.out (by rw [EX.out, EY.out]; exact h1))
        go_wp2_with fail
        go_quiet (fail)
        go_wp2
        go_ret
        exact ⟨congrArg (fun z => Ending.returned (Value.int .i64 z)) (by have := HL.out; unfold cmpR; rw [if_neg (by omega), if_pos this]), _, drewN_two _ _ _⟩
      · by_cases h2 : Y < X
        · have HL : Hid (y < x) := Lib.hid (cmp_more HE.out.symm (by rw [EX.out, EY.out]; exact h2))
          go_wp2_with fail
          go_quiet (fail)
          go_wp2_with fail
          go_quiet (fail)
          go_wp2
          go_ret
          exact ⟨congrArg (fun z => Ending.returned (Value.int .i64 z)) (by have := HL.out; unfold cmpR; rw [if_neg (by omega), if_neg (by omega)]), _, drewN_three _ _ _ _⟩
        · have HL : Hid (x / 65536 ^ i = y / 65536 ^ i) := Lib.hid (cmp_same HE.out (by rw [EX.out, EY.out]; omega))
          go_wp2_with fail
          go_quiet (fail)
          go_wp2_with fail
          go_quiet (fail)
          go_wp2_with fail
          go_roundw
          case rel => exact ⟨j + 1, _, by omega, congrArg (Value.int .i64) (by have := HI.out; omega), by rw [HI.out]; exact HL.out, rfl⟩
          case measure => simp [intOf]
    · obtain rfl : j = 8 := by omega
      have HL : Hid (x = y) := Lib.hid (by simpa using hs)
      clear hs
      go_wp2
      go_ret
      exact ⟨congrArg (fun z => Ending.returned (Value.int .i64 z)) (by unfold cmpR; rw [if_pos HL.out]), _, rfl⟩
theorem make8 : ∀ w : World, (Instr.makeSlice 88 (.int .i64 8) (.int .i64 8)).run Tryz.prog w = .ok (.slice (some ⟨w.heap.size, 0, none⟩) 8 8) (w.alloc (.cells #[.int .u64 0, .int .u64 0, .int .u64 0, .int .u64 0, .int .u64 0, .int .u64 0, .int .u64 0, .int .u64 0] 36)) :=
  fun _ => by kernel_rfl
theorem own8 (w : World) : (w.alloc (.cells #[.int .u64 0, .int .u64 0, .int .u64 0, .int .u64 0, .int .u64 0, .int .u64 0, .int .u64 0, .int .u64 0] 36)).ownsRow 0 36 1 (.slice (some ⟨w.heap.size, 0, none⟩) 8 8) 8 (u64s (digs 8 0)) :=
  own_new w (u64s (digs 8 0)) 36 (by unfold maxLen; simp [u64s, digs])
end Go.Proofs.YtmieeoceckcnkaaGreat
