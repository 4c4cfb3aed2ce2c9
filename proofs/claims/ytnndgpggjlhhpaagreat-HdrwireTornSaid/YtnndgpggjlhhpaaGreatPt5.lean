/- WdAll, RkAll, HmAll -/
import Derived.Test.YtnndgpggjlhhpaaGreatPt1
import Derived.Test.YtnndgpggjlhhpaaGreatPt2
import Derived.Lib.BitFns
import Derived.Shelf.Small.Bits
import Derived.Shelf.Strconv.Itoa0
import Derived.Shelf.Bits.Mul64
import Derived.Laws.Externs
import Derived.Shelf.Spec.BitsCarry
import Derived.Deep.CutBlock
import Derived.Deep.CutRange
import Derived.Deep.DeepCutAuto
import Derived.StillTailTactics
import Derived.Test.YtnndgpggjlhhpaaGreatRows
import Derived.WalkKit
import Derived.WalkSpells
import Derived.WalkLawsBesides
import Derived.Deep.QuietTactic
import Derived.BigQuiet
import Derived.RegionTactic
import Derived.Deep.AppendLies
import Derived.Deep.RegionLaw
import Derived.Laws.ResultCell
import Derived.Laws.EntriesVeiled
import Derived.Lib.Hide
import Derived.Laws.BytesArg
import Derived.Lib.SlBytesConst
import Derived.Maps.AppendAt
import Derived.Laws.AppendOwnNone
import Derived.BigRegion
import Derived.Deep.RegionHeld3
set_option maxRecDepth 100000
set_option maxHeartbeats 8000000
namespace Go.Proofs.YtnndgpggjlhhpaaGreat
theorem bitLenAux_bd : ∀ (f x : Nat), 0 < x → x < 2 ^ f → x < 2 ^ Lib.bitLenAux f x ∧ 2 ^ Lib.bitLenAux f x ≤ 2 * x
  | 0, x, h0, h => by simp at h; omega
  | f + 1, x, h0, h => by
    rw [Lib.bitLenAux, if_neg (by omega), Nat.add_comm 1, Nat.pow_succ]
    by_cases h1 : x / 2 = 0
    · have e : Lib.bitLenAux f (x / 2) = 0 := by rw [h1]; cases f <;> simp [Lib.bitLenAux]
      rw [e]; omega
    · obtain ⟨a, b⟩ := bitLenAux_bd f (x / 2) (by omega) (by rw [Nat.pow_succ] at h; omega)
      omega
theorem bitLen_bd (x : Nat) (h0 : 0 < x) (h : x < 18446744073709551616) : x < 2 ^ Lib.bitLen x ∧ 2 ^ Lib.bitLen x ≤ 2 * x := bitLenAux_bd 64 x h0 h
def digs : Nat → Nat → List Nat
  | 0, _ => []
  | k + 1, n => n % 65536 :: digs k (n / 65536)
def val : List Nat → Nat
  | [] => 0
  | x :: r => x + 65536 * val r
theorem digs_len : ∀ k n, (digs k n).length = k
  | 0, _ => rfl
  | k + 1, n => by rw [digs, List.length_cons, digs_len]
theorem digs_lt : ∀ k n, ∀ x ∈ digs k n, x < 65536
  | 0, _, x, h => by cases h
  | k + 1, n, x, h => by
    rw [digs] at h
    rcases List.mem_cons.1 h with rfl | h
    · omega
    · exact digs_lt k _ x h
theorem digs_at : ∀ k n i, i < k → (digs k n).getD i 0 = n / 65536 ^ i % 65536
  | k + 1, n, 0, _ => by simp [digs]
  | k + 1, n, i + 1, h => by
    rw [digs, List.getD_cons_succ, digs_at k _ i (by omega), Nat.div_div_eq_div_mul, Nat.pow_succ, Nat.mul_comm 65536]
theorem digs_get (k n i : Nat) (h : i < (digs k n).length) : (digs k n)[i] = n / 65536 ^ i % 65536 := by
  rw [← digs_at k n i (by rwa [digs_len] at h), List.getD_eq_getElem?_getD, List.getElem?_eq_getElem h]; rfl
theorem digs_val : ∀ l : List Nat, (∀ x ∈ l, x < 65536) → digs l.length (val l) = l
  | [], _ => rfl
  | x :: r, h => by
    have hx := h x List.mem_cons_self
    rw [List.length_cons, digs, val, show (x + 65536 * val r) % 65536 = x by omega, show (x + 65536 * val r) / 65536 = val r by omega, digs_val r fun y hy => h y (List.mem_cons_of_mem _ hy)]
theorem val_digs : ∀ k n, val (digs k n) = n % 65536 ^ k
  | 0, n => by simp [digs, val, Nat.mod_one]
  | k + 1, n => by rw [digs, val, val_digs k, Nat.pow_succ, Nat.mul_comm (65536 ^ k), Nat.mod_mul]
theorem val_set : ∀ (l : List Nat) (j v : Nat), j < l.length → val (l.set j v) + l.getD j 0 * 65536 ^ j = val l + v * 65536 ^ j
  | x :: r, 0, v, _ => by simp [val]; omega
  | x :: r, j + 1, v, h => by
    have := val_set r j v (by simpa using h)
    rw [List.set_cons_succ, val, val, List.getD_cons_succ, Nat.pow_succ, ← Nat.mul_assoc, ← Nat.mul_assoc]
    omega
theorem lt_of_getD {l : List Nat} (h : ∀ x ∈ l, x < 65536) (j : Nat) : l.getD j 0 < 65536 := by
  rw [List.getD_eq_getElem?_getD]
  by_cases hj : j < l.length
  · rw [List.getElem?_eq_getElem hj]; exact h _ (List.getElem_mem hj)
  · rw [List.getElem?_eq_none (by omega)]; decide
end Go.Proofs.YtnndgpggjlhhpaaGreat
namespace Go.Proofs.YtnndgpggjlhhpaaGreat
open Go.Shelf
def lays129_ren : Go.Shelf.Ren := ⟨fun | 129 => 75 | n => n, fun | 53 => 22 | 3 => 3 | 4 => 4 | 46 => 84 | 5 => 5 | 9 => 9 | n => n, fun | n => n⟩
theorem lays129 : Go.Proofs.Lays.n129 Tryz.prog lays129_ren := {
  mixed := by kernel_rfl
  f129 := Tryz.func75.trans (congrArg some (by kernel_rfl))
  t3 := Tryz.underlying3
  a3 := Tryz.isAgg3
  z3 := Tryz.sizeOf3
  v3 := Tryz.zeroValue3
  t4 := Tryz.underlying4
  a4 := Tryz.isAgg4
  z4 := Tryz.sizeOf4
  v4 := Tryz.zeroValue4
  t5 := Tryz.underlying5
  a5 := Tryz.isAgg5
  z5 := Tryz.sizeOf5
  v5 := Tryz.zeroValue5
  t9 := Tryz.underlying9
  a9 := Tryz.isAgg9
  z9 := Tryz.sizeOf9
  v9 := Tryz.zeroValue9
  t46 := Tryz.underlying84
  a46 := Tryz.isAgg84
  z46 := Tryz.sizeOf84
  v46 := Tryz.zeroValue84
  t53 := Tryz.underlying22
  a53 := Tryz.isAgg22
  z53 := Tryz.sizeOf22
  v53 := Tryz.zeroValue22 }
theorem bits_Len64 (x : Int) (w : World) (h0 : 0 ≤ x) (h1 : x ≤ 18446744073709551615) :
    Calls Tryz.prog 75 #[.int .u64 x] w fun e w' => e = .returned (.int .i64 (Lib.bitLen x.toNat)) ∧ w' = w := Any.bits_Len64 lays129 x w h0 h1
end Go.Proofs.YtnndgpggjlhhpaaGreat
namespace Go.Proofs.YtnndgpggjlhhpaaGreat
open Go.RowKit
theorem wrap_nat {x : Int} {n : Nat} (h : x = n) (hn : n < 18446744073709551616) : IntKind.u64.wrap x = (n : Int) := by rw [IntKind.wrap_u64]; omega
end Go.Proofs.YtnndgpggjlhhpaaGreat
namespace Go.Proofs.YtnndgpggjlhhpaaGreat
open Go.RowKit
theorem Fr.set {w W : World} (h : Fr S0 w W) (a : Addr) (x : Value) (ha : w.heap.size ≤ a.block) : Fr S0 w (W.setCell a x) :=
  h.trans (Fr.setCell (fun k => k = a.block) W a x rfl) fun j hj e => by omega
end Go.Proofs.YtnndgpggjlhhpaaGreat
namespace Go.Proofs.YtnndgpggjlhhpaaGreat
def dg (n i : Nat) : Nat := n / 65536 ^ i % 65536
theorem dg_lt (n i : Nat) : dg n i < 65536 := Nat.mod_lt _ (by decide)
theorem mod_next (n k : Nat) : n % 65536 ^ (k + 1) = n % 65536 ^ k + 65536 ^ k * dg n k := by
  rw [Nat.pow_succ, Nat.mod_mul]; rfl
theorem mul_step (l : List Nat) (j o n : Nat) (hj : j < l.length) (ho : l.getD j 0 = o) : val (l.set j (n % 65536)) + n / 65536 * 65536 ^ (j + 1) + o * 65536 ^ j = val l + n * 65536 ^ j := by
  have h := val_set l j (n % 65536) hj
  rw [ho] at h
  have e : n * 65536 ^ j = n / 65536 * 65536 ^ (j + 1) + n % 65536 * 65536 ^ j := by
    rw [Nat.pow_succ, Nat.mul_comm (65536 ^ j), ← Nat.mul_assoc, ← Nat.add_mul, Nat.mul_comm (n / 65536), Nat.div_add_mod]
  omega
structure MulOut (x y i : Nat) (l : List Nat) : Prop where
  len : l.length = 8
  lt : ∀ a ∈ l, a < 65536
  zer : ∀ j, i + 4 ≤ j → l.getD j 0 = 0
  sum : val l = x % 65536 ^ i * y
structure MulIn (x y i k : Nat) (l : List Nat) (c : Nat) : Prop where
  len : l.length = 8
  lt : ∀ a ∈ l, a < 65536
  zer : ∀ j, i + 4 ≤ j → l.getD j 0 = 0
  sum : val l + c * 65536 ^ (i + k) = x % 65536 ^ i * y + 65536 ^ i * (dg x i * (y % 65536 ^ k))
  cl : c < 65536
theorem MulOut.start (x y : Nat) : MulOut x y 0 (digs 8 0) :=
  ⟨rfl, digs_lt 8 0, fun j hj => by
    by_cases h : j < 8
    · rw [digs_at 8 0 j h, Nat.zero_div]
    · rw [List.getD_eq_getElem?_getD, List.getElem?_eq_none (by rw [digs_len]; omega)]; rfl, by rw [val_digs]; simp [Nat.mod_one]⟩
theorem MulOut.on {x y i : Nat} {l : List Nat} (h : MulOut x y i l) : MulIn x y i 0 l 0 := ⟨h.len, h.lt, h.zer, by simp [Nat.mod_one, h.sum], by decide⟩
theorem getD_set_ne (l : List Nat) (a j v : Nat) (h : a ≠ j) : (l.set a v).getD j 0 = l.getD j 0 := by
  rw [List.getD_eq_getElem?_getD, List.getD_eq_getElem?_getD, List.getElem?_set_ne h]
theorem set_lt {l : List Nat} (h : ∀ a ∈ l, a < 65536) (j v : Nat) (hv : v < 65536) : ∀ a ∈ l.set j v, a < 65536 :=
  fun a ha => (List.mem_or_eq_of_mem_set ha).elim (h a) fun e => e ▸ hv
theorem prod_le {a b : Nat} (ha : a < 65536) (hb : b < 65536) : a * b ≤ 4294836225 := Nat.mul_le_mul (show a ≤ 65535 by omega) (show b ≤ 65535 by omega)
theorem MulIn.step {x y i k c : Nat} {l : List Nat} (h : MulIn x y i k l c) (hi : i < 4) (hk : k < 4) :
    MulIn x y i (k + 1) (l.set (i + k) ((l.getD (i + k) 0 + dg x i * dg y k + c) % 65536)) ((l.getD (i + k) 0 + dg x i * dg y k + c) / 65536) := by
  have ho := lt_of_getD h.lt (i + k)
  have hp := prod_le (dg_lt x i) (dg_lt y k)
  have hs := mul_step l (i + k) _ (l.getD (i + k) 0 + dg x i * dg y k + c) (by rw [h.len]; omega) rfl
  have hc := h.cl
  refine ⟨by rw [List.length_set]; exact h.len, set_lt h.lt _ _ (Nat.mod_lt _ (by decide)), fun j hj => by rw [getD_set_ne _ _ _ _ (by omega)]; exact h.zer j hj, ?_, by omega⟩
  have e1 : 65536 ^ i * (dg x i * (y % 65536 ^ (k + 1))) = 65536 ^ i * (dg x i * (y % 65536 ^ k)) + dg x i * dg y k * 65536 ^ (i + k) := by
    rw [mod_next, Nat.mul_add, Nat.mul_add, Nat.pow_add]
    congr 1
    simp only [Nat.mul_comm, Nat.mul_left_comm, Nat.mul_assoc]
  have h0 := h.sum
  rw [Nat.add_mul, Nat.add_mul] at hs
  rw [e1, show i + (k + 1) = i + k + 1 by omega]
  omega
theorem MulIn.done {x y i c : Nat} {l : List Nat} (h : MulIn x y i 4 l c) (hi : i < 4) (hy : y < 18446744073709551616) : l.getD (i + 4) 0 = 0 ∧ MulOut x y (i + 1) (l.set (i + 4) c) := by
  have hz := h.zer (i + 4) (Nat.le_refl _)
  refine ⟨hz, by rw [List.length_set]; exact h.len, set_lt h.lt _ _ h.cl, fun j hj => by rw [getD_set_ne _ _ _ _ (by omega)]; exact h.zer j (by omega), ?_⟩
  have hv := val_set l (i + 4) c (by rw [h.len]; omega)
  rw [hz, Nat.zero_mul, Nat.add_zero, h.sum, show (65536 : Nat) ^ 4 = 18446744073709551616 by decide, Nat.mod_eq_of_lt hy] at hv
  rw [hv, mod_next, Nat.add_mul, Nat.mul_assoc]
theorem MulOut.done {x y : Nat} {l : List Nat} (h : MulOut x y 4 l) (hx : x < 18446744073709551616) : l = digs 8 (x * y) := by
  have hs := h.sum
  rw [show (65536 : Nat) ^ 4 = 18446744073709551616 by decide, Nat.mod_eq_of_lt hx] at hs
  rw [← hs, ← h.len, digs_val l h.lt]
end Go.Proofs.YtnndgpggjlhhpaaGreat
namespace Go.Proofs.YtnndgpggjlhhpaaGreat
open Go.RowKit
def u64s (bs : List Nat) : List Value := bs.map fun (x : Nat) => Value.int .u64 (x : Int)
theorem own_new (w : World) (xs : List Value) (t : TypeId) (hl : xs.length ≤ maxLen) : (w.alloc (.cells xs.toArray t)).ownsRow 0 t 1 (.slice (some ⟨w.heap.size, 0, none⟩) xs.length xs.length) xs.length xs :=
  ⟨by simp, .inr ⟨w.heap.size, xs.length, xs.toArray, rfl, Nat.zero_le _, heap_alloc_new w _, Nat.le_refl _, hl, by simp, by simp⟩⟩
def Dig (w : World) (p : Option Addr) (n : Nat) : Prop := SlI w .u64 p (digs 8 n)
theorem Dig.fr0 {w w' : World} {p : Option Addr} {n : Nat} (h : Dig w p n) (f : Fr S0 w w') : Dig w' p n := SlI.fr0 h f
theorem Dig.at {w : World} {p : Option Addr} {n : Nat} (h : Dig w p n) (i : Nat) (hi : i < 8) : ∃ b o, p = some ⟨b, o, none⟩ ∧ w.cell? ⟨b, o + i, none⟩ = some (.int .u64 (dg n i : Nat)) := by
  obtain ⟨b, o, hp, hc⟩ := SlI.at h i (by rw [digs_len]; exact hi)
  exact ⟨b, o, hp, by rw [hc, digs_get]; rfl⟩
theorem Dig.ofOwns {w : World} {p : Option Addr} {c n : Nat} (h : w.ownsRow 0 22 1 (.slice p 8 c) 8 (u64s (digs 8 n))) : Dig w p n := SlI.ofOwns h
def NewDig (w w' : World) (v : Value) (n : Nat) : Prop := ∃ p c, v = .slice p 8 c ∧ Dig w' p n ∧ Fr S0 w w'
theorem NewDig.mk {w w' : World} {p : Option Addr} {c n : Nat} (h : w'.ownsRow 0 22 1 (.slice p 8 c) 8 (u64s (digs 8 n))) (f : Fr S0 w w') : NewDig w w' (.slice p 8 c) n := ⟨p, c, rfl, Dig.ofOwns h, f⟩
end Go.Proofs.YtnndgpggjlhhpaaGreat
namespace Go.Proofs.YtnndgpggjlhhpaaGreat
open Go.RowKit
theorem own8 (w : World) : (w.alloc (.cells #[.int .u64 0, .int .u64 0, .int .u64 0, .int .u64 0, .int .u64 0, .int .u64 0, .int .u64 0, .int .u64 0] 22)).ownsRow 0 22 1 (.slice (some ⟨w.heap.size, 0, none⟩) 8 8) 8 (u64s (digs 8 0)) :=
  own_new w (u64s (digs 8 0)) 22 (by unfold maxLen; simp [u64s, digs])
end Go.Proofs.YtnndgpggjlhhpaaGreat
namespace Go.Proofs.YtnndgpggjlhhpaaGreat
open Go.RowKit
end Go.Proofs.YtnndgpggjlhhpaaGreat
namespace Go.Proofs.YtnndgpggjlhhpaaGreat
open Go.RowKit
end Go.Proofs.YtnndgpggjlhhpaaGreat

namespace Go.Proofs.YtnndgpggjlhhpaaGreat
end Go.Proofs.YtnndgpggjlhhpaaGreat
namespace Go.Proofs.YtnndgpggjlhhpaaGreat
open Go.RowKit
theorem pow_step (i : Nat) (h : i < 19) : 10 ^ i < 1000000000000000001 := by
  have := Nat.pow_le_pow_right (show 0 < 10 by decide) (show i ≤ 18 by omega)
  have e : (10 : Nat) ^ 18 = 1000000000000000000 := by decide
  omega
theorem power_yes (d : Nat) (w : World) (h : d ≤ 19) :
    Calls Tryz.prog 109 #[.int .i64 (d : Int)] w fun e w' => e = .returned (.tuple #[.int .u64 (10 ^ d : Nat), .int .i64 0]) ∧ Fr S0 w w' := by
  obtain ⟨T, hT⟩ : ∃ T, 10 ^ d = T := ⟨_, rfl⟩
  have HT := Lib.hid hT
  rw [hT]
  clear hT
  have h1 : decide (19 < d) = false := decide_eq_false (by omega)
  go_enter Tryz.func109, Tryz.ntmps109
  go_wp2
  go_loopw [4, 12] (fun x y wr => ∃ m i : Nat, x = .int .u64 (m : Int) ∧ y = .int .i64 (i : Int) ∧ i ≤ d ∧ Hid (10 ^ i = m) ∧ w = wr) (fun _ y _ => d - (intOf y).toNat)
  case atStart => exact ⟨1, 0, rfl, rfl, by omega, Lib.hid rfl, rfl⟩
  case round =>
    obtain ⟨m, i, rfl, rfl, hi, hm, rfl⟩ := hrel
    by_cases hlt : (i : Int) < (d : Int)
    · have hs := pow_step i (by omega)
      have HN : Hid (10 ^ (i + 1) = m * 10) := Lib.hid (by rw [Nat.pow_succ, hm.out])
      rw [hm.out] at hs
      clear hm
      go_wp2
      go_roundw
      case rel => exact ⟨m * 10, i + 1, by go_num, by go_num, by omega, HN, by trivial⟩
      case measure => simp [intOf]; omega
    · obtain rfl : i = d := by omega
      have e := hm.out
      rw [HT.out] at e
      subst e
      clear hm HT
      go_wp2
      go_ret2
      exact ⟨rfl, Fr.refl _ _⟩
end Go.Proofs.YtnndgpggjlhhpaaGreat
namespace Go.Proofs.YtnndgpggjlhhpaaGreat
open Go.RowKit
section
variable (f : Nat) (a d n : Nat) (w : World)
end
end Go.Proofs.YtnndgpggjlhhpaaGreat
namespace Go.Proofs.YtnndgpggjlhhpaaGreat
open Go.RowKit
section
variable (a d n : Nat) (w : World)
end
end Go.Proofs.YtnndgpggjlhhpaaGreat

namespace Go.Proofs.YtnndgpggjlhhpaaGreat
theorem two_pos (k : Nat) : 0 < 2 ^ k := Nat.pow_pos (by decide)
theorem two_le {a b : Nat} (h : a ≤ b) : 2 ^ a ≤ 2 ^ b := Nat.pow_le_pow_right (by decide) h
theorem two_lt {a b : Nat} (h : a < b) : 2 * 2 ^ a ≤ 2 ^ b := by
  have e : 2 ^ (a + 1) ≤ 2 ^ b := two_le h
  rw [Nat.pow_succ] at e; omega
theorem bits_iff (v k : Nat) (h : v < 18446744073709551616) : Lib.bitLen v ≤ k ↔ v < 2 ^ k := by
  by_cases h0 : v = 0
  · subst h0
    have e : Lib.bitLen 0 = 0 := by decide
    have p := two_pos k
    omega
  · obtain ⟨a, b⟩ := bitLen_bd v (by omega) h
    constructor
    · intro hk
      exact Nat.lt_of_lt_of_le a (two_le hk)
    · intro hv
      by_cases hc : Lib.bitLen v ≤ k
      · exact hc
      · have := two_lt (show k < Lib.bitLen v by omega); omega
def bkt (s v : Nat) : Nat := Lib.bitLen v - s
theorem bkt_iff (s v b : Nat) (h : v < 18446744073709551616) : bkt s v ≤ b ↔ v < 2 ^ (s + b) := by
  rw [← bits_iff v (s + b) h, bkt]; omega
theorem bkt_lt (s v : Nat) (h : v < 18446744073709551616) : v < 2 ^ (s + bkt s v) := (bkt_iff s v _ h).1 (Nat.le_refl _)
theorem bkt_ge (s v : Nat) (h : v < 18446744073709551616) (h0 : 0 < bkt s v) : 2 ^ (s + (bkt s v - 1)) ≤ v := by
  have e := bkt_iff s v (bkt s v - 1) h
  omega
theorem bkt_is (s v b : Nat) (h : v < 18446744073709551616) (h1 : v < 2 ^ (s + b)) (h2 : 0 < b → 2 ^ (s + (b - 1)) ≤ v) : bkt s v = b := by
  have e := (bkt_iff s v b h).2 h1
  by_cases hb : b = 0
  · omega
  · have e2 := bkt_iff s v (b - 1) h
    have := h2 (by omega)
    omega
theorem bkt_most (s v : Nat) (hs : s ≤ 63) (h : v < 9223372036854775808) : bkt s v ≤ 63 - s := by
  rw [bkt_iff s v _ (by omega), show s + (63 - s) = 63 by omega]; exact h
def hwid (u m v : Nat) : Nat := u + bkt (u + m) v
theorem hwid_most (u m v : Nat) (hm : 1 ≤ m) (hs : u + m ≤ 62) (h : v < 9223372036854775808) : hwid u m v ≤ 62 := by
  have := bkt_most (u + m) v (by omega) h
  rw [hwid]; omega
def quo (u m v : Nat) : Nat := v / 2 ^ hwid u m v
theorem quo_lt (u m v : Nat) (h : v < 18446744073709551616) : quo u m v < 2 ^ m := by
  rw [quo, Nat.div_lt_iff_lt_mul (two_pos _), ← Nat.pow_add, hwid]
  have e := bkt_lt (u + m) v h
  rwa [show m + (u + bkt (u + m) v) = u + m + bkt (u + m) v by omega]
theorem quo_ge (u m v : Nat) (hm : 1 ≤ m) (h : v < 18446744073709551616) (h0 : 0 < bkt (u + m) v) : 2 ^ (m - 1) ≤ quo u m v := by
  rw [quo, Nat.le_div_iff_mul_le (two_pos _), ← Nat.pow_add, hwid]
  have e := bkt_ge (u + m) v h h0
  rwa [show m - 1 + (u + bkt (u + m) v) = u + m + (bkt (u + m) v - 1) by omega]
theorem half_two (m : Nat) (hm : 1 ≤ m) : 2 ^ m = 2 * 2 ^ (m - 1) := by
  rw [show m = m - 1 + 1 by omega, Nat.pow_succ, Nat.add_sub_cancel]; omega
def idx (u m v : Nat) : Nat := bkt (u + m) v * 2 ^ (m - 1) + quo u m v
def ibk (m i : Nat) : Nat := i / 2 ^ (m - 1) - 1
theorem ibk_idx (u m v : Nat) (hm : 1 ≤ m) (h : v < 18446744073709551616) : ibk m (idx u m v) = bkt (u + m) v := by
  have q := quo_lt u m v h
  have q2 := quo_ge u m v hm h
  rw [half_two m hm] at q
  have p := two_pos (m - 1)
  rw [ibk, idx, Nat.add_comm, Nat.add_mul_div_right _ _ p]
  by_cases hb : bkt (u + m) v = 0
  · have : quo u m v / 2 ^ (m - 1) < 2 := by rw [Nat.div_lt_iff_lt_mul p]; omega
    omega
  · have e : quo u m v / 2 ^ (m - 1) = 1 := by
      have a : quo u m v / 2 ^ (m - 1) < 2 := by rw [Nat.div_lt_iff_lt_mul p]; omega
      have b : 1 ≤ quo u m v / 2 ^ (m - 1) := by rw [Nat.le_div_iff_mul_le p]; have := q2 (by omega); omega
      omega
    omega
def iqu (m i : Nat) : Nat := i - ibk m i * 2 ^ (m - 1)
theorem iqu_at (m i : Nat) : ibk m i * 2 ^ (m - 1) ≤ i := by
  have e := Nat.div_mul_le_self i (2 ^ (m - 1))
  have l : ibk m i * 2 ^ (m - 1) ≤ i / 2 ^ (m - 1) * 2 ^ (m - 1) := Nat.mul_le_mul_right _ (Nat.sub_le _ _)
  omega
theorem iqu_lt (m i : Nat) (hm : 1 ≤ m) : iqu m i < 2 ^ m := by
  have p := two_pos (m - 1)
  have e := Nat.div_add_mod i (2 ^ (m - 1))
  have l := Nat.mod_lt i p
  rw [half_two m hm, iqu, ibk]
  rw [Nat.mul_comm] at e
  by_cases h : i / 2 ^ (m - 1) = 0
  · rw [h] at e ⊢; simp only [Nat.zero_sub, Nat.zero_mul] at e ⊢; omega
  · have e2 : i / 2 ^ (m - 1) * 2 ^ (m - 1) = (i / 2 ^ (m - 1) - 1) * 2 ^ (m - 1) + 2 ^ (m - 1) := by
      rw [← Nat.succ_mul, Nat.succ_eq_add_one, Nat.sub_add_cancel (Nat.pos_of_ne_zero h)]
    omega
theorem iqu_ge (m i : Nat) (h : 0 < ibk m i) : 2 ^ (m - 1) ≤ iqu m i := by
  have e := Nat.div_mul_le_self i (2 ^ (m - 1))
  rw [ibk] at h
  have e2 : i / 2 ^ (m - 1) * 2 ^ (m - 1) = (i / 2 ^ (m - 1) - 1) * 2 ^ (m - 1) + 2 ^ (m - 1) := by
    rw [← Nat.succ_mul, Nat.succ_eq_add_one, Nat.sub_add_cancel (Nat.lt_of_sub_pos h |> Nat.le_of_lt)]
  rw [iqu, ibk]; omega
def vof (u m i : Nat) : Nat := iqu m i * 2 ^ (u + ibk m i)
theorem vof_lt (u m i : Nat) (hm : 1 ≤ m) (hs : u + m ≤ 63) (h : ibk m i ≤ 63 - (u + m)) : vof u m i + 2 ^ (u + ibk m i) ≤ 9223372036854775808 := by
  have q := iqu_lt m i hm
  have e : (iqu m i + 1) * 2 ^ (u + ibk m i) ≤ 2 ^ m * 2 ^ (u + ibk m i) := Nat.mul_le_mul_right _ q
  rw [← Nat.pow_add, Nat.add_mul, Nat.one_mul] at e
  have l : 2 ^ (m + (u + ibk m i)) ≤ 2 ^ 63 := two_le (by omega)
  rw [vof]; omega
theorem bkt_vof (u m i : Nat) (hm : 1 ≤ m) (hs : u + m ≤ 63) (h : ibk m i ≤ 63 - (u + m)) : bkt (u + m) (vof u m i) = ibk m i := by
  have l := vof_lt u m i hm hs h
  have p := two_pos (u + ibk m i)
  refine bkt_is _ _ _ (by omega) ?_ ?_
  · rw [vof, show u + m + ibk m i = m + (u + ibk m i) by omega, Nat.pow_add 2 m]
    exact Nat.mul_lt_mul_of_pos_right (iqu_lt m i hm) (two_pos _)
  · intro hb
    rw [vof, show u + m + (ibk m i - 1) = m - 1 + (u + ibk m i) by omega, Nat.pow_add 2 (m - 1)]
    exact Nat.mul_le_mul_right _ (iqu_ge m i hb)
theorem quo_vof (u m i : Nat) (hm : 1 ≤ m) (hs : u + m ≤ 63) (h : ibk m i ≤ 63 - (u + m)) : quo u m (vof u m i) = iqu m i := by
  rw [quo, hwid, bkt_vof u m i hm hs h, vof, Nat.mul_div_cancel _ (two_pos _)]
theorem idx_vof (u m i : Nat) (hm : 1 ≤ m) (hs : u + m ≤ 63) (h : ibk m i ≤ 63 - (u + m)) : idx u m (vof u m i) = i := by
  rw [idx, bkt_vof u m i hm hs h, quo_vof u m i hm hs h, iqu]
  have := iqu_at m i
  omega
def top (u m n : Nat) : Nat := 2 ^ min (u + m + n - 1) 63 - 1
theorem top_is (u m v : Nat) (hs : u + m ≤ 62) (h : v < 9223372036854775808) : top u m (1 + bkt (u + m) v) = 2 ^ (u + m + bkt (u + m) v) - 1 := by
  have := bkt_most (u + m) v (by omega) h
  rw [top, show min (u + m + (1 + bkt (u + m) v) - 1) 63 = u + m + bkt (u + m) v by omega]
theorem top_ge (u m v : Nat) (hs : u + m ≤ 62) (h : v < 9223372036854775808) : v ≤ top u m (1 + bkt (u + m) v) := by
  rw [top_is u m v hs h]
  have := bkt_lt (u + m) v (by omega)
  omega
theorem top_lt (u m n : Nat) : top u m n < 9223372036854775808 := by
  have l : 2 ^ min (u + m + n - 1) 63 ≤ 2 ^ 63 := two_le (by omega)
  have p := two_pos (min (u + m + n - 1) 63)
  rw [top]; omega
theorem idx_lt (u m v : Nat) (hm : 1 ≤ m) (h : v < 18446744073709551616) : idx u m v < (2 + bkt (u + m) v) * 2 ^ (m - 1) := by
  have q := quo_lt u m v h
  rw [half_two m hm] at q
  rw [idx, Nat.add_mul]; omega
def unt (l : Nat) : Nat := Lib.bitLen l - 1
def mag (d : Nat) : Nat := Lib.bitLen (2 * 10 ^ d - 1)
theorem mag_bd (d : Nat) (h1 : 1 ≤ d) (h5 : d ≤ 5) : 5 ≤ mag d ∧ mag d ≤ 18 := by
  obtain rfl | rfl | rfl | rfl | rfl : d = 1 ∨ d = 2 ∨ d = 3 ∨ d = 4 ∨ d = 5 := by omega
  all_goals decide
theorem unt_bd (l : Nat) (h : l < 18446744073709551616) : unt l ≤ 63 := by
  have a := bits_iff l 64 h
  have := a.2 h
  rw [unt]; omega
end Go.Proofs.YtnndgpggjlhhpaaGreat
namespace Go.Proofs.YtnndgpggjlhhpaaGreat
open Go.RowKit
structure MapIs (w : World) (g : Nat) (lo hi d : Int) (u m : Nat) : Prop where
  lt : g < w.heap.size
  c0 : w.cell? ⟨g, 0, none⟩ = some (.int .i64 lo)
  c1 : w.cell? ⟨g, 1, none⟩ = some (.int .i64 hi)
  c2 : w.cell? ⟨g, 2, none⟩ = some (.int .i64 d)
  c3 : w.cell? ⟨g, 3, none⟩ = some (.int .i64 (u : Nat))
  c4 : w.cell? ⟨g, 4, none⟩ = some (.int .i64 (m : Nat))
  h5 : 5 ≤ m
  hx : m ≤ 18
  hs : u + m ≤ 62
section
variable {w w' : World} {g : Nat} {lo hi d : Int} {u m : Nat}
theorem MapIs.fr0 (s : MapIs w g lo hi d u m) (f : Fr S0 w w') : MapIs w' g lo hi d u m := ⟨Nat.lt_of_lt_of_le s.lt f.size, f.cell s.c0 (fun h => h), f.cell s.c1 (fun h => h), f.cell s.c2 (fun h => h), f.cell s.c3 (fun h => h), f.cell s.c4 (fun h => h), s.h5, s.hx, s.hs⟩
theorem MapIs.hm (s : MapIs w g lo hi d u m) : 1 ≤ m := by have := s.h5; omega
theorem MapIs.drewN (s : MapIs w g lo hi d u m) (n : Nat) : MapIs (w.drewN n) g lo hi d u m := ⟨s.lt, s.c0, s.c1, s.c2, s.c3, s.c4, s.h5, s.hx, s.hs⟩
theorem MapIs.of {X : Array Value} {T : TypeId} {fz : Nat × Nat} (hb : w.heap[g]? = some (.cells X T fz)) (e0 : X[0]? = some (.int .i64 lo)) (e1 : X[1]? = some (.int .i64 hi)) (e2 : X[2]? = some (.int .i64 d)) (e3 : X[3]? = some (.int .i64 (u : Nat))) (e4 : X[4]? = some (.int .i64 (m : Nat))) (h5 : 5 ≤ m) (hx : m ≤ 18) (hs : u + m ≤ 62) : MapIs w g lo hi d u m := ⟨(Array.getElem?_eq_some_iff.1 hb).1, by simp [World.cell?, hb, e0], by simp [World.cell?, hb, e1], by simp [World.cell?, hb, e2], by simp [World.cell?, hb, e3], by simp [World.cell?, hb, e4], h5, hx, hs⟩
end
section
variable (g : Nat) (lo hi d : Int) (u m : Nat) (w : World) (s : MapIs w g lo hi d u m)
include s
theorem half_any : Calls Tryz.prog 102 #[.pointer (some ⟨g, 0, none⟩)] w fun e w' => e = .returned (.int .i64 (2 ^ (m - 1) : Nat)) ∧ w' = w := by
  have c4 := s.c4
  have hs := s.hs
  obtain ⟨k, rfl⟩ : ∃ k, m = k + 1 := ⟨m - 1, by have := s.hm; omega⟩
  have l : 2 ^ k ≤ 2 ^ 62 := two_le (by omega)
  obtain ⟨H, hH⟩ : ∃ H, 2 ^ k = H := ⟨_, rfl⟩
  have e1 : ((k + 1 : Nat) : Int) - 1 = (k : Int) := by omega
  rw [Nat.add_sub_cancel, hH]
  rw [hH] at l
  have wH : (2 : Int) ^ k = (H : Int) := by rw [← hH, Int.natCast_pow]; rfl
  obtain ⟨M, hM⟩ : ∃ M, k + 1 = M := ⟨_, rfl⟩
  rw [hM] at e1 c4
  have hk : k ≤ 61 := by omega
  clear hs hH s hM
  go_enter Tryz.func102, Tryz.ntmps102
  go_wp2_with fail
  go_ret
  exact ⟨rfl, rfl⟩
theorem width_any (b : Nat) (hb : b ≤ 64) : Calls Tryz.prog 142 #[.pointer (some ⟨g, 0, none⟩), .int .i64 (b : Nat)] w fun e w' => e = .returned (.int .i64 (u + b : Nat)) ∧ w' = w := by
  have c3 := s.c3
  have hs := s.hs
  clear s
  go_enter Tryz.func142, Tryz.ntmps142
  go_wp2_with fail
  go_ret
  exact ⟨rfl, rfl⟩
theorem bucket_any (v : Nat) (hv : v < 9223372036854775808) : Calls Tryz.prog 47 #[.pointer (some ⟨g, 0, none⟩), .int .i64 (v : Nat)] w fun e w' => e = .returned (.int .i64 (bkt (u + m) v : Nat)) ∧ Fr S0 w w' := by
  have c3 := s.c3
  have c4 := s.c4
  have hs := s.hs
  have hL : Lib.bitLen v ≤ 64 := (bits_iff v 64 (by omega)).2 (by omega)
  have HL := Lib.hid (fun W => bits_Len64 (v : Int) W (by omega) (by omega))
  have wv : IntKind.u64.wrap (v : Int) = (v : Int) := by rw [IntKind.wrap_u64]; omega
  rw [show ((v : Int).toNat) = v by omega] at HL
  rw [bkt]
  obtain ⟨L, eL⟩ : ∃ L, Lib.bitLen v = L := ⟨_, rfl⟩
  rw [eL] at HL hL ⊢
  obtain ⟨Y, eY⟩ : ∃ Y : Int, (L : Int) - (u : Int) = Y := ⟨_, rfl⟩
  obtain ⟨X, eX⟩ : ∃ X : Int, Y - (m : Int) = X := ⟨_, rfl⟩
  obtain ⟨B, eB⟩ : ∃ B, L - (u + m) = B := ⟨_, rfl⟩
  rw [eB]
  have hY : -64 ≤ Y ∧ Y ≤ 64 := by omega
  have hX : -128 ≤ X ∧ X ≤ 64 := by omega
  have wY : IntKind.i64.wrap Y = Y := by rw [IntKind.wrap_i64]; omega
  have wX : IntKind.i64.wrap X = X := by rw [IntKind.wrap_i64]; omega
  have em : max X 0 = (B : Int) := by omega
  have em2 : (if X < 0 then 0 else X) = (B : Int) := by split <;> omega
  clear s eL eB hL hs
  go_enter Tryz.func47, Tryz.ntmps47
  go_upto_region 15 with fail
  go_region_held3 (fun w' => w'.cell? ⟨g, 3, none⟩ = some (.int .i64 (u : Nat)) ∧ w'.cell? ⟨g, 4, none⟩ = some (.int .i64 (m : Nat)))
    (first
      | (go_split_ands; exact ⟨by assumption, by assumption⟩))
    (first | (go_at_call 75; ((with_reducible refine (HL.out _).mono ?_); rintro _ _ ⟨rfl, rfl⟩)))
  all_goals
    go_wp2_with fail
    go_ret
    exact ⟨rfl, Fr.drew _ _⟩
end
end Go.Proofs.YtnndgpggjlhhpaaGreat
namespace Go.Proofs.YtnndgpggjlhhpaaGreat
open Go.RowKit
theorem results_row {P : Program} {fn : Func} {p : Tmp} {ty : TypeId} (h : fn.results = #[.cell p ty]) (tmps : Array Value) (w : World) {g : Nat} {t : TypeId} {cs : Array Value} {fr : Nat × Nat} {d : TypeDesc}
    (hp : tmps.getD p undef = .pointer (some ⟨g, 0, none⟩)) (hg : w.heap[g]? = some (.cells cs t fr))
    (hu : P.underlying ty = some d) (hd : (match d with | .struct _ | .array _ _ => true | _ => false) = true) (hi : (P.info? ty).map (·.size) = some cs.size) :
    (results fn tmps).run P w = .ok (.agg cs) w := by
  have hrun := run_loadVar_row w g t ty cs fr d hg hu hd hi
  rw [Array.getD_eq_getD_getElem?] at hp
  unfold results
  rw [h]
  simp [hp, asAddr, hrun]
structure Box2 (w : World) (g : Nat) (a b : Value) : Prop where
  c0 : w.cell? ⟨g, 0, none⟩ = some a
  c1 : w.cell? ⟨g, 1, none⟩ = some b
  f0 : w.frozen? ⟨g, 0, none⟩ = false
  f1 : w.frozen? ⟨g, 1, none⟩ = false
theorem Box2.of {w : World} {g : Nat} {a b : Value} {t : TypeId} (h : w.heap[g]? = some (.cells #[a, b] t (0, 0))) : Box2 w g a b := by
  constructor <;> simp [World.cell?, World.frozen?, h]
end Go.Proofs.YtnndgpggjlhhpaaGreat
namespace Go.Proofs.YtnndgpggjlhhpaaGreat
open Go.RowKit
section
variable (g : Nat) (lo hi d : Int) (u m : Nat) (w : World) (s : MapIs w g lo hi d u m)
include s
end
end Go.Proofs.YtnndgpggjlhhpaaGreat
namespace Go.Proofs.YtnndgpggjlhhpaaGreat
open Go.RowKit
theorem half_le {m : Nat} (h : m ≤ 18) : 2 ^ (m - 1) ≤ 131072 := two_le (b := 17) (by omega)
theorem bkt_top (s : Nat) : bkt s 9223372036854775807 = 63 - s := by
  rw [bkt, show Lib.bitLen 9223372036854775807 = 63 by decide]
def cntB (n : Int) : Nat := (min (max n 1) 64).toNat
theorem cntB_bd (n : Int) : 1 ≤ cntB n ∧ cntB n ≤ 64 := by unfold cntB; omega
theorem counted_any (n : Int) (w : World) : Calls Tryz.prog 48 #[.int .i64 n] w fun e w' => e = .returned (.int .i64 (cntB n : Nat)) ∧ w' = w := by
  obtain ⟨M, hM⟩ : ∃ M, max n 1 = M := ⟨_, rfl⟩
  obtain ⟨C, hC⟩ : ∃ C, cntB n = C := ⟨_, rfl⟩
  have eC : min M 64 = (C : Int) := by rw [← hC, ← hM, cntB]; omega
  rw [hC]
  clear hC
  go_enter Tryz.func48, Tryz.ntmps48
  go_wp2_with fail
  go_ret
  exact ⟨rfl, rfl⟩
section
variable (g : Nat) (lo hi d : Int) (u m : Nat) (w : World) (s : MapIs w g lo hi d u m)
include s
theorem index_any (v : Nat) (hv : v < 9223372036854775808) :
    Calls Tryz.prog 110 #[.pointer (some ⟨g, 0, none⟩), .int .i64 (v : Nat)] w fun e w' => e = .returned (.tuple #[.int .i64 (idx u m v : Nat), .int .i64 0]) ∧ Fr S0 w w' := by
  have hbk := bkt_most (u + m) v (by have := s.hs; omega) hv
  have HB := Lib.hid (fun W (f : Fr S0 w W) => bucket_any g lo hi d u m W (s.fr0 f) v hv)
  have HW := Lib.hid (fun W (f : Fr S0 w W) => width_any g lo hi d u m W (s.fr0 f) (bkt (u + m) v) (by omega))
  have HH := Lib.hid (fun W (f : Fr S0 w W) => half_any g lo hi d u m W (s.fr0 f))
  have hH := half_le s.hx
  have hq := quo_lt u m v (by omega)
  have hm18 : 2 ^ m ≤ 262144 := two_le (b := 18) s.hx
  have eI : bkt (u + m) v * 2 ^ (m - 1) + quo u m v = idx u m v := rfl
  obtain ⟨b, eb⟩ : ∃ b, bkt (u + m) v = b := ⟨_, rfl⟩
  obtain ⟨K, eK⟩ : ∃ K, hwid u m v = K := ⟨_, rfl⟩
  obtain ⟨H, eH⟩ : ∃ H, 2 ^ (m - 1) = H := ⟨_, rfl⟩
  have eK2 : u + b = K := by rw [← eK, hwid, eb]
  rw [eb] at HB HW eI hbk
  rw [eK2] at HW
  rw [eH] at HH eI hH
  obtain ⟨Q, eQ⟩ : ∃ Q, quo u m v = Q := ⟨_, rfl⟩
  have e1 : (v : Int) / 2 ^ K = (Q : Int) := by rw [← eQ, quo, eK, Int.natCast_ediv, Int.natCast_pow]; rfl
  obtain ⟨P, eP⟩ : ∃ P, b * H = P := ⟨_, rfl⟩
  obtain ⟨I, eJ⟩ : ∃ I, idx u m v = I := ⟨_, rfl⟩
  rw [eQ, eP, eJ] at eI
  have hP : P ≤ 63 * 131072 := by rw [← eP]; exact Nat.mul_le_mul (by omega) hH
  have e2 : (b : Int) * (H : Int) = (P : Int) := by rw [← eP, Int.natCast_mul]
  have e3 : (P : Int) + (Q : Int) = (I : Int) := by omega
  have hI : I ≤ 100000000 := by omega
  have hk := hwid_most u m v s.hm s.hs hv
  rw [eK] at hk
  rw [eJ]
  clear s hm18 hq eb eK eK2 eH eQ eP eI eJ hbk hH hv
  go_enter Tryz.func110, Tryz.ntmps110
  go_wp2_with fail
  refine (HB.out _ (Fr.refl _ _)).mono ?_
  rintro e w1 ⟨rfl, f1⟩
  have F1 := Lib.hid f1
  clear f1
  go_wp2_with fail
  refine (HH.out _ F1.out).mono ?_
  rintro e w2 ⟨rfl, rfl⟩
  go_wp2_with fail
  refine (HW.out _ F1.out).mono ?_
  rintro e w3 ⟨rfl, rfl⟩
  go_wp2_with fail
  go_ret2
  exact ⟨rfl, F1.out⟩
theorem value_no (n : Nat) (hn : n < 9223372036854775808) (h : 63 - (u + m) < ibk m n) :
    Calls Tryz.prog 98 #[.pointer (some ⟨g, 0, none⟩), .int .i64 (n : Nat)] w fun e w' => e = .returned (.tuple #[.int .i64 0, .int .i64 5]) ∧ Fr S0 w w' := by
  have HB := Lib.hid (bucket_any g lo hi d u m w s 9223372036854775807 (by omega))
  rw [bkt_top] at HB
  have HH := Lib.hid (half_any g lo hi d u m w s)
  have p := two_pos (m - 1)
  obtain ⟨H, eH⟩ : ∃ H, 2 ^ (m - 1) = H := ⟨_, rfl⟩
  have hD : n / H ≤ n := Nat.div_le_self _ _
  rw [ibk, eH] at h
  rw [eH] at HH p
  obtain ⟨D, eD⟩ : ∃ D, n / H = D := ⟨_, rfl⟩
  obtain ⟨b, eb⟩ : ∃ b, D - 1 = b := ⟨_, rfl⟩
  obtain ⟨T, eT⟩ : ∃ T, 63 - (u + m) = T := ⟨_, rfl⟩
  rw [eD] at h hD
  rw [eb, eT] at h
  rw [eT] at HB
  have e1 : (n : Int) / (H : Int) = (D : Int) := by rw [← eD, Int.natCast_ediv]
  obtain ⟨X, eX⟩ : ∃ X, (D : Int) - 1 = X := ⟨_, rfl⟩
  have em : max X 0 = (b : Int) := by omega
  have hX : X ≤ 9223372036854775807 ∧ -1 ≤ X := by omega
  have hD2 : D ≤ 9223372036854775807 := by omega
  clear s eH eD eb eT hD hn
  go_enter Tryz.func98, Tryz.ntmps98
  go_wp2_with fail
  refine HH.out.mono ?_
  rintro e w2 ⟨rfl, rfl⟩
  go_wp2_with fail
  refine HB.out.mono ?_
  rintro e w3 ⟨rfl, f3⟩
  have F3 := Lib.hid f3
  clear f3
  go_wp2_with fail
  go_ret2
  exact ⟨rfl, F3.out⟩
theorem value_yes (n : Nat) (hn : n < 9223372036854775808) (h : ibk m n ≤ 63 - (u + m)) :
    Calls Tryz.prog 98 #[.pointer (some ⟨g, 0, none⟩), .int .i64 (n : Nat)] w fun e w' => e = .returned (.tuple #[.int .i64 (vof u m n : Nat), .int .i64 0]) ∧ Fr S0 w w' := by
  have HB := Lib.hid (bucket_any g lo hi d u m w s 9223372036854775807 (by omega))
  rw [bkt_top] at HB
  have HH := Lib.hid (fun W (f : Fr S0 w W) => half_any g lo hi d u m W (s.fr0 f))
  have HW := Lib.hid (fun W (f : Fr S0 w W) => width_any g lo hi d u m W (s.fr0 f) (ibk m n) (by omega))
  have p := two_pos (m - 1)
  have hH := half_le s.hx
  have hV := vof_lt u m n s.hm (by have := s.hs; omega) h
  have hV2 := two_pos (u + ibk m n)
  have hq := iqu_lt m n s.hm
  have hm18 : 2 ^ m ≤ 262144 := two_le (b := 18) s.hx
  have hat := iqu_at m n
  have hk : u + ibk m n ≤ 62 := by have := s.hs; have := s.h5; omega
  obtain ⟨b, eb⟩ : ∃ b, ibk m n = b := ⟨_, rfl⟩
  obtain ⟨H, eH⟩ : ∃ H, 2 ^ (m - 1) = H := ⟨_, rfl⟩
  obtain ⟨q, eq⟩ : ∃ q, iqu m n = q := ⟨_, rfl⟩
  obtain ⟨V, eV⟩ : ∃ V, vof u m n = V := ⟨_, rfl⟩
  have eb2 := eb
  rw [ibk, eH] at eb2
  have hD : n / H ≤ n := Nat.div_le_self _ _
  obtain ⟨K, eK⟩ : ∃ K, u + b = K := ⟨_, rfl⟩
  have e5 : (q : Int) * 2 ^ K = (V : Int) := by rw [← eV, vof, eq, eb, eK, Int.natCast_mul, Int.natCast_pow]; rfl
  rw [eb] at h HW hat hk hV hV2
  rw [eK] at HW hk hV hV2
  rw [eH] at HH p hH hat
  obtain ⟨P, eP⟩ : ∃ P, b * H = P := ⟨_, rfl⟩
  rw [eP] at hat
  have eq2 : n - P = q := by rw [← eP, ← eq, iqu, eb, eH]
  have e3 : (b : Int) * (H : Int) = (P : Int) := by rw [← eP, Int.natCast_mul]
  have e4 : (n : Int) - (P : Int) = (q : Int) := by omega
  rw [eV]
  rw [eV] at hV
  rw [eq] at hq
  obtain ⟨D, eD⟩ : ∃ D, n / H = D := ⟨_, rfl⟩
  obtain ⟨T, eT⟩ : ∃ T, 63 - (u + m) = T := ⟨_, rfl⟩
  rw [eD] at eb2 hD
  rw [eT] at h HB
  have e1 : (n : Int) / (H : Int) = (D : Int) := by rw [← eD, Int.natCast_ediv]
  obtain ⟨X, eX⟩ : ∃ X, (D : Int) - 1 = X := ⟨_, rfl⟩
  have em : max X 0 = (b : Int) := by omega
  have hX : X ≤ 9223372036854775807 ∧ -1 ≤ X := by omega
  have hD2 : D ≤ 9223372036854775807 := by omega
  have hP2 : P ≤ 9223372036854775807 := by omega
  have hV3 : V ≤ 9223372036854775807 := by omega
  have hq2 : q ≤ 262144 := by omega
  clear s eH eD eb eb2 eT hD hn hV hV2 hq hm18 hat eq eq2 eV eP eK hH
  go_enter Tryz.func98, Tryz.ntmps98
  go_wp2_with fail
  refine (HH.out _ (Fr.refl _ _)).mono ?_
  rintro e w2 ⟨rfl, rfl⟩
  go_wp2_with fail
  refine HB.out.mono ?_
  rintro e w3 ⟨rfl, f3⟩
  have F3 := Lib.hid f3
  clear f3
  go_wp2_with fail
  refine (HH.out _ F3.out).mono ?_
  rintro e w4 ⟨rfl, rfl⟩
  go_wp2_with fail
  refine (HW.out _ F3.out).mono ?_
  rintro e w5 ⟨rfl, rfl⟩
  go_wp2_with fail
  go_ret2
  exact ⟨rfl, F3.out⟩
theorem buckets_any (v : Int) (hv : v < 9223372036854775808) :
    Calls Tryz.prog 30 #[.pointer (some ⟨g, 0, none⟩), .int .i64 v] w fun e w' => e = .returned (.int .i64 (1 + bkt (u + m) v.toNat : Nat)) ∧ Fr S0 w w' := by
  have HB := Lib.hid (bucket_any g lo hi d u m w s v.toNat (by omega))
  have hb := bkt_most (u + m) v.toNat (by have := s.hs; omega) (by omega)
  obtain ⟨V, eV⟩ : ∃ V, v.toNat = V := ⟨_, rfl⟩
  have em : max v 0 = (V : Int) := by omega
  rw [eV] at HB hb ⊢
  obtain ⟨b, eb⟩ : ∃ b, bkt (u + m) V = b := ⟨_, rfl⟩
  rw [eb] at HB hb ⊢
  have hb2 : b ≤ 63 := by omega
  clear s eb eV hb hv
  go_enter Tryz.func30, Tryz.ntmps30
  go_wp2_with fail
  refine HB.out.mono ?_
  rintro e w1 ⟨rfl, f1⟩
  have F1 := Lib.hid f1
  clear f1
  go_wp2_with fail
  go_ret
  exact ⟨rfl, F1.out⟩
theorem cells_any (n : Int) :
    Calls Tryz.prog 65 #[.pointer (some ⟨g, 0, none⟩), .int .i64 n] w fun e w' => e = .returned (.int .i64 ((cntB n + 1) * 2 ^ (m - 1) : Nat)) ∧ Fr S0 w w' := by
  have HC := Lib.hid (counted_any n w)
  have HH := Lib.hid (half_any g lo hi d u m w s)
  have hc := (cntB_bd n).2
  have hH := half_le s.hx
  obtain ⟨C, eC⟩ : ∃ C, cntB n = C := ⟨_, rfl⟩
  obtain ⟨H, eH⟩ : ∃ H, 2 ^ (m - 1) = H := ⟨_, rfl⟩
  obtain ⟨R, eR⟩ : ∃ R, (C + 1) * H = R := ⟨_, rfl⟩
  obtain ⟨D, eD⟩ : ∃ D, C + 1 = D := ⟨_, rfl⟩
  rw [eC] at HC hc ⊢
  rw [eH] at HH hH ⊢
  have hR : R ≤ 65 * 131072 := by rw [← eR]; exact Nat.mul_le_mul (by omega) hH
  rw [eR]
  rw [eD] at eR
  have e1 : (C : Int) + 1 = (D : Int) := by omega
  have e2 : (D : Int) * (H : Int) = (R : Int) := by rw [← eR, Int.natCast_mul]
  have hD : D ≤ 65 := by omega
  clear s eC eH eR eD
  go_enter Tryz.func65, Tryz.ntmps65
  go_wp2_with fail
  refine HC.out.mono ?_
  rintro e w1 ⟨rfl, rfl⟩
  go_wp2_with fail
  refine HH.out.mono ?_
  rintro e w1 ⟨rfl, rfl⟩
  go_wp2_with fail
  go_ret
  exact ⟨rfl, Fr.refl _ _⟩
theorem top_any (n : Int) :
    Calls Tryz.prog 31 #[.pointer (some ⟨g, 0, none⟩), .int .i64 n] w fun e w' => e = .returned (.int .i64 (top u m (cntB n) : Nat)) ∧ Fr S0 w w' := by
  have HC := Lib.hid (fun W => counted_any n W)
  have hc := cntB_bd n
  have c3 := s.c3
  have c4 := s.c4
  have hs := s.hs
  have hx := s.hx
  have hT := top_lt u m (cntB n)
  obtain ⟨C, eC⟩ : ∃ C, cntB n = C := ⟨_, rfl⟩
  rw [eC] at HC hc hT ⊢
  obtain ⟨E, eE⟩ : ∃ E, min (u + m + C - 1) 63 = E := ⟨_, rfl⟩
  have eT : top u m C = 2 ^ E - 1 := by rw [top, eE]
  rw [eT] at hT ⊢
  have p := two_pos E
  obtain ⟨Z, eZ⟩ : ∃ Z, 2 ^ E = Z := ⟨_, rfl⟩
  have wZ : (2 : Int) ^ E = (Z : Int) := by rw [← eZ, Int.natCast_pow]; rfl
  rw [eZ] at hT p ⊢
  obtain ⟨T, eT2⟩ : ∃ T, Z - 1 = T := ⟨_, rfl⟩
  have e3 : (Z : Int) - 1 = (T : Int) := by omega
  rw [eT2] at hT ⊢
  obtain ⟨A, eA⟩ : ∃ A, u + m = A := ⟨_, rfl⟩
  obtain ⟨B, eB⟩ : ∃ B, A + C = B := ⟨_, rfl⟩
  obtain ⟨D, eD⟩ : ∃ D, B - 1 = D := ⟨_, rfl⟩
  have e4 : (u : Int) + (m : Int) = (A : Int) := by omega
  have e5 : (A : Int) + (C : Int) = (B : Int) := by omega
  have e6 : (B : Int) - 1 = (D : Int) := by omega
  have w4 : IntKind.i64.wrap (A : Int) = (A : Int) := by rw [IntKind.wrap_i64]; omega
  have w5 : IntKind.i64.wrap (B : Int) = (B : Int) := by rw [IntKind.wrap_i64]; omega
  have w6 : IntKind.i64.wrap (D : Int) = (D : Int) := by rw [IntKind.wrap_i64]; omega
  have e7 : min (D : Int) 63 = (E : Int) := by omega
  have hE : E ≤ 63 := by omega
  have hZ : Z ≤ 9223372036854775808 := by omega
  have hT2 : T ≤ 9223372036854775807 := by omega
  clear s eC eE eT eZ eT2 eA eB eD hc hs hx hT p
  go_enter Tryz.func31, Tryz.ntmps31
  go_upto_region 15 with fail
  go_region_held3 (fun w' => w'.cell? ⟨g, 3, none⟩ = some (.int .i64 (u : Nat)) ∧ w'.cell? ⟨g, 4, none⟩ = some (.int .i64 (m : Nat)))
    (first
      | (go_split_ands; exact ⟨by assumption, by assumption⟩))
    (first | (go_at_call 48; ((with_reducible refine (HC.out _).mono ?_); rintro _ _ ⟨rfl, rfl⟩)))
  all_goals
    go_wp2_with fail
    go_ret
    exact ⟨rfl, Fr.drew _ _⟩
theorem shape_any :
    Calls Tryz.prog 42 #[.pointer (some ⟨g, 0, none⟩)] w fun e w' => e = .returned (.agg #[.int .i64 lo, .int .i64 hi, .int .i64 d]) ∧ Fr S0 w w' := by
  have c0 := fun o => (Fr.alloc S0 w o).cell s.c0 (fun h => h)
  have c1 := fun o => (Fr.alloc S0 w o).cell s.c1 (fun h => h)
  have c2 := fun o => (Fr.alloc S0 w o).cell s.c2 (fun h => h)
  clear s
  go_enter Tryz.func42, Tryz.ntmps42
  go_wp2_with fail
  exact bodyPost_ret (v := .agg #[.int .i64 lo, .int .i64 hi, .int .i64 d]) (by simp [results, Tryz.results42, go_sem]) rfl ⟨rfl, Fr.alloc _ _ _⟩
end
end Go.Proofs.YtnndgpggjlhhpaaGreat
namespace Go.Proofs.YtnndgpggjlhhpaaGreat
open Go.RowKit
section
variable (g : Nat) (lo hi d : Int) (u m : Nat) (w : World) (s : MapIs w g lo hi d u m)
include s
theorem top_quiet (n : Int) :
    Calls Tryz.prog 31 #[.pointer (some ⟨g, 0, none⟩), .int .i64 n] w fun e w' => e = .returned (.int .i64 (top u m (cntB n) : Nat)) ∧ w' = w.drew := by
  have HC := Lib.hid (fun W => counted_any n W)
  have hc := cntB_bd n
  have c3 := s.c3
  have c4 := s.c4
  have hs := s.hs
  have hx := s.hx
  have hT := top_lt u m (cntB n)
  obtain ⟨C, eC⟩ : ∃ C, cntB n = C := ⟨_, rfl⟩
  rw [eC] at HC hc hT ⊢
  obtain ⟨E, eE⟩ : ∃ E, min (u + m + C - 1) 63 = E := ⟨_, rfl⟩
  have eT : top u m C = 2 ^ E - 1 := by rw [top, eE]
  rw [eT] at hT ⊢
  have p := two_pos E
  obtain ⟨Z, eZ⟩ : ∃ Z, 2 ^ E = Z := ⟨_, rfl⟩
  have wZ : (2 : Int) ^ E = (Z : Int) := by rw [← eZ, Int.natCast_pow]; rfl
  rw [eZ] at hT p ⊢
  obtain ⟨T, eT2⟩ : ∃ T, Z - 1 = T := ⟨_, rfl⟩
  have e3 : (Z : Int) - 1 = (T : Int) := by omega
  rw [eT2] at hT ⊢
  obtain ⟨A, eA⟩ : ∃ A, u + m = A := ⟨_, rfl⟩
  obtain ⟨B, eB⟩ : ∃ B, A + C = B := ⟨_, rfl⟩
  obtain ⟨D, eD⟩ : ∃ D, B - 1 = D := ⟨_, rfl⟩
  have e4 : (u : Int) + (m : Int) = (A : Int) := by omega
  have e5 : (A : Int) + (C : Int) = (B : Int) := by omega
  have e6 : (B : Int) - 1 = (D : Int) := by omega
  have w4 : IntKind.i64.wrap (A : Int) = (A : Int) := by rw [IntKind.wrap_i64]; omega
  have w5 : IntKind.i64.wrap (B : Int) = (B : Int) := by rw [IntKind.wrap_i64]; omega
  have w6 : IntKind.i64.wrap (D : Int) = (D : Int) := by rw [IntKind.wrap_i64]; omega
  have e7 : min (D : Int) 63 = (E : Int) := by omega
  have hE : E ≤ 63 := by omega
  have hZ : Z ≤ 9223372036854775808 := by omega
  have hT2 : T ≤ 9223372036854775807 := by omega
  clear s eC eE eT eZ eT2 eA eB eD hc hs hx hT p
  go_enter Tryz.func31, Tryz.ntmps31
  go_upto_region 15 with fail
  go_region_held3 (fun w' => w'.cell? ⟨g, 3, none⟩ = some (.int .i64 (u : Nat)) ∧ w'.cell? ⟨g, 4, none⟩ = some (.int .i64 (m : Nat)))
    (first
      | (go_split_ands; exact ⟨by assumption, by assumption⟩))
    (first | (go_at_call 48; ((with_reducible refine (HC.out _).mono ?_); rintro _ _ ⟨rfl, rfl⟩)))
  all_goals
    go_wp2_with fail
    go_ret
    exact ⟨rfl, rfl⟩
end
end Go.Proofs.YtnndgpggjlhhpaaGreat
namespace Go.Proofs.YtnndgpggjlhhpaaGreat
open Go.RowKit
def May (lo hi d : Int) : Prop := (1 ≤ d ∧ d ≤ 5) ∧ 1 ≤ lo ∧ 2 * lo ≤ hi
theorem unit_of (l : Nat) (hi d : Int) (w : World) (h0 : 0 < l) (hl : l < 9223372036854775808) :
    Calls Tryz.prog 69 #[.agg #[.int .i64 (l : Nat), .int .i64 hi, .int .i64 d]] w fun e w' => e = .returned (.int .i64 (unt l : Nat)) ∧ Fr S0 w w' := by
  have hL : Lib.bitLen l ≤ 64 := (bits_iff l 64 (by omega)).2 (by omega)
  have hL0 : ¬ Lib.bitLen l ≤ 0 := by rw [bits_iff l 0 (by omega)]; have := two_pos 0; simp; omega
  have HL := Lib.hid (fun W => bits_Len64 (l : Int) W (by omega) (by omega))
  rw [show ((l : Int).toNat) = l by omega] at HL
  rw [unt]
  obtain ⟨L, eL⟩ : ∃ L, Lib.bitLen l = L := ⟨_, rfl⟩
  rw [eL] at HL hL hL0 ⊢
  obtain ⟨U, eU⟩ : ∃ U, L - 1 = U := ⟨_, rfl⟩
  have e1 : (L : Int) - 1 = (U : Int) := by omega
  have hU : U ≤ 64 := by omega
  rw [eU]
  clear eL hL hL0 eU h0
  go_enter Tryz.func69, Tryz.ntmps69
  go_wp2_with fail
  refine (HL.out _).mono ?_
  rintro e w1 ⟨rfl, rfl⟩
  go_wp2_with fail
  go_ret
  exact ⟨rfl, Fr.alloc _ _ _⟩
theorem magnitude_of (lo hi : Int) (D : Nat) (w : World) (h1 : 1 ≤ D) (h5 : D ≤ 5) :
    Calls Tryz.prog 70 #[.agg #[.int .i64 lo, .int .i64 hi, .int .i64 (D : Nat)]] w fun e w' => e = .returned (.int .i64 (mag D : Nat)) ∧ Fr S0 w w' := by
  have hp : 10 ^ D ≤ 10 ^ 5 := Nat.pow_le_pow_right (by decide) h5
  have hp0 : 0 < 10 ^ D := Nat.pow_pos (by decide)
  have HP := Lib.hid (fun W => power_yes D W (by omega))
  have HL := Lib.hid (fun W => bits_Len64 ((2 * 10 ^ D - 1 : Nat) : Int) W (by omega) (by omega))
  rw [show (((2 * 10 ^ D - 1 : Nat) : Int).toNat) = 2 * 10 ^ D - 1 by omega] at HL
  have hm := mag_bd D h1 h5
  rw [mag] at hm ⊢
  obtain ⟨L, eL⟩ : ∃ L, Lib.bitLen (2 * 10 ^ D - 1) = L := ⟨_, rfl⟩
  rw [eL] at HL hm ⊢
  obtain ⟨P, eP⟩ : ∃ P, 10 ^ D = P := ⟨_, rfl⟩
  rw [eP] at HP HL hp hp0
  obtain ⟨Q, eQ⟩ : ∃ Q, 2 * P = Q := ⟨_, rfl⟩
  rw [eQ] at HL
  obtain ⟨R, eR⟩ : ∃ R, Q - 1 = R := ⟨_, rfl⟩
  rw [eR] at HL
  have e1 : 2 * (P : Int) = (Q : Int) := by omega
  have e2 : (Q : Int) - 1 = (R : Int) := by omega
  have hQ : Q ≤ 200000 := by omega
  have hR : R ≤ 200000 := by omega
  clear eL eP eQ eR h1 h5 hp hp0
  go_enter Tryz.func70, Tryz.ntmps70
  go_wp2_with fail
  refine (HP.out _).mono ?_
  rintro e w1 ⟨rfl, f1⟩
  have F1 := Lib.hid ((Fr.alloc S0 _ _).trans0 f1)
  clear f1
  go_wp2_with fail
  refine (HL.out _).mono ?_
  rintro e w2 ⟨rfl, rfl⟩
  go_wp2_with fail
  go_ret
  exact ⟨rfl, F1.out⟩
theorem box3 (w : World) (a b c : Value) (t : TypeId) : (w.alloc (.cells #[a, b, c] t)).cell? ⟨w.heap.size, 0, none⟩ = some a ∧ (w.alloc (.cells #[a, b, c] t)).cell? ⟨w.heap.size, 1, none⟩ = some b ∧ (w.alloc (.cells #[a, b, c] t)).cell? ⟨w.heap.size, 2, none⟩ = some c := by
  have hb0 := heap_alloc_new w (.cells #[a, b, c] t)
  exact ⟨by rw [World.cell?, hb0]; rfl, by rw [World.cell?, hb0]; rfl, by rw [World.cell?, hb0]; rfl⟩
theorem maybe_no (lo hi d : Int) (w : World) (h : ¬ May lo hi d) (hh : -9223372036854775808 ≤ hi ∧ hi ≤ 9223372036854775807) :
    Calls Tryz.prog 68 #[.agg #[.int .i64 lo, .int .i64 hi, .int .i64 d]] w fun e w' => e = .returned (.bool false) ∧ Fr S0 w w' := by
  unfold May at h
  by_cases h1 : d < 1
  · clear h
    go_enter Tryz.func68, Tryz.ntmps68
    go_wp2_with fail
    go_ret
    exact ⟨rfl, Fr.alloc _ _ _⟩
  · by_cases h2 : 5 < d
    · clear h
      go_enter Tryz.func68, Tryz.ntmps68
      go_wp2_with fail
      go_ret
      exact ⟨rfl, Fr.alloc _ _ _⟩
    · by_cases h3 : lo < 1
      · clear h
        go_enter Tryz.func68, Tryz.ntmps68
        go_wp2_with fail
        go_ret
        exact ⟨rfl, Fr.alloc _ _ _⟩
      · obtain ⟨H, hH⟩ : ∃ H, hi.tdiv 2 = H := ⟨_, rfl⟩
        have hH3 : H ≤ hi / 2 + 1 ∧ hi / 2 ≤ H ∧ (0 ≤ hi → H = hi / 2) ∧ (hi < 0 → H ≤ 0) := by
          by_cases hs : 0 ≤ hi
          · rw [Int.tdiv_eq_ediv_of_nonneg hs] at hH; omega
          · obtain ⟨k, rfl⟩ : ∃ k : Nat, hi = -(k : Int) := ⟨hi.natAbs, by omega⟩
            rw [Int.neg_tdiv, Int.tdiv_eq_ediv_of_nonneg (by omega)] at hH; omega
        have h4 : H < lo := by omega
        have hH2 : -9223372036854775808 ≤ H ∧ H ≤ 9223372036854775807 := by omega
        clear h hh hH3
        go_enter Tryz.func68, Tryz.ntmps68
        go_wp2_with fail
        go_ret
        exact ⟨rfl, Fr.alloc _ _ _⟩
theorem maybe_yes (l h D : Nat) (w : World) (h1 : 1 ≤ D) (h5 : D ≤ 5) (h0 : 0 < l) (hh : 2 * l ≤ h) (hb : h < 9223372036854775808) :
    Calls Tryz.prog 68 #[.agg #[.int .i64 (l : Nat), .int .i64 (h : Nat), .int .i64 (D : Nat)]] w fun e w' => e = .returned (.bool (decide (unt l + mag D ≤ 62))) ∧ Fr S0 w w' := by
  have HU := Lib.hid (fun W => unit_of l (h : Int) (D : Int) W h0 (by omega))
  have HM := Lib.hid (fun W => magnitude_of (l : Int) (h : Int) D W h1 h5)
  have hU := unt_bd l (by omega)
  have hM := (mag_bd D h1 h5).2
  obtain ⟨U, eU⟩ : ∃ U, unt l = U := ⟨_, rfl⟩
  obtain ⟨M, eM⟩ : ∃ M, mag D = M := ⟨_, rfl⟩
  rw [eU] at HU hU ⊢
  rw [eM] at HM hM ⊢
  obtain ⟨S, eS⟩ : ∃ S, U + M = S := ⟨_, rfl⟩
  rw [eS]
  have e1 : (U : Int) + (M : Int) = (S : Int) := by omega
  have w1 : IntKind.i64.wrap (S : Int) = (S : Int) := by rw [IntKind.wrap_i64]; omega
  obtain ⟨H, hH⟩ : ∃ H, h / 2 = H := ⟨_, rfl⟩
  have e2 : (h : Int) / 2 = (H : Int) := by omega
  have h4 : l ≤ H := by omega
  have eb : decide ((S : Int) ≤ 62) = decide (S ≤ 62) := decide_eq_decide.2 (by omega)
  have HC := Lib.hid (box3 w (.int .i64 (l : Nat)) (.int .i64 (h : Nat)) (.int .i64 (D : Nat)) 27)
  clear eU eM eS hU hM hh hH
  go_enter Tryz.func68, Tryz.ntmps68
  go_upto_region 7 with fail
  go_region_held3 (fun w' => w'.cell? ⟨w.heap.size, 0, none⟩ = some (.int .i64 (l : Nat)) ∧ w'.cell? ⟨w.heap.size, 1, none⟩ = some (.int .i64 (h : Nat)) ∧ w'.cell? ⟨w.heap.size, 2, none⟩ = some (.int .i64 (D : Nat)))
    (first
      | (go_split_ands; exact ⟨by assumption, by assumption, by assumption⟩)
      | exact HC.out
      | (go_split_ands; exact ⟨f9.cell (by assumption) (fun h => h), f9.cell (by assumption) (fun h => h), f9.cell (by assumption) (fun h => h)⟩))
    (first
      | (go_at_call 69; ((with_reducible refine (HU.out _).mono ?_); rintro _ w3 ⟨rfl, f9⟩; have F9 := Lib.hid f9))
      | (go_at_call 70; ((with_reducible refine (HM.out _).mono ?_); rintro _ w4 ⟨rfl, f9⟩; have F8 := Lib.hid f9)))
  all_goals
    go_wp2_with fail
    go_ret
    first
      | exact ⟨rfl, (Fr.alloc S0 _ _).trans0 ((Fr.drew _ _).trans0 (F9.out.trans0 F8.out))⟩
      | exact ⟨rfl, (Fr.alloc S0 _ _).trans0 ((Fr.drew _ _).trans0 (F8.out.trans0 F9.out))⟩
structure NewM (w w' : World) (g : Nat) (lo hi d : Int) (u m : Nat) : Prop where
  map : MapIs w' g lo hi d u m
  new : w.heap.size ≤ g
  fr : Fr S0 w w'
theorem new_no (lo hi d : Int) (w : World) (h : ¬ May lo hi d) (hh : -9223372036854775808 ≤ hi ∧ hi ≤ 9223372036854775807) :
    Calls Tryz.prog 43 #[.agg #[.int .i64 lo, .int .i64 hi, .int .i64 d]] w fun e w' => e = .returned (.tuple #[.pointer none, .int .i64 1]) ∧ Fr S0 w w' := by
  have HM := Lib.hid (fun W => maybe_no lo hi d W h hh)
  clear h hh
  go_enter Tryz.func43, Tryz.ntmps43
  go_wp2_with fail
  refine (HM.out _).mono ?_
  rintro e w1 ⟨rfl, f1⟩
  have F1 := Lib.hid ((Fr.alloc S0 _ _).trans0 f1)
  clear f1
  go_wp2_with fail
  go_ret2
  exact ⟨rfl, F1.out⟩
theorem new_big (l h D : Nat) (w : World) (h1 : 1 ≤ D) (h5 : D ≤ 5) (h0 : 0 < l) (hh : 2 * l ≤ h) (hb : h < 9223372036854775808) (hs : 62 < unt l + mag D) :
    Calls Tryz.prog 43 #[.agg #[.int .i64 (l : Nat), .int .i64 (h : Nat), .int .i64 (D : Nat)]] w fun e w' => e = .returned (.tuple #[.pointer none, .int .i64 1]) ∧ Fr S0 w w' := by
  have HM := Lib.hid (fun W => maybe_yes l h D W h1 h5 h0 hh hb)
  rw [show decide (unt l + mag D ≤ 62) = false from decide_eq_false (by omega)] at HM
  clear h1 h5 h0 hh hb hs
  go_enter Tryz.func43, Tryz.ntmps43
  go_wp2_with fail
  refine (HM.out _).mono ?_
  rintro e w1 ⟨rfl, f1⟩
  have F1 := Lib.hid ((Fr.alloc S0 _ _).trans0 f1)
  clear f1
  go_wp2_with fail
  go_ret2
  exact ⟨rfl, F1.out⟩
theorem new_yes (l h D : Nat) (w : World) (h1 : 1 ≤ D) (h5 : D ≤ 5) (h0 : 0 < l) (hh : 2 * l ≤ h) (hb : h < 9223372036854775808) (hs : unt l + mag D ≤ 62) :
    Calls Tryz.prog 43 #[.agg #[.int .i64 (l : Nat), .int .i64 (h : Nat), .int .i64 (D : Nat)]] w fun e w' => ∃ g, e = .returned (.tuple #[.pointer (some ⟨g, 0, none⟩), .int .i64 0]) ∧ NewM w w' g (l : Nat) (h : Nat) (D : Nat) (unt l) (mag D) := by
  have HB := Lib.hid (fun W => maybe_yes l h D W h1 h5 h0 hh hb)
  rw [show decide (unt l + mag D ≤ 62) = true from decide_eq_true (by omega)] at HB
  have HU := Lib.hid (fun W => unit_of l (h : Int) (D : Int) W h0 (by omega))
  have HM := Lib.hid (fun W => magnitude_of (l : Int) (h : Int) D W h1 h5)
  have hM := mag_bd D h1 h5
  obtain ⟨U, eU⟩ : ∃ U, unt l = U := ⟨_, rfl⟩
  obtain ⟨M, eM⟩ : ∃ M, mag D = M := ⟨_, rfl⟩
  rw [eU] at HU hs ⊢
  rw [eM] at HM hM hs ⊢
  have HK := Lib.hid (And.intro hM hs)
  have HC := Lib.hid (box3 w (.int .i64 (l : Nat)) (.int .i64 (h : Nat)) (.int .i64 (D : Nat)) 27)
  clear eU eM hM hs h1 h5 h0 hh hb
  go_enter Tryz.func43, Tryz.ntmps43
  go_wp2_with fail
  refine (HB.out _).mono ?_
  rintro e w1 ⟨rfl, f1⟩
  have F1 := Lib.hid ((Fr.alloc S0 _ _).trans0 f1)
  have HC1 := Lib.hid (And.intro (f1.cell HC.out.1 (fun h => h)) (And.intro (f1.cell HC.out.2.1 (fun h => h)) (f1.cell HC.out.2.2 (fun h => h))))
  clear f1 HC
  go_upto_region 9 with fail
  go_region_held3 (fun w' => w'.cell? ⟨w.heap.size, 0, none⟩ = some (.int .i64 (l : Nat)) ∧ w'.cell? ⟨w.heap.size, 1, none⟩ = some (.int .i64 (h : Nat)) ∧ w'.cell? ⟨w.heap.size, 2, none⟩ = some (.int .i64 (D : Nat)))
    (first
      | (go_split_ands; exact ⟨by assumption, by assumption, by assumption⟩)
      | exact HC1.out
      | (go_split_ands; exact ⟨f9.cell (by assumption) (fun h => h), f9.cell (by assumption) (fun h => h), f9.cell (by assumption) (fun h => h)⟩)
      | (go_split_ands; exact ⟨(Fr.alloc S0 _ _).cell (by assumption) (fun h => h), (Fr.alloc S0 _ _).cell (by assumption) (fun h => h), (Fr.alloc S0 _ _).cell (by assumption) (fun h => h)⟩))
    (first
      | (go_at_call 69; ((with_reducible refine (HU.out _).mono ?_); rintro _ w3 ⟨rfl, f9⟩; have F9 := Lib.hid f9))
      | (go_at_call 70; ((with_reducible refine (HM.out _).mono ?_); rintro _ w4 ⟨rfl, f9⟩; have F8 := Lib.hid f9)))
  all_goals
    go_wp2_with fail
    go_ret2
    have F := F1.out.trans0 ((Fr.drew _ _).trans0 (F9.out.trans0 F8.out))
    exact ⟨_, rfl, .of (heap_alloc_new _ _) rfl rfl rfl rfl rfl HK.out.1.1 HK.out.1.2 HK.out.2, F.size, F.trans0 (Fr.alloc _ _ _)⟩
end Go.Proofs.YtnndgpggjlhhpaaGreat
