/- BitMath, BitRev, BitTurn -/
import Derived.Test.YtbpfmjekpjfceaaPm1
import Derived.WalkKit
import Derived.WalkSpells
import Derived.WalkLawsBesides
import Derived.Deep.QuietTactic
import Derived.BigQuiet
import Derived.RegionTactic
import Derived.Deep.AppendLies
import Derived.Deep.RegionLaw
import Derived.Laws.ResultCell
import Derived.Laws.EntriesVeiled
import Derived.Lib.Hide
import Derived.Test.YtbpfmjekpjfceaaRows
import Derived.StillTailTactics
set_option maxRecDepth 100000
set_option maxHeartbeats 8000000
namespace Go.Proofs.Ytbpfmjekpjfceaa
def grp : Nat → Nat → List Nat
  | _, 0 => []
  | n, c + 1 => n % 2 :: grp (n / 2) c
def num : List Nat → Nat
  | [] => 0
  | b :: r => b + 2 * num r
def Bit01 (l : List Nat) : Prop := ∀ x ∈ l, x < 2
def bts (b : List Nat) : List Nat := b.flatMap fun x => grp x 8
@[simp] theorem grp_length (n : Nat) : ∀ c, (grp n c).length = c := by
  intro c
  induction c generalizing n with
  | zero => rfl
  | succ c ih => rw [grp, List.length_cons, ih]
theorem grp_bit (n : Nat) : ∀ c, Bit01 (grp n c) := by
  intro c
  induction c generalizing n with
  | zero => intro x hx; simp [grp] at hx
  | succ c ih =>
    intro x hx
    rw [grp] at hx
    rcases List.mem_cons.1 hx with rfl | h
    · exact Nat.mod_lt _ (by decide)
    · exact ih _ x h
theorem grp_get (n : Nat) : ∀ c i, (h : i < (grp n c).length) → (grp n c)[i] = n / 2 ^ i % 2 := by
  intro c
  induction c generalizing n with
  | zero => intro i h; simp [grp] at h
  | succ c ih =>
    intro i h
    cases i with
    | zero => simp [grp]
    | succ i =>
      simp only [grp, List.getElem_cons_succ]
      rw [ih, Nat.div_div_eq_div_mul, Nat.pow_succ, Nat.mul_comm]
theorem num_append (l m : List Nat) : num (l ++ m) = num l + 2 ^ l.length * num m := by
  induction l with
  | nil => simp [num]
  | cons a r ih =>
    rw [List.cons_append, num, num, ih, List.length_cons, Nat.pow_succ, Nat.mul_add, Nat.mul_right_comm]
    omega
theorem num_one (x : Nat) : num [x] = x := by simp [num]
theorem num_lt : ∀ (l : List Nat), Bit01 l → num l < 2 ^ l.length
  | [], _ => by simp [num]
  | a :: r, h => by
    have h1 := num_lt r fun x hx => h x (List.mem_cons_of_mem _ hx)
    have h2 := h a List.mem_cons_self
    rw [num, List.length_cons, Nat.pow_succ]
    omega
theorem Bit01.app {l m : List Nat} (h : Bit01 l) (k : Bit01 m) : Bit01 (l ++ m) := fun x hx => (List.mem_append.1 hx).elim (h x) (k x)
theorem Bit01.nil : Bit01 [] := fun x hx => by simp at hx
theorem Bit01.one {x : Nat} (h : x < 2) : Bit01 [x] := fun y hy => by rw [List.mem_singleton.1 hy]; exact h
theorem Bit01.sub {l m : List Nat} (h : Bit01 l) (k : ∀ x ∈ m, x ∈ l) : Bit01 m := fun x hx => h x (k x hx)
theorem bts_length (b : List Nat) : (bts b).length = 8 * b.length := by
  induction b with
  | nil => rfl
  | cons x r ih =>
    have : bts (x :: r) = grp x 8 ++ bts r := by simp [bts]
    rw [this, List.length_append, grp_length, ih, List.length_cons]; omega
theorem bts_bit (b : List Nat) : Bit01 (bts b) := by
  intro x hx
  obtain ⟨y, -, h⟩ := List.mem_flatMap.1 hx
  exact grp_bit y 8 x h
theorem bts_get (b : List Nat) : ∀ i, (h : i < (bts b).length) → (h2 : i / 8 < b.length) → (bts b)[i] = b[i / 8] / 2 ^ (i % 8) % 2 := by
  induction b with
  | nil => intro i h; simp [bts] at h
  | cons x r ih =>
    intro i h h2
    have e : bts (x :: r) = grp x 8 ++ bts r := by simp [bts]
    simp only [e]
    by_cases hi : i < 8
    · rw [List.getElem_append_left (by simpa using hi), grp_get]
      have e0 : i / 8 = 0 := by omega
      simp only [e0, List.getElem_cons_zero]
      rw [Nat.mod_eq_of_lt hi]
    · rw [List.getElem_append_right (by simpa using hi)]
      have hl := bts_length r
      have hl2 : (bts (x :: r)).length = 8 * (r.length + 1) := by rw [bts_length]; rfl
      simp only [grp_length]
      rw [ih (i - 8) (by omega) (by simp only [List.length_cons] at h2; omega)]
      have e1 : i / 8 = (i - 8) / 8 + 1 := by omega
      simp only [e1, List.getElem_cons_succ]
      rw [show (i - 8) % 8 = i % 8 by omega]
def turn (n c : Nat) : Nat := num (grp n c).reverse
theorem take_drop_succ (l : List Nat) (a k : Nat) (h : a + k < l.length) : (l.drop a).take (k + 1) = (l.drop a).take k ++ [l[a + k]] := by
  rw [List.take_succ_eq_append_getElem (by rw [List.length_drop]; omega), List.getElem_drop]
end Go.Proofs.Ytbpfmjekpjfceaa

namespace Go.Proofs.Ytbpfmjekpjfceaa
def half (n : Nat) : Nat := (n / 2 ^ 16) ||| (n * 2 ^ 16 % 2 ^ 32)
end Go.Proofs.Ytbpfmjekpjfceaa

namespace Go.Proofs.Ytbpfmjekpjfceaa
open Go.RowKit
def someB (c : Int) : Bool := decide (0 ≤ c ∧ c ≤ 32)
theorem someB_yes {c : Int} (h : 0 ≤ c) (k : c ≤ 32) : someB c = true := decide_eq_true ⟨h, k⟩
theorem someB_no {c : Int} (h : ¬ (0 ≤ c ∧ c ≤ 32)) : someB c = false := decide_eq_false h
theorem some_any (c : Int) (w : World) : Calls Try.prog 91 #[.int .i64 c] w fun e w' => e = .returned (.bool (someB c)) ∧ w = w' := by
  by_cases h0 : c ≥ 0
  · by_cases h1 : c ≤ 32
    · rw [someB_yes h0 h1]
      go_enter Try.func91, Try.ntmps91
      go_wp2
      go_ret
      exact ⟨rfl, rfl⟩
    · rw [someB_no fun h => h1 h.2]
      have h2 := decide_eq_false h1
      go_enter Try.func91, Try.ntmps91
      go_wp2
      go_ret
      exact ⟨rfl, rfl⟩
  · rw [someB_no fun h => h0 h.1]
    go_enter Try.func91, Try.ntmps91
    go_wp2
    go_ret
    exact ⟨rfl, rfl⟩
end Go.Proofs.Ytbpfmjekpjfceaa
