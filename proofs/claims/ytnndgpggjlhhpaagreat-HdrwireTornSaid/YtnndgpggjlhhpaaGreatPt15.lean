/- BitAll -/
import Derived.Test.YtnndgpggjlhhpaaGreatPt1
import Derived.Test.YtnndgpggjlhhpaaGreatPt2
import Derived.StillTailTactics
import Derived.WalkKit
import Derived.WalkSpells
import Derived.WalkLawsBesides
import Derived.Deep.QuietTactic
import Derived.BigQuiet
import Derived.RegionTactic
import Derived.Deep.AppendLies
import Derived.Deep.RegionLaw
import Derived.Laws.ResultCell
import Derived.Laws.EntriesVeiled
import Derived.Lib.Hide
import Derived.Test.YtnndgpggjlhhpaaGreatRows
import Derived.Laws.BytesArg
import Derived.Lib.SlBytesConst
import Derived.Maps.AppendAt
import Derived.Laws.AppendOwnNone
set_option maxRecDepth 100000
set_option maxHeartbeats 8000000
namespace Go.Proofs.YtnndgpggjlhhpaaGreat
def grp : Nat → Nat → List Nat
  | _, 0 => []
  | n, c + 1 => n % 2 :: grp (n / 2) c
def num : List Nat → Nat
  | [] => 0
  | b :: r => b + 2 * num r
def Bit01 (l : List Nat) : Prop := ∀ x ∈ l, x < 2
def oct (l : List Nat) (k : Nat) : Nat := num ((l.drop (8 * k)).take 8)
def byt (l : List Nat) : List Nat := (List.range ((l.length + 7) / 8)).map (oct l)
def bts (b : List Nat) : List Nat := b.flatMap fun x => grp x 8
@[simp] theorem grp_length (n : Nat) : ∀ c, (grp n c).length = c := by
  intro c
  induction c generalizing n with
  | zero => rfl
  | succ c ih => rw [grp, List.length_cons, ih]
theorem grp_bit (n : Nat) : ∀ c, Bit01 (grp n c) := by
  intro c
  induction c generalizing n with
  | zero => intro x hx; simp [grp] at hx
  | succ c ih =>
    intro x hx
    rw [grp] at hx
    rcases List.mem_cons.1 hx with rfl | h
    · exact Nat.mod_lt _ (by decide)
    · exact ih _ x h
theorem grp_get (n : Nat) : ∀ c i, (h : i < (grp n c).length) → (grp n c)[i] = n / 2 ^ i % 2 := by
  intro c
  induction c generalizing n with
  | zero => intro i h; simp [grp] at h
  | succ c ih =>
    intro i h
    cases i with
    | zero => simp [grp]
    | succ i =>
      simp only [grp, List.getElem_cons_succ]
      rw [ih, Nat.div_div_eq_div_mul, Nat.pow_succ, Nat.mul_comm]
theorem grp_succ (n c : Nat) : grp n (c + 1) = grp n c ++ [n / 2 ^ c % 2] := by
  induction c generalizing n with
  | zero => simp [grp]
  | succ c ih =>
    rw [grp, ih, grp, Nat.div_div_eq_div_mul, Nat.pow_succ, Nat.mul_comm 2, List.cons_append]
theorem grp_mod (n c : Nat) : grp (n % 2 ^ c) c = grp n c := by
  apply List.ext_getElem
  · simp
  · intro i h1 h2
    rw [grp_get, grp_get]
    have hi : i < c := by simpa using h2
    rw [← Nat.shiftRight_eq_div_pow, ← Nat.shiftRight_eq_div_pow]
    have e1 := Nat.testBit_mod_two_pow n c i
    simp only [Nat.testBit, Nat.one_and_eq_mod_two, hi, decide_true, Bool.true_and] at e1
    have a := Nat.mod_two_eq_zero_or_one ((n % 2 ^ c) >>> i)
    have b := Nat.mod_two_eq_zero_or_one (n >>> i)
    rcases a with a | a <;> rcases b with b | b <;> rw [a, b] at e1 <;> simp at e1 ⊢ <;> omega
theorem num_append (l m : List Nat) : num (l ++ m) = num l + 2 ^ l.length * num m := by
  induction l with
  | nil => simp [num]
  | cons a r ih =>
    rw [List.cons_append, num, num, ih, List.length_cons, Nat.pow_succ, Nat.mul_add, Nat.mul_right_comm]
    omega
theorem num_one (x : Nat) : num [x] = x := by simp [num]
theorem num_lt : ∀ (l : List Nat), Bit01 l → num l < 2 ^ l.length
  | [], _ => by simp [num]
  | a :: r, h => by
    have h1 := num_lt r fun x hx => h x (List.mem_cons_of_mem _ hx)
    have h2 := h a List.mem_cons_self
    rw [num, List.length_cons, Nat.pow_succ]
    omega
theorem num_grp (n c : Nat) : num (grp n c) = n % 2 ^ c := by
  induction c generalizing n with
  | zero => simp [grp, num, Nat.mod_one]
  | succ c ih =>
    rw [grp, num, ih, Nat.pow_succ, Nat.mul_comm (2 ^ c) 2, Nat.mod_mul]
theorem grp_num : ∀ (l : List Nat), Bit01 l → grp (num l) l.length = l
  | [], _ => rfl
  | a :: r, h => by
    have h2 := h a List.mem_cons_self
    rw [List.length_cons, grp, num, show (a + 2 * num r) % 2 = a by omega, show (a + 2 * num r) / 2 = num r by omega, grp_num r fun x hx => h x (List.mem_cons_of_mem _ hx)]
theorem Bit01.rev {l : List Nat} (h : Bit01 l) : Bit01 l.reverse := fun x hx => h x (List.mem_reverse.1 hx)
theorem Bit01.app {l m : List Nat} (h : Bit01 l) (k : Bit01 m) : Bit01 (l ++ m) := fun x hx => (List.mem_append.1 hx).elim (h x) (k x)
theorem Bit01.zeros (n : Nat) : Bit01 (List.replicate n 0) := fun x hx => by rw [List.eq_of_mem_replicate hx]; decide
theorem Bit01.nil : Bit01 [] := fun x hx => by simp at hx
theorem Bit01.one {x : Nat} (h : x < 2) : Bit01 [x] := fun y hy => by rw [List.mem_singleton.1 hy]; exact h
theorem Bit01.sub {l m : List Nat} (h : Bit01 l) (k : ∀ x ∈ m, x ∈ l) : Bit01 m := fun x hx => h x (k x hx)
theorem num_zeros (n : Nat) : num (List.replicate n 0) = 0 := by
  induction n with
  | zero => rfl
  | succ n ih => rw [List.replicate_succ, num, ih]
theorem byt_length (l : List Nat) : (byt l).length = (l.length + 7) / 8 := by simp [byt]
theorem byt_get (l : List Nat) (k : Nat) (h : k < (byt l).length) : (byt l)[k] = oct l k := by simp [byt]
theorem oct_lt (l : List Nat) (h : Bit01 l) (k : Nat) : oct l k < 256 := by
  have h1 := num_lt ((l.drop (8 * k)).take 8) (h.sub fun x hx => List.mem_of_mem_drop (List.mem_of_mem_take hx))
  have h2 : ((l.drop (8 * k)).take 8).length ≤ 8 := by rw [List.length_take]; omega
  have h3 : 2 ^ ((l.drop (8 * k)).take 8).length ≤ 2 ^ 8 := Nat.pow_le_pow_right (by decide) h2
  unfold oct
  omega
theorem byt_lt (l : List Nat) (h : Bit01 l) : ∀ x ∈ byt l, x < 256 := by
  intro x hx
  obtain ⟨k, -, rfl⟩ := List.mem_map.1 hx
  exact oct_lt l h k
theorem oct_app_low (l m : List Nat) (k : Nat) (h : 8 * k + 8 ≤ l.length) : oct (l ++ m) k = oct l k := by
  unfold oct
  rw [List.drop_append_of_le_length (by omega), List.take_append_of_le_length (by rw [List.length_drop]; omega)]
theorem drop_zeros (l : List Nat) (n k : Nat) : oct (l ++ List.replicate n 0) k = oct l k := by
  unfold oct
  rw [List.drop_append, List.take_append, num_append, List.drop_replicate, List.take_replicate, num_zeros, Nat.mul_zero, Nat.add_zero]
theorem byt_pad (l : List Nat) (n : Nat) (h : (l.length + n + 7) / 8 = (l.length + 7) / 8) : byt (l ++ List.replicate n 0) = byt l := by
  unfold byt
  rw [List.length_append, List.length_replicate, h]
  exact List.map_congr_left fun k _ => drop_zeros l n k
theorem byt_app (l m : List Nat) (h : l.length % 8 = 0) : byt (l ++ m) = byt l ++ byt m := by
  unfold byt
  rw [List.length_append, show (l.length + m.length + 7) / 8 = (l.length + 7) / 8 + (m.length + 7) / 8 by omega, List.range_add, List.map_append, List.map_map]
  congr 1
  · refine List.map_congr_left fun k hk => oct_app_low l m k ?_
    have := List.mem_range.1 hk
    omega
  · refine List.map_congr_left fun k hk => ?_
    simp only [Function.comp, oct]
    rw [List.drop_append, List.drop_eq_nil_of_le (by omega), List.nil_append, show 8 * ((l.length + 7) / 8 + k) - l.length = 8 * k by omega]
def room (l : List Nat) : List Nat := if l.length % 8 = 0 then byt l ++ [0] else byt l
theorem room_length (l : List Nat) : (room l).length = l.length / 8 + 1 := by
  unfold room
  split
  · rw [List.length_append, byt_length, List.length_singleton]; omega
  · rw [byt_length]; omega
theorem room_get (l : List Nat) (h : l.length / 8 < (room l).length) : (room l)[l.length / 8] = num (l.drop (8 * (l.length / 8))) := by
  by_cases h8 : l.length % 8 = 0
  · have hr : room l = byt l ++ [0] := by unfold room; rw [if_pos h8]
    simp only [hr]
    rw [List.getElem_append_right (by rw [byt_length]; omega), List.drop_eq_nil_of_le (by omega)]
    simp [num]
  · have hr : room l = byt l := by unfold room; rw [if_neg h8]
    simp only [hr]
    rw [byt_get]
    unfold oct
    rw [List.take_of_length_le (by rw [List.length_drop]; omega)]
theorem room_last_lt (l : List Nat) (hb : Bit01 l) : num (l.drop (8 * (l.length / 8))) < 2 ^ (l.length % 8) := by
  have := num_lt (l.drop (8 * (l.length / 8))) (hb.sub fun x hx => List.mem_of_mem_drop hx)
  rw [List.length_drop, show l.length - 8 * (l.length / 8) = l.length % 8 by omega] at this
  exact this
theorem byt_put (l : List Nat) (x : Nat) : byt (l ++ [x]) = (room l).set (l.length / 8) (num (l.drop (8 * (l.length / 8))) + x * 2 ^ (l.length % 8)) := by
  apply List.ext_getElem
  · rw [byt_length, List.length_set, room_length, List.length_append, List.length_singleton]; omega
  · intro k h1 h2
    rw [byt_get, List.getElem_set]
    rw [List.length_set, room_length] at h2
    split
    · next e =>
      subst e
      unfold oct
      rw [List.drop_append_of_le_length (by omega), List.take_of_length_le (by rw [List.length_append, List.length_drop, List.length_singleton]; omega), num_append, num_one, List.length_drop, show l.length - 8 * (l.length / 8) = l.length % 8 by omega, Nat.mul_comm x]
    · next e =>
      rw [oct_app_low l [x] k (by omega)]
      by_cases h8 : l.length % 8 = 0
      · have hr : room l = byt l ++ [0] := by unfold room; rw [if_pos h8]
        simp only [hr]
        rw [List.getElem_append_left (by rw [byt_length]; omega), byt_get]
      · have hr : room l = byt l := by unfold room; rw [if_neg h8]
        simp only [hr]
        rw [byt_get]
theorem bts_append (a b : List Nat) : bts (a ++ b) = bts a ++ bts b := by simp [bts]
theorem bts_length (b : List Nat) : (bts b).length = 8 * b.length := by
  induction b with
  | nil => rfl
  | cons x r ih =>
    have : bts (x :: r) = grp x 8 ++ bts r := by simp [bts]
    rw [this, List.length_append, grp_length, ih, List.length_cons]; omega
theorem bts_bit (b : List Nat) : Bit01 (bts b) := by
  intro x hx
  obtain ⟨y, -, h⟩ := List.mem_flatMap.1 hx
  exact grp_bit y 8 x h
theorem bts_get (b : List Nat) : ∀ i, (h : i < (bts b).length) → (h2 : i / 8 < b.length) → (bts b)[i] = b[i / 8] / 2 ^ (i % 8) % 2 := by
  induction b with
  | nil => intro i h; simp [bts] at h
  | cons x r ih =>
    intro i h h2
    have e : bts (x :: r) = grp x 8 ++ bts r := by simp [bts]
    simp only [e]
    by_cases hi : i < 8
    · rw [List.getElem_append_left (by simpa using hi), grp_get]
      have e0 : i / 8 = 0 := by omega
      simp only [e0, List.getElem_cons_zero]
      rw [Nat.mod_eq_of_lt hi]
    · rw [List.getElem_append_right (by simpa using hi)]
      have hl := bts_length r
      have hl2 : (bts (x :: r)).length = 8 * (r.length + 1) := by rw [bts_length]; rfl
      simp only [grp_length]
      rw [ih (i - 8) (by omega) (by simp only [List.length_cons] at h2; omega)]
      have e1 : i / 8 = (i - 8) / 8 + 1 := by omega
      simp only [e1, List.getElem_cons_succ]
      rw [show (i - 8) % 8 = i % 8 by omega]
theorem byt_bts (b : List Nat) (h : ∀ x ∈ b, x < 256) : byt (bts b) = b := by
  induction b with
  | nil => rfl
  | cons x r ih =>
    have e : bts (x :: r) = grp x 8 ++ bts r := by simp [bts]
    rw [e, byt_app _ _ (by rw [grp_length]), ih fun y hy => h y (List.mem_cons_of_mem _ hy)]
    have : byt (grp x 8) = [x] := by
      unfold byt
      rw [grp_length]
      simp only [show (8 + 7) / 8 = 1 by decide, List.range_one, List.map_cons, List.map_nil, oct, Nat.mul_zero, List.drop_zero]
      rw [List.take_of_length_le (by simp), num_grp, Nat.mod_eq_of_lt (h x List.mem_cons_self)]
    rw [this]; rfl
theorem byt_text (l b : List Nat) (hl : l.length % 8 = 0) (h : ∀ x ∈ b, x < 256) : byt (l ++ bts b) = byt l ++ b := by rw [byt_app l _ hl, byt_bts b h]
theorem bts_byt (l : List Nat) (h : Bit01 l) (i : Nat) (hi : i < l.length) (h2 : i < (bts (byt l)).length) : (bts (byt l))[i] = l[i] := by
  have hk : i / 8 < (byt l).length := by rw [byt_length]; omega
  rw [bts_get _ i h2 hk, byt_get]
  unfold oct
  have hb : Bit01 ((l.drop (8 * (i / 8))).take 8) := h.sub fun x hx => List.mem_of_mem_drop (List.mem_of_mem_take hx)
  have hg := grp_num _ hb
  have hi2 : i % 8 < ((l.drop (8 * (i / 8))).take 8).length := by rw [List.length_take, List.length_drop]; omega
  have e1 : (grp (num ((l.drop (8 * (i / 8))).take 8)) ((l.drop (8 * (i / 8))).take 8).length)[i % 8]'(by simpa using hi2) = ((l.drop (8 * (i / 8))).take 8)[i % 8] := by
    congr 1
  rw [grp_get] at e1
  rw [e1, List.getElem_take, List.getElem_drop]
  congr 1
  omega
theorem slice_byt (l : List Nat) (h : Bit01 l) (a c : Nat) (hc : a + c ≤ l.length) : ((bts (byt l)).drop a).take c = (l.drop a).take c := by
  have hl : (bts (byt l)).length = 8 * ((l.length + 7) / 8) := by rw [bts_length, byt_length]
  apply List.ext_getElem
  · simp only [List.length_take, List.length_drop, hl]; omega
  · intro i h1 h2
    simp only [List.length_take, List.length_drop, hl] at h1 h2
    rw [List.getElem_take, List.getElem_drop, List.getElem_take, List.getElem_drop]
    exact bts_byt l h (a + i) (by omega) (by omega)
def turn (n c : Nat) : Nat := num (grp n c).reverse
theorem turn_lt (n c : Nat) : turn n c < 2 ^ c := by
  have := num_lt (grp n c).reverse (grp_bit n c).rev
  rwa [List.length_reverse, grp_length] at this
theorem grp_turn (n c : Nat) : grp (turn n c) c = (grp n c).reverse := by
  have := grp_num (grp n c).reverse (grp_bit n c).rev
  rwa [List.length_reverse, grp_length] at this
theorem zrev_take (n c k : Nat) (h : k < c) : (grp n c).reverse.take (k + 1) = (grp n c).reverse.take k ++ [n / 2 ^ (c - 1 - k) % 2] := by
  rw [List.take_succ_eq_append_getElem (by rw [List.length_reverse, grp_length]; exact h), List.getElem_reverse, grp_get, grp_length]
theorem take_drop_succ (l : List Nat) (a k : Nat) (h : a + k < l.length) : (l.drop a).take (k + 1) = (l.drop a).take k ++ [l[a + k]] := by
  rw [List.take_succ_eq_append_getElem (by rw [List.length_drop]; omega), List.getElem_drop]
end Go.Proofs.YtnndgpggjlhhpaaGreat
namespace Go.Proofs.YtnndgpggjlhhpaaGreat
def swap (n s m : Nat) : Nat := ((n / 2 ^ s) &&& m) ||| ((n &&& m) * 2 ^ s % 2 ^ 32)
theorem swap_bit (n s m i : Nat) : (swap n s m).testBit i = ((n.testBit (i + s) && m.testBit i) || (decide (i < 32) && (decide (s ≤ i) && (n.testBit (i - s) && m.testBit (i - s))))) := by
  unfold swap
  rw [Nat.testBit_or, Nat.testBit_and, ← Nat.shiftRight_eq_div_pow, Nat.testBit_shiftRight, Nat.testBit_mod_two_pow, ← Nat.shiftLeft_eq, Nat.testBit_shiftLeft, Nat.testBit_and, Nat.add_comm s i]
def half (n : Nat) : Nat := (n / 2 ^ 16) ||| (n * 2 ^ 16 % 2 ^ 32)
theorem half_bit (n i : Nat) : (half n).testBit i = (n.testBit (i + 16) || (decide (i < 32) && (decide (16 ≤ i) && n.testBit (i - 16)))) := by
  unfold half
  rw [Nat.testBit_or, ← Nat.shiftRight_eq_div_pow, Nat.testBit_shiftRight, Nat.testBit_mod_two_pow, ← Nat.shiftLeft_eq, Nat.testBit_shiftLeft, Nat.add_comm 16 i]
theorem mask0 : Nat.testBit 1431655765 0 = true ∧ Nat.testBit 1431655765 1 = false ∧ Nat.testBit 1431655765 2 = true ∧ Nat.testBit 1431655765 3 = false ∧ Nat.testBit 1431655765 4 = true ∧ Nat.testBit 1431655765 5 = false ∧ Nat.testBit 1431655765 6 = true ∧ Nat.testBit 1431655765 7 = false ∧ Nat.testBit 1431655765 8 = true ∧ Nat.testBit 1431655765 9 = false ∧ Nat.testBit 1431655765 10 = true ∧ Nat.testBit 1431655765 11 = false ∧ Nat.testBit 1431655765 12 = true ∧ Nat.testBit 1431655765 13 = false ∧ Nat.testBit 1431655765 14 = true ∧ Nat.testBit 1431655765 15 = false ∧ Nat.testBit 1431655765 16 = true ∧ Nat.testBit 1431655765 17 = false ∧ Nat.testBit 1431655765 18 = true ∧ Nat.testBit 1431655765 19 = false ∧ Nat.testBit 1431655765 20 = true ∧ Nat.testBit 1431655765 21 = false ∧ Nat.testBit 1431655765 22 = true ∧ Nat.testBit 1431655765 23 = false ∧ Nat.testBit 1431655765 24 = true ∧ Nat.testBit 1431655765 25 = false ∧ Nat.testBit 1431655765 26 = true ∧ Nat.testBit 1431655765 27 = false ∧ Nat.testBit 1431655765 28 = true ∧ Nat.testBit 1431655765 29 = false ∧ Nat.testBit 1431655765 30 = true ∧ Nat.testBit 1431655765 31 = false ∧ Nat.testBit 1431655765 32 = false ∧ Nat.testBit 1431655765 33 = false ∧ Nat.testBit 1431655765 34 = false ∧ Nat.testBit 1431655765 35 = false ∧ Nat.testBit 1431655765 36 = false ∧ Nat.testBit 1431655765 37 = false ∧ Nat.testBit 1431655765 38 = false ∧ Nat.testBit 1431655765 39 = false ∧ Nat.testBit 1431655765 40 = false ∧ Nat.testBit 1431655765 41 = false ∧ Nat.testBit 1431655765 42 = false ∧ Nat.testBit 1431655765 43 = false ∧ Nat.testBit 1431655765 44 = false ∧ Nat.testBit 1431655765 45 = false ∧ Nat.testBit 1431655765 46 = false ∧ Nat.testBit 1431655765 47 = false ∧ Nat.testBit 1431655765 48 = false ∧ Nat.testBit 1431655765 49 = false ∧ Nat.testBit 1431655765 50 = false ∧ Nat.testBit 1431655765 51 = false ∧ Nat.testBit 1431655765 52 = false ∧ Nat.testBit 1431655765 53 = false ∧ Nat.testBit 1431655765 54 = false ∧ Nat.testBit 1431655765 55 = false ∧ Nat.testBit 1431655765 56 = false ∧ Nat.testBit 1431655765 57 = false ∧ Nat.testBit 1431655765 58 = false ∧ Nat.testBit 1431655765 59 = false ∧ Nat.testBit 1431655765 60 = false ∧ Nat.testBit 1431655765 61 = false ∧ Nat.testBit 1431655765 62 = false ∧ Nat.testBit 1431655765 63 = false := by decide
theorem mask1 : Nat.testBit 858993459 0 = true ∧ Nat.testBit 858993459 1 = true ∧ Nat.testBit 858993459 2 = false ∧ Nat.testBit 858993459 3 = false ∧ Nat.testBit 858993459 4 = true ∧ Nat.testBit 858993459 5 = true ∧ Nat.testBit 858993459 6 = false ∧ Nat.testBit 858993459 7 = false ∧ Nat.testBit 858993459 8 = true ∧ Nat.testBit 858993459 9 = true ∧ Nat.testBit 858993459 10 = false ∧ Nat.testBit 858993459 11 = false ∧ Nat.testBit 858993459 12 = true ∧ Nat.testBit 858993459 13 = true ∧ Nat.testBit 858993459 14 = false ∧ Nat.testBit 858993459 15 = false ∧ Nat.testBit 858993459 16 = true ∧ Nat.testBit 858993459 17 = true ∧ Nat.testBit 858993459 18 = false ∧ Nat.testBit 858993459 19 = false ∧ Nat.testBit 858993459 20 = true ∧ Nat.testBit 858993459 21 = true ∧ Nat.testBit 858993459 22 = false ∧ Nat.testBit 858993459 23 = false ∧ Nat.testBit 858993459 24 = true ∧ Nat.testBit 858993459 25 = true ∧ Nat.testBit 858993459 26 = false ∧ Nat.testBit 858993459 27 = false ∧ Nat.testBit 858993459 28 = true ∧ Nat.testBit 858993459 29 = true ∧ Nat.testBit 858993459 30 = false ∧ Nat.testBit 858993459 31 = false ∧ Nat.testBit 858993459 32 = false ∧ Nat.testBit 858993459 33 = false ∧ Nat.testBit 858993459 34 = false ∧ Nat.testBit 858993459 35 = false ∧ Nat.testBit 858993459 36 = false ∧ Nat.testBit 858993459 37 = false ∧ Nat.testBit 858993459 38 = false ∧ Nat.testBit 858993459 39 = false ∧ Nat.testBit 858993459 40 = false ∧ Nat.testBit 858993459 41 = false ∧ Nat.testBit 858993459 42 = false ∧ Nat.testBit 858993459 43 = false ∧ Nat.testBit 858993459 44 = false ∧ Nat.testBit 858993459 45 = false ∧ Nat.testBit 858993459 46 = false ∧ Nat.testBit 858993459 47 = false ∧ Nat.testBit 858993459 48 = false ∧ Nat.testBit 858993459 49 = false ∧ Nat.testBit 858993459 50 = false ∧ Nat.testBit 858993459 51 = false ∧ Nat.testBit 858993459 52 = false ∧ Nat.testBit 858993459 53 = false ∧ Nat.testBit 858993459 54 = false ∧ Nat.testBit 858993459 55 = false ∧ Nat.testBit 858993459 56 = false ∧ Nat.testBit 858993459 57 = false ∧ Nat.testBit 858993459 58 = false ∧ Nat.testBit 858993459 59 = false ∧ Nat.testBit 858993459 60 = false ∧ Nat.testBit 858993459 61 = false ∧ Nat.testBit 858993459 62 = false ∧ Nat.testBit 858993459 63 = false := by decide
theorem mask2 : Nat.testBit 252645135 0 = true ∧ Nat.testBit 252645135 1 = true ∧ Nat.testBit 252645135 2 = true ∧ Nat.testBit 252645135 3 = true ∧ Nat.testBit 252645135 4 = false ∧ Nat.testBit 252645135 5 = false ∧ Nat.testBit 252645135 6 = false ∧ Nat.testBit 252645135 7 = false ∧ Nat.testBit 252645135 8 = true ∧ Nat.testBit 252645135 9 = true ∧ Nat.testBit 252645135 10 = true ∧ Nat.testBit 252645135 11 = true ∧ Nat.testBit 252645135 12 = false ∧ Nat.testBit 252645135 13 = false ∧ Nat.testBit 252645135 14 = false ∧ Nat.testBit 252645135 15 = false ∧ Nat.testBit 252645135 16 = true ∧ Nat.testBit 252645135 17 = true ∧ Nat.testBit 252645135 18 = true ∧ Nat.testBit 252645135 19 = true ∧ Nat.testBit 252645135 20 = false ∧ Nat.testBit 252645135 21 = false ∧ Nat.testBit 252645135 22 = false ∧ Nat.testBit 252645135 23 = false ∧ Nat.testBit 252645135 24 = true ∧ Nat.testBit 252645135 25 = true ∧ Nat.testBit 252645135 26 = true ∧ Nat.testBit 252645135 27 = true ∧ Nat.testBit 252645135 28 = false ∧ Nat.testBit 252645135 29 = false ∧ Nat.testBit 252645135 30 = false ∧ Nat.testBit 252645135 31 = false ∧ Nat.testBit 252645135 32 = false ∧ Nat.testBit 252645135 33 = false ∧ Nat.testBit 252645135 34 = false ∧ Nat.testBit 252645135 35 = false ∧ Nat.testBit 252645135 36 = false ∧ Nat.testBit 252645135 37 = false ∧ Nat.testBit 252645135 38 = false ∧ Nat.testBit 252645135 39 = false ∧ Nat.testBit 252645135 40 = false ∧ Nat.testBit 252645135 41 = false ∧ Nat.testBit 252645135 42 = false ∧ Nat.testBit 252645135 43 = false ∧ Nat.testBit 252645135 44 = false ∧ Nat.testBit 252645135 45 = false ∧ Nat.testBit 252645135 46 = false ∧ Nat.testBit 252645135 47 = false ∧ Nat.testBit 252645135 48 = false ∧ Nat.testBit 252645135 49 = false ∧ Nat.testBit 252645135 50 = false ∧ Nat.testBit 252645135 51 = false ∧ Nat.testBit 252645135 52 = false ∧ Nat.testBit 252645135 53 = false ∧ Nat.testBit 252645135 54 = false ∧ Nat.testBit 252645135 55 = false ∧ Nat.testBit 252645135 56 = false ∧ Nat.testBit 252645135 57 = false ∧ Nat.testBit 252645135 58 = false ∧ Nat.testBit 252645135 59 = false ∧ Nat.testBit 252645135 60 = false ∧ Nat.testBit 252645135 61 = false ∧ Nat.testBit 252645135 62 = false ∧ Nat.testBit 252645135 63 = false := by decide
theorem mask3 : Nat.testBit 16711935 0 = true ∧ Nat.testBit 16711935 1 = true ∧ Nat.testBit 16711935 2 = true ∧ Nat.testBit 16711935 3 = true ∧ Nat.testBit 16711935 4 = true ∧ Nat.testBit 16711935 5 = true ∧ Nat.testBit 16711935 6 = true ∧ Nat.testBit 16711935 7 = true ∧ Nat.testBit 16711935 8 = false ∧ Nat.testBit 16711935 9 = false ∧ Nat.testBit 16711935 10 = false ∧ Nat.testBit 16711935 11 = false ∧ Nat.testBit 16711935 12 = false ∧ Nat.testBit 16711935 13 = false ∧ Nat.testBit 16711935 14 = false ∧ Nat.testBit 16711935 15 = false ∧ Nat.testBit 16711935 16 = true ∧ Nat.testBit 16711935 17 = true ∧ Nat.testBit 16711935 18 = true ∧ Nat.testBit 16711935 19 = true ∧ Nat.testBit 16711935 20 = true ∧ Nat.testBit 16711935 21 = true ∧ Nat.testBit 16711935 22 = true ∧ Nat.testBit 16711935 23 = true ∧ Nat.testBit 16711935 24 = false ∧ Nat.testBit 16711935 25 = false ∧ Nat.testBit 16711935 26 = false ∧ Nat.testBit 16711935 27 = false ∧ Nat.testBit 16711935 28 = false ∧ Nat.testBit 16711935 29 = false ∧ Nat.testBit 16711935 30 = false ∧ Nat.testBit 16711935 31 = false ∧ Nat.testBit 16711935 32 = false ∧ Nat.testBit 16711935 33 = false ∧ Nat.testBit 16711935 34 = false ∧ Nat.testBit 16711935 35 = false ∧ Nat.testBit 16711935 36 = false ∧ Nat.testBit 16711935 37 = false ∧ Nat.testBit 16711935 38 = false ∧ Nat.testBit 16711935 39 = false ∧ Nat.testBit 16711935 40 = false ∧ Nat.testBit 16711935 41 = false ∧ Nat.testBit 16711935 42 = false ∧ Nat.testBit 16711935 43 = false ∧ Nat.testBit 16711935 44 = false ∧ Nat.testBit 16711935 45 = false ∧ Nat.testBit 16711935 46 = false ∧ Nat.testBit 16711935 47 = false ∧ Nat.testBit 16711935 48 = false ∧ Nat.testBit 16711935 49 = false ∧ Nat.testBit 16711935 50 = false ∧ Nat.testBit 16711935 51 = false ∧ Nat.testBit 16711935 52 = false ∧ Nat.testBit 16711935 53 = false ∧ Nat.testBit 16711935 54 = false ∧ Nat.testBit 16711935 55 = false ∧ Nat.testBit 16711935 56 = false ∧ Nat.testBit 16711935 57 = false ∧ Nat.testBit 16711935 58 = false ∧ Nat.testBit 16711935 59 = false ∧ Nat.testBit 16711935 60 = false ∧ Nat.testBit 16711935 61 = false ∧ Nat.testBit 16711935 62 = false ∧ Nat.testBit 16711935 63 = false := by decide
def rev32 (n : Nat) : Nat := half (swap (swap (swap (swap n 1 1431655765) 2 858993459) 4 252645135) 8 16711935)
theorem rev32_bit (n i : Nat) (hi : i < 32) : (rev32 n).testBit i = n.testBit (31 - i) := by
  obtain rfl | rfl | rfl | rfl | rfl | rfl | rfl | rfl | rfl | rfl | rfl | rfl | rfl | rfl | rfl | rfl | rfl | rfl | rfl | rfl | rfl | rfl | rfl | rfl | rfl | rfl | rfl | rfl | rfl | rfl | rfl | rfl : i = 0 ∨ i = 1 ∨ i = 2 ∨ i = 3 ∨ i = 4 ∨ i = 5 ∨ i = 6 ∨ i = 7 ∨ i = 8 ∨ i = 9 ∨ i = 10 ∨ i = 11 ∨ i = 12 ∨ i = 13 ∨ i = 14 ∨ i = 15 ∨ i = 16 ∨ i = 17 ∨ i = 18 ∨ i = 19 ∨ i = 20 ∨ i = 21 ∨ i = 22 ∨ i = 23 ∨ i = 24 ∨ i = 25 ∨ i = 26 ∨ i = 27 ∨ i = 28 ∨ i = 29 ∨ i = 30 ∨ i = 31 := by omega
  all_goals
    unfold rev32
    simp [swap_bit, half_bit, -Nat.testBit_zero, mask0, mask1, mask2, mask3]
theorem swap_lt (n s m : Nat) (hm : m < 2 ^ 32) : swap n s m < 2 ^ 32 :=
  Nat.or_lt_two_pow (Nat.and_lt_two_pow _ hm) (Nat.mod_lt _ (by decide))
theorem half_lt (n : Nat) (hn : n < 2 ^ 32) : half n < 2 ^ 32 :=
  Nat.or_lt_two_pow (Nat.lt_of_le_of_lt (Nat.div_le_self _ _) hn) (Nat.mod_lt _ (by decide))
theorem rev32_lt (n : Nat) : rev32 n < 2 ^ 32 := half_lt _ (swap_lt _ _ _ (by decide))
theorem turn_bit (n c i : Nat) (h : i < c) : (turn n c).testBit i = n.testBit (c - 1 - i) := by
  rw [Nat.testBit_eq_decide_div_mod_eq, Nat.testBit_eq_decide_div_mod_eq]
  have h1 : i < (grp (turn n c) c).length := by rw [grp_length]; exact h
  have h2 := grp_get (turn n c) c i h1
  have h3 : (grp (turn n c) c)[i] = (grp n c).reverse[i]'(by rw [List.length_reverse, grp_length]; exact h) := by
    congr 1
    exact grp_turn n c
  rw [← h2, h3, List.getElem_reverse, grp_get, grp_length]
theorem rev32_turn (n c : Nat) (hc : c ≤ 32) : rev32 n / 2 ^ (32 - c) = turn n c := by
  apply Nat.eq_of_testBit_eq
  intro i
  rw [← Nat.shiftRight_eq_div_pow, Nat.testBit_shiftRight]
  by_cases h : i < c
  · rw [turn_bit n c i h, rev32_bit _ _ (by omega)]
    congr 1
    omega
  · rw [Nat.testBit_lt_two_pow (Nat.lt_of_lt_of_le (turn_lt n c) (Nat.pow_le_pow_right (by decide) (by omega))),
      Nat.testBit_lt_two_pow (Nat.lt_of_lt_of_le (rev32_lt n) (Nat.pow_le_pow_right (by decide) (by omega)))]
end Go.Proofs.YtnndgpggjlhhpaaGreat
namespace Go.Proofs.YtnndgpggjlhhpaaGreat
open Go.RowKit
def fitB (n : Nat) (c : Int) : Bool := decide (0 ≤ c ∧ c ≤ 32 ∧ n < 2 ^ c.toNat)
def someB (c : Int) : Bool := decide (0 ≤ c ∧ c ≤ 32)
theorem someB_yes {c : Int} (h : 0 ≤ c) (k : c ≤ 32) : someB c = true := decide_eq_true ⟨h, k⟩
theorem someB_no {c : Int} (h : ¬ (0 ≤ c ∧ c ≤ 32)) : someB c = false := decide_eq_false h
theorem some_any (c : Int) (w : World) : Calls Tryz.prog 217 #[.int .i64 c] w fun e w' => e = .returned (.bool (someB c)) ∧ w = w' := by
  by_cases h0 : c ≥ 0
  · by_cases h1 : c ≤ 32
    · rw [someB_yes h0 h1]
      go_enter Tryz.func217, Tryz.ntmps217
      go_wp2
      go_ret
      exact ⟨rfl, rfl⟩
    · rw [someB_no fun h => h1 h.2]
      have h2 := decide_eq_false h1
      go_enter Tryz.func217, Tryz.ntmps217
      go_wp2
      go_ret
      exact ⟨rfl, rfl⟩
  · rw [someB_no fun h => h0 h.1]
    go_enter Tryz.func217, Tryz.ntmps217
    go_wp2
    go_ret
    exact ⟨rfl, rfl⟩
theorem fitB_nat (n k : Nat) (hk : (k : Int) ≤ 32) : ((n : Int) / 2 ^ k == 0) = fitB n k := by
  unfold fitB
  rw [show ((n : Int) / 2 ^ k) = ((n / 2 ^ k : Nat) : Int) by simp, Bool.eq_iff_iff, beq_iff_eq, decide_eq_true_iff]
  have hp : 0 < 2 ^ k := Nat.pow_pos (by decide)
  constructor
  · intro h
    refine ⟨by omega, hk, ?_⟩
    have h0 : n / 2 ^ k = 0 := by omega
    have := (Nat.div_eq_zero_iff).1 h0
    simp only [Int.toNat_natCast]
    omega
  · rintro ⟨-, -, h⟩
    simp only [Int.toNat_natCast] at h
    rw [Nat.div_eq_of_lt h]; rfl
theorem fits_any (n : Nat) (c : Int) (w : World) : Calls Tryz.prog 199 #[.int .u32 n, .int .i64 c] w fun e w' => e = .returned (.bool (fitB n c)) ∧ w = w' := by
  have HS := Lib.hid (some_any c w)
  by_cases h : 0 ≤ c ∧ c ≤ 32
  · obtain ⟨k, rfl⟩ : ∃ k : Nat, c = k := ⟨c.toNat, by omega⟩
    rw [someB_yes h.1 h.2] at HS
    have h1 : (k : Int) ≤ 32 := h.2
    clear h
    go_enter Tryz.func199, Tryz.ntmps199
    go_wp2_with fail
    refine HS.out.mono ?_
    rintro e w' ⟨rfl, rfl⟩
    go_wp2
    go_ret
    exact ⟨congrArg (fun b => Ending.returned (.bool b)) (fitB_nat n k h1), rfl⟩
  · rw [someB_no h] at HS
    rw [show fitB n c = false from decide_eq_false fun x => h ⟨x.1, x.2.1⟩]
    go_enter Tryz.func199, Tryz.ntmps199
    go_wp2_with fail
    refine HS.out.mono ?_
    rintro e w' ⟨rfl, rfl⟩
    go_wp2
    go_ret
    exact ⟨rfl, rfl⟩
theorem swap_go (n s P m : Nat) (Q M : Int) (hQ : Q = (P : Nat)) (hM : M = (m : Nat)) (hn : n < 4294967296) (hP : P = 2 ^ s) (hm : m < 4294967296) :
    bits .or .u32 (bits .and .u32 ((n : Int) / Q) M) (bits .and .u32 (n : Int) M * Q % 4294967296) = ((swap n s m : Nat) : Int) := by
  subst hQ hM
  have h1 : n / P < 4294967296 := Nat.lt_of_le_of_lt (Nat.div_le_self _ _) hn
  rw [show ((n : Int) / P) = ((n / P : Nat) : Int) by simp, u32_and_nat _ _ h1 hm, u32_and_nat _ _ hn hm,
    show (((n &&& m : Nat) : Int) * P % 4294967296) = (((n &&& m) * P % 4294967296 : Nat) : Int) by simp,
    u32_or_nat _ _ (Nat.and_lt_two_pow (n := 32) _ hm) (Nat.mod_lt _ (by decide)), hP]
  rfl
theorem half_go (n : Nat) (hn : n < 4294967296) : bits .or .u32 ((n : Int) / 65536) ((n : Int) * 65536 % 4294967296) = ((half n : Nat) : Int) := by
  have h1 : n / 65536 < 4294967296 := Nat.lt_of_le_of_lt (Nat.div_le_self _ _) hn
  rw [show ((n : Int) / 65536) = ((n / 65536 : Nat) : Int) by simp, show ((n : Int) * 65536 % 4294967296) = ((n * 65536 % 4294967296 : Nat) : Int) by simp,
    u32_or_nat _ _ h1 (Nat.mod_lt _ (by decide))]
  rfl
theorem revBytes_any (n : Nat) (w : World) (hn : n < 4294967296) : Calls Tryz.prog 245 #[.int .u32 n] w fun e w' => e = .returned (.int .u32 (half (swap n 8 16711935) : Nat)) ∧ w = w' := by
  have H1 := Lib.hid (swap_go n 8 256 16711935 256 16711935 rfl rfl hn rfl (by decide))
  have H2 := Lib.hid (half_go (swap n 8 16711935) (swap_lt _ _ _ (by decide)))
  go_enter Tryz.func245, Tryz.ntmps245
  go_wp2
  go_ret
  refine ⟨?_, rfl⟩
  rw [← H2.out, ← H1.out]
  rfl
theorem rev_any (n : Nat) (w : World) (hn : n < 4294967296) : Calls Tryz.prog 220 #[.int .u32 n] w fun e w' => e = .returned (.int .u32 (rev32 n : Nat)) ∧ w = w' := by
  have H1 := Lib.hid (swap_go n 1 2 1431655765 2 1431655765 rfl rfl hn rfl (by decide))
  have H2 := Lib.hid (swap_go (swap n 1 1431655765) 2 4 858993459 4 858993459 rfl rfl (swap_lt _ _ _ (by decide)) rfl (by decide))
  have H3 := Lib.hid (swap_go (swap (swap n 1 1431655765) 2 858993459) 4 16 252645135 16 252645135 rfl rfl (swap_lt _ _ _ (by decide)) rfl (by decide))
  have H4 := Lib.hid (revBytes_any (swap (swap (swap n 1 1431655765) 2 858993459) 4 252645135) w (swap_lt _ _ _ (by decide)))
  have E : Hid (rev32 n = half (swap (swap (swap (swap n 1 1431655765) 2 858993459) 4 252645135) 8 16711935)) := Lib.hid rfl
  go_enter Tryz.func220, Tryz.ntmps220
  go_wp2_with fail
  rw [H1.out, H2.out, H3.out]
  refine H4.out.mono ?_
  rintro e w' ⟨rfl, rfl⟩
  go_wp2
  go_ret
  exact ⟨by rw [E.out]; rfl, rfl⟩
theorem turn_any (n : Nat) (c : Int) (w : World) (hn : n < 4294967296) (h0 : 0 ≤ c) (h1 : c ≤ 32) : Calls Tryz.prog 201 #[.int .u32 n, .int .i64 c] w fun e w' => e = .returned (.int .u32 (turn n c.toNat : Nat)) ∧ w = w' := by
  have HS := Lib.hid (some_any c w)
  have HR := Lib.hid (rev_any n w hn)
  rw [someB_yes h0 h1] at HS
  obtain ⟨k, rfl⟩ : ∃ k : Nat, c = k := ⟨c.toNat, by omega⟩
  have HT := Lib.hid (rev32_turn n k (by omega))
  go_enter Tryz.func201, Tryz.ntmps201
  go_wp2_with fail
  refine HS.out.mono ?_
  rintro e w' ⟨rfl, rfl⟩
  go_wp2_with fail
  refine HR.out.mono ?_
  rintro e w' ⟨rfl, rfl⟩
  obtain ⟨R, hR⟩ : ∃ R, rev32 n = R := ⟨_, rfl⟩
  rw [hR] at HT ⊢
  go_wp2
  go_ret
  exact ⟨by rw [Int.toNat_natCast, ← HT.out, Int.natCast_ediv, Int.natCast_pow]; rfl, rfl⟩
end Go.Proofs.YtnndgpggjlhhpaaGreat
namespace Go.Proofs.YtnndgpggjlhhpaaGreat
open Go.RowKit
theorem SlI.drop {w : World} {k : IntKind} {b o : Nat} {l : List Nat} (h : SlI w k (some ⟨b, o, none⟩) l) (n : Nat) : SlI w k (some ⟨b, o + n, none⟩) (l.drop n) := by
  refine ⟨by have := h.1; rw [List.length_drop]; omega, fun hl => ?_⟩
  obtain ⟨b', o', hp, hc⟩ := h.2 (by intro e; subst e; simp at hl)
  simp only [Option.some.injEq, Addr.mk.injEq] at hp
  obtain ⟨rfl, rfl, -⟩ := hp
  refine ⟨b, o + n, rfl, fun i hi => ?_⟩
  rw [List.length_drop] at hi
  rw [Nat.add_assoc, hc (n + i) (by omega), List.getElem_drop]
structure Wx where
  tl : List Value
  ty : TypeId
def Wx.cs (X : Wx) (a b : Value) : Array Value := ⟨a :: b :: X.tl⟩
def Wx0 : Wx := ⟨[], 211⟩
structure WrIs (X : Wx) (w : World) (g : Nat) (r : Option Nat) (L : List Nat) : Prop where
  ex : ∃ p c, w.heap[g]? = some (.cells (X.cs (.slice p (byt L).length c) (.int .i64 (L.length : Nat))) X.ty (0, 0)) ∧
    w.ownsRow 0 5 1 (.slice p (byt L).length c) (byt L).length (u8s (byt L)) ∧ Value.ownBlock (.slice p (byt L).length c) = r
  bits : Bit01 L
  apart : r ≠ some g
def WrB (g : Nat) (r : Option Nat) : Nat → Prop := fun j => j = g ∨ r = some j
def WrTo (X : Wx) (w w' : World) (g : Nat) (r : Option Nat) (L : List Nat) : Prop :=
  ∃ r', WrIs X w' g r' L ∧ Fr (WrB g r) w w' ∧ (r' = r ∨ ∀ j, r' = some j → w.heap.size ≤ j)
variable {X : Wx}
theorem WrIs.lt {w : World} {g : Nat} {r : Option Nat} {L : List Nat} (h : WrIs X w g r L) : g < w.heap.size := by
  obtain ⟨p, c, h1, -, -⟩ := h.ex
  exact (Array.getElem?_eq_some_iff.1 h1).1
theorem WrIs.rlt {w : World} {g : Nat} {r : Option Nat} {L : List Nat} (h : WrIs X w g r L) : ∀ j, r = some j → j < w.heap.size := by
  obtain ⟨p, c, -, h2, h3⟩ := h.ex
  intro j hj
  exact (h2.lt j (h3.trans hj)).2
theorem WrIs.fr {w w' : World} {g : Nat} {r : Option Nat} {L : List Nat} {S : Nat → Prop} (h : WrIs X w g r L) (hf : Fr S w w') (hg : ¬ S g) (hr : ∀ j, r = some j → ¬ S j) : WrIs X w' g r L := by
  obtain ⟨p, c, h1, h2, h3⟩ := h.ex
  exact ⟨⟨p, c, hf.row h1 hg, hf.owns h2 (fun k hk => hr k (h3.symm.trans hk)), h3⟩, h.bits, h.apart⟩
theorem WrIs.fr0 {w w' : World} {g : Nat} {r : Option Nat} {L : List Nat} (h : WrIs X w g r L) (hf : Fr S0 w w') : WrIs X w' g r L := h.fr hf (fun h => h) (fun _ _ h => h)
theorem WrIs.self {w : World} {g : Nat} {r : Option Nat} {L : List Nat} (h : WrIs X w g r L) : WrTo X w w g r L := ⟨r, h, Fr.refl _ _, .inl rfl⟩
theorem WrTo.trans {w w1 w2 : World} {g : Nat} {r r1 : Option Nat} {L : List Nat} (hf : Fr (WrB g r) w w1) (hr : r1 = r ∨ ∀ j, r1 = some j → w.heap.size ≤ j) (h : WrTo X w1 w2 g r1 L) : WrTo X w w2 g r L := by
  obtain ⟨r2, h1, h2, h3⟩ := h
  refine ⟨r2, h1, hf.trans h2 (fun j hj e => ?_), ?_⟩
  · rcases e with e | e
    · exact .inl e
    · rcases hr with hr | hr
      · exact .inr (hr ▸ e)
      · have := hr j e; omega
  · rcases h3 with h3 | h3
    · subst h3
      exact hr
    · exact .inr fun j hj => Nat.le_trans hf.size (h3 j hj)
def WrNew (X : Wx) (w w' : World) (g : Nat) (L : List Nat) : Prop := ∃ r, WrIs X w' g r L ∧ Fr S0 w w' ∧ w.heap.size ≤ g ∧ ∀ j, r = some j → w.heap.size ≤ j
theorem WrNew.to {w w1 w2 : World} {g : Nat} {r : Option Nat} {L : List Nat} (hf : Fr S0 w w1) (hg : w.heap.size ≤ g) (hr : ∀ j, r = some j → w.heap.size ≤ j) (h : WrTo X w1 w2 g r L) : WrNew X w w2 g L := by
  obtain ⟨r2, h1, h2, h3⟩ := h
  refine ⟨r2, h1, hf.trans h2 (fun j hj e => ?_), hg, fun j hj => ?_⟩
  · rcases e with e | e
    · omega
    · have := hr j e; omega
  · rcases h3 with h3 | h3
    · exact hr j (h3 ▸ hj)
    · exact Nat.le_trans hf.size (h3 j hj)
theorem WrNew.zero {w w1 : World} (hf : Fr S0 w w1) : WrNew Wx0 w (w1.alloc (.cells #[.slice none 0 0, .int .i64 0] 211)) w1.heap.size [] :=
  ⟨none, ⟨⟨none, 0, heap_alloc_new w1 _, World.ownsRow_nil _ _ _ _, rfl⟩, Bit01.nil, fun h => by cases h⟩, hf.trans0 (Fr.alloc _ _ _), hf.size, fun j h => by cases h⟩
structure RdIs (w : World) (g : Nat) (r : Option Nat) (b : List Nat) (k : Nat) : Prop where
  ex : ∃ p c, w.heap[g]? = some (.cells #[.slice p b.length c, .int .i64 (k : Nat)] 248 (0, 0)) ∧
    w.ownsRow 0 5 1 (.slice p b.length c) b.length (u8s b) ∧ Value.ownBlock (.slice p b.length c) = r
  bytes : ∀ x ∈ b, x < 256
  inside : k ≤ 8 * b.length
  apart : r ≠ some g
def RdTo (w w' : World) (g : Nat) (r : Option Nat) (b : List Nat) (k : Nat) : Prop := RdIs w' g r b k ∧ Fr (· = g) w w'
theorem RdIs.lt {w : World} {g : Nat} {r : Option Nat} {b : List Nat} {k : Nat} (h : RdIs w g r b k) : g < w.heap.size := by
  obtain ⟨p, c, h1, -, -⟩ := h.ex
  exact (Array.getElem?_eq_some_iff.1 h1).1
theorem RdIs.rlt {w : World} {g : Nat} {r : Option Nat} {b : List Nat} {k : Nat} (h : RdIs w g r b k) : ∀ j, r = some j → j < w.heap.size := by
  obtain ⟨p, c, -, h2, h3⟩ := h.ex
  intro j hj
  exact (h2.lt j (h3.trans hj)).2
theorem RdIs.fr {w w' : World} {g : Nat} {r : Option Nat} {b : List Nat} {k : Nat} {S : Nat → Prop} (h : RdIs w g r b k) (hf : Fr S w w') (hg : ¬ S g) (hr : ∀ j, r = some j → ¬ S j) : RdIs w' g r b k := by
  obtain ⟨p, c, h1, h2, h3⟩ := h.ex
  exact ⟨⟨p, c, hf.row h1 hg, hf.owns h2 (fun k hk => hr k (h3.symm.trans hk)), h3⟩, h.bytes, h.inside, h.apart⟩
theorem RdIs.fr0 {w w' : World} {g : Nat} {r : Option Nat} {b : List Nat} {k : Nat} (h : RdIs w g r b k) (hf : Fr S0 w w') : RdIs w' g r b k := h.fr hf (fun h => h) (fun _ _ h => h)
theorem RdIs.self {w : World} {g : Nat} {r : Option Nat} {b : List Nat} {k : Nat} (h : RdIs w g r b k) : RdTo w w g r b k := ⟨h, Fr.refl _ _⟩
theorem RdTo.trans {w w1 w2 : World} {g : Nat} {r : Option Nat} {b : List Nat} {k j : Nat} (h : RdTo w w1 g r b k) (i : RdTo w1 w2 g r b j) : RdTo w w2 g r b j := ⟨i.1, h.2.trans i.2 fun _ _ h => h⟩
theorem RdIs.set {w : World} {g : Nat} {r : Option Nat} {b : List Nat} {k : Nat} (h : RdIs w g r b k) (j : Nat) (hj : j ≤ 8 * b.length) : RdTo w (w.setCell ⟨g, 1, none⟩ (.int .i64 (j : Nat))) g r b j := by
  obtain ⟨p, c, h1, h2, h3⟩ := h.ex
  refine ⟨⟨⟨p, c, by rw [heap_setCell_same w g 1 _ _ _ h1]; rfl, (Fr.setCell (· = g) w ⟨g, 1, none⟩ _ rfl).owns h2 (fun k hk e => h.apart (by rw [← h3, hk, e])), h3⟩, h.bytes, hj, h.apart⟩, Fr.setCell _ _ _ _ rfl⟩
def RdNew (w w' : World) (g : Nat) (r : Option Nat) (b : List Nat) (k : Nat) : Prop := RdIs w' g r b k ∧ Fr S0 w w' ∧ w.heap.size ≤ g ∧ ∀ j, r = some j → w.heap.size ≤ j
theorem RdNew.to {w w1 w2 : World} {g : Nat} {r : Option Nat} {b : List Nat} {k : Nat} (hf : Fr S0 w w1) (hg : w.heap.size ≤ g) (hr : ∀ j, r = some j → w.heap.size ≤ j) (h : RdTo w1 w2 g r b k) : RdNew w w2 g r b k :=
  ⟨h.1, hf.trans h.2 (fun j hj e => by omega), hg, hr⟩
structure RowNew (w w' : World) (v : Value) (l : List Nat) : Prop where
  own : w'.ownsRow 0 5 1 v l.length (u8s l)
  fresh : Fresh w v
end Go.Proofs.YtnndgpggjlhhpaaGreat
namespace Go.Proofs.YtnndgpggjlhhpaaGreat
open Go.RowKit
variable {X : Wx}
theorem wr_c0 {w : World} {g : Nat} {a b : Value} {t : TypeId} (h : w.heap[g]? = some (.cells (X.cs a b) t (0, 0))) : w.cell? ⟨g, 0, none⟩ = some a := by simp [World.cell?, h, Wx.cs]
theorem wr_c1 {w : World} {g : Nat} {a b : Value} {t : TypeId} (h : w.heap[g]? = some (.cells (X.cs a b) t (0, 0))) : w.cell? ⟨g, 1, none⟩ = some b := by simp [World.cell?, h, Wx.cs]
theorem wr_f {w : World} {g : Nat} {a b : Value} {t : TypeId} (h : w.heap[g]? = some (.cells (X.cs a b) t (0, 0))) (k : Nat) : w.frozen? ⟨g, k, none⟩ = false := by simp [World.frozen?, h]
theorem wr_s0 {w : World} {g : Nat} {a b : Value} {t : TypeId} (h : w.heap[g]? = some (.cells (X.cs a b) t (0, 0))) (x : Value) : (w.setCell ⟨g, 0, none⟩ x).heap[g]? = some (.cells (X.cs x b) t (0, 0)) := by rw [heap_setCell_same w g 0 _ _ _ h]; simp [Wx.cs]
theorem wr_s1 {w : World} {g : Nat} {a b : Value} {t : TypeId} (h : w.heap[g]? = some (.cells (X.cs a b) t (0, 0))) (x : Value) : (w.setCell ⟨g, 1, none⟩ x).heap[g]? = some (.cells (X.cs a x) t (0, 0)) := by rw [heap_setCell_same w g 1 _ _ _ h]; simp [Wx.cs]
theorem or_bit (o x k : Nat) (hk : k < 8) (ho : o < 2 ^ k) (hx : x < 2) : bits .or .u8 (o : Int) ((x : Int) * 2 ^ k % 256) = ((o + x * 2 ^ k : Nat) : Int) := by
  have hp : 2 ^ k ≤ 128 := Nat.le_trans (Nat.pow_le_pow_right (by decide) (show k ≤ 7 by omega)) (by decide)
  have h2 : x * 2 ^ k ≤ 128 := Nat.le_trans (Nat.mul_le_mul (show x ≤ 1 by omega) hp) (by decide)
  rw [show ((x : Int) * 2 ^ k % 256) = ((x * 2 ^ k : Nat) : Int) by
    have e : ((x * 2 ^ k : Nat) : Int) = (x : Int) * 2 ^ k := by simp
    rw [← e]
    omega, u8_or_nat _ _ (by omega) (by omega)]
  congr 1
  rw [Nat.or_comm, ← Nat.shiftLeft_eq, ← Nat.shiftLeft_add_eq_or_of_lt ho, Nat.add_comm]
theorem drew_row {w : World} {g : Nat} {o : Obj} (h : w.heap[g]? = some o) : w.drew.heap[g]? = some o := h
theorem zput_end {w W : World} {g q c M B : Nat} {r : Option Nat} {L : List Nat} {x : Nat} (h : Hid (WrIs X w g r L)) (hb : W.heap[g]? = some (.cells (X.cs (.slice (some ⟨q, 0, none⟩) (B + 1) c) (.int .i64 (M : Nat))) X.ty (0, 0)))
    (own : W.ownsRow 0 5 1 (.slice (some ⟨q, 0, none⟩) (B + 1) c) (B + 1) (u8s (room L))) (hf : Fr (WrB g r) w W) (hq : r = some q ∨ w.heap.size ≤ q) (hqg : q ≠ g) (hM : L.length = M) (hB : M / 8 = B) (hx : x < 2) :
    WrTo X w ((W.setCell ⟨q, B, none⟩ (.int .u8 (num (L.drop (8 * B)) + x * 2 ^ (M % 8) : Nat))).setCell ⟨g, 1, none⟩ (.int .i64 (M + 1 : Nat))).drew g r (L ++ [x]) := by
  subst hM hB
  have hl := byt_length (L ++ [x])
  rw [List.length_append, List.length_singleton, show (L.length + 1 + 7) / 8 = L.length / 8 + 1 by omega] at hl
  obtain ⟨o2, -⟩ := own.stored (L.length / 8) (.int .u8 (num (L.drop (8 * (L.length / 8))) + x * 2 ^ (L.length % 8) : Nat))
  have hb2 : (W.setCell ⟨q, L.length / 8, none⟩ (.int .u8 (num (L.drop (8 * (L.length / 8))) + x * 2 ^ (L.length % 8) : Nat))).heap[g]? = some (.cells (X.cs (.slice (some ⟨q, 0, none⟩) (L.length / 8 + 1) c) (.int .i64 (L.length : Nat))) X.ty (0, 0)) :=
    (heap_setCell_other W ⟨q, _, none⟩ g _ (fun e => hqg e.symm)).trans hb
  have hs : u8s (byt (L ++ [x])) = (u8s (room L)).set (L.length / 8) (.int .u8 (num (L.drop (8 * (L.length / 8))) + x * 2 ^ (L.length % 8) : Nat)) := by
    rw [byt_put]; unfold u8s; rw [List.map_set]
  have f1 : Fr (WrB g (some q)) W ((W.setCell ⟨q, L.length / 8, none⟩ (.int .u8 (num (L.drop (8 * (L.length / 8))) + x * 2 ^ (L.length % 8) : Nat))).setCell ⟨g, 1, none⟩ (.int .i64 (L.length + 1 : Nat))).drew :=
    ((Fr.setCell _ _ ⟨q, _, none⟩ _ (.inr rfl)).trans (Fr.setCell _ _ ⟨g, 1, none⟩ _ (.inl rfl)) (fun _ _ h => h)).trans0 (Fr.drew _ _)
  refine ⟨some q, ⟨⟨some ⟨q, 0, none⟩, c, ?_, ?_, rfl⟩, h.out.bits.app (.one hx), fun e => hqg (Option.some.inj e)⟩, hf.trans f1 (fun j hj e => ?_), ?_⟩
  · rw [hl, List.length_append, List.length_singleton]
    exact drew_row (wr_s1 hb2 _)
  · rw [hl, hs]
    exact (Fr.drew (· = g) _).owns ((Fr.setCell (· = g) _ ⟨g, 1, none⟩ _ rfl).owns o2 (fun j hj e => by simp only [Value.ownBlock, Option.some.injEq] at hj; omega)) (fun j hj e => by simp only [Value.ownBlock, Option.some.injEq] at hj; omega)
  · rcases e with e | e
    · exact .inl e
    · rcases hq with hq | hq
      · exact .inr (hq.trans e)
      · simp only [Option.some.injEq] at e; omega
  · rcases hq with hq | hq
    · exact .inl hq.symm
    · exact .inr fun j hj => by simp only [Option.some.injEq] at hj; omega
theorem put_grown {w w1 : World} {g q c N : Nat} {p : Option Addr} {r : Option Nat} {L : List Nat} {o : Obj} {b : Obj} (h : WrIs X w g r L) (hb : w.heap[g]? = some b) (hr : Value.ownBlock (.slice p N c) = r)
    (hgrow : (w.alloc o).grownBy w1 (Value.ownBlock (.slice p N c))) (hat : Value.ownBlock (.slice p N c) = some q ∨ q = w.heap.size + 1) :
    w1.heap[g]? = some b ∧ Fr (WrB g r) w w1 ∧ (r = some q ∨ w.heap.size ≤ q) ∧ ¬ q = g ∧ ¬ g = q := by
  rw [hr] at hgrow hat
  have hg := h.lt
  have f : Fr (fun k => r = some k) w w1 := (Fr.alloc _ w o).trans (Fr.grown hgrow) (fun _ _ h => h)
  have ne : ¬ q = g := by
    rintro rfl
    rcases hat with e | e
    · exact h.apart e
    · omega
  refine ⟨f.row hb (fun e => h.apart e), f.mono (fun j _ e => .inr e), ?_, ne, fun e => ne e.symm⟩
  rcases hat with e | e
  · exact .inl e
  · exact .inr (by omega)
theorem put_any (g : Nat) (r : Option Nat) (L : List Nat) (x : Nat) (w : World) (h : WrIs X w g r L) (hx : x < 2) (hL : L.length < 1099511627776) :
    Calls Tryz.prog 219 #[.pointer (some ⟨g, 0, none⟩), .int .u32 x] w fun e w' => e = .returned (.tuple #[]) ∧ WrTo X w w' g r (L ++ [x]) := by
  obtain ⟨p, c, hb, own, hr⟩ := h.ex
  have H := Lib.hid h
  obtain ⟨M, hM⟩ : ∃ M, L.length = M := ⟨_, rfl⟩
  obtain ⟨N, hN⟩ : ∃ N, (byt L).length = N := ⟨_, rfl⟩
  obtain ⟨A, hA⟩ : ∃ A, M % 8 = A := ⟨_, rfl⟩
  obtain ⟨B, hB⟩ : ∃ B, M / 8 = B := ⟨_, rfl⟩
  have eA : (M : Int) % 8 = (A : Int) := by omega
  have eB : (M : Int) / 8 = (B : Int) := by omega
  have hA8 : A < 8 := by omega
  have hN7 := byt_length L
  rw [hN, hM] at hN7
  have hrl := room_length L
  rw [hM, hB] at hrl
  have hrg := room_get L (by omega)
  have hlo := room_last_lt L h.bits
  simp only [hM, hB, hA] at hrg hlo
  obtain ⟨o, ho⟩ : ∃ o, num (L.drop (8 * B)) = o := ⟨_, rfl⟩
  rw [ho] at hrg hlo
  rw [← hA] at hlo
  have hBs : B < 1099511627776 := by omega
  have hMs : M < 1099511627776 := by omega
  have HO := Lib.hid (or_bit o x (M % 8) (by omega) hlo hx)
  have HG : Hid ((u8s (room L))[B]? = some (.int .u8 (o : Nat))) := Lib.hid (by simp [u8s, hrl, hrg])
  have HM := Lib.hid hM
  have HB := Lib.hid hB
  have HA := Lib.hid hA
  have EA := Lib.hid eA
  have EB := Lib.hid eB
  have HE := Lib.hid ho
  rw [hM] at hb
  rw [hN] at hb own hr
  have h0 := wr_c0 hb
  have h1 := wr_c1 hb
  have h2 := wr_f hb
  by_cases hz : A = 0
  · have HR : Hid (Room (N + 1)) := Lib.hid (Room.mk (by omega))
    have hT : ((M : Int) % 8 == 0) = true := by rw [beq_iff_eq]; omega
    have HRM : Hid (u8s (byt L) ++ [Value.int .u8 0] = u8s (room L)) := Lib.hid (by unfold room; rw [if_pos (by omega)]; simp [u8s])
    have HNB : Hid (N = B) := Lib.hid (by omega)
    clear hN hA hB hM hN7 hrg hrl hlo h eA eB hA8 hz ho
    go_enter Tryz.func219, Tryz.ntmps219
    go_wp2_with ((with_reducible show wpList _ _ _ (Oper.mk (some 18) _ _ _ _ _ :: _) _ _); refine app_one el8 (.tmp 16) (.tmp 17) rfl own rfl rfl rfl rfl rfl one8 HR.out ?_; intro q cap w1 hown hgrow hat hlt1; clear hlt1; obtain ⟨b1, f1, q1, n1, n2⟩ := put_grown H.out hb hr hgrow hat; rw [HRM.out] at hown; have cc := hown.cellAt B (by have := HNB.out; omega); rw [HG.out] at cc; have cf := hown.frozenAt; have k0 := wr_c0 b1; have k1 := wr_c1 b1; have kf := wr_f b1; clear hgrow hat)
    obtain rfl : N = B := HNB.out
    have b2 := wr_s0 b1 (.slice (some ⟨q, 0, none⟩) (N + 1) cap)
    have o2 := (Fr.setCell (· = g) w1 ⟨g, 0, none⟩ (.slice (some ⟨q, 0, none⟩) (N + 1) cap) rfl).owns hown (fun k hk e => n1 (by simp only [Value.ownBlock, Option.some.injEq] at hk; omega))
    have f2 : Fr (WrB g r) w (w1.setCell ⟨g, 0, none⟩ (.slice (some ⟨q, 0, none⟩) (N + 1) cap)) := f1.trans (Fr.setCell (WrB g r) _ ⟨g, 0, none⟩ _ (.inl rfl)) (fun _ _ h => h)
    generalize w1.setCell ⟨g, 0, none⟩ (.slice (some ⟨q, 0, none⟩) (N + 1) cap) = W at b2 o2 f2 ⊢
    clear hown b1 f1 k0 k1 kf cc cf h0 h1 h2 own hb hr
    have cc := o2.cellAt N (by omega)
    rw [HG.out] at cc
    have cf := o2.frozenAt
    have k0 := wr_c0 b2
    have k1 := wr_c1 b2
    have kf := wr_f b2
    have eB := EB.out
    have HEND := Lib.hid (zput_end H b2 o2 f2 q1 n1 HM.out HB.out hx)
    clear b2 o2 f2 q1
    go_region
    go_wp2
    go_end0
    rw [HO.out]
    rw [HE.out] at HEND
    exact ⟨rfl, HEND.out⟩
  · have hT : ((M : Int) % 8 == 0) = false := by rw [beq_eq_false_iff_ne]; omega
    have hNB : N = B + 1 := by omega
    obtain ⟨q, cap, hv, -, hq⟩ := own.form (by omega)
    have hrm : byt L = room L := by unfold room; rw [if_neg (by omega)]
    rw [hNB] at hv hb own hr
    simp only [Value.slice.injEq] at hv
    obtain ⟨rfl, -, rfl⟩ := hv
    rw [hrm] at own
    have q1 : r = some q ∨ w.heap.size ≤ q := .inl hr.symm
    have n1 : ¬ q = g := fun e => H.out.apart (by rw [← hr, e]; rfl)
    have n2 : ¬ g = q := fun e => n1 e.symm
    have b2 := hb
    have o2 := own
    have f2 : Fr (WrB g r) w w := Fr.refl _ _
    clear h0 hN hA hB hM hN7 hrg hrl hlo h eA eB hA8 hz ho hb own hr hNB hrm hq h1 h2 hL
    go_enter Tryz.func219, Tryz.ntmps219
    have h0 := wr_c0 b2
    have h1 := wr_c1 b2
    go_wp2_with fail
    have cc := o2.cellAt B (by omega)
    rw [HG.out] at cc
    have cf := o2.frozenAt
    have k0 := wr_c0 b2
    have k1 := wr_c1 b2
    have kf := wr_f b2
    have eB := EB.out
    have HEND := Lib.hid (zput_end H b2 o2 f2 q1 n1 HM.out HB.out hx)
    clear b2 o2 f2 q1
    go_region
    go_wp2
    go_end0
    rw [HO.out]
    rw [HE.out] at HEND
    exact ⟨rfl, HEND.out⟩
end Go.Proofs.YtnndgpggjlhhpaaGreat
namespace Go.Proofs.YtnndgpggjlhhpaaGreat
open Go.RowKit
variable {X : Wx}
def code (n c : Nat) : List Nat := (grp n c).reverse
theorem code_bit (n c : Nat) : Bit01 (code n c) := (grp_bit n c).rev
theorem code_length (n c : Nat) : (code n c).length = c := by simp [code]
theorem and_one (x : Nat) (hx : x < 4294967296) : bits .and .u32 (x : Int) 1 = ((x % 2 : Nat) : Int) := by
  have h := u32_and_nat x 1 hx (by decide)
  rw [Nat.and_one_is_mod] at h
  exact h
theorem fromHighest_any (g : Nat) (r : Option Nat) (L : List Nat) (n c : Nat) (w : World) (h : WrIs X w g r L) (hn : n < 4294967296) (hc : c ≤ 32) (hL : L.length + c ≤ 1099511627776) :
    Calls Tryz.prog 218 #[.int .u32 n, .int .i64 c, .func (.func 219) #[.pointer (some ⟨g, 0, none⟩)] #[]] w fun e w' => e = .returned (.tuple #[]) ∧ WrTo X w w' g r (L ++ code n c) := by
  have H := Lib.hid h
  have HLL := Lib.hid hL
  have HC := Lib.hid hc
  clear h hL
  go_enter Tryz.func218, Tryz.ntmps218
  go_wp2
  go_loopw [8] (fun i wr => ∃ k : Nat, k ≤ c ∧ i = .int .i64 k ∧ WrTo X w wr g r (L ++ (code n c).take k)) (fun i _ => c - (intOf i).toNat)
  case atStart => exact ⟨0, by omega, rfl, by rw [List.take_zero, List.append_nil]; exact H.out.self⟩
  case round =>
    obtain ⟨k, hk, rfl, hto⟩ := hrel
    by_cases hkc : (k : Int) < (c : Int)
    · have hkl : k < c := by omega
      obtain ⟨r1, h1, f1, hr1⟩ := hto
      have HF := Lib.hid f1
      have HR := Lib.hid hr1
      have e1 : (c : Int) - 1 - (k : Int) = ((c - 1 - k : Nat) : Int) := by omega
      have e2 := and_one (n / 2 ^ (c - 1 - k)) (Nat.lt_of_le_of_lt (Nat.div_le_self _ _) hn)
      rw [Int.natCast_ediv, Int.natCast_pow] at e2
      have HT : Hid ((code n c).take (k + 1) = (code n c).take k ++ [n / 2 ^ (c - 1 - k) % 2]) := Lib.hid (zrev_take n c k hkl)
      have HP := Lib.hid (put_any g r1 (L ++ (code n c).take k) (n / 2 ^ (c - 1 - k) % 2) wr h1 (Nat.mod_lt _ (by decide)) (by rw [List.length_append, List.length_take, code_length]; have := HLL.out; omega))
      have E1 := Lib.hid e1
      have E2 := Lib.hid e2
      clear f1 hr1 h1 e1 e2
      go_wp2_with fail
      rw [show (bits .and .u32 ((n : Int) / 2 ^ (c - 1 - k)) 1) = ((n / 2 ^ (c - 1 - k) % 2 : Nat) : Int) from E2.out]
      refine HP.out.mono ?_
      rintro e w2 ⟨rfl, hto⟩
      rw [List.append_assoc, ← HT.out] at hto
      have K := Lib.hid (WrTo.trans HF.out HR.out hto)
      clear hto HP HF HR
      go_wp2
      go_roundw
      case rel => exact ⟨k + 1, by omega, by go_num, K.out⟩
      case measure => simp [intOf]; omega
    · obtain rfl : k = c := by omega
      rw [List.take_of_length_le (by rw [code_length]; exact Nat.le_refl _)] at hto
      have HT := Lib.hid hto
      clear hto
      go_wp2
      go_end0
      exact ⟨rfl, HT.out⟩
theorem code_yes (g : Nat) (r : Option Nat) (L : List Nat) (n : Nat) (c : Int) (w : World) (h : WrIs X w g r L) (hn : n < 4294967296) (hf : fitB n c = true) (hL : L.length + 32 ≤ 1099511627776) :
    Calls Tryz.prog 200 #[.pointer (some ⟨g, 0, none⟩), .int .u32 n, .int .i64 c] w fun e w' => e = .returned (.int .i64 0) ∧ WrTo X w w' g r (L ++ code n c.toNat) := by
  have hF := Lib.hid (fits_any n c w)
  rw [hf] at hF
  have hf' := of_decide_eq_true hf
  obtain ⟨k, rfl⟩ : ∃ k : Nat, c = k := ⟨c.toNat, by omega⟩
  have HP := Lib.hid (fromHighest_any g r L n k w h hn (by omega) (by omega))
  have hmf : ∀ (fn : Fn) (first cap : Array Value) (w : World), (Instr.makeFunc fn first cap).run Tryz.prog w = .ok (.func fn first cap) w := fun _ _ _ _ => rfl
  clear h hf hf' hL
  go_enter Tryz.func200, Tryz.ntmps200
  go_wp2_with fail
  refine hF.out.mono ?_
  rintro e w' ⟨rfl, rfl⟩
  go_wp2_with fail
  refine HP.out.mono ?_
  rintro e w2 ⟨rfl, hto⟩
  have K := Lib.hid hto
  clear hto HP
  go_wp2
  go_ret
  exact ⟨rfl, K.out⟩
theorem fit_turn (n : Nat) (k : Nat) (hk : k ≤ 32) : fitB (turn n k) k = true :=
  decide_eq_true ⟨by omega, by omega, by rw [Int.toNat_natCast]; exact turn_lt n k⟩
theorem turn_32 (n k : Nat) (hk : k ≤ 32) : turn n k < 4294967296 :=
  Nat.lt_of_lt_of_le (turn_lt n k) (Nat.pow_le_pow_right (n := 2) (by decide) hk)
theorem group_yes (g : Nat) (r : Option Nat) (L : List Nat) (n : Nat) (c : Int) (w : World) (h : WrIs X w g r L) (hn : n < 4294967296) (hf : fitB n c = true) (hL : L.length + 32 ≤ 1099511627776) :
    Calls Tryz.prog 181 #[.pointer (some ⟨g, 0, none⟩), .int .u32 n, .int .i64 c] w fun e w' => e = .returned (.int .i64 0) ∧ WrTo X w w' g r (L ++ grp n c.toNat) := by
  have hF := Lib.hid (fits_any n c w)
  rw [hf] at hF
  have hf' := of_decide_eq_true hf
  obtain ⟨k, rfl⟩ : ∃ k : Nat, c = k := ⟨c.toNat, by omega⟩
  have HT := Lib.hid (turn_any n k w hn (by omega) (by omega))
  have hC := code_yes g r L (turn n k) k w h (turn_32 n k (by omega)) (fit_turn n k (by omega)) hL
  rw [show code (turn n k) (k : Int).toNat = grp n (k : Int).toNat by rw [Int.toNat_natCast, code, grp_turn, List.reverse_reverse]] at hC
  have HC := Lib.hid hC
  rw [Int.toNat_natCast] at HT
  obtain ⟨T, hT⟩ : ∃ T, turn n k = T := ⟨_, rfl⟩
  rw [hT] at HT HC
  clear h hf hf' hL hC hT
  go_enter Tryz.func181, Tryz.ntmps181
  go_wp2_with fail
  refine hF.out.mono ?_
  rintro e w' ⟨rfl, rfl⟩
  go_wp2_with fail
  refine HT.out.mono ?_
  rintro e w' ⟨rfl, rfl⟩
  go_wp2_with fail
  refine HC.out.mono ?_
  rintro e w2 ⟨rfl, hto⟩
  have K := Lib.hid hto
  clear hto HC
  go_wp2
  go_ret
  exact ⟨rfl, K.out⟩
theorem align_raw (g M n c : Nat) (p : Option Addr) (w : World) (hb : w.heap[g]? = some (.cells (X.cs (.slice p n c) (.int .i64 (M : Nat))) X.ty (0, 0))) (hn : n ≤ 1099511627776) :
    Calls Tryz.prog 180 #[.pointer (some ⟨g, 0, none⟩)] w fun e w' => e = .returned (.tuple #[]) ∧ w' = w.setCell ⟨g, 1, none⟩ (.int .i64 (8 * n : Nat)) := by
  have h0 := wr_c0 hb
  have h1 := wr_c1 hb
  have h2 := wr_f hb
  clear hb
  go_enter Tryz.func180, Tryz.ntmps180
  go_wp2
  go_end0
  exact ⟨rfl, rfl⟩
end Go.Proofs.YtnndgpggjlhhpaaGreat
namespace Go.Proofs.YtnndgpggjlhhpaaGreat
open Go.RowKit
variable {X : Wx}
def alg (L : List Nat) : List Nat := L ++ List.replicate ((L.length + 7) / 8 * 8 - L.length) 0
theorem alg_length (L : List Nat) : (alg L).length = (L.length + 7) / 8 * 8 := by
  unfold alg
  rw [List.length_append, List.length_replicate]; omega
theorem alg_bit {L : List Nat} (h : Bit01 L) : Bit01 (alg L) := h.app (.zeros _)
theorem byt_alg (L : List Nat) : byt (alg L) = byt L := byt_pad L _ (by omega)
theorem byt_text' (L l : List Nat) (h : ∀ x ∈ l, x < 256) : byt (alg L ++ bts l) = byt L ++ l := by
  rw [byt_text _ _ (by rw [alg_length]; omega) h, byt_alg]
theorem align_end {w : World} {g : Nat} {r : Option Nat} {L : List Nat} (h : WrIs X w g r L) : WrTo X w (w.setCell ⟨g, 1, none⟩ (.int .i64 (8 * (byt L).length : Nat))) g r (alg L) := by
  obtain ⟨p, c, hb, own, hr⟩ := h.ex
  refine ⟨r, ⟨⟨p, c, ?_, ?_, ?_⟩, alg_bit h.bits, h.apart⟩, Fr.setCell _ _ _ _ (.inl rfl), .inl rfl⟩
  · rw [byt_alg, wr_s1 hb, alg_length, byt_length, Nat.mul_comm 8]
  · rw [byt_alg]
    exact (Fr.setCell (· = g) w ⟨g, 1, none⟩ _ rfl).owns own (fun k hk e => h.apart (by rw [← hr, hk, e]))
  · rw [byt_alg]; exact hr
theorem align_any (g : Nat) (r : Option Nat) (L : List Nat) (w : World) (h : WrIs X w g r L) (hL : L.length ≤ 1099511627776) :
    Calls Tryz.prog 180 #[.pointer (some ⟨g, 0, none⟩)] w fun e w' => e = .returned (.tuple #[]) ∧ WrTo X w w' g r (alg L) := by
  obtain ⟨p, c, hb, -, -⟩ := h.ex
  refine (align_raw g _ _ c p w hb (by rw [byt_length]; omega)).mono ?_
  rintro e w' ⟨rfl, rfl⟩
  exact ⟨rfl, align_end h⟩
theorem text_grown {w w1 : World} {g c N m c1 : Nat} {p p1 : Option Addr} {r : Option Nat} {L : List Nat} {b : Obj} (h : WrIs X w g r L) (hb : w.heap[g]? = some b) (hr : Value.ownBlock (.slice p N c) = r)
    (hgrow : w.grownBy w1 (Value.ownBlock (.slice p N c))) (hat : Value.ownBlock (.slice p1 m c1) = Value.ownBlock (.slice p N c) ∨ Value.ownBlock (.slice p1 m c1) = some w.heap.size) :
    w1.heap[g]? = some b ∧ Fr (WrB g r) w w1 ∧ (Value.ownBlock (.slice p1 m c1) = r ∨ ∀ j, Value.ownBlock (.slice p1 m c1) = some j → w.heap.size ≤ j) ∧ Value.ownBlock (.slice p1 m c1) ≠ some g := by
  rw [hr] at hgrow hat
  have hg := h.lt
  have f : Fr (fun k => r = some k) w w1 := Fr.grown hgrow
  refine ⟨f.row hb (fun e => h.apart e), f.mono (fun j _ e => .inr e), ?_, ?_⟩
  · rcases hat with e | e
    · exact .inl e
    · exact .inr fun j hj => by rw [e, Option.some.injEq] at hj; omega
  · rcases hat with e | e
    · rw [e]; exact h.apart
    · rw [e, Ne, Option.some.injEq]; omega
theorem text_any (g : Nat) (r : Option Nat) (L : List Nat) (q : Option Addr) (d : Nat) (l : List Nat) (w : World) (h : WrIs X w g r L) (hl : SlI w .u8 q l) (h8 : ∀ x ∈ l, x < 256) (hq : q = none → d = 0) (hL : L.length + 8 * l.length + 8 ≤ 1099511627776) :
    Calls Tryz.prog 182 #[.pointer (some ⟨g, 0, none⟩), .slice q l.length d] w fun e w' => e = .returned (.tuple #[]) ∧ WrTo X w w' g r (alg L ++ bts l) := by
  obtain ⟨p, c, hb, own, hr⟩ := h.ex
  have H := Lib.hid h
  have H8 := Lib.hid h8
  obtain ⟨M, hM⟩ : ∃ M, L.length = M := ⟨_, rfl⟩
  obtain ⟨N, hN⟩ : ∃ N, (byt L).length = N := ⟨_, rfl⟩
  obtain ⟨K, hK⟩ : ∃ K, N + l.length = K := ⟨_, rfl⟩
  have hN7 := byt_length L
  have HR : Hid (Room K) := Lib.hid (Room.mk (by omega))
  have HK1 : Hid (K ≤ 1099511627776) := Lib.hid (by omega)
  rw [hM] at hb
  rw [hN] at hb own hr
  have h0 := wr_c0 hb
  have h2 := wr_f hb
  have hs := SrcIs.ofSl hl hq
  have HEND : Hid (∀ (W : World) (p1 : Option Addr) (c1 : Nat), W.heap[g]? = some (.cells (X.cs (.slice p1 K c1) (.int .i64 (M : Nat))) X.ty (0, 0)) → W.ownsRow 0 5 1 (.slice p1 K c1) K (u8s (byt L) ++ u8s l) →
      Fr (WrB g r) w W → (Value.ownBlock (.slice p1 K c1) = r ∨ ∀ j, Value.ownBlock (.slice p1 K c1) = some j → w.heap.size ≤ j) → Value.ownBlock (.slice p1 K c1) ≠ some g →
      WrTo X w (W.setCell ⟨g, 1, none⟩ (.int .i64 (8 * K : Nat))) g r (alg L ++ bts l)) := Lib.hid (by
    intro W p1 c1 b1 o1 f1 q1 n1
    have hlen : (byt (alg L ++ bts l)).length = K := by rw [byt_text' L l h8, List.length_append, hN, hK]
    refine ⟨_, ⟨⟨p1, c1, ?_, ?_, rfl⟩, (alg_bit h.bits).app (bts_bit l), ?_⟩, f1.trans (Fr.setCell (WrB g r) _ ⟨g, 1, none⟩ _ (.inl rfl)) (fun _ _ h => h), ?_⟩
    · rw [hlen, wr_s1 b1, List.length_append, alg_length, bts_length, show (L.length + 7) / 8 * 8 + 8 * l.length = 8 * K by omega]
    · rw [hlen, byt_text' L l h8, ← u8s_append]
      exact (Fr.setCell (· = g) W ⟨g, 1, none⟩ _ rfl).owns o1 (fun k hk e => n1 (by rw [hk, e]))
    · rw [hlen]; exact n1
    · rw [hlen]; exact q1)
  clear h hN hM hN7 h8 hl hL
  have HKK := Lib.hid hK
  clear hK
  go_enter Tryz.func182, Tryz.ntmps182
  go_wp2_with (first
    | ((with_reducible show wpList _ _ _ (Oper.mk (some 10) _ _ _ _ _ :: _) _ _); refine app_many el8 (.tmp 8) (.tmp 9) own hs HKK.out rfl rfl rfl rfl (ones _) HR.out ?_; intro p1 c1 w1 own1 g1 at1; obtain ⟨b1, f1, q1, n1⟩ := text_grown H.out hb hr g1 at1; have k0 := wr_c0 b1; have kf := wr_f b1; clear g1 at1 hb h0 h2)
    | fail)
  have b2 := wr_s0 b1 (.slice p1 K c1)
  have o2 := (Fr.setCell (· = g) w1 ⟨g, 0, none⟩ (.slice p1 K c1) rfl).owns own1 (fun k hk e => n1 (by rw [hk, e]))
  have f2 : Fr (WrB g r) w (w1.setCell ⟨g, 0, none⟩ (.slice p1 K c1)) := f1.trans (Fr.setCell (WrB g r) _ ⟨g, 0, none⟩ _ (.inl rfl)) (fun _ _ h => h)
  generalize w1.setCell ⟨g, 0, none⟩ (.slice p1 K c1) = W at b2 o2 f2 ⊢
  have HA := Lib.hid (align_raw g M K c1 p1 W b2 HK1.out)
  have HE := Lib.hid (HEND.out W p1 c1 b2 o2 f2 q1 n1)
  clear own own1 k0 kf b1 b2 o2 f2 f1 q1 n1 hs hr HEND
  refine HA.out.mono ?_
  rintro e w' ⟨rfl, rfl⟩
  go_wp2
  go_end0
  exact ⟨rfl, HE.out⟩
theorem clone_any (q : Option Addr) (d : Nat) (l : List Nat) (w : World) (hl : SlI w .u8 q l) (hq : q = none → d = 0) (hL : l.length ≤ 140737488355328) :
    Calls Tryz.prog 101 #[.slice q l.length d] w fun e w' => ∃ v, e = .returned v ∧ Fr S0 w w' ∧ RowNew w w' v l := by
  have hnil : ∀ (w : World) (a : Option Addr) (n c n' c' : Nat), (binOp .eql 31 (.slice a n c) (.slice none n' c')).run Tryz.prog w = .ok (.bool a.isNone) w := fun w a n c n' c' => Lib.run_eql_slice_nil w _ _ a n c n' c' Tryz.underlying31
  cases q with
  | none =>
    obtain rfl : l = [] := by
      by_cases h : l = []
      · exact h
      · obtain ⟨b, o, hp, -⟩ := hl.2 h
        cases hp
    obtain rfl := hq rfl
    go_enter Tryz.func101, Tryz.ntmps101
    go_wp2
    go_ret
    exact ⟨_, rfl, Fr.refl _ _, World.ownsRow_nil _ _ _ _, fresh_nil _ _⟩
  | some a =>
    have HR : Hid (l.length * 1 ≤ 140737488355328 ∧ l.length ≤ maxLen) := Lib.hid ⟨by omega, by unfold maxLen; omega⟩
    have hs := SrcIs.ofSl (hl.fr0 (Fr.alloc S0 w (.cells #[] 5))) hq
    clear hl hL hq
    go_enter Tryz.func101, Tryz.ntmps101
    go_wp2_with (first
      | ((with_reducible show wpList _ _ _ (Oper.mk (some 7) _ _ _ _ _ :: _) _ _); refine app_many_big el8 (.tmp 5) (.tmp 6) (own_none w _) hs (Nat.zero_add _) rfl rfl rfl rfl (ones _) HR.out.1 HR.out.2 ?_; intro p1 c1 w1 own1 g1 at1; have f1 := fr_made (Fr.refl S0 w) g1; have v1 := fresh_many (fresh_made (n := 0) (c := 0) (Fr.refl S0 w)) (size_le (Fr.refl S0 w)) at1; clear g1 at1)
      | fail)
    go_ret
    exact ⟨_, rfl, f1, by rw [List.nil_append] at own1; exact own1, v1⟩
theorem bytes_any (g : Nat) (r : Option Nat) (L : List Nat) (w : World) (h : WrIs X w g r L) (hL : L.length ≤ 1099511627776) :
    Calls Tryz.prog 154 #[.pointer (some ⟨g, 0, none⟩)] w fun e w' => ∃ v, e = .returned v ∧ Fr S0 w w' ∧ RowNew w w' v (byt L) := by
  obtain ⟨p, c, hb, own, -⟩ := h.ex
  obtain ⟨l, hl⟩ : ∃ l, byt L = l := ⟨_, rfl⟩
  have hlen := byt_length L
  rw [hl] at hb own hlen ⊢
  obtain ⟨p', c', hv, hn, -, -⟩ := slForm own
  simp only [Value.slice.injEq] at hv
  obtain ⟨rfl, -, rfl⟩ := hv
  have HC := Lib.hid (clone_any p c l w (SlI.ofOwns own) hn (by omega))
  have h0 := wr_c0 hb
  clear hb own h hl hn hlen hL
  go_enter Tryz.func154, Tryz.ntmps154
  go_wp2_with fail
  refine HC.out.mono ?_
  rintro e w' ⟨v, rfl, hf, hv⟩
  have K := Lib.hid hv
  clear hv HC
  go_wp2
  go_ret
  exact ⟨v, rfl, hf, K.out⟩
end Go.Proofs.YtnndgpggjlhhpaaGreat
namespace Go.Proofs.YtnndgpggjlhhpaaGreat
open Go.RowKit
theorem rd_c0 {w : World} {g : Nat} {a b : Value} {t : TypeId} (h : w.heap[g]? = some (.cells #[a, b] t (0, 0))) : w.cell? ⟨g, 0, none⟩ = some a := by simp [World.cell?, h]
theorem rd_c1 {w : World} {g : Nat} {a b : Value} {t : TypeId} (h : w.heap[g]? = some (.cells #[a, b] t (0, 0))) : w.cell? ⟨g, 1, none⟩ = some b := by simp [World.cell?, h]
theorem rd_f {w : World} {g : Nat} {a b : Value} {t : TypeId} (h : w.heap[g]? = some (.cells #[a, b] t (0, 0))) (k : Nat) : w.frozen? ⟨g, k, none⟩ = false := by simp [World.frozen?, h]
theorem RdIs.drewN {w : World} {g : Nat} {r : Option Nat} {b : List Nat} {k : Nat} (h : RdIs w g r b k) (n : Nat) : RdTo w (w.drewN n) g r b k := ⟨h.fr0 (Fr.drewN _ _ _), Fr.drewN _ _ _⟩
theorem RdTo.fr0 {w w1 w2 : World} {g : Nat} {r : Option Nat} {b : List Nat} {k : Nat} (h : RdTo w w1 g r b k) (hf : Fr S0 w1 w2) : RdTo w w2 g r b k := ⟨h.1.fr0 hf, h.2.trans0 hf⟩
def bitsAt (b : List Nat) (k c : Nat) : List Nat := ((bts b).drop k).take c
theorem bitsAt_length (b : List Nat) (k c : Nat) (h : k + c ≤ 8 * b.length) : (bitsAt b k c).length = c := by
  unfold bitsAt
  rw [List.length_take, List.length_drop, bts_length]; omega
theorem bitsAt_bit (b : List Nat) (k c : Nat) : Bit01 (bitsAt b k c) := (bts_bit b).sub fun _ hx => List.mem_of_mem_drop (List.mem_of_mem_take hx)
theorem bitsAt_lt (b : List Nat) (k c : Nat) : num (bitsAt b k c) < 2 ^ c := by
  refine Nat.lt_of_lt_of_le (num_lt _ (bitsAt_bit b k c)) (Nat.pow_le_pow_right (by decide) ?_)
  unfold bitsAt
  rw [List.length_take]; omega
theorem and_one8 (x k : Nat) (hx : x < 256) : bits .and .u8 ((x : Int) / 2 ^ k) 1 = ((x / 2 ^ k % 2 : Nat) : Int) := by
  have h := u8_and_nat (x / 2 ^ k) 1 (Nat.lt_of_le_of_lt (Nat.div_le_self _ _) hx) (by decide)
  rw [Nat.and_one_is_mod, Int.natCast_ediv, Int.natCast_pow] at h
  exact h
theorem getD_at (l : List Nat) (i : Nat) (h : i < l.length) : l.getD i 0 = l[i] := by simp [List.getD, h]
def bitAt (b : List Nat) (k : Nat) : Nat := b.getD (k / 8) 0 / 2 ^ (k % 8) % 2
theorem bitsAt_succ (b : List Nat) (k c : Nat) (h : k + c < 8 * b.length) : bitsAt b k (c + 1) = bitsAt b k c ++ [bitAt b (k + c)] := by
  have hl : k + c < (bts b).length := by rw [bts_length]; exact h
  unfold bitsAt
  rw [take_drop_succ _ _ _ hl, bts_get b _ hl (by omega)]
  unfold bitAt
  rw [getD_at _ _ (by omega)]
theorem get_any (g : Nat) (r : Option Nat) (b : List Nat) (k : Nat) (w : World) (h : RdIs w g r b k) (hk : k < 8 * b.length) (hs : b.length ≤ 140737488355328) :
    Calls Tryz.prog 236 #[.pointer (some ⟨g, 0, none⟩)] w fun e w' => e = .returned (.int .u32 (bitAt b k : Nat)) ∧ RdTo w w' g r b (k + 1) := by
  obtain ⟨p, c, hb, own, hr⟩ := h.ex
  have H := Lib.hid h
  obtain ⟨B, hB⟩ : ∃ B, k / 8 = B := ⟨_, rfl⟩
  have hBl : B < b.length := by omega
  have eB : (k : Int) / 8 = (B : Int) := by omega
  obtain ⟨q, cap, hv, -, hq⟩ := own.form (by omega)
  simp only [Value.slice.injEq] at hv
  obtain ⟨rfl, -, rfl⟩ := hv
  have cc := own.cellAt B (by omega)
  rw [show (u8s b)[B]? = some (.int .u8 (b[B] : Nat)) by simp [u8s, hBl]] at cc
  have hx8 := h.bytes _ (List.getElem_mem hBl)
  have hbit : bitAt b k = b[B] / 2 ^ (k % 8) % 2 := by unfold bitAt; rw [hB, getD_at _ _ hBl]
  obtain ⟨x, hx⟩ : ∃ x, b[B] = x := ⟨_, rfl⟩
  rw [hx] at cc hx8 hbit
  have HBIT := Lib.hid hbit
  have HA := Lib.hid (and_one8 x (k % 8) hx8)
  have HS := Lib.hid (fun n => ((h.drewN n).trans ((h.fr0 (Fr.drewN S0 w n)).set (k + 1) (by omega))))
  have h0 := rd_c0 hb
  have h1 := rd_c1 hb
  have h2 := rd_f hb
  have hBs : B < 140737488355328 := by omega
  have hks : k < 1125899906842624 := by omega
  clear hb own hr hq hbit hx hB h
  go_enter Tryz.func236, Tryz.ntmps236
  go_wp2
  go_quiet (fail)
  go_wp2
  go_ret
  refine ⟨?_, HS.out _⟩
  have e : ((x / 2 ^ (k % 8) % 2 : Nat) : Int) % 4294967296 = ((bitAt b k : Nat) : Int) := by rw [HBIT.out]; omega
  rw [← e, ← HA.out]
  rfl
theorem left_any (g : Nat) (r : Option Nat) (b : List Nat) (k : Nat) (w : World) (h : RdIs w g r b k) (hs : b.length ≤ 140737488355328) :
    Calls Tryz.prog 235 #[.pointer (some ⟨g, 0, none⟩)] w fun e w' => e = .returned (.int .i64 (8 * (b.length : Int) - k)) ∧ Fr S0 w w' := by
  obtain ⟨p, c, hb, -, -⟩ := h.ex
  have h0 := rd_c0 hb
  have h1 := rd_c1 hb
  have hks : k ≤ 1125899906842624 := by have := h.inside; omega
  clear hb h
  go_enter Tryz.func235, Tryz.ntmps235
  go_wp2
  go_quiet (fail)
  go_wp2
  go_ret
  exact ⟨rfl, Fr.drewN _ _ _⟩
theorem at_any (g : Nat) (r : Option Nat) (b : List Nat) (k : Nat) (w : World) (h : RdIs w g r b k) :
    Calls Tryz.prog 176 #[.pointer (some ⟨g, 0, none⟩)] w fun e w' => e = .returned (.int .i64 (k : Nat)) ∧ w = w' := by
  obtain ⟨p, c, hb, -, -⟩ := h.ex
  have h1 := rd_c1 hb
  clear hb h
  go_enter Tryz.func176, Tryz.ntmps176
  go_wp2
  go_ret
  exact ⟨rfl, rfl⟩
def upN (k : Nat) : Nat := (k + 7) / 8 * 8
theorem ralign_any (g : Nat) (r : Option Nat) (b : List Nat) (k : Nat) (w : World) (h : RdIs w g r b k) (hs : b.length ≤ 140737488355328) :
    Calls Tryz.prog 175 #[.pointer (some ⟨g, 0, none⟩)] w fun e w' => e = .returned (.tuple #[]) ∧ RdTo w w' g r b (upN k) := by
  obtain ⟨p, c, hb, -, -⟩ := h.ex
  have h0 := rd_c0 hb
  have h1 := rd_c1 hb
  have h2 := rd_f hb
  have hin := h.inside
  have hks : k ≤ 1125899906842624 := by omega
  have HS := Lib.hid (h.set (upN k) (by unfold upN; omega))
  have hU : ((upN k : Nat) : Int) = ((k : Int) + 8 - 1) / 8 * 8 := by unfold upN; omega
  rw [hU] at HS
  clear hb h hin hU
  go_enter Tryz.func175, Tryz.ntmps175
  go_wp2
  go_end0
  exact ⟨rfl, HS.out⟩
theorem or_num (m x k : Nat) (hk : k < 32) (hm : m < 2 ^ k) (hx : x < 2) : bits .or .u32 (m : Int) ((x : Int) * 2 ^ k % 4294967296) = ((m + 2 ^ k * x : Nat) : Int) := by
  have hp : 2 ^ k ≤ 2147483648 := Nat.le_trans (Nat.pow_le_pow_right (by decide) (show k ≤ 31 by omega)) (by decide)
  have h2 : x * 2 ^ k ≤ 2147483648 := Nat.le_trans (Nat.mul_le_mul (show x ≤ 1 by omega) hp) (by decide)
  rw [show ((x : Int) * 2 ^ k % 4294967296) = ((x * 2 ^ k : Nat) : Int) by
    have e : ((x * 2 ^ k : Nat) : Int) = (x : Int) * 2 ^ k := by simp
    rw [← e]
    omega, u32_or_nat _ _ (by omega) (by omega)]
  congr 1
  rw [Nat.or_comm, ← Nat.shiftLeft_eq, ← Nat.shiftLeft_add_eq_or_of_lt hm, Nat.add_comm, Nat.shiftLeft_eq, Nat.mul_comm]
theorem bitAt_lt (b : List Nat) (k : Nat) : bitAt b k < 2 := Nat.mod_lt _ (by decide)
theorem rgroup_ok (g : Nat) (r : Option Nat) (b : List Nat) (k c : Nat) (w : World) (h : RdIs w g r b k) (hc : c ≤ 32) (hk : k + c ≤ 8 * b.length) (hs : b.length ≤ 140737488355328) :
    Calls Tryz.prog 212 #[.pointer (some ⟨g, 0, none⟩), .int .i64 c] w fun e w' => e = .returned (.tuple #[.int .u32 (num (bitsAt b k c) : Nat), .int .i64 0]) ∧ RdTo w w' g r b (k + c) := by
  have HM := Lib.hid (some_any (c : Int) w)
  rw [someB_yes (by omega) (by omega)] at HM
  have HL := Lib.hid (left_any g r b k w h hs)
  have H := Lib.hid h
  have HK := Lib.hid hk
  have hks : k ≤ 1125899906842624 := by omega
  have hle : ¬ (c : Int) > 8 * (b.length : Int) - (k : Int) := by omega
  clear h hk
  go_enter Tryz.func212, Tryz.ntmps212
  go_wp2_with fail
  refine HM.out.mono ?_
  rintro e w' ⟨rfl, rfl⟩
  go_wp2_with fail
  refine HL.out.mono ?_
  rintro e w1 ⟨rfl, f1⟩
  have F1 := Lib.hid f1
  clear f1
  go_wp2_with fail
  go_loopw [6, 16] (fun m i wr => ∃ j : Nat, j ≤ c ∧ i = .int .i64 j ∧ m = .int .u32 (num (bitsAt b k j) : Nat) ∧ RdTo w wr g r b (k + j)) (fun _ i _ => c - (intOf i).toNat)
  case atStart => exact ⟨0, by omega, rfl, rfl, (H.out.self).fr0 F1.out⟩
  case round =>
    obtain ⟨j, hj, rfl, rfl, hto⟩ := hrel
    have HT := Lib.hid hto
    clear hto
    by_cases hjc : (j : Int) < (c : Int)
    · have hjl : j < c := by omega
      have HG := Lib.hid (get_any g r b (k + j) wr HT.out.1 (by have := HK.out; omega) hs)
      have HO := Lib.hid (or_num (num (bitsAt b k j)) (bitAt b (k + j)) j (by omega) (bitsAt_lt b k j) (bitAt_lt _ _))
      have HN : Hid (num (bitsAt b k (j + 1)) = num (bitsAt b k j) + 2 ^ j * bitAt b (k + j)) := Lib.hid (by
        have := HK.out
        rw [bitsAt_succ b k j (by omega), num_append, num_one, bitsAt_length b k j (by omega)])
      obtain ⟨X, hX⟩ : ∃ X, bitAt b (k + j) = X := ⟨_, rfl⟩
      obtain ⟨m, hm⟩ : ∃ m, num (bitsAt b k j) = m := ⟨_, rfl⟩
      rw [hX] at HG HO HN
      rw [hm] at HO HN ⊢
      clear hX hm
      go_wp2_with fail
      refine HG.out.mono ?_
      rintro e w2 ⟨rfl, hto⟩
      have K := Lib.hid (HT.out.trans hto)
      clear hto HT HG
      go_wp2
      go_roundw
      case rel => exact ⟨j + 1, by omega, by go_num, by rw [HN.out, HO.out], K.out⟩
      case measure => simp [intOf]; omega
    · obtain rfl : j = c := by omega
      obtain ⟨m, hm⟩ : ∃ m, num (bitsAt b k j) = m := ⟨_, rfl⟩
      rw [hm]
      have HM := Lib.hid hm
      clear hm
      go_wp2
      go_ret2
      exact ⟨by rw [HM.out]; rfl, HT.out⟩
theorem rgroup_end (g : Nat) (r : Option Nat) (b : List Nat) (k c : Nat) (w : World) (h : RdIs w g r b k) (hc : c ≤ 32) (hk : 8 * b.length < k + c) (hs : b.length ≤ 140737488355328) :
    Calls Tryz.prog 212 #[.pointer (some ⟨g, 0, none⟩), .int .i64 c] w fun e w' => e = .returned (.tuple #[.int .u32 0, .int .i64 20]) ∧ Fr S0 w w' := by
  have HM := Lib.hid (some_any (c : Int) w)
  rw [someB_yes (by omega) (by omega)] at HM
  have HL := Lib.hid (left_any g r b k w h hs)
  have hgt : (c : Int) > 8 * (b.length : Int) - (k : Int) := by omega
  clear h hk
  go_enter Tryz.func212, Tryz.ntmps212
  go_wp2_with fail
  refine HM.out.mono ?_
  rintro e w' ⟨rfl, rfl⟩
  go_wp2_with fail
  refine HL.out.mono ?_
  rintro e w1 ⟨rfl, f1⟩
  go_wp2
  go_ret2
  exact ⟨rfl, f1⟩
theorem rbit_of (g : Nat) (w : World) (x y : Value) (R : World → Prop) (h : Calls Tryz.prog 212 #[.pointer (some ⟨g, 0, none⟩), .int .i64 1] w fun e w' => e = .returned (.tuple #[x, y]) ∧ R w') :
    Calls Tryz.prog 254 #[.pointer (some ⟨g, 0, none⟩)] w fun e w' => e = .returned (.tuple #[x, y]) ∧ R w' := by
  go_enter Tryz.func254, Tryz.ntmps254
  go_wp2_with fail
  refine h.mono ?_
  rintro e w1 ⟨rfl, f1⟩
  go_wp2
  go_ret2
  exact ⟨rfl, f1⟩
theorem own_form {w : World} {e : TypeId} {p : Option Addr} {n c : Nat} {xs : List Value} (h : w.ownsRow 0 e 1 (.slice p n c) n xs) : ((p = none ∧ c = 0) ∨ ∃ q, p = some ⟨q, 0, none⟩) ∧ n ≤ c := by
  rcases h.2 with ⟨h, h0⟩ | ⟨q, cap, cur, h, _, _, h1, _⟩
  · simp only [Value.slice.injEq] at h
    exact ⟨.inl ⟨h.1, h.2.2⟩, by omega⟩
  · simp only [Value.slice.injEq] at h
    exact ⟨.inr ⟨q, h.1⟩, by omega⟩
theorem upN_le {b : List Nat} {k : Nat} (h : k ≤ 8 * b.length) : upN k ≤ 8 * b.length := by unfold upN; omega
theorem rtext_no (g : Nat) (r : Option Nat) (b : List Nat) (k : Nat) (n : Int) (w : World) (h : RdIs w g r b k) (hn : ¬ (0 ≤ n ∧ upN k + 8 * n ≤ 8 * b.length)) (hs : b.length ≤ 140737488355328) :
    Calls Tryz.prog 240 #[.pointer (some ⟨g, 0, none⟩), .int .i64 n] w fun e w' => e = .returned (.tuple #[.slice none 0 0, .int .i64 20]) ∧ RdTo w w' g r b (upN k) := by
  have HA := Lib.hid (ralign_any g r b k w h hs)
  have hin := h.inside
  have hU : 8 * ((8 * b.length - upN k) / 8) = 8 * b.length - upN k := by unfold upN; omega
  have hU2 := upN_le hin
  obtain ⟨U, hUU⟩ : ∃ U, upN k = U := ⟨_, rfl⟩
  rw [hUU] at HA hU hU2 hn ⊢
  clear h hin hUU
  by_cases h0 : n < 0
  · clear hn
    go_enter Tryz.func240, Tryz.ntmps240
    go_wp2_with fail
    refine HA.out.mono ?_
    rintro e w1 ⟨rfl, t1⟩
    go_wp2
    go_ret2
    exact ⟨rfl, t1⟩
  · have hgt : n > (8 * (b.length : Int) - (U : Int)) / 8 := by omega
    clear hn
    go_enter Tryz.func240, Tryz.ntmps240
    go_wp2_with fail
    refine HA.out.mono ?_
    rintro e w1 ⟨rfl, t1⟩
    have HL := Lib.hid (left_any g r b U w1 t1.1 hs)
    go_wp2_with fail
    refine HL.out.mono ?_
    rintro e w2 ⟨rfl, f2⟩
    go_wp2
    go_ret2
    exact ⟨rfl, t1.fr0 f2⟩
theorem rtext_yes (g : Nat) (r : Option Nat) (b : List Nat) (k n : Nat) (w : World) (h : RdIs w g r b k) (hn : upN k + 8 * n ≤ 8 * b.length) (hs : b.length ≤ 140737488355328) :
    Calls Tryz.prog 240 #[.pointer (some ⟨g, 0, none⟩), .int .i64 n] w fun e w' => ∃ v, e = .returned (.tuple #[v, .int .i64 0]) ∧ RdTo w w' g r b (upN k + 8 * n) ∧ RowNew w w' v ((b.drop (upN k / 8)).take n) := by
  have HA := Lib.hid (ralign_any g r b k w h hs)
  obtain ⟨F, hF⟩ : ∃ F, upN k = 8 * F := ⟨(k + 7) / 8, by unfold upN; omega⟩
  rw [hF] at HA hn ⊢
  rw [show 8 * F / 8 = F by omega]
  obtain ⟨U, hU⟩ : ∃ U, 8 * F = U := ⟨_, rfl⟩
  rw [hU] at HA hn ⊢
  clear h hF
  have hle : ¬ (n : Int) > (8 * (b.length : Int) - (U : Int)) / 8 := by omega
  have eF : (U : Int) / 8 = (F : Int) := by omega
  have hUs : U ≤ 1125899906842624 := by omega
  have hFs : F ≤ 140737488355328 := by omega
  have hns : n ≤ 140737488355328 := by omega
  have HN := Lib.hid hn
  have HU := Lib.hid hU
  clear hU hn
  go_enter Tryz.func240, Tryz.ntmps240
  go_wp2_with fail
  refine HA.out.mono ?_
  rintro e w1 ⟨rfl, t1⟩
  have HL := Lib.hid (left_any g r b U w1 t1.1 hs)
  go_wp2_with fail
  refine HL.out.mono ?_
  rintro e w2 ⟨rfl, f2⟩
  have t2 := t1.fr0 f2
  have t3 := t2.trans (t2.1.set (U + 8 * n) HN.out)
  obtain ⟨p, c, hb, own, hr⟩ := t2.1.ex
  have hap := t2.1.apart
  have own3 := (Fr.setCell (· = g) w2 ⟨g, 1, none⟩ (.int .i64 (U + 8 * n : Nat)) rfl).owns own (fun k hk e => hap (by rw [← hr, hk, e]))
  have h0 := rd_c0 hb
  have h1 := rd_c1 hb
  have h2 := rd_f hb
  have eU : ((U + 8 * n : Nat) : Int) = (U : Int) + 8 * (n : Int) := by omega
  rw [eU] at t3 own3
  clear eU
  have T3 := Lib.hid t3
  obtain ⟨hpc, hbc⟩ := own_form own3
  have hFc : (F : Int) + (n : Int) ≤ (c : Int) := by have := HN.out; have := HU.out; omega
  have hlen := own3.1
  clear HL f2 t1 t2 hb hr hap own t3
  by_cases hcF : c = F
  · have hn0 : n = 0 := by omega
    have HN0 := Lib.hid hn0
    have HC := Lib.hid (fun p' d' => clone_any p' d' [] (w2.setCell ⟨g, 1, none⟩ (.int .i64 ((U : Int) + 8 * n))) (SlI.nil _ _ _))
    have HNIL : Hid ((b.drop F).take n = []) := Lib.hid (by rw [hn0, List.take_zero])
    have hpc0 : p = none → c = 0 := fun h => by rcases hpc with ⟨-, h⟩ | ⟨q, h'⟩; exact h; rw [h] at h'; cases h'
    clear hn0 hpc own3
    go_wp2_with fail
    rw [show Value.slice p n 0 = Value.slice p ([] : List Nat).length 0 by rw [HN0.out]; rfl]
    refine (HC.out p 0 (fun _ => rfl) (by decide)).mono ?_
    rintro e w3 ⟨v, rfl, f3, hv⟩
    have HV := Lib.hid hv
    clear hv HC
    go_wp2
    go_ret2
    exact ⟨v, rfl, T3.out.fr0 f3, by rw [HNIL.out]; exact ⟨HV.out.own, fun k hk => Nat.le_trans T3.out.2.size (HV.out.fresh k hk)⟩⟩
  · obtain ⟨q, rfl⟩ : ∃ q, p = some ⟨q, 0, none⟩ := by
      rcases hpc with ⟨-, h⟩ | h
      · omega
      · exact h
    have hl := ((SlI.ofOwns own3).drop F).take n
    rw [Nat.zero_add] at hl
    have hln : ((b.drop F).take n).length = n := by rw [List.length_take, List.length_drop]; have := HN.out; have := HU.out; omega
    have HC := clone_any (some ⟨q, F, none⟩) (c - F) ((b.drop F).take n) _ hl (fun h => by cases h) (by omega)
    rw [hln] at HC
    have HC := Lib.hid HC
    obtain ⟨R, hR⟩ : ∃ R, (b.drop F).take n = R := ⟨_, rfl⟩
    rw [hR] at HC
    have HR := Lib.hid hR
    clear own3 hl hln hpc hR
    go_wp2_with fail
    refine HC.out.mono ?_
    rintro e w3 ⟨v, rfl, f3, hv⟩
    have HV := Lib.hid hv
    clear hv HC
    go_wp2
    go_ret2
    exact ⟨v, rfl, T3.out.fr0 f3, by rw [HR.out]; exact ⟨HV.out.own, fun k hk => Nat.le_trans T3.out.2.size (HV.out.fresh k hk)⟩⟩
theorem znew_any (q : Option Addr) (d : Nat) (l : List Nat) (w : World) (hl : SlI w .u8 q l) (h8 : ∀ x ∈ l, x < 256) (hq : q = none → d = 0) (hL : l.length ≤ 140737488355328) :
    Calls Tryz.prog 173 #[.slice q l.length d] w fun e w' => ∃ g r, e = .returned (.pointer (some ⟨g, 0, none⟩)) ∧ RdNew w w' g r l 0 := by
  have HC := Lib.hid (clone_any q d l w hl hq hL)
  have H8 := Lib.hid h8
  clear hl hq h8
  go_enter Tryz.func173, Tryz.ntmps173
  go_wp2_with fail
  refine HC.out.mono ?_
  rintro e w1 ⟨v, rfl, f1, hv⟩
  obtain ⟨p, c, rfl, hn, -, -⟩ := slForm hv.own
  have HV := Lib.hid hv
  clear hv HC
  go_wp2
  go_ret
  have hlt : ∀ k, Value.ownBlock (.slice p l.length c) = some k → k < w1.heap.size := fun k hk => (HV.out.own.lt k hk).2
  exact ⟨w1.heap.size, _, rfl, ⟨⟨p, c, heap_alloc_new w1 _, HV.out.own.alloc _, rfl⟩, H8.out, Nat.zero_le _, fun e => Nat.lt_irrefl _ (hlt _ e)⟩, f1.trans0 (Fr.alloc _ _ _), f1.size, HV.out.fresh⟩
end Go.Proofs.YtnndgpggjlhhpaaGreat
