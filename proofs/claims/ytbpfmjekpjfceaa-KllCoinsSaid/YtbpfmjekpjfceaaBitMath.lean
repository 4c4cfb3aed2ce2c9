/- Bits as lists of numbers 0 and 1; bytes that they make. -/
import Derived.Test.YtbpfmjekpjfceaaBase
namespace Go.Proofs.Ytbpfmjekpjfceaa

/-- the lowest c bits of n, the lowest one first -/
def grp : Nat → Nat → List Nat
  | _, 0 => []
  | n, c + 1 => n % 2 :: grp (n / 2) c
/-- the number of bits -/
def num : List Nat → Nat
  | [] => 0
  | b :: r => b + 2 * num r
/-- all are bits -/
def Bit01 (l : List Nat) : Prop := ∀ x ∈ l, x < 2
/-- the byte k of bits -/
def oct (l : List Nat) (k : Nat) : Nat := num ((l.drop (8 * k)).take 8)
/-- the bytes of bits -/
def byt (l : List Nat) : List Nat := (List.range ((l.length + 7) / 8)).map (oct l)
/-- the bits of bytes -/
def bts (b : List Nat) : List Nat := b.flatMap fun x => grp x 8

@[simp] theorem grp_length (n : Nat) : ∀ c, (grp n c).length = c := by
  intro c
  induction c generalizing n with
  | zero => rfl
  | succ c ih => rw [grp, List.length_cons, ih]
theorem grp_bit (n : Nat) : ∀ c, Bit01 (grp n c) := by
  intro c
  induction c generalizing n with
  | zero => intro x hx; simp [grp] at hx
  | succ c ih =>
    intro x hx
    rw [grp] at hx
    rcases List.mem_cons.1 hx with rfl | h
    · exact Nat.mod_lt _ (by decide)
    · exact ih _ x h
theorem grp_get (n : Nat) : ∀ c i, (h : i < (grp n c).length) → (grp n c)[i] = n / 2 ^ i % 2 := by
  intro c
  induction c generalizing n with
  | zero => intro i h; simp [grp] at h
  | succ c ih =>
    intro i h
    cases i with
    | zero => simp [grp]
    | succ i =>
      simp only [grp, List.getElem_cons_succ]
      rw [ih, Nat.div_div_eq_div_mul, Nat.pow_succ, Nat.mul_comm]
theorem grp_succ (n c : Nat) : grp n (c + 1) = grp n c ++ [n / 2 ^ c % 2] := by
  induction c generalizing n with
  | zero => simp [grp]
  | succ c ih =>
    rw [grp, ih, grp, Nat.div_div_eq_div_mul, Nat.pow_succ, Nat.mul_comm 2, List.cons_append]
theorem grp_mod (n c : Nat) : grp (n % 2 ^ c) c = grp n c := by
  apply List.ext_getElem
  · simp
  · intro i h1 h2
    rw [grp_get, grp_get]
    have hi : i < c := by simpa using h2
    rw [← Nat.shiftRight_eq_div_pow, ← Nat.shiftRight_eq_div_pow]
    have e1 := Nat.testBit_mod_two_pow n c i
    simp only [Nat.testBit, Nat.one_and_eq_mod_two, hi, decide_true, Bool.true_and] at e1
    have a := Nat.mod_two_eq_zero_or_one ((n % 2 ^ c) >>> i)
    have b := Nat.mod_two_eq_zero_or_one (n >>> i)
    rcases a with a | a <;> rcases b with b | b <;> rw [a, b] at e1 <;> simp at e1 ⊢ <;> omega
theorem num_append (l m : List Nat) : num (l ++ m) = num l + 2 ^ l.length * num m := by
  induction l with
  | nil => simp [num]
  | cons a r ih =>
    rw [List.cons_append, num, num, ih, List.length_cons, Nat.pow_succ, Nat.mul_add, Nat.mul_right_comm]
    omega
theorem num_one (x : Nat) : num [x] = x := by simp [num]
theorem num_lt : ∀ (l : List Nat), Bit01 l → num l < 2 ^ l.length
  | [], _ => by simp [num]
  | a :: r, h => by
    have h1 := num_lt r fun x hx => h x (List.mem_cons_of_mem _ hx)
    have h2 := h a List.mem_cons_self
    rw [num, List.length_cons, Nat.pow_succ]
    omega
theorem num_grp (n c : Nat) : num (grp n c) = n % 2 ^ c := by
  induction c generalizing n with
  | zero => simp [grp, num, Nat.mod_one]
  | succ c ih =>
    rw [grp, num, ih, Nat.pow_succ, Nat.mul_comm (2 ^ c) 2, Nat.mod_mul]
theorem grp_num : ∀ (l : List Nat), Bit01 l → grp (num l) l.length = l
  | [], _ => rfl
  | a :: r, h => by
    have h2 := h a List.mem_cons_self
    rw [List.length_cons, grp, num, show (a + 2 * num r) % 2 = a by omega, show (a + 2 * num r) / 2 = num r by omega, grp_num r fun x hx => h x (List.mem_cons_of_mem _ hx)]
theorem Bit01.rev {l : List Nat} (h : Bit01 l) : Bit01 l.reverse := fun x hx => h x (List.mem_reverse.1 hx)
theorem Bit01.app {l m : List Nat} (h : Bit01 l) (k : Bit01 m) : Bit01 (l ++ m) := fun x hx => (List.mem_append.1 hx).elim (h x) (k x)
theorem Bit01.zeros (n : Nat) : Bit01 (List.replicate n 0) := fun x hx => by rw [List.eq_of_mem_replicate hx]; decide
theorem Bit01.nil : Bit01 [] := fun x hx => by simp at hx
theorem Bit01.one {x : Nat} (h : x < 2) : Bit01 [x] := fun y hy => by rw [List.mem_singleton.1 hy]; exact h
theorem Bit01.sub {l m : List Nat} (h : Bit01 l) (k : ∀ x ∈ m, x ∈ l) : Bit01 m := fun x hx => h x (k x hx)
theorem num_zeros (n : Nat) : num (List.replicate n 0) = 0 := by
  induction n with
  | zero => rfl
  | succ n ih => rw [List.replicate_succ, num, ih]

theorem byt_length (l : List Nat) : (byt l).length = (l.length + 7) / 8 := by simp [byt]
theorem byt_get (l : List Nat) (k : Nat) (h : k < (byt l).length) : (byt l)[k] = oct l k := by simp [byt]
theorem oct_lt (l : List Nat) (h : Bit01 l) (k : Nat) : oct l k < 256 := by
  have h1 := num_lt ((l.drop (8 * k)).take 8) (h.sub fun x hx => List.mem_of_mem_drop (List.mem_of_mem_take hx))
  have h2 : ((l.drop (8 * k)).take 8).length ≤ 8 := by rw [List.length_take]; omega
  have h3 : 2 ^ ((l.drop (8 * k)).take 8).length ≤ 2 ^ 8 := Nat.pow_le_pow_right (by decide) h2
  unfold oct
  omega
theorem byt_lt (l : List Nat) (h : Bit01 l) : ∀ x ∈ byt l, x < 256 := by
  intro x hx
  obtain ⟨k, -, rfl⟩ := List.mem_map.1 hx
  exact oct_lt l h k
theorem oct_app_low (l m : List Nat) (k : Nat) (h : 8 * k + 8 ≤ l.length) : oct (l ++ m) k = oct l k := by
  unfold oct
  rw [List.drop_append_of_le_length (by omega), List.take_append_of_le_length (by rw [List.length_drop]; omega)]
theorem drop_zeros (l : List Nat) (n k : Nat) : oct (l ++ List.replicate n 0) k = oct l k := by
  unfold oct
  rw [List.drop_append, List.take_append, num_append, List.drop_replicate, List.take_replicate, num_zeros, Nat.mul_zero, Nat.add_zero]
/-- zeros up to a whole byte change no byte -/
theorem byt_pad (l : List Nat) (n : Nat) (h : (l.length + n + 7) / 8 = (l.length + 7) / 8) : byt (l ++ List.replicate n 0) = byt l := by
  unfold byt
  rw [List.length_append, List.length_replicate, h]
  exact List.map_congr_left fun k _ => drop_zeros l n k
/-- bytes behind whole bytes -/
theorem byt_app (l m : List Nat) (h : l.length % 8 = 0) : byt (l ++ m) = byt l ++ byt m := by
  unfold byt
  rw [List.length_append, show (l.length + m.length + 7) / 8 = (l.length + 7) / 8 + (m.length + 7) / 8 by omega, List.range_add, List.map_append, List.map_map]
  congr 1
  · refine List.map_congr_left fun k hk => oct_app_low l m k ?_
    have := List.mem_range.1 hk
    omega
  · refine List.map_congr_left fun k hk => ?_
    simp only [Function.comp, oct]
    rw [List.drop_append, List.drop_eq_nil_of_le (by omega), List.nil_append, show 8 * ((l.length + 7) / 8 + k) - l.length = 8 * k by omega]
theorem byt_nil : byt [] = [] := rfl
/-- one bit more -/
def roomB (l : List Nat) : List Nat := if l.length % 8 = 0 then byt l ++ [0] else byt l
theorem room_length (l : List Nat) : (roomB l).length = l.length / 8 + 1 := by
  unfold roomB
  split
  · rw [List.length_append, byt_length, List.length_singleton]; omega
  · rw [byt_length]; omega
theorem room_get (l : List Nat) (h : l.length / 8 < (roomB l).length) : (roomB l)[l.length / 8] = num (l.drop (8 * (l.length / 8))) := by
  by_cases h8 : l.length % 8 = 0
  · have hr : roomB l = byt l ++ [0] := by unfold roomB; rw [if_pos h8]
    simp only [hr]
    rw [List.getElem_append_right (by rw [byt_length]; omega), List.drop_eq_nil_of_le (by omega)]
    simp [num]
  · have hr : roomB l = byt l := by unfold roomB; rw [if_neg h8]
    simp only [hr]
    rw [byt_get]
    unfold oct
    rw [List.take_of_length_le (by rw [List.length_drop]; omega)]
theorem room_last_lt (l : List Nat) (hb : Bit01 l) : num (l.drop (8 * (l.length / 8))) < 2 ^ (l.length % 8) := by
  have := num_lt (l.drop (8 * (l.length / 8))) (hb.sub fun x hx => List.mem_of_mem_drop hx)
  rw [List.length_drop, show l.length - 8 * (l.length / 8) = l.length % 8 by omega] at this
  exact this
theorem byt_put (l : List Nat) (x : Nat) : byt (l ++ [x]) = (roomB l).set (l.length / 8) (num (l.drop (8 * (l.length / 8))) + x * 2 ^ (l.length % 8)) := by
  apply List.ext_getElem
  · rw [byt_length, List.length_set, room_length, List.length_append, List.length_singleton]; omega
  · intro k h1 h2
    rw [byt_get, List.getElem_set]
    rw [List.length_set, room_length] at h2
    split
    · next e =>
      subst e
      unfold oct
      rw [List.drop_append_of_le_length (by omega), List.take_of_length_le (by rw [List.length_append, List.length_drop, List.length_singleton]; omega), num_append, num_one, List.length_drop, show l.length - 8 * (l.length / 8) = l.length % 8 by omega, Nat.mul_comm x]
    · next e =>
      rw [oct_app_low l [x] k (by omega)]
      by_cases h8 : l.length % 8 = 0
      · have hr : roomB l = byt l ++ [0] := by unfold roomB; rw [if_pos h8]
        simp only [hr]
        rw [List.getElem_append_left (by rw [byt_length]; omega), byt_get]
      · have hr : roomB l = byt l := by unfold roomB; rw [if_neg h8]
        simp only [hr]
        rw [byt_get]

theorem bts_append (a b : List Nat) : bts (a ++ b) = bts a ++ bts b := by simp [bts]
theorem bts_length (b : List Nat) : (bts b).length = 8 * b.length := by
  induction b with
  | nil => rfl
  | cons x r ih =>
    have : bts (x :: r) = grp x 8 ++ bts r := by simp [bts]
    rw [this, List.length_append, grp_length, ih, List.length_cons]; omega
theorem bts_bit (b : List Nat) : Bit01 (bts b) := by
  intro x hx
  obtain ⟨y, -, h⟩ := List.mem_flatMap.1 hx
  exact grp_bit y 8 x h
theorem bts_take (b : List Nat) (k : Nat) (h : k < b.length) : bts (b.take (k + 1)) = bts (b.take k) ++ grp b[k] 8 := by
  rw [List.take_succ_eq_append_getElem h, bts_append]; simp [bts]
theorem bts_get (b : List Nat) : ∀ i, (h : i < (bts b).length) → (h2 : i / 8 < b.length) → (bts b)[i] = b[i / 8] / 2 ^ (i % 8) % 2 := by
  induction b with
  | nil => intro i h; simp [bts] at h
  | cons x r ih =>
    intro i h h2
    have e : bts (x :: r) = grp x 8 ++ bts r := by simp [bts]
    simp only [e]
    by_cases hi : i < 8
    · rw [List.getElem_append_left (by simpa using hi), grp_get]
      have e0 : i / 8 = 0 := by omega
      simp only [e0, List.getElem_cons_zero]
      rw [Nat.mod_eq_of_lt hi]
    · rw [List.getElem_append_right (by simpa using hi)]
      have hl := bts_length r
      have hl2 : (bts (x :: r)).length = 8 * (r.length + 1) := by rw [bts_length]; rfl
      simp only [grp_length]
      rw [ih (i - 8) (by omega) (by simp only [List.length_cons] at h2; omega)]
      have e1 : i / 8 = (i - 8) / 8 + 1 := by omega
      simp only [e1, List.getElem_cons_succ]
      rw [show (i - 8) % 8 = i % 8 by omega]
theorem byt_bts (b : List Nat) (h : ∀ x ∈ b, x < 256) : byt (bts b) = b := by
  induction b with
  | nil => rfl
  | cons x r ih =>
    have e : bts (x :: r) = grp x 8 ++ bts r := by simp [bts]
    rw [e, byt_app _ _ (by rw [grp_length]), ih fun y hy => h y (List.mem_cons_of_mem _ hy)]
    have : byt (grp x 8) = [x] := by
      unfold byt
      rw [grp_length]
      simp only [show (8 + 7) / 8 = 1 by decide, List.range_one, List.map_cons, List.map_nil, oct, Nat.mul_zero, List.drop_zero]
      rw [List.take_of_length_le (by simp), num_grp, Nat.mod_eq_of_lt (h x List.mem_cons_self)]
    rw [this]; rfl
theorem byt_text (l b : List Nat) (hl : l.length % 8 = 0) (h : ∀ x ∈ b, x < 256) : byt (l ++ bts b) = byt l ++ b := by rw [byt_app l _ hl, byt_bts b h]
/-- the bits of the bytes of bits are these, filled up -/
theorem bts_byt (l : List Nat) (h : Bit01 l) (i : Nat) (hi : i < l.length) (h2 : i < (bts (byt l)).length) : (bts (byt l))[i] = l[i] := by
  have hk : i / 8 < (byt l).length := by rw [byt_length]; omega
  rw [bts_get _ i h2 hk, byt_get]
  unfold oct
  have hb : Bit01 ((l.drop (8 * (i / 8))).take 8) := h.sub fun x hx => List.mem_of_mem_drop (List.mem_of_mem_take hx)
  have hg := grp_num _ hb
  have hi2 : i % 8 < ((l.drop (8 * (i / 8))).take 8).length := by rw [List.length_take, List.length_drop]; omega
  have e1 : (grp (num ((l.drop (8 * (i / 8))).take 8)) ((l.drop (8 * (i / 8))).take 8).length)[i % 8]'(by simpa using hi2) = ((l.drop (8 * (i / 8))).take 8)[i % 8] := by
    congr 1
  rw [grp_get] at e1
  rw [e1, List.getElem_take, List.getElem_drop]
  congr 1
  omega
theorem slice_byt (l : List Nat) (h : Bit01 l) (a c : Nat) (hc : a + c ≤ l.length) : ((bts (byt l)).drop a).take c = (l.drop a).take c := by
  have hl : (bts (byt l)).length = 8 * ((l.length + 7) / 8) := by rw [bts_length, byt_length]
  apply List.ext_getElem
  · simp only [List.length_take, List.length_drop, hl]; omega
  · intro i h1 h2
    simp only [List.length_take, List.length_drop, hl] at h1 h2
    rw [List.getElem_take, List.getElem_drop, List.getElem_take, List.getElem_drop]
    exact bts_byt l h (a + i) (by omega) (by omega)

/-- bits in the other order -/
def turn (n c : Nat) : Nat := num (grp n c).reverse
theorem turn_lt (n c : Nat) : turn n c < 2 ^ c := by
  have := num_lt (grp n c).reverse (grp_bit n c).rev
  rwa [List.length_reverse, grp_length] at this
theorem grp_turn (n c : Nat) : grp (turn n c) c = (grp n c).reverse := by
  have := grp_num (grp n c).reverse (grp_bit n c).rev
  rwa [List.length_reverse, grp_length] at this
theorem turn_turn (n c : Nat) : turn (turn n c) c = n % 2 ^ c := by
  rw [turn, grp_turn, List.reverse_reverse, num_grp]
/-- the code's bits, one by one -/
theorem rev_take (n c k : Nat) (h : k < c) : (grp n c).reverse.take (k + 1) = (grp n c).reverse.take k ++ [n / 2 ^ (c - 1 - k) % 2] := by
  rw [List.take_succ_eq_append_getElem (by rw [List.length_reverse, grp_length]; exact h), List.getElem_reverse, grp_get, grp_length]
theorem take_drop_succ (l : List Nat) (a k : Nat) (h : a + k < l.length) : (l.drop a).take (k + 1) = (l.drop a).take k ++ [l[a + k]] := by
  rw [List.take_succ_eq_append_getElem (by rw [List.length_drop]; omega), List.getElem_drop]
end Go.Proofs.Ytbpfmjekpjfceaa
