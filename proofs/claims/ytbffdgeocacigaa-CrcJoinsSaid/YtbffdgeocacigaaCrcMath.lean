/- Plain mathematics of the sum CRC-32: steps are linear, nothing but 0 is taken to 0, bursts are seen. -/
import Derived.WalkKit
import Derived.Laws.BitsAllLaws
namespace Go.Proofs.Ytbffdgeocacigaa
open Go.RowKit

/-- one step -/
def T (c : Nat) : Nat := if c % 2 = 1 then (c / 2) ^^^ 3988292384 else c / 2
/-- n steps -/
def TN : Nat → Nat → Nat
  | 0, c => c
  | n + 1, c => TN n (T c)

theorem xor_half (a b : Nat) : (a ^^^ b) / 2 = a / 2 ^^^ b / 2 := by
  apply Nat.eq_of_testBit_eq
  intro i
  rw [Nat.testBit_xor, Nat.testBit_div_two, Nat.testBit_div_two, Nat.testBit_div_two, Nat.testBit_xor]
theorem xor_odd (a b : Nat) : (a ^^^ b) % 2 = (a + b) % 2 := by
  have h := Nat.testBit_xor a b 0
  simp only [Nat.testBit_zero] at h
  have k : ∀ x y z : Nat, x < 2 → y < 2 → z < 2 → decide (z = 1) = (decide (x = 1) ^^ decide (y = 1)) → z = (x + y) % 2 := by
    intro x y z hx hy hz
    have hx' : x = 0 ∨ x = 1 := by omega
    have hy' : y = 0 ∨ y = 1 := by omega
    have hz' : z = 0 ∨ z = 1 := by omega
    rcases hx' with rfl | rfl <;> rcases hy' with rfl | rfl <;> rcases hz' with rfl | rfl <;> decide
  have := k (a % 2) (b % 2) ((a ^^^ b) % 2) (by omega) (by omega) (by omega) h
  omega
theorem xor_eq0 (a b : Nat) (h : a ^^^ b = 0) : a = b := by
  have : a ^^^ (a ^^^ b) = a := by rw [h, Nat.xor_zero]
  rw [← Nat.xor_assoc, Nat.xor_self, Nat.zero_xor] at this
  exact this.symm
theorem T_xor (a b : Nat) : T (a ^^^ b) = T a ^^^ T b := by
  have ho := xor_odd a b
  have hh := xor_half a b
  unfold T
  rw [hh]
  rcases Nat.mod_two_eq_zero_or_one a with ha | ha <;> rcases Nat.mod_two_eq_zero_or_one b with hb | hb
  · rw [if_neg (by omega), if_neg (by omega), if_neg (by omega)]
  · rw [if_pos (by omega), if_neg (by omega), if_pos (by omega), Nat.xor_assoc]
  · rw [if_pos (by omega), if_pos (by omega), if_neg (by omega), Nat.xor_assoc, Nat.xor_assoc, Nat.xor_comm (b / 2)]
  · rw [if_neg (by omega), if_pos (by omega), if_pos (by omega)]
    have : (a / 2 ^^^ 3988292384) ^^^ (b / 2 ^^^ 3988292384) = a / 2 ^^^ b / 2 := by
      rw [Nat.xor_comm (b / 2), Nat.xor_assoc, ← Nat.xor_assoc 3988292384, Nat.xor_self, Nat.zero_xor]
    rw [this]
theorem T_lt (c : Nat) (h : c < 4294967296) : T c < 4294967296 := by
  unfold T
  split
  · exact Nat.xor_lt_two_pow (n := 32) (by omega) (by decide)
  · omega
theorem T_zero (c : Nat) (h : c < 4294967296) (h0 : T c = 0) : c = 0 := by
  unfold T at h0
  split at h0
  · have : c / 2 = 3988292384 := xor_eq0 _ _ h0
    omega
  · omega
theorem T_double (c : Nat) : T (2 * c) = c := by
  unfold T
  rw [if_neg (by omega)]; omega
theorem TN_xor : ∀ (n a b : Nat), TN n (a ^^^ b) = TN n a ^^^ TN n b
  | 0, _, _ => rfl
  | n + 1, a, b => by rw [TN, TN, TN, T_xor, TN_xor n]
theorem TN_lt : ∀ (n c : Nat), c < 4294967296 → TN n c < 4294967296
  | 0, _, h => h
  | n + 1, c, h => TN_lt n (T c) (T_lt c h)
theorem TN_0 : ∀ n, TN n 0 = 0
  | 0 => rfl
  | n + 1 => TN_0 n
theorem TN_add : ∀ (m n c : Nat), TN (m + n) c = TN n (TN m c)
  | 0, n, c => by rw [Nat.zero_add, TN]
  | m + 1, n, c => by rw [Nat.add_right_comm, TN, TN, TN_add m]
theorem TN_zero : ∀ (n c : Nat), c < 4294967296 → TN n c = 0 → c = 0
  | 0, _, _, h => h
  | n + 1, c, h, h0 => T_zero c h (TN_zero n (T c) (T_lt c h) h0)
theorem TN_double : ∀ (f c : Nat), TN f (c * 2 ^ f) = c
  | 0, c => by rw [Nat.pow_zero, Nat.mul_one, TN]
  | f + 1, c => by rw [TN, Nat.pow_succ, ← Nat.mul_assoc, Nat.mul_comm _ 2, T_double, TN_double f]
theorem TN_inj (n a b : Nat) (ha : a < 4294967296) (hb : b < 4294967296) (h : TN n a = TN n b) : a = b := by
  have hx : TN n (a ^^^ b) = 0 := by rw [TN_xor, h, Nat.xor_self]
  exact xor_eq0 _ _ (TN_zero n _ (Nat.xor_lt_two_pow (n := 32) ha hb) hx)

/-- a number is fed a byte; a text -/
def feed (c x : Nat) : Nat := TN 8 (c ^^^ x)
def feeds (c : Nat) (l : List Nat) : Nat := l.foldl feed c
/-- bytes as a number, the lowest first -/
def val : List Nat → Nat
  | [] => 0
  | b :: r => b + 256 * val r
theorem add_xor (b q : Nat) (hb : b < 256) : b + 256 * q = b ^^^ 256 * q := by
  apply Nat.eq_of_testBit_eq
  intro i
  have e : b + 256 * q = 2 ^ 8 * q + b := by omega
  have f : 256 * q = 2 ^ 8 * q + 0 := by omega
  rw [Nat.testBit_xor, e, Nat.testBit_two_pow_mul_add q (show b < 2 ^ 8 from hb), f, Nat.testBit_two_pow_mul_add q (show 0 < 2 ^ 8 by decide)]
  split
  · simp
  · rename_i h
    have : b.testBit i = false := Nat.testBit_lt_two_pow (Nat.lt_of_lt_of_le hb (Nat.pow_le_pow_right (n := 2) (by decide) (show 8 ≤ i by omega)))
    simp [this]
theorem feeds_val : ∀ (l : List Nat) (c : Nat), (∀ x ∈ l, x < 256) → feeds c l = TN (8 * l.length) (c ^^^ val l)
  | [], c, _ => by rw [val, Nat.xor_zero]; rfl
  | b :: r, c, h => by
    have hb := h b (by simp)
    have h8 : TN 8 (256 * val r) = val r := by have := TN_double 8 (val r); rwa [Nat.mul_comm, show (2 : Nat) ^ 8 = 256 from rfl] at this
    have k : TN 8 (c ^^^ (b ^^^ 256 * val r)) = feed c b ^^^ val r := by rw [← Nat.xor_assoc, TN_xor, h8]; rfl
    show feeds (feed c b) r = _
    rw [feeds_val r _ fun x hx => h x (by simp [hx]), val, add_xor b _ hb, List.length_cons, Nat.mul_succ, Nat.add_comm, TN_add, k]
theorem val_lt : ∀ (l : List Nat), (∀ x ∈ l, x < 256) → val l < 256 ^ l.length
  | [], _ => by simp [val]
  | b :: r, h => by
    have h1 := val_lt r fun x hx => h x (by simp [hx])
    have h2 := h b (by simp)
    rw [val, List.length_cons, Nat.pow_succ]; omega
theorem val_append : ∀ (a b : List Nat), val (a ++ b) = val a + 256 ^ a.length * val b
  | [], b => by simp [val]
  | x :: a, b => by rw [List.cons_append, val, val, val_append a b, List.length_cons, Nat.pow_succ, Nat.mul_add, ← Nat.add_assoc, ← Nat.mul_assoc, Nat.mul_comm (256 ^ a.length) 256]
theorem feeds_append (c : Nat) (a b : List Nat) : feeds c (a ++ b) = feeds (feeds c a) b := List.foldl_append
theorem feed_lt (c x : Nat) (hc : c < 4294967296) (hx : x < 256) : feed c x < 4294967296 := TN_lt 8 _ (Nat.xor_lt_two_pow (n := 32) hc (by omega))
theorem feeds_lt : ∀ (l : List Nat) (c : Nat), c < 4294967296 → (∀ x ∈ l, x < 256) → feeds c l < 4294967296
  | [], _, h, _ => h
  | b :: r, c, h, hb => feeds_lt r _ (feed_lt c b h (hb b (by simp))) fun x hx => hb x (by simp [hx])

/-- all bits turned -/
theorem turn_all (c : Nat) (h : c < 4294967296) : 4294967295 - c = c ^^^ 4294967295 := by
  apply Nat.eq_of_testBit_eq
  intro i
  have e : (4294967295 : Nat) = 2 ^ 32 - 1 := by decide
  rw [Nat.testBit_xor, show 4294967295 - c = 2 ^ 32 - (c + 1) by omega, Nat.testBit_two_pow_sub_succ h, e, Nat.testBit_two_pow_sub_one]
  by_cases hi : i < 32
  · simp [hi]
  · have : c.testBit i = false := Nat.testBit_lt_two_pow (Nat.lt_of_lt_of_le (show c < 2 ^ 32 from h) (Nat.pow_le_pow_right (by decide) (by omega)))
    simp [hi, this]
def more (c : Nat) (l : List Nat) : Nat := 4294967295 - feeds (4294967295 - c) l
def sum (l : List Nat) : Nat := more 0 l
theorem more_eq (c : Nat) (l : List Nat) (hc : c < 4294967296) (h : ∀ x ∈ l, x < 256) : more c l = feeds (c ^^^ 4294967295) l ^^^ 4294967295 := by
  unfold more
  rw [turn_all c hc, turn_all _ (feeds_lt l _ (Nat.xor_lt_two_pow (n := 32) hc (by decide)) h)]
theorem more_lt (c : Nat) (l : List Nat) : more c l < 4294967296 := by unfold more; omega
theorem more_append (c : Nat) (a b : List Nat) (hc : c < 4294967296) (ha : ∀ x ∈ a, x < 256) : more (more c a) b = more c (a ++ b) := by
  have h := feeds_lt a (4294967295 - c) (by omega) ha
  unfold more
  rw [feeds_append, show 4294967295 - (4294967295 - feeds (4294967295 - c) a) = feeds (4294967295 - c) a by omega]
/-- n bytes of 0 -/
def shift (c n : Nat) : Nat := TN (8 * n) c
theorem shift_shift (c m n : Nat) : shift (shift c m) n = shift c (m + n) := by unfold shift; rw [Nat.mul_add, TN_add]
theorem shift_lt (c n : Nat) (h : c < 4294967296) : shift c n < 4294967296 := TN_lt _ _ h
theorem feeds_split (c : Nat) (l : List Nat) (h : ∀ x ∈ l, x < 256) : feeds c l = shift c l.length ^^^ feeds 0 l := by
  rw [feeds_val l c h, feeds_val l 0 h, Nat.zero_xor, TN_xor]; rfl
theorem join_sum (a b : List Nat) (ha : ∀ x ∈ a, x < 256) (hb : ∀ x ∈ b, x < 256) : shift (sum a) b.length ^^^ sum b = sum (a ++ b) := by
  have hm : (4294967295 : Nat) < 4294967296 := by decide
  have hab : ∀ x ∈ a ++ b, x < 256 := fun x hx => by
    rcases List.mem_append.1 hx with h | h
    · exact ha x h
    · exact hb x h
  unfold sum
  rw [more_eq 0 a (by decide) ha, more_eq 0 b (by decide) hb, more_eq 0 (a ++ b) (by decide) hab, Nat.zero_xor, feeds_append, feeds_split 4294967295 b hb, feeds_split (feeds 4294967295 a) b hb]
  have e : shift (feeds 4294967295 a ^^^ 4294967295) b.length = shift (feeds 4294967295 a) b.length ^^^ shift 4294967295 b.length := TN_xor _ _ _
  rw [e]
  generalize shift (feeds 4294967295 a) b.length = p
  generalize shift 4294967295 b.length = q
  generalize feeds 0 b = r
  generalize (4294967295 : Nat) = m
  rw [Nat.xor_assoc p q, ← Nat.xor_assoc q, ← Nat.xor_assoc q q, Nat.xor_self, Nat.zero_xor, ← Nat.xor_assoc]

/-! ### Texts that fit; bursts -/
def fitsB (l : List Nat) : Bool := 4 ≤ l.length && sum (l.take (l.length - 4)) == val (l.drop (l.length - 4))
theorem xor_full (a b : Nat) : 4294967295 - a = b → a < 4294967296 → a ^^^ b = 4294967295 := by
  intro h ha
  rw [← h, turn_all a ha, ← Nat.xor_assoc, Nat.xor_self, Nat.zero_xor]
theorem xor_full' (a b : Nat) (ha : a < 4294967296) (h : a ^^^ b = 4294967295) : 4294967295 - a = b := by
  rw [turn_all a ha, ← h, ← Nat.xor_assoc, Nat.xor_self, Nat.zero_xor]
/-- a text fits just if all of it is taken to one number -/
theorem fitsB_iff (l : List Nat) (hl : 4 ≤ l.length) (h : ∀ x ∈ l, x < 256) : fitsB l = true ↔ feeds 4294967295 l = TN 32 4294967295 := by
  have h1 : ∀ x ∈ l.take (l.length - 4), x < 256 := fun x hx => h x (List.mem_of_mem_take hx)
  have h2 : ∀ x ∈ l.drop (l.length - 4), x < 256 := fun x hx => h x (List.mem_of_mem_drop hx)
  have hlen : (l.drop (l.length - 4)).length = 4 := by rw [List.length_drop]; omega
  have hf := feeds_lt (l.take (l.length - 4)) 4294967295 (by decide) h1
  have hv := val_lt _ h2
  rw [hlen, show (256 : Nat) ^ 4 = 4294967296 by decide] at hv
  have e : feeds 4294967295 l = TN 32 (feeds 4294967295 (l.take (l.length - 4)) ^^^ val (l.drop (l.length - 4))) := by
    have := feeds_append 4294967295 (l.take (l.length - 4)) (l.drop (l.length - 4))
    rw [List.take_append_drop] at this
    rw [this, feeds_val _ _ h2, hlen]
  have es : sum (l.take (l.length - 4)) = 4294967295 - feeds 4294967295 (l.take (l.length - 4)) := rfl
  unfold fitsB
  rw [Bool.and_eq_true, decide_eq_true_iff, beq_iff_eq, es, e]
  constructor
  · rintro ⟨-, hs⟩
    rw [xor_full _ _ hs hf]
  · intro ht
    exact ⟨hl, xor_full' _ _ hf (TN_inj 32 _ _ (Nat.xor_lt_two_pow (n := 32) hf hv) (by decide) ht)⟩
/-- what is turned within 32 bits -/
theorem burst_zero (N f v : Nat) (hf : f ≤ N) (hv : v < 4294967296) : TN N (v * 2 ^ f) = 0 ↔ v = 0 := by
  have e : TN N (v * 2 ^ f) = TN (N - f) v := by
    have := TN_add f (N - f) (v * 2 ^ f)
    rw [show f + (N - f) = N by omega] at this
    rw [this, TN_double]
  rw [e]
  constructor
  · exact TN_zero _ _ hv
  · rintro rfl; exact TN_0 _
theorem feeds_turned (c : Nat) (l m : List Nat) (E : Nat) (hl : ∀ x ∈ l, x < 256) (hm : ∀ x ∈ m, x < 256) (hlen : m.length = l.length) (hE : val m = val l ^^^ E) : feeds c m = feeds c l ^^^ TN (8 * l.length) E := by
  rw [feeds_val m c hm, feeds_val l c hl, hlen, hE, ← Nat.xor_assoc, TN_xor]
theorem xor_same (a b : Nat) : a ^^^ b = a ↔ b = 0 := by
  constructor
  · intro h
    have : a ^^^ (a ^^^ b) = a ^^^ a := by rw [h]
    rwa [← Nat.xor_assoc, Nat.xor_self, Nat.zero_xor] at this
  · rintro rfl; exact Nat.xor_zero a
theorem fits_turned (l m : List Nat) (f v : Nat) (h4 : 4 ≤ l.length) (hl : ∀ x ∈ l, x < 256) (hm : ∀ x ∈ m, x < 256) (hlen : m.length = l.length) (hfit : fitsB l = true) (hf : f ≤ 8 * l.length) (hv : v < 4294967296)
    (hE : val m = val l ^^^ v * 2 ^ f) : fitsB m = decide (v = 0) := by
  have h1 := (fitsB_iff l h4 hl).1 hfit
  have h2 := feeds_turned 4294967295 l m _ hl hm hlen hE
  have h3 := fitsB_iff m (by omega) hm
  rw [h2, h1] at h3
  rw [Bool.eq_iff_iff, h3, decide_eq_true_iff, xor_same, burst_zero _ _ _ hf hv]
theorem sum_turned (l m : List Nat) (f v : Nat) (hl : ∀ x ∈ l, x < 256) (hm : ∀ x ∈ m, x < 256) (hlen : m.length = l.length) (hf : f ≤ 8 * l.length) (hv : v < 4294967296)
    (hE : val m = val l ^^^ v * 2 ^ f) : sum m = sum l ↔ v = 0 := by
  unfold sum
  rw [more_eq 0 m (by decide) hm, more_eq 0 l (by decide) hl, Nat.zero_xor, feeds_turned _ l m _ hl hm hlen hE]
  generalize feeds 4294967295 l = p
  rw [Nat.xor_assoc, Nat.xor_comm (TN _ _), ← Nat.xor_assoc, xor_same]
  exact burst_zero _ _ _ hf hv
end Go.Proofs.Ytbffdgeocacigaa
