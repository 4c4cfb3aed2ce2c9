/- WdMath, WdShelf, WdBits, WdCode, WdDig, WdRef, WdRef2, WdRef3, WdRef4 in one text. -/
import Derived.Lib.BitFns
import Derived.Shelf.Small.Bits
import Derived.Shelf.Strconv.Itoa0
import Derived.Shelf.Bits.Mul64
import Derived.Test.YthfcfmnaiopogaaGreatRows
import Derived.Test.YthfcfmnaiopogaaGreatBase
import Derived.Laws.Externs
import Derived.Shelf.Spec.BitsCarry
import Derived.Deep.CutBlock
import Derived.Deep.CutRange
import Derived.Deep.DeepCutAuto
import Derived.Test.YthfcfmnaiopogaaGreatBytes
import Derived.StillTailTactics

/- Numbers of 128 bits: digits to the base 65536, and the division of two words by one, digit by digit. -/
namespace Go.Proofs.YthfcfmnaiopogaaGreat

/-- how many bits a number has -/
theorem bitLenAux_bd : ∀ (f x : Nat), 0 < x → x < 2 ^ f → x < 2 ^ Lib.bitLenAux f x ∧ 2 ^ Lib.bitLenAux f x ≤ 2 * x
  | 0, x, h0, h => by simp at h; omega
  | f + 1, x, h0, h => by
    rw [Lib.bitLenAux, if_neg (by omega), Nat.add_comm 1, Nat.pow_succ]
    by_cases h1 : x / 2 = 0
    · have e : Lib.bitLenAux f (x / 2) = 0 := by rw [h1]; cases f <;> simp [Lib.bitLenAux]
      rw [e]; omega
    · obtain ⟨a, b⟩ := bitLenAux_bd f (x / 2) (by omega) (by rw [Nat.pow_succ] at h; omega)
      omega
theorem bitLen_bd (x : Nat) (h0 : 0 < x) (h : x < 18446744073709551616) : x < 2 ^ Lib.bitLen x ∧ 2 ^ Lib.bitLen x ≤ 2 * x := bitLenAux_bd 64 x h0 h
theorem bitLen_le (x : Nat) (h0 : 0 < x) (h : x < 18446744073709551616) : Lib.bitLen x ≤ 64 := by
  by_cases hc : Lib.bitLen x ≤ 64
  · exact hc
  · have h1 := (bitLen_bd x h0 h).2
    have h2 : 2 ^ 65 ≤ 2 ^ Lib.bitLen x := Nat.pow_le_pow_right (by decide) (by omega)
    omega
theorem norm_bd (d s : Nat) (h0 : 0 < d) (h : d < 18446744073709551616) (hs : s = 64 - Lib.bitLen d) : 9223372036854775808 ≤ d * 2 ^ s ∧ d * 2 ^ s < 18446744073709551616 := by
  obtain ⟨a, b⟩ := bitLen_bd d h0 h
  have hl := bitLen_le d h0 h
  have e : 2 ^ Lib.bitLen d * 2 ^ s = 2 ^ 64 := by rw [← Nat.pow_add]; congr 1; omega
  have p : 0 < 2 ^ s := Nat.pow_pos (by decide)
  have h1 := Nat.mul_lt_mul_of_pos_right a p
  have h2 := Nat.mul_le_mul_right (2 ^ s) b
  rw [Nat.mul_assoc] at h2
  rw [e] at h1 h2
  omega

/-- a digit's guess that is too great is made less -/
theorem guess_less {y a b u c q r : Nat} (hy : y = a * 4294967296 + b) (hu : u < y) (hc : c < 4294967296) (hq : q * a + r = u) (hQ : (u * 4294967296 + c) / y ≤ q)
    (h : 4294967296 ≤ q ∨ 4294967296 * r + c < q * b) : ∃ p, q = p + 1 ∧ p * a + (r + a) = u ∧ (u * 4294967296 + c) / y ≤ p := by
  have hlt : (u * 4294967296 + c) / y < q := by
    have hy0 : 0 < y := by omega
    rcases h with h | h
    · have : (u * 4294967296 + c) / y < 4294967296 := by rw [Nat.div_lt_iff_lt_mul hy0]; have := Nat.mul_le_mul_left 4294967296 (show u + 1 ≤ y by omega); omega
      omega
    · rw [Nat.div_lt_iff_lt_mul hy0, hy, Nat.mul_add, ← Nat.mul_assoc]
      generalize q * a = A at *
      generalize q * b = D at *
      omega
  have hq0 : 0 < q := Nat.lt_of_le_of_lt (Nat.zero_le _) hlt
  obtain ⟨p, rfl⟩ : ∃ p, q = p + 1 := ⟨q - 1, by omega⟩
  refine ⟨p, rfl, ?_, Nat.le_of_lt_succ hlt⟩
  rw [Nat.add_mul, Nat.one_mul] at hq
  generalize p * a = A at *
  omega
/-- a guess that stands is the digit -/
theorem guess_is {y a b u c q r : Nat} (hy : y = a * 4294967296 + b) (hu : u < y) (hq : q * a + r = u) (hQ : (u * 4294967296 + c) / y ≤ q) (h : q * b ≤ 4294967296 * r + c) :
    q = (u * 4294967296 + c) / y := by
  have hy0 : 0 < y := by omega
  refine Nat.le_antisymm ?_ hQ
  rw [Nat.le_div_iff_mul_le hy0, hy, Nat.mul_add, ← Nat.mul_assoc]
  generalize q * a = A at *
  generalize q * b = D at *
  omega
/-- likewise where the rest has outgrown a half -/
theorem guess_out {y a b u c q r : Nat} (hy : y = a * 4294967296 + b) (hb : b < 4294967296) (hu : u < y) (hq : q * a + r = u) (hQ : (u * 4294967296 + c) / y ≤ q) (hr : 4294967296 ≤ r) :
    q = (u * 4294967296 + c) / y := by
  refine guess_is hy hu hq hQ ?_
  have hq1 : q < 4294967296 := by
    refine Nat.lt_of_mul_lt_mul_right (a := a) ?_
    rw [Nat.mul_comm 4294967296]
    generalize q * a = A at *
    omega
  have : q * b ≤ 4294967295 * 4294967295 := Nat.mul_le_mul (by omega) (by omega)
  omega
theorem guess_lt {y u c : Nat} (hu : u < y) (hc : c < 4294967296) : (u * 4294967296 + c) / y < 4294967296 := by
  have hy0 : 0 < y := by omega
  rw [Nat.div_lt_iff_lt_mul hy0]
  have := Nat.mul_le_mul_left 4294967296 (show u + 1 ≤ y by omega)
  omega
/-- the first guess is not too small -/
theorem guess_first {y a b u c : Nat} (hy : y = a * 4294967296 + b) (ha : 0 < a) (hc : c < 4294967296) : u / a * a + u % a = u ∧ (u * 4294967296 + c) / y ≤ u / a := by
  refine ⟨Nat.div_add_mod' u a, ?_⟩
  have h1 : u / a = u * 4294967296 / (a * 4294967296) := (Nat.mul_div_mul_right u a (by decide)).symm
  have h2 : (u * 4294967296 + c) / (a * 4294967296) = u / a := by
    rw [Nat.mul_comm a, ← Nat.div_div_eq_div_mul]
    congr 1
    omega
  rw [← h2]
  exact Nat.div_le_div_left (by omega) (by omega)

/-- two digits make the quotient -/
theorem two_digits_of {y T N q r e : Nat} (hy : 0 < y) (h : y * q + r = T) (hN : N = T * 4294967296 + e) : q * 4294967296 + (r * 4294967296 + e) / y = N / y ∧ (r * 4294967296 + e) % y = N % y := by
  have e1 : N = y * (q * 4294967296) + (r * 4294967296 + e) := by
    rw [hN, ← h, ← Nat.mul_assoc, Nat.add_mul, Nat.add_assoc]
  rw [e1, Nat.mul_add_div hy, Nat.mul_add_mod]
  exact ⟨rfl, rfl⟩
theorem two_digits {y u c e : Nat} (hy : 0 < y) :
    (u * 4294967296 + c) / y * 4294967296 + ((u * 4294967296 + c) % y * 4294967296 + e) / y = (u * 18446744073709551616 + c * 4294967296 + e) / y ∧
    ((u * 4294967296 + c) % y * 4294967296 + e) % y = (u * 18446744073709551616 + c * 4294967296 + e) % y :=
  two_digits_of hy (Nat.div_add_mod _ y) (by omega)
/-- what is shifted is divided alike -/
theorem shifted (x d P : Nat) (hP : 0 < P) : x * P / (d * P) = x / d ∧ x * P % (d * P) / P = x % d := by
  refine ⟨Nat.mul_div_mul_right x d hP, ?_⟩
  rw [Nat.mul_mod_mul_right, Nat.mul_div_cancel _ hP]
/-- the two words of what is shifted -/
theorem shift_words (hi lo s : Nat) (hs : s ≤ 64) : (hi * 2 ^ s + lo / 2 ^ (64 - s)) * 18446744073709551616 + lo * 2 ^ s % 18446744073709551616 = (hi * 18446744073709551616 + lo) * 2 ^ s := by
  have e : 2 ^ (64 - s) * 2 ^ s = 18446744073709551616 := by rw [← Nat.pow_add, show 64 - s + s = 64 by omega]
  have p : 0 < 2 ^ s := Nat.pow_pos (by decide)
  have h1 : lo * 2 ^ s / 18446744073709551616 = lo / 2 ^ (64 - s) := by rw [← e, Nat.mul_div_mul_right _ _ p]
  have h2 := Nat.div_add_mod (lo * 2 ^ s) 18446744073709551616
  rw [h1] at h2
  rw [Nat.add_mul, Nat.add_mul (hi * 18446744073709551616), Nat.mul_right_comm hi]
  omega

/-- digits to the base 65536, the lowest first -/
def digs : Nat → Nat → List Nat
  | 0, _ => []
  | k + 1, n => n % 65536 :: digs k (n / 65536)
def val : List Nat → Nat
  | [] => 0
  | x :: r => x + 65536 * val r
theorem digs_len : ∀ k n, (digs k n).length = k
  | 0, _ => rfl
  | k + 1, n => by rw [digs, List.length_cons, digs_len]
theorem digs_lt : ∀ k n, ∀ x ∈ digs k n, x < 65536
  | 0, _, x, h => by cases h
  | k + 1, n, x, h => by
    rw [digs] at h
    rcases List.mem_cons.1 h with rfl | h
    · omega
    · exact digs_lt k _ x h
theorem digs_at : ∀ k n i, i < k → (digs k n).getD i 0 = n / 65536 ^ i % 65536
  | k + 1, n, 0, _ => by simp [digs]
  | k + 1, n, i + 1, h => by
    rw [digs, List.getD_cons_succ, digs_at k _ i (by omega), Nat.div_div_eq_div_mul, Nat.pow_succ, Nat.mul_comm 65536]
theorem digs_get (k n i : Nat) (h : i < (digs k n).length) : (digs k n)[i] = n / 65536 ^ i % 65536 := by
  rw [← digs_at k n i (by rwa [digs_len] at h), List.getD_eq_getElem?_getD, List.getElem?_eq_getElem h]; rfl
theorem digs_val : ∀ l : List Nat, (∀ x ∈ l, x < 65536) → digs l.length (val l) = l
  | [], _ => rfl
  | x :: r, h => by
    have hx := h x List.mem_cons_self
    rw [List.length_cons, digs, val, show (x + 65536 * val r) % 65536 = x by omega, show (x + 65536 * val r) / 65536 = val r by omega, digs_val r fun y hy => h y (List.mem_cons_of_mem _ hy)]
theorem val_lt : ∀ l : List Nat, (∀ x ∈ l, x < 65536) → val l < 65536 ^ l.length
  | [], _ => by simp [val]
  | x :: r, h => by
    have hx := h x List.mem_cons_self
    have hr := val_lt r fun y hy => h y (List.mem_cons_of_mem _ hy)
    rw [List.length_cons, Nat.pow_succ, val]; omega
theorem digs_mod : ∀ k n m, n % 65536 ^ k = m % 65536 ^ k → digs k n = digs k m
  | 0, _, _, _ => rfl
  | k + 1, n, m, h => by
    rw [Nat.pow_succ, Nat.mul_comm, Nat.mod_mul, Nat.mod_mul] at h
    have h1 : n % 65536 = m % 65536 := by omega
    rw [digs, digs, h1, digs_mod k (n / 65536) (m / 65536) (by omega)]
theorem val_digs : ∀ k n, val (digs k n) = n % 65536 ^ k
  | 0, n => by simp [digs, val, Nat.mod_one]
  | k + 1, n => by rw [digs, val, val_digs k, Nat.pow_succ, Nat.mul_comm (65536 ^ k), Nat.mod_mul]
theorem val_snoc : ∀ (l : List Nat) (c : Nat), val (l ++ [c]) = val l + c * 65536 ^ l.length
  | [], c => by simp [val]
  | x :: r, c => by
    rw [List.cons_append, val, val, val_snoc r c, List.length_cons, Nat.pow_succ, Nat.mul_add, Nat.mul_comm (65536 ^ r.length), ← Nat.mul_assoc, ← Nat.mul_assoc, Nat.mul_comm c, Nat.add_assoc]
theorem val_append : ∀ (l m : List Nat), val (l ++ m) = val l + 65536 ^ l.length * val m
  | [], m => by simp [val]
  | x :: r, m => by
    rw [List.cons_append, val, val, val_append r m, List.length_cons, Nat.pow_succ, Nat.mul_add, ← Nat.mul_assoc, Nat.mul_comm 65536 (65536 ^ r.length), Nat.add_assoc]
theorem val_set : ∀ (l : List Nat) (j v : Nat), j < l.length → val (l.set j v) + l.getD j 0 * 65536 ^ j = val l + v * 65536 ^ j
  | x :: r, 0, v, _ => by simp [val]; omega
  | x :: r, j + 1, v, h => by
    have := val_set r j v (by simpa using h)
    rw [List.set_cons_succ, val, val, List.getD_cons_succ, Nat.pow_succ, ← Nat.mul_assoc, ← Nat.mul_assoc]
    omega
theorem digs_set : ∀ (k n j v : Nat), j < k → n / 65536 ^ j % 65536 + v < 65536 → (digs k n).set j (n / 65536 ^ j % 65536 + v) = digs k (n + v * 65536 ^ j)
  | k + 1, n, 0, v, _, h => by
    simp only [Nat.pow_zero, Nat.div_one, Nat.mul_one] at h ⊢
    rw [digs, digs, List.set_cons_zero, show (n + v) % 65536 = n % 65536 + v by omega, show (n + v) / 65536 = n / 65536 by omega]
  | k + 1, n, j + 1, v, hj, h => by
    have e : n / 65536 ^ (j + 1) = n / 65536 / 65536 ^ j := by rw [Nat.div_div_eq_div_mul, Nat.pow_succ, Nat.mul_comm 65536]
    rw [e] at h ⊢
    have e2 : n + v * 65536 ^ (j + 1) = n + 65536 * (v * 65536 ^ j) := by rw [Nat.pow_succ, Nat.mul_comm (65536 ^ j), ← Nat.mul_assoc, ← Nat.mul_assoc, Nat.mul_comm v]
    rw [digs, digs, List.set_cons_succ, digs_set k (n / 65536) j v (by omega) h, e2, Nat.add_mul_mod_self_left, Nat.add_mul_div_left _ _ (by decide)]
theorem lt_of_getD {l : List Nat} (h : ∀ x ∈ l, x < 65536) (j : Nat) : l.getD j 0 < 65536 := by
  rw [List.getD_eq_getElem?_getD]
  by_cases hj : j < l.length
  · rw [List.getElem?_eq_getElem hj]; exact h _ (List.getElem_mem hj)
  · rw [List.getElem?_eq_none (by omega)]; decide
end Go.Proofs.YthfcfmnaiopogaaGreat

/- The contracts of math/bits off the shelf, at this program. -/
namespace Go.Proofs.YthfcfmnaiopogaaGreat
open Go.Shelf
def lays134_ren : Go.Shelf.Ren := ⟨fun | 134 => 162 | 129 => 139 | n => n, fun | 53 => 22 | 3 => 3 | 4 => 4 | 46 => 174 | 5 => 5 | 9 => 9 | n => n, fun | n => n⟩
theorem lays134 : Go.Proofs.Lays.n134 Tryz.prog lays134_ren := {
  mixed := by kernel_rfl
  f129 := Tryz.func139.trans (congrArg some (by kernel_rfl))
  f134 := Tryz.func162.trans (congrArg some (by kernel_rfl))
  t3 := Tryz.underlying3
  a3 := Tryz.isAgg3
  z3 := Tryz.sizeOf3
  v3 := Tryz.zeroValue3
  t4 := Tryz.underlying4
  a4 := Tryz.isAgg4
  z4 := Tryz.sizeOf4
  v4 := Tryz.zeroValue4
  t5 := Tryz.underlying5
  a5 := Tryz.isAgg5
  z5 := Tryz.sizeOf5
  v5 := Tryz.zeroValue5
  t9 := Tryz.underlying9
  a9 := Tryz.isAgg9
  z9 := Tryz.sizeOf9
  v9 := Tryz.zeroValue9
  t46 := Tryz.underlying174
  a46 := Tryz.isAgg174
  z46 := Tryz.sizeOf174
  v46 := Tryz.zeroValue174
  t53 := Tryz.underlying22
  a53 := Tryz.isAgg22
  z53 := Tryz.sizeOf22
  v53 := Tryz.zeroValue22 }
theorem bits_LeadingZeros64 (x : Int) (w : World) (h0 : 0 ≤ x) (h1 : x ≤ 18446744073709551615) :
    Calls Tryz.prog 162 #[.int .u64 x] w fun e w' => e = .returned (.int .i64 (64 - (Lib.bitLen x.toNat : Int))) ∧ w' = w := Any.bits_LeadingZeros64 lays134 x w h0 h1
def lays129_ren : Go.Shelf.Ren := ⟨fun | 129 => 139 | n => n, fun | 53 => 22 | 3 => 3 | 4 => 4 | 46 => 174 | 5 => 5 | 9 => 9 | n => n, fun | n => n⟩
theorem lays129 : Go.Proofs.Lays.n129 Tryz.prog lays129_ren := {
  mixed := by kernel_rfl
  f129 := Tryz.func139.trans (congrArg some (by kernel_rfl))
  t3 := Tryz.underlying3
  a3 := Tryz.isAgg3
  z3 := Tryz.sizeOf3
  v3 := Tryz.zeroValue3
  t4 := Tryz.underlying4
  a4 := Tryz.isAgg4
  z4 := Tryz.sizeOf4
  v4 := Tryz.zeroValue4
  t5 := Tryz.underlying5
  a5 := Tryz.isAgg5
  z5 := Tryz.sizeOf5
  v5 := Tryz.zeroValue5
  t9 := Tryz.underlying9
  a9 := Tryz.isAgg9
  z9 := Tryz.sizeOf9
  v9 := Tryz.zeroValue9
  t46 := Tryz.underlying174
  a46 := Tryz.isAgg174
  z46 := Tryz.sizeOf174
  v46 := Tryz.zeroValue174
  t53 := Tryz.underlying22
  a53 := Tryz.isAgg22
  z53 := Tryz.sizeOf22
  v53 := Tryz.zeroValue22 }
theorem bits_Len64 (x : Int) (w : World) (h0 : 0 ≤ x) (h1 : x ≤ 18446744073709551615) :
    Calls Tryz.prog 139 #[.int .u64 x] w fun e w' => e = .returned (.int .i64 (Lib.bitLen x.toNat)) ∧ w' = w := Any.bits_Len64 lays129 x w h0 h1
def lays264_ren : Go.Shelf.Ren := ⟨fun | 264 => 149 | n => n, fun | 53 => 22 | 46 => 174 | n => n, fun | n => n⟩
theorem lays264 : Go.Proofs.Lays.n264 Tryz.prog lays264_ren := {
  mixed := by kernel_rfl
  f264 := Tryz.func149.trans (congrArg some (by kernel_rfl))
  t46 := Tryz.underlying174
  a46 := Tryz.isAgg174
  z46 := Tryz.sizeOf174
  v46 := Tryz.zeroValue174
  t53 := Tryz.underlying22
  a53 := Tryz.isAgg22
  z53 := Tryz.sizeOf22
  v53 := Tryz.zeroValue22 }
open Go.RowKit Go.Lib in
theorem bits_Mul64 (x y : Nat) (hx : x < 18446744073709551616) (hy : y < 18446744073709551616) (w : World) :
    Calls Tryz.prog 149 #[.int .u64 x, .int .u64 y] w fun e w' => e = .returned (.tuple #[.int .u64 ((x * y / 18446744073709551616 : Nat) : Int), .int .u64 ((x * y % 18446744073709551616 : Nat) : Int)]) ∧ w' = w := Any.bits_Mul64 lays264 x y hx hy w
end Go.Proofs.YthfcfmnaiopogaaGreat

/- math/bits at this program: Add64, Sub64, Div64. -/
namespace Go.Proofs.YthfcfmnaiopogaaGreat
open Go.RowKit

theorem run_add (x y c : Nat) (hc : c ≤ 1) (w : World) : (callFunc 128 #[.int .u64 (x : Int), .int .u64 (y : Int), .int .u64 (c : Int)]).run Tryz.prog w =
    .ok (.value (.tuple #[.int .u64 (((x + y + c) % 18446744073709551616 : Nat) : Int), .int .u64 (((x + y + c) / 18446744073709551616 : Nat) : Int)])) w := by
  rw [run_callFunc_extern Tryz.func128 (by kernel_rfl) (by kernel_rfl) (by kernel_rfl) (e := add64Entry) (by kernel_rfl), run_add64 x y c (by omega) (by omega) (by omega) (by omega)]
  simp only [Result.andThen]
  congr 5 <;> omega
theorem ret2 {k j : IntKind} {a b c d : Int} (h : a = c) (h' : b = d) : Ending.returned (.tuple #[.int k a, .int j b]) = .returned (.tuple #[.int k c, .int j d]) := by rw [h, h']
theorem wrap_nat {x : Int} {n : Nat} (h : x = n) (hn : n < 18446744073709551616) : IntKind.u64.wrap x = (n : Int) := by rw [IntKind.wrap_u64]; omega

set_option maxRecDepth 100000 in
set_option maxHeartbeats 1000000 in
theorem div64_low (lo y : Nat) (w : World) (hl : lo < 18446744073709551616) (h0 : 0 < y) (h64 : y < 18446744073709551616) :
    Calls Tryz.prog 150 #[.int .u64 (0 : Int), .int .u64 (lo : Int), .int .u64 (y : Int)] w fun e w' => e = .returned (.tuple #[.int .u64 ((lo / y : Nat) : Int), .int .u64 ((lo % y : Nat) : Int)]) ∧ ∃ n, w' = w.drewN n := by
  have h1 : (1 : Int) ≤ (y : Int) := by omega
  have h2 : ((y : Int) == 0) = false := by rw [beq_eq_false_iff_ne]; omega
  have h3 : decide ((y : Int) ≤ 0) = false := decide_eq_false (by omega)
  go_enter Tryz.func150, Tryz.ntmps150
  go_wp2
  go_quiet (fail)
  go_wp2
  go_ret2
  exact ⟨ret2 (wrap_nat (Int.natCast_ediv _ _).symm (Nat.lt_of_le_of_lt (Nat.div_le_self _ _) hl)) (Int.natCast_emod _ _).symm, _, rfl⟩

/-- a guess's start, and what the two digits leave -/
theorem mod_word (x : Nat) : x % 18446744073709551616 < 18446744073709551616 := Nat.mod_lt _ (by decide)
theorem wrap_mod (x : Int) (n : Nat) (h : x = n) : IntKind.u64.wrap x = ((n % 18446744073709551616 : Nat) : Int) := by rw [IntKind.wrap_u64, h]; omega
/-- what is left of two words, reckoned within one -/
theorem left_word {u c y q r A1 A2 : Nat} (hA1 : A1 = u * 4294967296 % 18446744073709551616) (hA2 : A2 = q * y % 18446744073709551616) (h : q * y + r = u * 4294967296 + c) (hr : r < 18446744073709551616) :
    IntKind.u64.wrap ((A1 : Int) + (c : Int) - (A2 : Int)) = (r : Int) := by
  rw [IntKind.wrap_u64]
  generalize q * y = P at h hA2
  omega

set_option maxRecDepth 100000 in
set_option maxHeartbeats 4000000 in
theorem div64_any (hi lo y : Nat) (w : World) (hh : 0 < hi) (hl : lo < 18446744073709551616) (hy : hi < y) (h64 : y < 18446744073709551616) :
    Calls Tryz.prog 150 #[.int .u64 (hi : Int), .int .u64 (lo : Int), .int .u64 (y : Int)] w fun e w' =>
      e = .returned (.tuple #[.int .u64 (((hi * 18446744073709551616 + lo) / y : Nat) : Int), .int .u64 (((hi * 18446744073709551616 + lo) % y : Nat) : Int)]) ∧ w = w' := by
  have h2 : ((y : Int) == 0) = false := by rw [beq_eq_false_iff_ne]; omega
  have h3 : decide (y ≤ hi) = false := decide_eq_false (by omega)
  have h4 : ((hi : Int) == 0) = false := by rw [beq_eq_false_iff_ne]; omega
  have HLZ := Lib.hid (bits_LeadingZeros64 (y : Int) w (by omega) (by omega))
  obtain ⟨s, hs⟩ : ∃ s, s = 64 - Lib.bitLen y := ⟨_, rfl⟩
  have hnb := norm_bd y s (by omega) h64 hs
  have HS : Hid ((64 : Int) - (Lib.bitLen ((y : Int).toNat) : Int) = (s : Int)) := Lib.hid (by
    have := bitLen_le y (by omega) h64
    rw [Int.toNat_natCast]
    omega)
  have hs64 : s ≤ 64 := by omega
  have hs0 : (0 : Int) ≤ (s : Int) := by omega
  have hw2 := shift_words hi lo s hs64
  have p2 : 0 < 2 ^ s := Nat.pow_pos (by decide)
  have e64 : 2 ^ (64 - s) * 2 ^ s = 18446744073709551616 := by rw [← Nat.pow_add, show 64 - s + s = 64 by omega]
  have hXY : (hi * 18446744073709551616 + lo) * 2 ^ s < y * 18446744073709551616 * 2 ^ s := Nat.mul_lt_mul_of_pos_right (by omega) p2
  have hHY : hi * 2 ^ s < y * 2 ^ s := Nat.mul_lt_mul_of_pos_right hy p2
  have hGp : lo / 2 ^ (64 - s) < 2 ^ s := by
    rw [Nat.div_lt_iff_lt_mul (Nat.pow_pos (by decide)), Nat.mul_comm, e64]
    exact hl
  have SH := Lib.hid (shifted (hi * 18446744073709551616 + lo) y (2 ^ s) p2)
  rw [Nat.mul_right_comm y] at hXY
  obtain ⟨X, hX⟩ : ∃ X, hi * 18446744073709551616 + lo = X := ⟨_, rfl⟩
  rw [hX] at hXY SH hw2
  rw [hX]
  obtain ⟨Y, hY⟩ : ∃ Y, y * 2 ^ s = Y := ⟨_, rfl⟩
  obtain ⟨H, hH⟩ : ∃ H, hi * 2 ^ s = H := ⟨_, rfl⟩
  obtain ⟨G, hG⟩ : ∃ G, lo / 2 ^ (64 - s) = G := ⟨_, rfl⟩
  obtain ⟨T, hT⟩ : ∃ T, lo * 2 ^ s % 18446744073709551616 = T := ⟨_, rfl⟩
  have wY : IntKind.u64.wrap ((y : Int) * 2 ^ s) = (Y : Int) := wrap_nat (by rw [← hY, Int.natCast_mul, Int.natCast_pow]; rfl) (by omega)
  have wH : IntKind.u64.wrap ((hi : Int) * 2 ^ s) = (H : Int) := wrap_nat (by rw [← hH, Int.natCast_mul, Int.natCast_pow]; rfl) (by omega)
  have wG : (lo : Int) / 2 ^ (64 - s) = (G : Int) := by rw [← hG, Int.natCast_ediv, Int.natCast_pow]; rfl
  have wT : IntKind.u64.wrap ((lo : Int) * 2 ^ s) = (T : Int) := by rw [← hT]; exact wrap_mod _ _ (by rw [Int.natCast_mul, Int.natCast_pow]; rfl)
  have hor : H ||| G = H + G := by rw [← hH, ← Nat.shiftLeft_eq, Nat.shiftLeft_add_eq_or_of_lt (by rw [← hG]; exact hGp)]
  rw [hH, hG, hT] at hw2
  rw [hG] at hGp
  rw [hY] at hnb hHY hXY SH
  rw [hH] at hHY
  obtain ⟨y1, y2⟩ := hnb
  have hT2 : T < 18446744073709551616 := by rw [← hT]; exact mod_word _
  obtain ⟨U, hU⟩ : ∃ U, H + G = U := ⟨_, rfl⟩
  rw [hU] at hw2 hor
  have hUY : U < Y := by
    generalize X * 2 ^ s = Z at hw2 hXY
    omega
  have wU : bits .or .u64 (H : Int) (G : Int) = (U : Int) := by rw [u64_or_nat H G (by omega) (by omega), hor]
  have wa : (Y : Int) / 4294967296 = ((Y / 4294967296 : Nat) : Int) := by omega
  have wb := Mul64.maskN Y y2
  have wc : (T : Int) / 4294967296 = ((T / 4294967296 : Nat) : Int) := by omega
  have we := Mul64.maskN T hT2
  have hYab : Y = Y / 4294967296 * 4294967296 + Y % 4294967296 := by omega
  have hTce : T = T / 4294967296 * 4294967296 + T % 4294967296 := by omega
  have ha1 : 2147483648 ≤ Y / 4294967296 ∧ Y / 4294967296 < 4294967296 := by omega
  have hb1 : Y % 4294967296 < 4294967296 := Nat.mod_lt _ (by decide)
  have hc1 : T / 4294967296 < 4294967296 := by omega
  have he1 : T % 4294967296 < 4294967296 := Nat.mod_lt _ (by decide)
  obtain ⟨a, ha⟩ : ∃ a, Y / 4294967296 = a := ⟨_, rfl⟩
  obtain ⟨b, hb⟩ : ∃ b, Y % 4294967296 = b := ⟨_, rfl⟩
  obtain ⟨c, hc⟩ : ∃ c, T / 4294967296 = c := ⟨_, rfl⟩
  obtain ⟨d, hd⟩ : ∃ d, T % 4294967296 = d := ⟨_, rfl⟩
  rw [ha] at wa hYab ha1
  rw [hb] at wb hYab hb1
  rw [hc] at wc hTce hc1
  rw [hd] at we hTce he1
  have HAB := Lib.hid hYab
  obtain ⟨Q1, hQ1⟩ : ∃ Q, (U * 4294967296 + c) / Y = Q := ⟨_, rfl⟩
  obtain ⟨R1, hR1⟩ : ∃ R, (U * 4294967296 + c) % Y = R := ⟨_, rfl⟩
  obtain ⟨Q0, hQ0⟩ : ∃ Q, (R1 * 4294967296 + d) / Y = Q := ⟨_, rfl⟩
  obtain ⟨R0, hR0⟩ : ∃ R, (R1 * 4294967296 + d) % Y = R := ⟨_, rfl⟩
  have hRY : R1 < Y := by rw [← hR1]; exact Nat.mod_lt _ (by omega)
  have hR0Y : R0 < Y := by rw [← hR0]; exact Nat.mod_lt _ (by omega)
  have hQ1B : Q1 < 4294967296 := by rw [← hQ1]; exact guess_lt hUY hc1
  have hQ0B : Q0 < 4294967296 := by rw [← hQ0]; exact guess_lt hRY he1
  have hN : X * 2 ^ s = (U * 4294967296 + c) * 4294967296 + d := by
    generalize X * 2 ^ s = Z at hw2 ⊢
    omega
  have htd := two_digits_of (y := Y) (q := Q1) (r := R1) (by omega) (by rw [← hQ1, ← hR1]; exact Nat.div_add_mod _ _) hN
  rw [hQ0, hR0] at htd
  have HFQ : Hid (Q1 * 4294967296 + Q0 = X / y) := Lib.hid (by rw [htd.1, SH.out.1])
  have HFR : Hid (R0 / 2 ^ s = X % y) := Lib.hid (by rw [htd.2, SH.out.2])
  have HE1 : Hid (Q1 * Y + R1 = U * 4294967296 + c) := Lib.hid (by rw [← hQ1, ← hR1]; exact Nat.div_add_mod' _ _)
  have HE0 : Hid (Q0 * Y + R0 = R1 * 4294967296 + d) := Lib.hid (by rw [← hQ0, ← hR0]; exact Nat.div_add_mod' _ _)
  have HQ1 := Lib.hid hQ1
  have HQ0 := Lib.hid hQ0
  have hGF := guess_first (u := U) hYab (by omega) hc1
  have hGF0 := guess_first (u := R1) hYab (by omega) he1
  have hq8 : U / a < 8589934592 := by rw [Nat.div_lt_iff_lt_mul (by omega)]; omega
  have hq80 : R1 / a < 8589934592 := by rw [Nat.div_lt_iff_lt_mul (by omega)]; omega
  have hr8 : U % a < a := Nat.mod_lt _ (by omega)
  have hr80 : R1 % a < a := Nat.mod_lt _ (by omega)
  have wq : IntKind.u64.wrap ((U : Int) / (a : Int)) = ((U / a : Nat) : Int) := wrap_nat (Int.natCast_ediv _ _).symm (by omega)
  have wq0 : IntKind.u64.wrap ((R1 : Int) / (a : Int)) = ((R1 / a : Nat) : Int) := wrap_nat (Int.natCast_ediv _ _).symm (by omega)
  obtain ⟨q, hq⟩ : ∃ q, U / a = q := ⟨_, rfl⟩
  obtain ⟨r, hr⟩ : ∃ r, U % a = r := ⟨_, rfl⟩
  obtain ⟨q0, hq0⟩ : ∃ q, R1 / a = q := ⟨_, rfl⟩
  obtain ⟨r0, hr0⟩ : ∃ r, R1 % a = r := ⟨_, rfl⟩
  rw [hq] at hGF hq8 wq
  rw [hr] at hGF hr8
  rw [hq0] at hGF0 hq80 wq0
  rw [hr0] at hGF0 hr80
  have HGF := Lib.hid hGF
  have HGF0 := Lib.hid hGF0
  obtain ⟨P, hP⟩ : ∃ P, q * a = P := ⟨_, rfl⟩
  obtain ⟨P0, hP0⟩ : ∃ P, q0 * a = P := ⟨_, rfl⟩
  have hPU : P + r = U := by rw [← hP]; exact hGF.1
  have hPU0 : P0 + r0 = R1 := by rw [← hP0]; exact hGF0.1
  have wP : IntKind.u64.wrap ((q : Int) * (a : Int)) = (P : Int) := wrap_nat (by rw [← hP, Int.natCast_mul]) (by omega)
  have wP0 : IntKind.u64.wrap ((q0 : Int) * (a : Int)) = (P0 : Int) := wrap_nat (by rw [← hP0, Int.natCast_mul]) (by omega)
  have EPU : Hid ((U : Int) - (P : Int) = (r : Int)) := Lib.hid (by omega)
  have EPU0 : Hid ((R1 : Int) - (P0 : Int) = (r0 : Int)) := Lib.hid (by omega)
  have hPle : (P : Int) ≤ (U : Int) := by omega
  have hPle0 : (P0 : Int) ≤ (R1 : Int) := by omega
  obtain ⟨A1, hA1⟩ : ∃ A, A = U * 4294967296 % 18446744073709551616 := ⟨_, rfl⟩
  obtain ⟨A2, hA2⟩ : ∃ A, A = Q1 * Y % 18446744073709551616 := ⟨_, rfl⟩
  obtain ⟨A3, hA3⟩ : ∃ A, A = R1 * 4294967296 % 18446744073709551616 := ⟨_, rfl⟩
  obtain ⟨A4, hA4⟩ : ∃ A, A = Q0 * Y % 18446744073709551616 := ⟨_, rfl⟩
  have wA1 : IntKind.u64.wrap ((U : Int) * 4294967296) = (A1 : Int) := by rw [hA1]; exact wrap_mod _ _ (by omega)
  have wA2 : IntKind.u64.wrap ((Q1 : Int) * (Y : Int)) = (A2 : Int) := by rw [hA2]; exact wrap_mod _ _ (by rw [Int.natCast_mul])
  have wA3 : IntKind.u64.wrap ((R1 : Int) * 4294967296) = (A3 : Int) := by rw [hA3]; exact wrap_mod _ _ (by omega)
  have wA4 : IntKind.u64.wrap ((Q0 : Int) * (Y : Int)) = (A4 : Int) := by rw [hA4]; exact wrap_mod _ _ (by rw [Int.natCast_mul])
  have wR1 := left_word hA1 hA2 HE1.out (by omega)
  have wR0 := left_word hA3 hA4 HE0.out (by omega)
  have bA1 : A1 + c < 18446744073709551616 := by omega
  have bA3 : A3 + d < 18446744073709551616 := by omega
  have HUY := Lib.hid hUY
  have HRY := Lib.hid hRY
  have HBD := Lib.hid (And.intro ha1 (And.intro hb1 (And.intro hc1 he1)))
  clear hs hY hH hG hT hor hw2 hGp hHY hXY hU ha hb hc hd hX SH hYab hTce hQ1 hR1 hQ0 hR0 htd hGF hGF0 hq hr hq0 hr0 hP hP0 hPU hPU0 hA1 hA2 hA3 hA4 p2 e64
  go_enter Tryz.func150, Tryz.ntmps150
  go_wp2_with fail
  refine HLZ.out.mono ?_
  rintro e w' ⟨rfl, hw⟩
  obtain rfl : w = w' := hw.symm
  rw [HS.out]
  go_upto_block 0 with fail
  go_cut [15, 16] from 67 to 85 (fun sq sr wx => (∃ z : Value, sr = z) ∧ sq = .int .u64 (Q1 : Int) ∧ w = wx)
  case first =>
    go_wp2_with fail
    go_loopw [15, 16] (fun sq sr wr => ∃ x t : Nat, sq = .int .u64 x ∧ sr = .int .u64 t ∧ x * a + t = U ∧ Q1 ≤ x ∧ t < 4294967296 ∧ x < 8589934592 ∧ w = wr) (fun sq _ _ => (intOf sq).toNat)
    case atStart => exact ⟨q, r, rfl, by rw [EPU.out], HGF.out.1, by rw [← HQ1.out]; exact HGF.out.2, by omega, hq8, rfl⟩
    case round =>
      obtain ⟨x, t, rfl, rfl, hqr, hle, ht, hx8, rfl⟩ := hrel
      have HQR := Lib.hid hqr
      have HLE : Hid ((U * 4294967296 + c) / Y ≤ x) := Lib.hid (by rw [HQ1.out]; exact hle)
      clear hqr hle
      by_cases c1 : (4294967296 : Int) ≤ (x : Int)
      · obtain ⟨p, hp, hpa, hpl⟩ := guess_less HAB.out HUY.out HBD.out.2.2.1 HQR.out HLE.out (.inl (by omega))
        have HP := Lib.hid hp
        have HPA := Lib.hid hpa
        have HPL := Lib.hid hpl
        clear hp hpa hpl
        by_cases c3 : (4294967296 : Int) ≤ (t : Int) + (a : Int)
        · have HF : Hid (p = Q1) := Lib.hid (by rw [← HQ1.out]; exact guess_out HAB.out HBD.out.2.1 HUY.out HPA.out HPL.out (by omega))
          go_wp2_with fail
          go_meet
          exact ⟨⟨_, rfl⟩, congrArg (Value.int .u64) (by have := HF.out; have := HP.out; omega), rfl⟩
        · go_wp2_with fail
          go_roundw
          case rel => exact ⟨p, t + a, congrArg (Value.int .u64) (by have := HP.out; omega), by go_num, HPA.out, by rw [← HQ1.out]; exact HPL.out, by omega, by have := HP.out; omega, by trivial⟩
          case measure => simp [intOf]; omega
      · have hD : x * b < 18446744073709551616 := by
          have := Nat.mul_le_mul (show x ≤ 4294967295 by omega) (show b ≤ 4294967295 by omega)
          omega
        obtain ⟨D, hDe⟩ : ∃ D, x * b = D := ⟨_, rfl⟩
        have wD : IntKind.u64.wrap ((x : Int) * (b : Int)) = (D : Int) := wrap_nat (by rw [← hDe, Int.natCast_mul]) (by omega)
        have HD := Lib.hid hDe
        rw [hDe] at hD
        clear hDe
        have d1 : decide ((4294967296 : Int) ≤ (x : Int)) = false := decide_eq_false c1
        by_cases c2 : (4294967296 : Int) * (t : Int) + (c : Int) < (D : Int)
        · obtain ⟨p, hp, hpa, hpl⟩ := guess_less HAB.out HUY.out HBD.out.2.2.1 HQR.out HLE.out (.inr (by rw [HD.out]; omega))
          have HP := Lib.hid hp
          have HPA := Lib.hid hpa
          have HPL := Lib.hid hpl
          have hx1 : (1 : Int) ≤ (x : Int) := by omega
          clear hp hpa hpl
          by_cases c3 : (4294967296 : Int) ≤ (t : Int) + (a : Int)
          · have HF : Hid (p = Q1) := Lib.hid (by rw [← HQ1.out]; exact guess_out HAB.out HBD.out.2.1 HUY.out HPA.out HPL.out (by omega))
            go_wp2_with fail
            go_meet
            exact ⟨⟨_, rfl⟩, congrArg (Value.int .u64) (by have := HF.out; have := HP.out; omega), rfl⟩
          · go_wp2_with fail
            go_roundw
            case rel => exact ⟨p, t + a, congrArg (Value.int .u64) (by have := HP.out; omega), by go_num, HPA.out, by rw [← HQ1.out]; exact HPL.out, by omega, by have := HP.out; omega, by trivial⟩
            case measure => simp [intOf]; omega
        · have HF : Hid (x = Q1) := Lib.hid (by rw [← HQ1.out]; exact guess_is HAB.out HUY.out HQR.out HLE.out (by rw [HD.out]; omega))
          have d2 : decide ((4294967296 : Int) * (t : Int) + (c : Int) < (D : Int)) = false := decide_eq_false c2
          go_wp2_with fail
          go_meet
          exact ⟨⟨_, rfl⟩, congrArg (Value.int .u64) (by have := HF.out; omega), rfl⟩
  case rest =>
    obtain ⟨⟨z, rfl⟩, rfl, rfl⟩ := hcut
    go_upto_block 2 with fail
    go_cut [18, 16] from 102 to 120 (fun sq sr wx => (∃ z : Value, sr = z) ∧ sq = .int .u64 (Q0 : Int) ∧ w = wx)
    case first =>
      go_wp2_with fail
      go_loopw [18, 16] (fun sq sr wr => ∃ x t : Nat, sq = .int .u64 x ∧ sr = .int .u64 t ∧ x * a + t = R1 ∧ Q0 ≤ x ∧ t < 4294967296 ∧ x < 8589934592 ∧ w = wr) (fun sq _ _ => (intOf sq).toNat)
      case atStart => exact ⟨q0, r0, rfl, by rw [EPU0.out], HGF0.out.1, by rw [← HQ0.out]; exact HGF0.out.2, by omega, hq80, rfl⟩
      case round =>
        obtain ⟨x, t, rfl, rfl, hqr, hle, ht, hx8, rfl⟩ := hrel
        have HQR := Lib.hid hqr
        have HLE : Hid ((R1 * 4294967296 + d) / Y ≤ x) := Lib.hid (by rw [HQ0.out]; exact hle)
        clear hqr hle
        by_cases c1 : (4294967296 : Int) ≤ (x : Int)
        · obtain ⟨p, hp, hpa, hpl⟩ := guess_less HAB.out HRY.out HBD.out.2.2.2 HQR.out HLE.out (.inl (by omega))
          have HP := Lib.hid hp
          have HPA := Lib.hid hpa
          have HPL := Lib.hid hpl
          clear hp hpa hpl
          by_cases c3 : (4294967296 : Int) ≤ (t : Int) + (a : Int)
          · have HF : Hid (p = Q0) := Lib.hid (by rw [← HQ0.out]; exact guess_out HAB.out HBD.out.2.1 HRY.out HPA.out HPL.out (by omega))
            go_wp2_with fail
            go_meet
            exact ⟨⟨_, rfl⟩, congrArg (Value.int .u64) (by have := HF.out; have := HP.out; omega), rfl⟩
          · go_wp2_with fail
            go_roundw
            case rel => exact ⟨p, t + a, congrArg (Value.int .u64) (by have := HP.out; omega), by go_num, HPA.out, by rw [← HQ0.out]; exact HPL.out, by omega, by have := HP.out; omega, by trivial⟩
            case measure => simp [intOf]; omega
        · have hD : x * b < 18446744073709551616 := by
            have := Nat.mul_le_mul (show x ≤ 4294967295 by omega) (show b ≤ 4294967295 by omega)
            omega
          obtain ⟨D, hDe⟩ : ∃ D, x * b = D := ⟨_, rfl⟩
          have wD : IntKind.u64.wrap ((x : Int) * (b : Int)) = (D : Int) := wrap_nat (by rw [← hDe, Int.natCast_mul]) (by omega)
          have HD := Lib.hid hDe
          rw [hDe] at hD
          clear hDe
          have d1 : decide ((4294967296 : Int) ≤ (x : Int)) = false := decide_eq_false c1
          by_cases c2 : (4294967296 : Int) * (t : Int) + (d : Int) < (D : Int)
          · obtain ⟨p, hp, hpa, hpl⟩ := guess_less HAB.out HRY.out HBD.out.2.2.2 HQR.out HLE.out (.inr (by rw [HD.out]; omega))
            have HP := Lib.hid hp
            have HPA := Lib.hid hpa
            have HPL := Lib.hid hpl
            have hx1 : (1 : Int) ≤ (x : Int) := by omega
            clear hp hpa hpl
            by_cases c3 : (4294967296 : Int) ≤ (t : Int) + (a : Int)
            · have HF : Hid (p = Q0) := Lib.hid (by rw [← HQ0.out]; exact guess_out HAB.out HBD.out.2.1 HRY.out HPA.out HPL.out (by omega))
              go_wp2_with fail
              go_meet
              exact ⟨⟨_, rfl⟩, congrArg (Value.int .u64) (by have := HF.out; have := HP.out; omega), rfl⟩
            · go_wp2_with fail
              go_roundw
              case rel => exact ⟨p, t + a, congrArg (Value.int .u64) (by have := HP.out; omega), by go_num, HPA.out, by rw [← HQ0.out]; exact HPL.out, by omega, by have := HP.out; omega, by trivial⟩
              case measure => simp [intOf]; omega
          · have HF : Hid (x = Q0) := Lib.hid (by rw [← HQ0.out]; exact guess_is HAB.out HRY.out HQR.out HLE.out (by rw [HD.out]; omega))
            have d2 : decide ((4294967296 : Int) * (t : Int) + (d : Int) < (D : Int)) = false := decide_eq_false c2
            go_wp2_with fail
            go_meet
            exact ⟨⟨_, rfl⟩, congrArg (Value.int .u64) (by have := HF.out; omega), rfl⟩
    case rest =>
      obtain ⟨⟨z, rfl⟩, rfl, rfl⟩ := hcut
      go_wp2_with fail
      go_ret2
      exact ⟨ret2 (by have := HFQ.out; omega) (by rw [← HFR.out, Int.natCast_ediv, Int.natCast_pow]; rfl), rfl⟩
end Go.Proofs.YthfcfmnaiopogaaGreat

/- What the landed functions of layer 10 do: products, sums, differences, quotients. -/
namespace Go.Proofs.YthfcfmnaiopogaaGreat
open Go.RowKit

/-- a store into a block that is new to w -/
theorem Fr.set {w W : World} (h : Fr S0 w W) (a : Addr) (x : Value) (ha : w.heap.size ≤ a.block) : Fr S0 w (W.setCell a x) :=
  h.trans (Fr.setCell (fun k => k = a.block) W a x rfl) fun j hj e => by omega
/-- a wide number as a value -/
def nv (h l : Nat) : Value := .agg #[.int .u64 (h : Int), .int .u64 (l : Int)]
theorem wide_add {h l h2 l2 S C T D : Nat} (hS : (l + l2 + 0) % 18446744073709551616 = S) (hC : (l + l2 + 0) / 18446744073709551616 = C) (hT : (h + h2 + C) % 18446744073709551616 = T) (hD : (h + h2 + C) / 18446744073709551616 = D) :
    (h * 18446744073709551616 + l) + (h2 * 18446744073709551616 + l2) = D * 340282366920938463463374607431768211456 + T * 18446744073709551616 + S := by omega

set_option maxRecDepth 100000 in
set_option maxHeartbeats 400000 in
theorem mul_any (a b : Nat) (w : World) (ha : a < 18446744073709551616) (hb : b < 18446744073709551616) :
    Calls Tryz.prog 121 #[.int .u64 (a : Int), .int .u64 (b : Int)] w fun e w' => e = .returned (nv (a * b / 18446744073709551616) (a * b % 18446744073709551616)) ∧ Fr S0 w w' := by
  have HM := Lib.hid (fun W => bits_Mul64 a b ha hb W)
  unfold nv
  obtain ⟨H, hH⟩ : ∃ H, a * b / 18446744073709551616 = H := ⟨_, rfl⟩
  obtain ⟨L, hL⟩ : ∃ L, a * b % 18446744073709551616 = L := ⟨_, rfl⟩
  rw [hH, hL] at HM ⊢
  clear hH hL
  go_enter Tryz.func121, Tryz.ntmps121
  go_wp2_with fail
  refine (HM.out _).mono ?_
  rintro e w' ⟨rfl, rfl⟩
  go_wp2
  exact bodyPost_ret (v := .agg #[.int .u64 (H : Int), .int .u64 (L : Int)]) (by simp [results, Tryz.results121, go_sem]) rfl ⟨rfl, Fr.alloc _ _ _⟩

set_option maxRecDepth 100000 in
set_option maxHeartbeats 400000 in
theorem add_any (h l h2 l2 S C T D : Nat) (w : World) (hS : (l + l2 + 0) % 18446744073709551616 = S) (hC : (l + l2 + 0) / 18446744073709551616 = C) (hT : (h + h2 + C) % 18446744073709551616 = T) (hD : (h + h2 + C) / 18446744073709551616 = D)
    (hl : l < 18446744073709551616) (hl2 : l2 < 18446744073709551616) :
    Calls Tryz.prog 129 #[.agg #[.int .u64 (h : Int), .int .u64 (l : Int)], .agg #[.int .u64 (h2 : Int), .int .u64 (l2 : Int)]] w fun e w' =>
      e = .returned (.tuple #[if D = 0 then nv T S else nv 0 0, .int .i64 (if D = 0 then 0 else 100)]) ∧ Fr S0 w w' := by
  have h1 : ∀ W, (callFunc 128 #[.int .u64 (l : Int), .int .u64 (l2 : Int), .int .u64 0]).run Tryz.prog W = .ok (.value (.tuple #[.int .u64 (S : Int), .int .u64 (C : Int)])) W := fun W => by
    have := run_add l l2 0 (by omega) W
    rw [hS, hC] at this
    exact this
  have h2 : ∀ W, (callFunc 128 #[.int .u64 (h : Int), .int .u64 (h2 : Int), .int .u64 (C : Int)]).run Tryz.prog W = .ok (.value (.tuple #[.int .u64 (T : Int), .int .u64 (D : Int)])) W := fun W => by
    have := run_add h h2 C (by omega) W
    rw [hT, hD] at this
    exact this
  clear hS hC hT hD hl hl2
  by_cases d : D = 0
  · subst d
    go_enter Tryz.func129, Tryz.ntmps129
    go_wp2
    exact bodyPost_ret (v := .tuple #[.agg #[.int .u64 (T : Int), .int .u64 (S : Int)], .int .i64 0]) (by simp [results, Tryz.results129, go_sem]) rfl ⟨rfl, ((Fr.alloc _ _ _).trans0 (Fr.alloc _ _ _)).trans0 (Fr.alloc _ _ _)⟩
  · have d2 : ((D : Int) != 0) = true := by rw [bne_iff_ne]; omega
    rw [if_neg d, if_neg d]
    go_enter Tryz.func129, Tryz.ntmps129
    go_wp2
    exact bodyPost_ret (v := .tuple #[.agg #[.int .u64 0, .int .u64 0], .int .i64 100]) (by simp [results, Tryz.results129, go_sem]) rfl ⟨rfl, ((Fr.alloc _ _ _).trans0 (Fr.alloc _ _ _)).trans0 (Fr.alloc _ _ _)⟩

/-- -1, 0 or 1 -/
def cmpI (x y : Nat) : Int := if x = y then 0 else if x < y then -1 else 1
def cmpW (h l h2 l2 : Nat) : Int := cmpI (h * 18446744073709551616 + l) (h2 * 18446744073709551616 + l2)

set_option maxRecDepth 100000 in
set_option maxHeartbeats 400000 in
theorem div_zero (h l : Nat) (w : World) :
    Calls Tryz.prog 122 #[.agg #[.int .u64 (h : Int), .int .u64 (l : Int)], .int .u64 0] w fun e w' => e = .returned (.tuple #[nv 0 0, .int .u64 0, .int .i64 100]) ∧ Fr S0 w w' := by
  go_enter Tryz.func122, Tryz.ntmps122
  go_wp2
  exact bodyPost_ret (v := .tuple #[.agg #[.int .u64 0, .int .u64 0], .int .u64 0, .int .i64 100]) (by simp [results, Tryz.results122, go_sem]) rfl ⟨rfl, (Fr.alloc _ _ _).trans0 (Fr.alloc _ _ _)⟩

theorem div64_all (hi lo y : Nat) (w : World) (hl : lo < 18446744073709551616) (hy : hi < y) (h64 : y < 18446744073709551616) :
    Calls Tryz.prog 150 #[.int .u64 (hi : Int), .int .u64 (lo : Int), .int .u64 (y : Int)] w fun e w' =>
      e = .returned (.tuple #[.int .u64 (((hi * 18446744073709551616 + lo) / y : Nat) : Int), .int .u64 (((hi * 18446744073709551616 + lo) % y : Nat) : Int)]) ∧ ∃ n, w' = w.drewN n := by
  by_cases h0 : hi = 0
  · subst h0
    rw [Nat.zero_mul, Nat.zero_add]
    exact div64_low lo y w hl hy h64
  · exact (div64_any hi lo y w (by omega) hl hy h64).mono fun e w' h => ⟨h.1, 0, h.2.symm⟩

set_option maxRecDepth 100000 in
set_option maxHeartbeats 400000 in
theorem div_any (h l d : Nat) (w : World) (hd : 0 < d) (hh : h < 18446744073709551616) (hl : l < 18446744073709551616) (h64 : d < 18446744073709551616) :
    Calls Tryz.prog 122 #[.agg #[.int .u64 (h : Int), .int .u64 (l : Int)], .int .u64 (d : Int)] w fun e w' =>
      e = .returned (.tuple #[nv (h / d) ((h % d * 18446744073709551616 + l) / d), .int .u64 (((h % d * 18446744073709551616 + l) % d : Nat) : Int), .int .i64 0]) ∧ Fr S0 w w' := by
  have hd1 : (1 : Int) ≤ (d : Int) := by omega
  have hd2 : ((d : Int) == 0) = false := by rw [beq_eq_false_iff_ne]; omega
  have wq : IntKind.u64.wrap ((h : Int) / (d : Int)) = ((h / d : Nat) : Int) := wrap_nat (Int.natCast_ediv _ _).symm (Nat.lt_of_le_of_lt (Nat.div_le_self _ _) hh)
  have wr : (h : Int) % (d : Int) = ((h % d : Nat) : Int) := (Int.natCast_emod _ _).symm
  have HD := Lib.hid (fun W => div64_all (h % d) l d W hl (Nat.mod_lt _ hd) h64)
  obtain ⟨q, hq⟩ : ∃ q, h / d = q := ⟨_, rfl⟩
  obtain ⟨r, hr⟩ : ∃ r, h % d = r := ⟨_, rfl⟩
  rw [hq] at wq ⊢
  rw [hr] at wr HD ⊢
  obtain ⟨Q, hQ⟩ : ∃ Q, (r * 18446744073709551616 + l) / d = Q := ⟨_, rfl⟩
  obtain ⟨R, hR⟩ : ∃ R, (r * 18446744073709551616 + l) % d = R := ⟨_, rfl⟩
  rw [hQ, hR] at HD ⊢
  clear hq hr hQ hR
  go_enter Tryz.func122, Tryz.ntmps122
  go_wp2
  go_quiet (fail)
  go_wp2_with fail
  refine (HD.out _).mono ?_
  rintro e w' ⟨rfl, n, rfl⟩
  clear HD
  go_wp2
  exact bodyPost_ret (v := .tuple #[.agg #[.int .u64 (q : Int), .int .u64 (Q : Int)], .int .u64 (R : Int), .int .i64 0]) (by simp [results, Tryz.results122, go_sem]) rfl ⟨rfl, (((((Fr.alloc S0 _ _).trans0 (Fr.alloc _ _ _)).trans0 (Fr.drewN _ _ _)).set _ _ (by simp)).set _ _ (by simp))⟩

/-- the quotient of a wide number by words -/
theorem div_words {h l d X : Nat} (hX : h * 18446744073709551616 + l = X) (hd : 0 < d) (hl : l < 18446744073709551616) : h / d * 18446744073709551616 + (h % d * 18446744073709551616 + l) / d = X / d ∧ (h % d * 18446744073709551616 + l) % d = X % d ∧ (h % d * 18446744073709551616 + l) / d < 18446744073709551616 := by
  have e := Nat.div_add_mod h d
  have hr : h % d < d := Nat.mod_lt _ hd
  generalize h / d = q at e ⊢
  generalize h % d = r at e hr ⊢
  have e2 : X = d * (q * 18446744073709551616) + (r * 18446744073709551616 + l) := by
    rw [← hX, ← e, Nat.add_mul, Nat.mul_assoc, Nat.add_assoc]
  refine ⟨by rw [e2, Nat.mul_add_div hd], by rw [e2, Nat.mul_add_mod], ?_⟩
  rw [Nat.div_lt_iff_lt_mul hd]
  have := Nat.mul_le_mul_right 18446744073709551616 (show r + 1 ≤ d by omega)
  rw [Nat.mul_comm _ d]
  omega

def DivOf (h l : Nat) : Value := .func (.func 122) #[.agg #[.int .u64 (h : Int), .int .u64 (l : Int)]] #[]

set_option maxRecDepth 100000 in
set_option maxHeartbeats 400000 in
theorem narrow_no (h l d : Nat) (w : World) (hh : h < 18446744073709551616) (hl : l < 18446744073709551616) (h64 : d < 18446744073709551616) (hno : d = 0 ∨ d ≤ h) :
    Calls Tryz.prog 120 #[.func (.func 122) #[.agg #[.int .u64 (h : Int), .int .u64 (l : Int)]] #[], .int .u64 (d : Int)] w fun e w' =>
      e = .returned (.tuple #[.int .u64 0, .int .u64 0, .int .i64 100]) ∧ Fr S0 w w' := by
  by_cases h0 : d = 0
  · subst h0
    have HD := Lib.hid (fun W => div_zero h l W)
    go_enter Tryz.func120, Tryz.ntmps120
    go_wp2_with fail
    refine (HD.out _).mono ?_
    rintro e w1 ⟨rfl, f1⟩
    unfold nv
    go_wp2
    go_ret3
    exact ⟨rfl, f1.trans0 (Fr.alloc _ _ _)⟩
  · have HD := Lib.hid (fun W => div_any h l d W (by omega) hh hl h64)
    have hq : 1 ≤ h / d := by rw [Nat.le_div_iff_mul_le (by omega)]; omega
    obtain ⟨q, hqe⟩ : ∃ q, h / d = q := ⟨_, rfl⟩
    obtain ⟨Q, hQ⟩ : ∃ Q, (h % d * 18446744073709551616 + l) / d = Q := ⟨_, rfl⟩
    obtain ⟨R, hR⟩ : ∃ R, (h % d * 18446744073709551616 + l) % d = R := ⟨_, rfl⟩
    rw [hqe, hQ, hR] at HD
    rw [hqe] at hq
    have q2 : ((q : Int) != 0) = true := by rw [bne_iff_ne]; omega
    clear hqe hQ hR h0 hno
    go_enter Tryz.func120, Tryz.ntmps120
    go_wp2_with fail
    refine (HD.out _).mono ?_
    rintro e w1 ⟨rfl, f1⟩
    unfold nv
    go_wp2
    go_ret3
    exact ⟨rfl, f1.trans0 (Fr.alloc _ _ _)⟩

set_option maxRecDepth 100000 in
set_option maxHeartbeats 400000 in
theorem narrow_yes (h l d : Nat) (w : World) (hl : l < 18446744073709551616) (h64 : d < 18446744073709551616) (hd : h < d) :
    Calls Tryz.prog 120 #[.func (.func 122) #[.agg #[.int .u64 (h : Int), .int .u64 (l : Int)]] #[], .int .u64 (d : Int)] w fun e w' =>
      e = .returned (.tuple #[.int .u64 (((h * 18446744073709551616 + l) / d : Nat) : Int), .int .u64 (((h * 18446744073709551616 + l) % d : Nat) : Int), .int .i64 0]) ∧ Fr S0 w w' := by
  have HD := Lib.hid (fun W => div_any h l d W (by omega) (by omega) hl h64)
  have hq : h / d = 0 := Nat.div_eq_of_lt hd
  have hr : h % d = h := Nat.mod_eq_of_lt hd
  rw [hq, hr] at HD
  obtain ⟨Q, hQ⟩ : ∃ Q, (h * 18446744073709551616 + l) / d = Q := ⟨_, rfl⟩
  obtain ⟨R, hR⟩ : ∃ R, (h * 18446744073709551616 + l) % d = R := ⟨_, rfl⟩
  rw [hQ, hR] at HD ⊢
  clear hQ hR hq hr
  go_enter Tryz.func120, Tryz.ntmps120
  go_wp2_with fail
  refine (HD.out _).mono ?_
  rintro e w1 ⟨rfl, f1⟩
  unfold nv
  go_wp2
  go_ret3
  exact ⟨rfl, f1.trans0 (Fr.alloc _ _ _)⟩

theorem nv_eq (h l : Nat) : nv h l = .agg #[.int .u64 (h : Int), .int .u64 (l : Int)] := rfl
theorem makeF : ∀ (fn : Fn) (first cap : Array Value) (w : World), (Instr.makeFunc fn first cap).run Tryz.prog w = .ok (.func fn first cap) w := fun _ _ _ _ => rfl
theorem prod_lt {a b : Nat} (ha : a < 18446744073709551616) (hb : b < 18446744073709551616) : a * b / 18446744073709551616 < 18446744073709551616 := by
  have : a * b ≤ 18446744073709551615 * 18446744073709551615 := Nat.mul_le_mul (by omega) (by omega)
  omega
theorem quo_big (x d : Nat) (hd : 0 < d) : 18446744073709551616 ≤ x / d ↔ d ≤ x / 18446744073709551616 := by
  rw [Nat.le_div_iff_mul_le hd, Nat.le_div_iff_mul_le (by decide), Nat.mul_comm]

set_option maxRecDepth 100000 in
set_option maxHeartbeats 400000 in
theorem muldiv_no (a b d : Nat) (w : World) (ha : a < 18446744073709551616) (hb : b < 18446744073709551616) (h64 : d < 18446744073709551616) (hno : d = 0 ∨ 18446744073709551616 ≤ a * b / d) :
    Calls Tryz.prog 87 #[.int .u64 (a : Int), .int .u64 (b : Int), .int .u64 (d : Int)] w fun e w' => e = .returned (.tuple #[.int .u64 0, .int .u64 0, .int .i64 100]) ∧ Fr S0 w w' := by
  have hmf := makeF
  have HM := Lib.hid (fun W => mul_any a b W ha hb)
  have hh := prod_lt ha hb
  have hl := mod_word (a * b)
  have hn : d = 0 ∨ d ≤ a * b / 18446744073709551616 := by
    by_cases h0 : d = 0
    · exact .inl h0
    · exact .inr ((quo_big _ _ (by omega)).1 (hno.resolve_left h0))
  obtain ⟨H, hH⟩ : ∃ H, a * b / 18446744073709551616 = H := ⟨_, rfl⟩
  obtain ⟨L, hL⟩ : ∃ L, a * b % 18446744073709551616 = L := ⟨_, rfl⟩
  rw [hH, hL] at HM
  rw [hH] at hh hn
  rw [hL] at hl
  have HN := Lib.hid (fun W => narrow_no H L d W hh hl h64 hn)
  clear hH hL hno hn hh hl
  go_enter Tryz.func87, Tryz.ntmps87
  go_wp2_with fail
  refine (HM.out _).mono ?_
  rintro e w1 ⟨rfl, f1⟩
  rw [nv_eq]
  go_wp2_with fail
  refine (HN.out _).mono ?_
  rintro e w2 ⟨rfl, f2⟩
  go_wp2
  go_ret3
  exact ⟨rfl, f1.trans0 f2⟩

set_option maxRecDepth 100000 in
set_option maxHeartbeats 400000 in
theorem muldiv_yes (a b d : Nat) (w : World) (ha : a < 18446744073709551616) (hb : b < 18446744073709551616) (h64 : d < 18446744073709551616) (hd : 0 < d) (hy : a * b / d < 18446744073709551616) :
    Calls Tryz.prog 87 #[.int .u64 (a : Int), .int .u64 (b : Int), .int .u64 (d : Int)] w fun e w' =>
      e = .returned (.tuple #[.int .u64 ((a * b / d : Nat) : Int), .int .u64 ((a * b % d : Nat) : Int), .int .i64 0]) ∧ Fr S0 w w' := by
  have hmf := makeF
  have HM := Lib.hid (fun W => mul_any a b W ha hb)
  have hl := mod_word (a * b)
  have hlt : a * b / 18446744073709551616 < d := by
    by_cases h : a * b / 18446744073709551616 < d
    · exact h
    · exact absurd ((quo_big (a * b) d hd).2 (by omega)) (by omega)
  have hX : a * b / 18446744073709551616 * 18446744073709551616 + a * b % 18446744073709551616 = a * b := Nat.div_add_mod' _ _
  obtain ⟨H, hH⟩ : ∃ H, a * b / 18446744073709551616 = H := ⟨_, rfl⟩
  obtain ⟨L, hL⟩ : ∃ L, a * b % 18446744073709551616 = L := ⟨_, rfl⟩
  rw [hH, hL] at HM hX
  rw [hH] at hlt
  rw [hL] at hl
  have HN := Lib.hid (fun W => narrow_yes H L d W hl h64 hlt)
  rw [hX] at HN
  obtain ⟨Q, hQ⟩ : ∃ Q, a * b / d = Q := ⟨_, rfl⟩
  obtain ⟨R, hR⟩ : ∃ R, a * b % d = R := ⟨_, rfl⟩
  rw [hQ, hR] at HN ⊢
  clear hH hL hy hlt hl hX hQ hR
  go_enter Tryz.func87, Tryz.ntmps87
  go_wp2_with fail
  refine (HM.out _).mono ?_
  rintro e w1 ⟨rfl, f1⟩
  rw [nv_eq]
  go_wp2_with fail
  refine (HN.out _).mono ?_
  rintro e w2 ⟨rfl, f2⟩
  go_wp2
  go_ret3
  exact ⟨rfl, f1.trans0 f2⟩

/-- the least that isn't below, or none -/
def ceilR (a b d : Nat) : Option Nat := if d = 0 ∨ 18446744073709551616 ≤ a * b / d then none else if a * b % d = 0 then some (a * b / d) else if a * b / d = 18446744073709551615 then none else some (a * b / d + 1)
def optV (o : Option Nat) : Value := .tuple #[.int .u64 (o.getD 0 : Nat), .int .i64 (if o.isSome then 0 else 100)]

set_option maxRecDepth 100000 in
set_option maxHeartbeats 1000000 in
theorem ceil_any (a b d : Nat) (w : World) (ha : a < 18446744073709551616) (hb : b < 18446744073709551616) (h64 : d < 18446744073709551616) :
    Calls Tryz.prog 165 #[.int .u64 (a : Int), .int .u64 (b : Int), .int .u64 (d : Int)] w fun e w' => e = .returned (optV (ceilR a b d)) ∧ Fr S0 w w' := by
  unfold optV ceilR
  by_cases hno : d = 0 ∨ 18446744073709551616 ≤ a * b / d
  · rw [if_pos hno]
    have HM := Lib.hid (fun W => muldiv_no a b d W ha hb h64 hno)
    clear hno
    go_enter Tryz.func165, Tryz.ntmps165
    go_wp2_with fail
    refine (HM.out _).mono ?_
    rintro e w1 ⟨rfl, f1⟩
    go_wp2
    go_ret2
    exact ⟨rfl, f1⟩
  · rw [if_neg hno]
    have HM := Lib.hid (fun W => muldiv_yes a b d W ha hb h64 (by omega) (by omega))
    have hq : a * b / d < 18446744073709551616 := by omega
    obtain ⟨Q, hQ⟩ : ∃ Q, a * b / d = Q := ⟨_, rfl⟩
    obtain ⟨R, hR⟩ : ∃ R, a * b % d = R := ⟨_, rfl⟩
    rw [hQ, hR] at HM ⊢
    rw [hQ] at hq
    clear hno hQ hR
    by_cases r0 : R = 0
    · rw [if_pos r0]
      subst r0
      go_enter Tryz.func165, Tryz.ntmps165
      go_wp2_with fail
      refine (HM.out _).mono ?_
      rintro e w1 ⟨rfl, f1⟩
      go_wp2
      go_ret2
      exact ⟨rfl, f1⟩
    · rw [if_neg r0]
      have r1 : ((R : Int) == 0) = false := by rw [beq_eq_false_iff_ne]; omega
      by_cases q0 : Q = 18446744073709551615
      · rw [if_pos q0]
        have q1 : ((Q : Int) == 18446744073709551615) = true := by rw [beq_iff_eq]; omega
        clear q0
        go_enter Tryz.func165, Tryz.ntmps165
        go_wp2_with fail
        refine (HM.out _).mono ?_
        rintro e w1 ⟨rfl, f1⟩
        go_wp2
        go_ret2
        exact ⟨rfl, f1⟩
      · rw [if_neg q0]
        have q1 : ((Q : Int) == 18446744073709551615) = false := by rw [beq_eq_false_iff_ne]; omega
        have q2 : Q < 18446744073709551615 := by omega
        clear q0
        go_enter Tryz.func165, Tryz.ntmps165
        go_wp2_with fail
        refine (HM.out _).mono ?_
        rintro e w1 ⟨rfl, f1⟩
        go_wp2
        go_ret2
        exact ⟨rfl, f1⟩

/-- numbers with a sign, 2^63 above -/
def lft (v : Int) : Nat := (v + 9223372036854775808).toNat
theorem xor_top (n : Nat) (hn : n < 18446744073709551616) : n ^^^ 9223372036854775808 = (n + 9223372036854775808) % 18446744073709551616 := by
  have e1 : n = n / 9223372036854775808 * 9223372036854775808 + n % 9223372036854775808 := by omega
  have hm : n % 9223372036854775808 < 2 ^ 63 := Nat.mod_lt _ (by decide)
  have key : ∀ q m : Nat, m < 2 ^ 63 → (q * 9223372036854775808 + m) ^^^ 9223372036854775808 = (q ^^^ 1) * 9223372036854775808 + m := by
    intro q m hm
    apply Nat.eq_of_testBit_eq
    intro i
    rw [Nat.testBit_xor, show q * 9223372036854775808 = 2 ^ 63 * q by omega, show (q ^^^ 1) * 9223372036854775808 = 2 ^ 63 * (q ^^^ 1) by omega, Nat.testBit_two_pow_mul_add _ hm, Nat.testBit_two_pow_mul_add _ hm, show 9223372036854775808 = 2 ^ 63 * 1 by decide, Nat.testBit_two_pow_mul]
    by_cases hi : i < 63
    · simp [hi, show ¬ 63 ≤ i by omega]
    · simp [hi, show 63 ≤ i by omega]
  have hq : n / 9223372036854775808 = 0 ∨ n / 9223372036854775808 = 1 := by omega
  rw [e1, key _ _ hm]
  rcases hq with hq | hq <;> rw [hq] <;> simp <;> omega

set_option maxRecDepth 100000 in
set_option maxHeartbeats 400000 in
theorem lift_any (v : Int) (w : World) (h0 : -9223372036854775808 ≤ v) (h1 : v ≤ 9223372036854775807) :
    Calls Tryz.prog 130 #[.int .i64 v] w fun e w' => e = .returned (.int .u64 (lft v : Nat)) ∧ w = w' := by
  have hx : bits .xor .u64 (IntKind.u64.wrap v) 9223372036854775808 = ((lft v : Nat) : Int) := by
    obtain ⟨n, hn⟩ : ∃ n : Nat, IntKind.u64.wrap v = (n : Int) := ⟨(IntKind.u64.wrap v).toNat, by rw [IntKind.wrap_u64]; omega⟩
    have hn2 := hn
    rw [IntKind.wrap_u64] at hn2
    rw [hn]
    have := u64_xor_nat n 9223372036854775808 (by omega) (by decide)
    rw [xor_top n (by omega)] at this
    refine this.trans ?_
    unfold lft
    omega
  have HX := Lib.hid hx
  clear hx
  go_enter Tryz.func130, Tryz.ntmps130
  go_wp2
  go_ret
  exact ⟨congrArg (fun z => Ending.returned (Value.int .u64 z)) HX.out, rfl⟩

set_option maxRecDepth 100000 in
set_option maxHeartbeats 400000 in
theorem lower_any (n : Nat) (w : World) (hn : n < 18446744073709551616) :
    Calls Tryz.prog 131 #[.int .u64 (n : Int)] w fun e w' => e = .returned (.int .i64 ((n : Int) - 9223372036854775808)) ∧ w = w' := by
  have hx : bits .xor .u64 (n : Int) 9223372036854775808 = (((n + 9223372036854775808) % 18446744073709551616 : Nat) : Int) := by
    have := u64_xor_nat n 9223372036854775808 hn (by decide)
    rw [xor_top n hn] at this
    exact this
  have HW : Hid (wrap64 (((n + 9223372036854775808) % 18446744073709551616 : Nat) : Int) = (n : Int) - 9223372036854775808) := Lib.hid (by unfold wrap64; omega)
  obtain ⟨X, hX⟩ : ∃ X, (n + 9223372036854775808) % 18446744073709551616 = X := ⟨_, rfl⟩
  rw [hX] at hx HW
  clear hX
  go_enter Tryz.func131, Tryz.ntmps131
  go_wp2
  go_ret
  exact ⟨congrArg (fun z => Ending.returned (Value.int .i64 z)) HW.out, rfl⟩
end Go.Proofs.YthfcfmnaiopogaaGreat

/- Sums, differences, products and quotients by digits. -/
namespace Go.Proofs.YthfcfmnaiopogaaGreat

/-- a number's digit -/
def dg (n i : Nat) : Nat := n / 65536 ^ i % 65536
theorem dg_lt (n i : Nat) : dg n i < 65536 := Nat.mod_lt _ (by decide)
theorem digs_snoc : ∀ k n, digs (k + 1) n = digs k n ++ [dg n k]
  | 0, n => by simp [digs, dg]
  | k + 1, n => by
    rw [digs, digs_snoc k (n / 65536)]
    conv => rhs; rw [digs]
    rw [List.cons_append]
    congr 3
    unfold dg
    rw [Nat.div_div_eq_div_mul, Nat.pow_succ, Nat.mul_comm 65536]
theorem digs_app : ∀ a b n, digs (a + b) n = digs a n ++ digs b (n / 65536 ^ a)
  | 0, b, n => by simp [digs]
  | a + 1, b, n => by
    rw [show a + 1 + b = (a + b) + 1 by omega, digs, digs_app a b, digs, List.cons_append, Nat.div_div_eq_div_mul, Nat.pow_succ, Nat.mul_comm 65536]
theorem digs_wide (h l : Nat) (hl : l < 18446744073709551616) : digs 4 l ++ digs 4 h = digs 8 (h * 18446744073709551616 + l) := by
  have e : (65536 : Nat) ^ 4 = 18446744073709551616 := by decide
  rw [show (8 : Nat) = 4 + 4 from rfl, digs_app, e, show (h * 18446744073709551616 + l) / 18446744073709551616 = h by omega, digs_mod 4 (h * 18446744073709551616 + l) l (by rw [e]; omega)]
theorem mod_next (n k : Nat) : n % 65536 ^ (k + 1) = n % 65536 ^ k + 65536 ^ k * dg n k := by
  rw [Nat.pow_succ, Nat.mod_mul]; rfl
theorem div_next (n k : Nat) : n / 65536 ^ k = 65536 * (n / 65536 ^ (k + 1)) + dg n k := by
  unfold dg
  rw [Nat.pow_succ, ← Nat.div_div_eq_div_mul]
  omega

/-- what is carried to digit k of a sum -/
def cy (x y k : Nat) : Nat := (x % 65536 ^ k + y % 65536 ^ k) / 65536 ^ k
theorem cy_zero (x y : Nat) : cy x y 0 = 0 := by simp [cy, Nat.mod_one]
theorem cy_le (x y k : Nat) : cy x y k ≤ 1 := by
  have p : 0 < 65536 ^ k := Nat.pow_pos (by decide)
  have h1 := Nat.mod_lt x p
  have h2 := Nat.mod_lt y p
  unfold cy
  have : (x % 65536 ^ k + y % 65536 ^ k) / 65536 ^ k < 2 := by rw [Nat.div_lt_iff_lt_mul p]; omega
  omega
theorem cy_next (x y k : Nat) : (dg x k + dg y k + cy x y k) % 65536 = dg (x + y) k ∧ (dg x k + dg y k + cy x y k) / 65536 = cy x y (k + 1) := by
  have p : 0 < 65536 ^ k := Nat.pow_pos (by decide)
  constructor
  · have e : x + y = 65536 ^ k * (x / 65536 ^ k + y / 65536 ^ k) + (x % 65536 ^ k + y % 65536 ^ k) := by
      have h1 := Nat.div_add_mod x (65536 ^ k)
      have h2 := Nat.div_add_mod y (65536 ^ k)
      rw [Nat.mul_add]; omega
    have e2 : (x + y) / 65536 ^ k = x / 65536 ^ k + y / 65536 ^ k + cy x y k := by
      rw [e, Nat.mul_add_div p]; rfl
    unfold dg
    rw [e2]
    omega
  · have e : x % 65536 ^ (k + 1) + y % 65536 ^ (k + 1) = 65536 ^ k * (dg x k + dg y k) + (x % 65536 ^ k + y % 65536 ^ k) := by
      rw [mod_next, mod_next, Nat.mul_add]; omega
    conv => rhs; unfold cy
    rw [e, Nat.pow_succ, ← Nat.div_div_eq_div_mul, Nat.mul_add_div p]
    rfl
theorem cy_end (x y : Nat) (hx : x < 340282366920938463463374607431768211456) (hy : y < 340282366920938463463374607431768211456) : cy x y 8 = 0 ↔ x + y < 340282366920938463463374607431768211456 := by
  have e : (65536 : Nat) ^ 8 = 340282366920938463463374607431768211456 := by decide
  unfold cy
  rw [e, Nat.mod_eq_of_lt hx, Nat.mod_eq_of_lt hy]
  omega
theorem sub_next (d y k : Nat) : (dg (d + y) k + 65536 - dg y k - cy d y k) % 65536 = dg d k ∧ 1 - (dg (d + y) k + 65536 - dg y k - cy d y k) / 65536 = cy d y (k + 1) := by
  obtain ⟨h1, h2⟩ := cy_next d y k
  have a := dg_lt d k
  have b := dg_lt y k
  have c := cy_le d y k
  rw [← h1, ← h2]
  omega
theorem cmp_more {x y k : Nat} (he : x / 65536 ^ (k + 1) = y / 65536 ^ (k + 1)) (h : dg x k < dg y k) : x < y := by
  have h1 := div_next x k
  have h2 := div_next y k
  have p : 0 < 65536 ^ k := Nat.pow_pos (by decide)
  refine Nat.lt_of_not_le fun hle => ?_
  have := Nat.div_le_div_right (c := 65536 ^ k) hle
  omega
theorem cmp_same {x y k : Nat} (he : x / 65536 ^ (k + 1) = y / 65536 ^ (k + 1)) (h : dg x k = dg y k) : x / 65536 ^ k = y / 65536 ^ k := by
  rw [div_next x k, div_next y k, he, h]
/-- four digits from one on -/
theorem four_next (x f j : Nat) : x / 65536 ^ f % 65536 ^ (j + 1) = 65536 * (x / 65536 ^ (f + 1) % 65536 ^ j) + dg x f := by
  have e : x / 65536 ^ (f + 1) = x / 65536 ^ f / 65536 := by rw [Nat.pow_succ, Nat.div_div_eq_div_mul]
  rw [e, Nat.pow_succ, Nat.mul_comm (65536 ^ j), Nat.mod_mul]
  unfold dg
  omega

/-- a digit's step within a product -/
theorem mul_step (l : List Nat) (j o n : Nat) (hj : j < l.length) (ho : l.getD j 0 = o) : val (l.set j (n % 65536)) + n / 65536 * 65536 ^ (j + 1) + o * 65536 ^ j = val l + n * 65536 ^ j := by
  have h := val_set l j (n % 65536) hj
  rw [ho] at h
  have e : n * 65536 ^ j = n / 65536 * 65536 ^ (j + 1) + n % 65536 * 65536 ^ j := by
    rw [Nat.pow_succ, Nat.mul_comm (65536 ^ j), ← Nat.mul_assoc, ← Nat.add_mul, Nat.mul_comm (n / 65536), Nat.div_add_mod]
  omega

/-- a quotient's bit -/
theorem bit_at (x i : Nat) : dg x (i / 16) / 2 ^ (i % 16) % 2 = x / 2 ^ i % 2 := by
  unfold dg
  have e : (65536 : Nat) ^ (i / 16) * 2 ^ (i % 16) = 2 ^ i := by
    rw [show (65536 : Nat) = 2 ^ 16 by decide, ← Nat.pow_mul, ← Nat.pow_add, Nat.div_add_mod]
  rw [← e, ← Nat.div_div_eq_div_mul]
  have hr : i % 16 < 16 := Nat.mod_lt _ (by decide)
  generalize x / 65536 ^ (i / 16) = y
  generalize i % 16 = r at hr
  have e2 : 65536 = 2 ^ r * 2 ^ (16 - r) := by rw [← Nat.pow_add, show r + (16 - r) = 16 by omega]
  rw [e2, Nat.mod_mul_right_div_self, show 16 - r = (15 - r) + 1 by omega, Nat.pow_succ, Nat.mul_comm, Nat.mod_mul_right_mod]
theorem quo_step {x d i Q L : Nat} (hQ : x / 2 ^ (i + 1) / d = Q) (hL : x / 2 ^ (i + 1) % d = L) (hd : 0 < d) :
    x / 2 ^ i / d = 2 * Q + (2 * L + x / 2 ^ i % 2) / d ∧ x / 2 ^ i % d = (2 * L + x / 2 ^ i % 2) % d ∧ (2 * L + x / 2 ^ i % 2) / d ≤ 1 := by
  have e : x / 2 ^ i = d * (2 * Q) + (2 * L + x / 2 ^ i % 2) := by
    have h1 : x / 2 ^ (i + 1) = x / 2 ^ i / 2 := by rw [Nat.pow_succ, Nat.div_div_eq_div_mul]
    have h2 := Nat.div_add_mod (x / 2 ^ (i + 1)) d
    rw [hQ, hL, h1] at h2
    have h3 := Nat.div_add_mod (x / 2 ^ i) 2
    rw [Nat.mul_left_comm]
    generalize d * Q = A at h2 ⊢
    omega
  have hL2 : L < d := by rw [← hL]; exact Nat.mod_lt _ hd
  refine ⟨?_, ?_, ?_⟩
  · conv => lhs; rw [e, Nat.mul_add_div hd]
  · conv => lhs; rw [e, Nat.mul_add_mod]
  · have : (2 * L + x / 2 ^ i % 2) / d < 2 := by rw [Nat.div_lt_iff_lt_mul hd]; omega
    omega
/-- a quotient's digit has room for the bit -/
theorem digit_room (Q i : Nat) : dg (Q * 2 ^ (i + 1)) (i / 16) + 2 ^ (i % 16) < 65536 := by
  unfold dg
  have e : (65536 : Nat) ^ (i / 16) * 2 ^ (i % 16) = 2 ^ i := by
    rw [show (65536 : Nat) = 2 ^ 16 by decide, ← Nat.pow_mul, ← Nat.pow_add, Nat.div_add_mod]
  have hr : i % 16 < 16 := Nat.mod_lt _ (by decide)
  have p : 0 < (65536 : Nat) ^ (i / 16) := Nat.pow_pos (by decide)
  rw [Nat.pow_succ, ← e, show Q * (65536 ^ (i / 16) * 2 ^ (i % 16) * 2) = 65536 ^ (i / 16) * (Q * (2 ^ (i % 16) * 2)) by simp [Nat.mul_comm, Nat.mul_assoc], Nat.mul_div_cancel_left _ p]
  generalize i % 16 = r at hr ⊢
  have e2 : 65536 = 2 ^ r * 2 * 2 ^ (15 - r) := by rw [← Nat.pow_succ, ← Nat.pow_add, show r + 1 + (15 - r) = 16 by omega]
  have p2 : 0 < 2 ^ r := Nat.pow_pos (by decide)
  have h3 : Q * (2 ^ r * 2) % 65536 = 2 ^ r * 2 * (Q % 2 ^ (15 - r)) := by
    rw [e2, Nat.mul_comm Q, Nat.mul_mod_mul_left]
  rw [h3]
  have h4 : Q % 2 ^ (15 - r) + 1 ≤ 2 ^ (15 - r) := Nat.mod_lt _ (Nat.pow_pos (by decide))
  have h5 := Nat.mul_le_mul_left (2 ^ r * 2) h4
  rw [← e2, Nat.mul_add] at h5
  omega
theorem digs_bit (Q i : Nat) (hi : i < 128) : (digs 8 (Q * 2 ^ (i + 1))).set (i / 16) (dg (Q * 2 ^ (i + 1)) (i / 16) + 2 ^ (i % 16)) = digs 8 ((2 * Q + 1) * 2 ^ i) := by
  have h := digs_set 8 (Q * 2 ^ (i + 1)) (i / 16) (2 ^ (i % 16)) (by omega) (digit_room Q i)
  refine h.trans ?_
  congr 1
  have e : (65536 : Nat) ^ (i / 16) * 2 ^ (i % 16) = 2 ^ i := by
    rw [show (65536 : Nat) = 2 ^ 16 by decide, ← Nat.pow_mul, ← Nat.pow_add, Nat.div_add_mod]
  rw [Nat.mul_comm (2 ^ (i % 16)), e, Nat.pow_succ, Nat.add_mul, Nat.one_mul, Nat.mul_comm (2 ^ i) 2, ← Nat.mul_assoc, Nat.mul_comm Q 2]

/-- the rows of a product: rows below i are summed -/
structure MulOut (x y i : Nat) (l : List Nat) : Prop where
  len : l.length = 8
  lt : ∀ a ∈ l, a < 65536
  zer : ∀ j, i + 4 ≤ j → l.getD j 0 = 0
  sum : val l = x % 65536 ^ i * y
/-- and k digits of row i -/
structure MulIn (x y i k : Nat) (l : List Nat) (c : Nat) : Prop where
  len : l.length = 8
  lt : ∀ a ∈ l, a < 65536
  zer : ∀ j, i + 4 ≤ j → l.getD j 0 = 0
  sum : val l + c * 65536 ^ (i + k) = x % 65536 ^ i * y + 65536 ^ i * (dg x i * (y % 65536 ^ k))
  cl : c < 65536
theorem MulOut.start (x y : Nat) : MulOut x y 0 (digs 8 0) :=
  ⟨rfl, digs_lt 8 0, fun j hj => by
    by_cases h : j < 8
    · rw [digs_at 8 0 j h, Nat.zero_div]
    · rw [List.getD_eq_getElem?_getD, List.getElem?_eq_none (by rw [digs_len]; omega)]; rfl, by rw [val_digs]; simp [Nat.mod_one]⟩
theorem MulOut.on {x y i : Nat} {l : List Nat} (h : MulOut x y i l) : MulIn x y i 0 l 0 := ⟨h.len, h.lt, h.zer, by simp [Nat.mod_one, h.sum], by decide⟩
theorem getD_set_ne (l : List Nat) (a j v : Nat) (h : a ≠ j) : (l.set a v).getD j 0 = l.getD j 0 := by
  rw [List.getD_eq_getElem?_getD, List.getD_eq_getElem?_getD, List.getElem?_set_ne h]
theorem set_lt {l : List Nat} (h : ∀ a ∈ l, a < 65536) (j v : Nat) (hv : v < 65536) : ∀ a ∈ l.set j v, a < 65536 :=
  fun a ha => (List.mem_or_eq_of_mem_set ha).elim (h a) fun e => e ▸ hv
theorem prod_le {a b : Nat} (ha : a < 65536) (hb : b < 65536) : a * b ≤ 4294836225 := Nat.mul_le_mul (show a ≤ 65535 by omega) (show b ≤ 65535 by omega)
theorem MulIn.step {x y i k c : Nat} {l : List Nat} (h : MulIn x y i k l c) (hi : i < 4) (hk : k < 4) :
    MulIn x y i (k + 1) (l.set (i + k) ((l.getD (i + k) 0 + dg x i * dg y k + c) % 65536)) ((l.getD (i + k) 0 + dg x i * dg y k + c) / 65536) := by
  have ho := lt_of_getD h.lt (i + k)
  have hp := prod_le (dg_lt x i) (dg_lt y k)
  have hs := mul_step l (i + k) _ (l.getD (i + k) 0 + dg x i * dg y k + c) (by rw [h.len]; omega) rfl
  have hc := h.cl
  refine ⟨by rw [List.length_set]; exact h.len, set_lt h.lt _ _ (Nat.mod_lt _ (by decide)), fun j hj => by rw [getD_set_ne _ _ _ _ (by omega)]; exact h.zer j hj, ?_, by omega⟩
  have e1 : 65536 ^ i * (dg x i * (y % 65536 ^ (k + 1))) = 65536 ^ i * (dg x i * (y % 65536 ^ k)) + dg x i * dg y k * 65536 ^ (i + k) := by
    rw [mod_next, Nat.mul_add, Nat.mul_add, Nat.pow_add]
    congr 1
    simp only [Nat.mul_comm, Nat.mul_left_comm, Nat.mul_assoc]
  have h0 := h.sum
  rw [Nat.add_mul, Nat.add_mul] at hs
  rw [e1, show i + (k + 1) = i + k + 1 by omega]
  omega
theorem MulIn.done {x y i c : Nat} {l : List Nat} (h : MulIn x y i 4 l c) (hi : i < 4) (hy : y < 18446744073709551616) : l.getD (i + 4) 0 = 0 ∧ MulOut x y (i + 1) (l.set (i + 4) c) := by
  have hz := h.zer (i + 4) (Nat.le_refl _)
  refine ⟨hz, by rw [List.length_set]; exact h.len, set_lt h.lt _ _ h.cl, fun j hj => by rw [getD_set_ne _ _ _ _ (by omega)]; exact h.zer j (by omega), ?_⟩
  have hv := val_set l (i + 4) c (by rw [h.len]; omega)
  rw [hz, Nat.zero_mul, Nat.add_zero, h.sum, show (65536 : Nat) ^ 4 = 18446744073709551616 by decide, Nat.mod_eq_of_lt hy] at hv
  rw [hv, mod_next, Nat.add_mul, Nat.mul_assoc]
theorem MulOut.done {x y : Nat} {l : List Nat} (h : MulOut x y 4 l) (hx : x < 18446744073709551616) : l = digs 8 (x * y) := by
  have hs := h.sum
  rw [show (65536 : Nat) ^ 4 = 18446744073709551616 by decide, Nat.mod_eq_of_lt hx] at hs
  rw [← hs, ← h.len, digs_val l h.lt]
end Go.Proofs.YthfcfmnaiopogaaGreat

/- The document's answers of layer 10: numbers by digits: what is made of them, sums, which one is more, differences. -/
namespace Go.Proofs.YthfcfmnaiopogaaGreat
open Go.RowKit

theorem info_u64 : (Tryz.prog.info? 22).map (fun i => (i.zero, i.size, i.bytes)) = some (some (.int .u64 0), 1, 8) := by kernel_rfl
theorem el64 : ElemOk Tryz.prog 96 22 (.int .u64 0) 1 8 := ⟨Tryz.underlying96, info_u64, rfl, by decide, by decide⟩
def u64s (bs : List Nat) : List Value := bs.map fun (x : Nat) => Value.int .u64 (x : Int)
theorem own_new (w : World) (xs : List Value) (t : TypeId) (hl : xs.length ≤ maxLen) : (w.alloc (.cells xs.toArray t)).ownsRow 0 t 1 (.slice (some ⟨w.heap.size, 0, none⟩) xs.length xs.length) xs.length xs :=
  ⟨by simp, .inr ⟨w.heap.size, xs.length, xs.toArray, rfl, Nat.zero_le _, heap_alloc_new w _, Nat.le_refl _, hl, by simp, by simp⟩⟩
/-- eight digits at p -/
def Dig (w : World) (p : Option Addr) (n : Nat) : Prop := SlI w .u64 p (digs 8 n)
theorem Dig.fr0 {w w' : World} {p : Option Addr} {n : Nat} (h : Dig w p n) (f : Fr S0 w w') : Dig w' p n := SlI.fr0 h f
theorem Dig.at {w : World} {p : Option Addr} {n : Nat} (h : Dig w p n) (i : Nat) (hi : i < 8) : ∃ b o, p = some ⟨b, o, none⟩ ∧ w.cell? ⟨b, o + i, none⟩ = some (.int .u64 (dg n i : Nat)) := by
  obtain ⟨b, o, hp, hc⟩ := SlI.at h i (by rw [digs_len]; exact hi)
  exact ⟨b, o, hp, by rw [hc, digs_get]; rfl⟩
theorem Dig.ofOwns {w : World} {p : Option Addr} {c n : Nat} (h : w.ownsRow 0 22 1 (.slice p 8 c) 8 (u64s (digs 8 n))) : Dig w p n := SlI.ofOwns h
/-- eight digits in a row that is new to w -/
def NewDig (w w' : World) (v : Value) (n : Nat) : Prop := ∃ p c, v = .slice p 8 c ∧ Dig w' p n ∧ Fr S0 w w'
theorem NewDig.mk {w w' : World} {p : Option Addr} {c n : Nat} (h : w'.ownsRow 0 22 1 (.slice p 8 c) 8 (u64s (digs 8 n))) (f : Fr S0 w w') : NewDig w w' (.slice p 8 c) n := ⟨p, c, rfl, Dig.ofOwns h, f⟩

theorem digs4 (n : Nat) (hn : n < 18446744073709551616) : digs 4 n = [n % 65536, n / 65536 % 65536, n / 4294967296 % 65536, n / 281474976710656] := by
  simp only [digs, Nat.div_div_eq_div_mul, List.cons.injEq, and_true, true_and]
  omega

set_option maxRecDepth 100000 in
set_option maxHeartbeats 400000 in
theorem rdigits_any (n : Nat) (w : World) (hn : n < 18446744073709551616) :
    Calls Tryz.prog 109 #[.int .u64 (n : Int)] w fun e w' => ∃ g, e = .returned (.slice (some ⟨g, 0, none⟩) 4 4) ∧ w'.ownsRow 0 22 1 (.slice (some ⟨g, 0, none⟩) 4 4) 4 (u64s (digs 4 n)) ∧ Fr S0 w w' ∧ w.heap.size ≤ g := by
  have hd := digs4 n hn
  have a0 : (n : Int) % 65536 = ((n % 65536 : Nat) : Int) := by omega
  have a1 : (n : Int) / 65536 % 65536 = ((n / 65536 % 65536 : Nat) : Int) := by omega
  have a2 : (n : Int) / 4294967296 % 65536 = ((n / 4294967296 % 65536 : Nat) : Int) := by omega
  have a3 : (n : Int) / 281474976710656 = ((n / 281474976710656 : Nat) : Int) := by omega
  have HO : Hid ((w.alloc (.cells #[.int .u64 ((n : Int) % 65536), .int .u64 ((n : Int) / 65536 % 65536), .int .u64 ((n : Int) / 4294967296 % 65536), .int .u64 ((n : Int) / 281474976710656)] 22)).ownsRow 0 22 1
      (.slice (some ⟨w.heap.size, 0, none⟩) 4 4) 4 (u64s (digs 4 n))) := Lib.hid (by
    rw [a0, a1, a2, a3, hd]
    exact own_new w (u64s [n % 65536, n / 65536 % 65536, n / 4294967296 % 65536, n / 281474976710656]) 22 (by unfold maxLen; simp [u64s]))
  clear a0 a1 a2 a3 hd
  go_enter Tryz.func109, Tryz.ntmps109
  go_wp2
  go_ret
  exact ⟨w.heap.size, rfl, HO.out, Fr.alloc _ _ _, Nat.le_refl _⟩

set_option maxRecDepth 100000 in
set_option maxHeartbeats 400000 in
theorem rnumber_any (p : Option Addr) (c n f : Nat) (w : World) (h : Dig w p n) (hf : f ≤ 4) :
    Calls Tryz.prog 88 #[.slice p 8 c, .int .i64 (f : Int)] w fun e w' => e = .returned (.int .u64 (n / 65536 ^ f % 18446744073709551616 : Nat)) ∧ w = w' := by
  have H := Lib.hid h
  clear h
  go_enter Tryz.func88, Tryz.ntmps88
  go_wp2
  go_loopw [5, 6] (fun m i wr => ∃ j : Nat, j ≤ 4 ∧ i = .int .i64 ((f : Int) + 3 - (j : Int)) ∧ m = .int .u64 (n / 65536 ^ (f + 4 - j) % 65536 ^ j : Nat) ∧ w = wr) (fun _ i _ => (intOf i + 1 - (f : Int)).toNat)
  case atStart => exact ⟨0, by omega, by simp, by simp [Nat.mod_one], rfl⟩
  case round =>
    obtain ⟨j, hj, rfl, rfl, rfl⟩ := hrel
    by_cases h4 : j < 4
    · obtain ⟨i, hi⟩ : ∃ i, f + 3 - j = i := ⟨_, rfl⟩
      have hm : n / 65536 ^ (f + 4 - j) % 65536 ^ j < 281474976710656 := by
        have h1 : n / 65536 ^ (f + 4 - j) % 65536 ^ j < 65536 ^ j := Nat.mod_lt _ (Nat.pow_pos (by decide))
        have h2 : 65536 ^ j ≤ 65536 ^ 3 := Nat.pow_le_pow_right (by decide) (by omega)
        omega
      have hnx := four_next n i j
      rw [show i + 1 = f + 4 - j by omega] at hnx
      obtain ⟨m, hme⟩ : ∃ m, n / 65536 ^ (f + 4 - j) % 65536 ^ j = m := ⟨_, rfl⟩
      rw [hme] at hm hnx ⊢
      obtain ⟨b, o, rfl, hc⟩ := H.out.at i (by omega)
      have hx8 := dg_lt n i
      obtain ⟨x, hx⟩ : ∃ x, dg n i = x := ⟨_, rfl⟩
      rw [hx] at hc hnx hx8
      have HN := Lib.hid hnx
      have ei : (f : Int) + 3 - (j : Int) = (i : Int) := by omega
      have HI : Hid (f + 4 - (j + 1) = i) := Lib.hid (by omega)
      rw [ei]
      have q1 : (f : Int) ≤ (i : Int) := by omega
      have q2 : i < 8 := by omega
      clear hi hme hx hnx ei
      go_wp2
      go_roundw
      case rel => exact ⟨j + 1, by omega, congrArg (Value.int .i64) (by have := HI.out; omega), by rw [HI.out, HN.out]; go_num, by trivial⟩
      case measure => simp [intOf]; omega
    · obtain rfl : j = 4 := by omega
      have HE : Hid (n / 65536 ^ (f + 4 - 4) % 65536 ^ 4 = n / 65536 ^ f % 18446744073709551616) := Lib.hid (by rw [show f + 4 - 4 = f by omega, show (65536 : Nat) ^ 4 = 18446744073709551616 by decide])
      obtain ⟨m, hme⟩ : ∃ m, n / 65536 ^ (f + 4 - 4) % 65536 ^ 4 = m := ⟨_, rfl⟩
      rw [hme] at HE ⊢
      clear hme
      go_wp2
      go_ret
      exact ⟨congrArg (fun z : Nat => Ending.returned (Value.int .u64 (z : Int))) HE.out, rfl⟩

end Go.Proofs.YthfcfmnaiopogaaGreat

/- The document's sums, which number is more, differences. -/
namespace Go.Proofs.YthfcfmnaiopogaaGreat
open Go.RowKit

theorem u64s_append (a b : List Nat) : u64s a ++ u64s b = u64s (a ++ b) := by simp [u64s]
theorem u64s_one (x : Nat) : u64s [x] = [.int .u64 (x : Int)] := rfl

set_option maxRecDepth 100000 in
set_option maxHeartbeats 1000000 in
theorem radd_any (p q : Option Addr) (c d x y : Nat) (w : World) (hx : Dig w p x) (hy : Dig w q y) :
    Calls Tryz.prog 96 #[.slice p 8 c, .slice q 8 d] w fun e w' => ∃ v, e = .returned (.tuple #[v, .bool (cy x y 8 == 0)]) ∧ NewDig w w' v (x + y) := by
  have HX := Lib.hid hx
  have HY := Lib.hid hy
  have HR : Hid (∀ j : Nat, j < 8 → Room (j + 1)) := Lib.hid fun j h => Room.mk (by omega)
  clear hx hy
  go_enter Tryz.func96, Tryz.ntmps96
  go_wp2
  go_loopw [6, 7, 8, 9] (fun v m i _ wr => ∃ j : Nat, j ≤ 8 ∧ i = .int .i64 j ∧ m = .int .u64 (cy x y j : Nat) ∧ Fr S0 w wr ∧ wr.ownsRow 0 22 1 v j (u64s (digs j (x + y))) ∧ Fresh w v) (fun _ _ i _ _ => 8 - (intOf i).toNat)
  case atStart => exact ⟨0, by omega, rfl, by rw [cy_zero]; rfl, Fr.refl _ _, World.ownsRow_nil _ _ _ _, fresh_nil _ _⟩
  case round =>
    obtain ⟨j, hj, rfl, rfl, hfr, own, hfv⟩ := hrel
    by_cases h8 : (j : Int) < 8
    · obtain ⟨b, o, rfl, hc⟩ := (HX.out.fr0 hfr).at j (by omega)
      obtain ⟨b2, o2, rfl, hc2⟩ := (HY.out.fr0 hfr).at j (by omega)
      have hnx := cy_next x y j
      have HS : Hid (digs (j + 1) (x + y) = digs j (x + y) ++ [dg (x + y) j]) := Lib.hid (digs_snoc j (x + y))
      rw [← hnx.1] at HS
      have H2 : Hid (cy x y (j + 1) = (dg x j + dg y j + cy x y j) / 65536) := Lib.hid hnx.2.symm
      have l1 := dg_lt x j
      have l2 := dg_lt y j
      have l3 := cy_le x y j
      obtain ⟨X, hX⟩ : ∃ X, dg x j = X := ⟨_, rfl⟩
      obtain ⟨Y, hY⟩ : ∃ Y, dg y j = Y := ⟨_, rfl⟩
      obtain ⟨C, hC⟩ : ∃ C, cy x y j = C := ⟨_, rfl⟩
      rw [hX] at hc HS H2 l1
      rw [hY] at hc2 HS H2 l2
      rw [hC] at HS H2 l3 ⊢
      have em : (((X : Int) + (Y : Int) + (C : Int)) % 65536) = (((X + Y + C) % 65536 : Nat) : Int) := by omega
      have EM := Lib.hid em
      have HRJ := Lib.hid (HR.out j (by omega))
      obtain ⟨p, cp, rfl, -, -, -⟩ := slForm own
      clear hX hY hC hnx em
      go_wp2_with fail
      go_quiet (fail)
      have own2 := (Fr.drewN S0 wr nq).owns own fun _ _ h => h
      have hfr2 := hfr.trans0 (Fr.drewN S0 wr nq)
      clear own hfr
      go_wp2_with (first
        | ((with_reducible show wpList _ _ _ (Oper.mk (some 29) _ _ _ _ _ :: _) _ _); refine app_one el64 (.tmp 25) (.tmp 28) rfl own2 rfl rfl rfl rfl rfl one8 HRJ.out ?_; intro q cap w1 hown hgrow hat hlt1; have f1 := (hfr2.trans0 (Fr.alloc S0 _ _)).append hgrow hfv; have v1 := fresh_app (n := j + 1) (c := cap) hfr2 hfv hat; clear hgrow hat hlt1)
        | fail)
      go_roundw
      case rel =>
        refine ⟨j + 1, by omega, by go_num, by rw [H2.out]; go_num, f1, ?_, v1⟩
        rw [HS.out, ← u64s_append, u64s_one, ← EM.out]
        exact hown
      case measure => simp [intOf]; omega
    · obtain rfl : j = 8 := by omega
      obtain ⟨C, hC⟩ : ∃ C, cy x y 8 = C := ⟨_, rfl⟩
      rw [hC]
      have HC := Lib.hid hC
      clear hC
      obtain ⟨p, cp, rfl, -, -, -⟩ := slForm own
      have HN := Lib.hid (NewDig.mk own hfr)
      clear own hfr
      go_wp2
      go_ret2
      exact ⟨_, congrArg (fun z => Ending.returned (.tuple #[_, .bool z])) (by have := HC.out; rw [Bool.eq_iff_iff, beq_iff_eq, beq_iff_eq]; omega), HN.out⟩

/-- which number is more -/
def cmpR (x y : Nat) : Int := if x = y then 0 else if x < y then -1 else 1

theorem drewN_two (w : World) (a b : Nat) : (w.drewN a).drewN b = w.drewN (a + b) := by simp only [World.drewN, Nat.add_assoc]
theorem drewN_three (w : World) (a b c : Nat) : ((w.drewN a).drewN b).drewN c = w.drewN (a + b + c) := by simp only [World.drewN, Nat.add_assoc]

set_option maxRecDepth 100000 in
set_option maxHeartbeats 1000000 in
theorem rcmp_any (p q : Option Addr) (c d x y : Nat) (w : World) (hx : Dig w p x) (hy : Dig w q y) (bx : x < 340282366920938463463374607431768211456) (hby : y < 340282366920938463463374607431768211456) :
    Calls Tryz.prog 70 #[.slice p 8 c, .slice q 8 d] w fun e w' => e = .returned (.int .i64 (cmpR x y)) ∧ ∃ n, w' = w.drewN n := by
  have HX := Lib.hid hx
  have HY := Lib.hid hy
  have HS : Hid (x / 65536 ^ 8 = y / 65536 ^ 8) := Lib.hid (by
    have e : (65536 : Nat) ^ 8 = 340282366920938463463374607431768211456 := by decide
    rw [e, Nat.div_eq_of_lt bx, Nat.div_eq_of_lt hby])
  clear hx hy bx hby
  go_enter Tryz.func70, Tryz.ntmps70
  go_wp2
  go_loopw [5] (fun i wr => ∃ j n : Nat, j ≤ 8 ∧ i = .int .i64 (7 - (j : Int)) ∧ x / 65536 ^ (8 - j) = y / 65536 ^ (8 - j) ∧ wr = w.drewN n) (fun i _ => (intOf i + 1).toNat)
  case atStart => exact ⟨0, 0, by omega, rfl, HS.out, rfl⟩
  case round =>
    obtain ⟨j, n, hj, rfl, hs, rfl⟩ := hrel
    by_cases h8 : j < 8
    · obtain ⟨i, hi⟩ : ∃ i, 7 - j = i := ⟨_, rfl⟩
      rw [show 8 - j = i + 1 by omega] at hs
      have HE := Lib.hid hs
      have ei : 7 - (j : Int) = (i : Int) := by omega
      have HI : Hid (8 - (j + 1) = i) := Lib.hid (by omega)
      have hi8 : (i : Int) < 8 := by omega
      rw [ei]
      clear hi hs ei
      obtain ⟨b, o, rfl, hc⟩ := HX.out.at i (by omega)
      obtain ⟨b2, o2, rfl, hc2⟩ := HY.out.at i (by omega)
      obtain ⟨X, hX⟩ : ∃ X, dg x i = X := ⟨_, rfl⟩
      obtain ⟨Y, hY⟩ : ∃ Y, dg y i = Y := ⟨_, rfl⟩
      have EX := Lib.hid hX
      have EY := Lib.hid hY
      rw [hX] at hc
      rw [hY] at hc2
      clear hX hY
      by_cases h1 : X < Y
      · have HL : Hid (x < y) := Lib.hid (cmp_more HE.out (by rw [EX.out, EY.out]; exact h1))
        go_wp2_with fail
        go_quiet (fail)
        go_wp2
        go_ret
        exact ⟨congrArg (fun z => Ending.returned (Value.int .i64 z)) (by have := HL.out; unfold cmpR; rw [if_neg (by omega), if_pos this]), _, drewN_two _ _ _⟩
      · by_cases h2 : Y < X
        · have HL : Hid (y < x) := Lib.hid (cmp_more HE.out.symm (by rw [EX.out, EY.out]; exact h2))
          go_wp2_with fail
          go_quiet (fail)
          go_wp2_with fail
          go_quiet (fail)
          go_wp2
          go_ret
          exact ⟨congrArg (fun z => Ending.returned (Value.int .i64 z)) (by have := HL.out; unfold cmpR; rw [if_neg (by omega), if_neg (by omega)]), _, drewN_three _ _ _ _⟩
        · have HL : Hid (x / 65536 ^ i = y / 65536 ^ i) := Lib.hid (cmp_same HE.out (by rw [EX.out, EY.out]; omega))
          go_wp2_with fail
          go_quiet (fail)
          go_wp2_with fail
          go_quiet (fail)
          go_wp2_with fail
          go_roundw
          case rel => exact ⟨j + 1, _, by omega, congrArg (Value.int .i64) (by have := HI.out; omega), by rw [HI.out]; exact HL.out, rfl⟩
          case measure => simp [intOf]
    · obtain rfl : j = 8 := by omega
      have HL : Hid (x = y) := Lib.hid (by simpa using hs)
      clear hs
      go_wp2
      go_ret
      exact ⟨congrArg (fun z => Ending.returned (Value.int .i64 z)) (by unfold cmpR; rw [if_pos HL.out]), _, rfl⟩

/-- a slice of eight noughts -/
theorem make8 : ∀ w : World, (Instr.makeSlice 96 (.int .i64 8) (.int .i64 8)).run Tryz.prog w = .ok (.slice (some ⟨w.heap.size, 0, none⟩) 8 8) (w.alloc (.cells #[.int .u64 0, .int .u64 0, .int .u64 0, .int .u64 0, .int .u64 0, .int .u64 0, .int .u64 0, .int .u64 0] 22)) :=
  fun _ => by kernel_rfl
theorem own8 (w : World) : (w.alloc (.cells #[.int .u64 0, .int .u64 0, .int .u64 0, .int .u64 0, .int .u64 0, .int .u64 0, .int .u64 0, .int .u64 0] 22)).ownsRow 0 22 1 (.slice (some ⟨w.heap.size, 0, none⟩) 8 8) 8 (u64s (digs 8 0)) :=
  own_new w (u64s (digs 8 0)) 22 (by unfold maxLen; simp [u64s, digs])

def SubEnds (w : World) (x y : Nat) (e : Ending) (w' : World) : Prop := ∃ v n, e = .returned (.tuple #[v, .bool (decide (y ≤ x))]) ∧ NewDig w w' v n ∧ (y ≤ x → n = x - y)

end Go.Proofs.YthfcfmnaiopogaaGreat

/- The document's product. -/
namespace Go.Proofs.YthfcfmnaiopogaaGreat
open Go.RowKit

/-- a row's digit -/
theorem row_at {w : World} {g c : Nat} {l : List Nat} (own : w.ownsRow 0 22 1 (.slice (some ⟨g, 0, none⟩) 8 c) 8 (u64s l)) (j : Nat) (hj : j < 8) : w.cell? ⟨g, j, none⟩ = some (.int .u64 (l.getD j 0 : Nat)) := by
  have hl : l.length = 8 := by have := own.1; unfold u64s at this; simpa using this
  rw [own.cellAt j (by omega), List.getD_eq_getElem?_getD]
  unfold u64s
  rw [List.getElem?_map, List.getElem?_eq_getElem (by omega)]
  rfl
theorem row_set {w w0 : World} {g c : Nat} {l : List Nat} (own : w.ownsRow 0 22 1 (.slice (some ⟨g, 0, none⟩) 8 c) 8 (u64s l)) (f : Fr S0 w0 w) (hg : w0.heap.size ≤ g) (j v : Nat) :
    (w.setCell ⟨g, j, none⟩ (.int .u64 (v : Int))).ownsRow 0 22 1 (.slice (some ⟨g, 0, none⟩) 8 c) 8 (u64s (l.set j v)) ∧ Fr S0 w0 (w.setCell ⟨g, j, none⟩ (.int .u64 (v : Int))) := by
  obtain ⟨ho, hgr⟩ := own.stored j (.int .u64 (v : Int))
  refine ⟨?_, f.append hgr fun k hk => by simp only [Option.some.injEq] at hk; omega⟩
  unfold u64s at ho ⊢
  rw [List.map_set]
  exact ho

set_option maxRecDepth 100000 in
set_option maxHeartbeats 2000000 in
theorem rmul_any (x y : Nat) (w : World) (hx : x < 18446744073709551616) (hy : y < 18446744073709551616) :
    Calls Tryz.prog 71 #[.int .u64 (x : Int), .int .u64 (y : Int)] w fun e w' => ∃ v, e = .returned v ∧ NewDig w w' v (x * y) := by
  have HX := Lib.hid (fun W => rdigits_any x W hx)
  have HY := Lib.hid (fun W => rdigits_any y W hy)
  have hmk := make8
  have HB := Lib.hid (And.intro hx hy)
  clear hx hy
  go_enter Tryz.func71, Tryz.ntmps71
  go_wp2_with fail
  refine (HX.out _).mono ?_
  rintro e w1 ⟨g1, rfl, own1, f1, n1⟩
  go_wp2_with fail
  refine (HY.out _).mono ?_
  rintro e w2 ⟨g2, rfl, own2, f2, n2⟩
  have s1 : SlI w2 .u64 (some ⟨g1, 0, none⟩) (digs 4 x) := SlI.ofOwns (f2.owns own1 fun _ _ h => h)
  have s2 : SlI w2 .u64 (some ⟨g2, 0, none⟩) (digs 4 y) := SlI.ofOwns own2
  have F2 := Lib.hid (f1.trans0 f2)
  have own3 := own8 w2
  have f3 : Fr S0 w2 (w2.alloc (.cells #[.int .u64 0, .int .u64 0, .int .u64 0, .int .u64 0, .int .u64 0, .int .u64 0, .int .u64 0, .int .u64 0] 22)) := Fr.alloc _ _ _
  have O3 := Lib.hid own3
  have F3 := Lib.hid f3
  have S1 := Lib.hid s1
  have S2 := Lib.hid s2
  clear own1 own2 f1 f2 n1 n2 s1 s2 own3 f3
  go_wp2_with fail
  obtain ⟨g, hg⟩ : ∃ g, w2.heap.size = g := ⟨_, rfl⟩
  have HG : Hid (w2.heap.size ≤ g) := Lib.hid (by omega)
  rw [hg] at O3 ⊢
  clear hg
  go_loopw [8, 9, 10, 11] (fun i _ _ _ wr => ∃ (j : Nat) (l : List Nat), j ≤ 4 ∧ i = .int .i64 j ∧ MulOut x y j l ∧ Fr S0 w2 wr ∧ wr.ownsRow 0 22 1 (.slice (some ⟨g, 0, none⟩) 8 8) 8 (u64s l)) (fun i _ _ _ _ => 4 - (intOf i).toNat)
  case atStart => exact ⟨0, _, by omega, rfl, MulOut.start x y, F3.out, O3.out⟩
  case round =>
    obtain ⟨i, l, hi, rfl, hmo, hfr, own⟩ := hrel
    by_cases h4 : (i : Int) < 4
    · obtain ⟨wo, rfl⟩ : ∃ wo : World, wo = wr := ⟨_, rfl⟩
      have HMO := Lib.hid hmo
      have HFR := Lib.hid hfr
      have HO := Lib.hid own
      clear hmo hfr own
      go_wp2_with fail
      go_loopw [9, 10, 11] (fun m i' _ wr => ∃ (k c : Nat) (l : List Nat), k ≤ 4 ∧ i' = .int .i64 k ∧ m = .int .u64 c ∧ MulIn x y i k l c ∧ Fr S0 w2 wr ∧ wr.ownsRow 0 22 1 (.slice (some ⟨g, 0, none⟩) 8 8) 8 (u64s l)) (fun _ i' _ _ => 4 - (intOf i').toNat)
      case atStart => exact ⟨0, 0, l, by omega, rfl, rfl, HMO.out.on, HFR.out, HO.out⟩
      case round =>
        clear HMO HFR HO
        obtain ⟨k, c, m, hk, rfl, rfl, hmi, hfr, own⟩ := hrel
        have hcl := hmi.cl
        by_cases k4 : (k : Int) < 4
        · have HST := Lib.hid (hmi.step (by omega) (by omega))
          have c0 := row_at own (i + k) (by omega)
          have z0 := own.frozenAt (i + k)
          have c1 : wr.cell? ⟨g1, i, none⟩ = some (.int .u64 (dg x i : Nat)) := by
            obtain ⟨b, o, hp, hc⟩ := (S1.out.fr0 hfr).at i (by rw [digs_len]; omega)
            simp only [Option.some.injEq, Addr.mk.injEq] at hp
            obtain ⟨rfl, rfl, -⟩ := hp
            rw [digs_get, Nat.zero_add] at hc
            exact hc
          have c2 : wr.cell? ⟨g2, k, none⟩ = some (.int .u64 (dg y k : Nat)) := by
            obtain ⟨b, o, hp, hc⟩ := (S2.out.fr0 hfr).at k (by rw [digs_len]; omega)
            simp only [Option.some.injEq, Addr.mk.injEq] at hp
            obtain ⟨rfl, rfl, -⟩ := hp
            rw [digs_get, Nat.zero_add] at hc
            exact hc
          have l0 := lt_of_getD hmi.lt (i + k)
          have hp := prod_le (dg_lt x i) (dg_lt y k)
          obtain ⟨O, hO⟩ : ∃ O, m.getD (i + k) 0 = O := ⟨_, rfl⟩
          obtain ⟨X, hX⟩ : ∃ X, dg x i = X := ⟨_, rfl⟩
          obtain ⟨Y, hY⟩ : ∃ Y, dg y k = Y := ⟨_, rfl⟩
          rw [hO] at HST c0 l0
          rw [hX] at HST c1 hp
          rw [hY] at HST c2 hp
          obtain ⟨P, hP⟩ : ∃ P, X * Y = P := ⟨_, rfl⟩
          have wP : IntKind.u64.wrap ((X : Int) * (Y : Int)) = (P : Int) := wrap_nat (by rw [← hP, Int.natCast_mul]) (by omega)
          rw [hP] at HST hp
          have em : (((O : Int) + (P : Int) + (c : Int)) % 65536) = (((O + P + c) % 65536 : Nat) : Int) := by omega
          have HRS : Hid (∀ n, ((wr.setCell ⟨g, i + k, none⟩ (.int .u64 (((O : Int) + (P : Int) + (c : Int)) % 65536))).drewN n).ownsRow 0 22 1 (.slice (some ⟨g, 0, none⟩) 8 8) 8 (u64s (m.set (i + k) ((O + P + c) % 65536))) ∧
              Fr S0 w2 ((wr.setCell ⟨g, i + k, none⟩ (.int .u64 (((O : Int) + (P : Int) + (c : Int)) % 65536))).drewN n)) := Lib.hid fun n => by
            rw [em]
            have r := row_set own hfr HG.out (i + k) ((O + P + c) % 65536)
            exact ⟨(Fr.drewN S0 _ n).owns r.1 fun _ _ h => h, r.2.trans0 (Fr.drewN _ _ _)⟩
          have i8 : (i : Int) + (k : Int) < 8 := by omega
          clear hmi hO hX hY hP own hfr em
          go_wp2_with fail
          go_quiet (fail)
          go_wp2_with fail
          go_roundw
          case rel => exact ⟨k + 1, _, _, by omega, by go_num, by go_num, HST.out, (HRS.out nq).2, (HRS.out nq).1⟩
          case measure => simp [intOf]; omega
        · obtain rfl : k = 4 := by omega
          obtain ⟨hz, hmo⟩ := hmi.done (by omega) HB.out.2
          have HMO := Lib.hid hmo
          have c0 := row_at own (i + 4) (by omega)
          have z0 := own.frozenAt (i + 4)
          rw [hz] at c0
          have c0' : wr.cell? ⟨g, i + 4, none⟩ = some (.int .u64 0) := c0
          have HRS := Lib.hid (row_set own hfr HG.out (i + 4) c)
          clear hmi hz hmo own hfr c0
          go_wp2_with fail
          go_roundw
          case rel => exact ⟨i + 1, _, by omega, by go_num, HMO.out, HRS.out.2, HRS.out.1⟩
          case measure => simp [intOf]; omega
    · obtain rfl : i = 4 := by omega
      have HE := Lib.hid (hmo.done HB.out.1)
      have HN : Hid (NewDig w wr (.slice (some ⟨g, 0, none⟩) 8 8) (x * y)) := Lib.hid (NewDig.mk (by rw [← HE.out]; exact own) (F2.out.trans0 hfr))
      clear hmo own hfr
      go_wp2
      go_ret
      exact ⟨_, rfl, HN.out⟩
end Go.Proofs.YthfcfmnaiopogaaGreat

/- The document's quotient, bit by bit; a product's quotient. -/
namespace Go.Proofs.YthfcfmnaiopogaaGreat
open Go.RowKit

theorem digs_zero_pow (k : Nat) : digs 8 (0 * 2 ^ k) = digs 8 0 := by rw [Nat.zero_mul]
/-- a bit of a quotient: what is taken off -/
theorem take_d {L d bit : Nat} (hL : L < d) (hb : bit ≤ 1) (h : d ≤ 2 * L + bit) : (2 * L + bit) / d = 1 ∧ (2 * L + bit) % d = 2 * L + bit - d := by
  have e : 2 * L + bit = d * 1 + (2 * L + bit - d) := by omega
  have h2 : 2 * L + bit - d < d := by omega
  constructor
  · rw [e, Nat.mul_add_div (by omega), Nat.div_eq_of_lt (by omega)]
  · conv => lhs; rw [e, Nat.mul_add_mod]
    exact Nat.mod_eq_of_lt h2

set_option maxRecDepth 100000 in
set_option maxHeartbeats 2000000 in
theorem rdiv_any (p : Option Addr) (c x d : Nat) (w : World) (hx : Dig w p x) (bx : x < 340282366920938463463374607431768211456) (hd : 0 < d) (h64 : d < 18446744073709551616) :
    Calls Tryz.prog 97 #[.slice p 8 c, .int .u64 (d : Int)] w fun e w' => ∃ v, e = .returned (.tuple #[v, .int .u64 (x % d : Nat)]) ∧ NewDig w w' v (x / d) := by
  have HX := Lib.hid hx
  have hmk := make8
  have hs0 : x / 2 ^ 128 = 0 := Nat.div_eq_of_lt (by omega)
  have HS0 : Hid (x / 2 ^ 128 / d = 0 ∧ x / 2 ^ 128 % d = 0) := Lib.hid (by rw [hs0, Nat.zero_div, Nat.zero_mod]; exact ⟨rfl, rfl⟩)
  have O3 := Lib.hid (own8 w)
  have F3 : Hid (Fr S0 w (w.alloc (.cells #[.int .u64 0, .int .u64 0, .int .u64 0, .int .u64 0, .int .u64 0, .int .u64 0, .int .u64 0, .int .u64 0] 22))) := Lib.hid (Fr.alloc _ _ _)
  obtain ⟨g, hg⟩ : ∃ g, w.heap.size = g := ⟨_, rfl⟩
  have HG : Hid (w.heap.size ≤ g) := Lib.hid (by omega)
  have HGE := Lib.hid hg
  rw [hg] at O3
  clear hx bx hs0 hg
  go_enter Tryz.func97, Tryz.ntmps97
  go_wp2_with fail
  rw [HGE.out]
  go_loopw [7, 8, 9] (fun m i _ wr => ∃ (j Q L : Nat), j ≤ 128 ∧ i = .int .i64 (127 - (j : Int)) ∧ m = .int .u64 L ∧ x / 2 ^ (128 - j) / d = Q ∧ x / 2 ^ (128 - j) % d = L ∧ Fr S0 w wr ∧ wr.ownsRow 0 22 1 (.slice (some ⟨g, 0, none⟩) 8 8) 8 (u64s (digs 8 (Q * 2 ^ (128 - j))))) (fun _ i _ _ => (intOf i + 1).toNat)
  case atStart => exact ⟨0, 0, 0, by omega, rfl, rfl, HS0.out.1, HS0.out.2, F3.out, by rw [digs_zero_pow]; exact O3.out⟩
  case round =>
    obtain ⟨j, Q, L, hj, rfl, rfl, hQ, hL, hfr, own⟩ := hrel
    by_cases h8 : j < 128
    · obtain ⟨i, hi⟩ : ∃ i, 127 - j = i := ⟨_, rfl⟩
      rw [show 128 - j = i + 1 by omega] at hQ hL own
      have hLd : L < d := by rw [← hL]; exact Nat.mod_lt _ hd
      obtain ⟨n1, n2, -⟩ := quo_step hQ hL hd
      have hb := bit_at x i
      have hb1 : x / 2 ^ i % 2 ≤ 1 := by omega
      obtain ⟨bit, hbit⟩ : ∃ bit, x / 2 ^ i % 2 = bit := ⟨_, rfl⟩
      rw [hbit] at n1 n2 hb hb1
      obtain ⟨b, o, rfl, hc⟩ := (HX.out.fr0 hfr).at (i / 16) (by omega)
      obtain ⟨r, hr⟩ : ∃ r, i % 16 = r := ⟨_, rfl⟩
      obtain ⟨q, hq⟩ : ∃ q, i / 16 = q := ⟨_, rfl⟩
      have hdb := digs_bit Q i (by omega)
      have hro := digit_room Q i
      rw [hr] at hb hdb hro
      rw [hq] at hb hdb hro hc
      have hqi : ((i : Int) / 16) = (q : Int) := by omega
      have hri : ((i : Int) % 16) = (r : Int) := by omega
      have hq8 : (q : Int) < 8 := by omega
      have hr8 : (r : Int) < 16 := by omega
      obtain ⟨X, hX⟩ : ∃ X, dg x q = X := ⟨_, rfl⟩
      rw [hX] at hc hb
      have c0 := row_at own q (by omega)
      have z0 := own.frozenAt q
      rw [digs_at 8 _ q (by omega)] at c0
      have c0' : wr.cell? ⟨g, q, none⟩ = some (.int .u64 (dg (Q * 2 ^ (i + 1)) q : Nat)) := c0
      obtain ⟨O, hO⟩ : ∃ O, dg (Q * 2 ^ (i + 1)) q = O := ⟨_, rfl⟩
      rw [hO] at c0' hdb hro
      obtain ⟨T, hT⟩ : ∃ T, 2 ^ r = T := ⟨_, rfl⟩
      have wT : IntKind.u64.wrap ((2 : Int) ^ r) = (T : Int) := wrap_nat (by rw [← hT, Int.natCast_pow]; rfl) (by omega)
      obtain ⟨V, hV⟩ : ∃ V, X / 2 ^ r = V := ⟨_, rfl⟩
      have wv : (X : Int) / 2 ^ r = (V : Int) := by rw [← hV, Int.natCast_ediv, Int.natCast_pow]; rfl
      rw [hV] at hb
      have wb : (V : Int) % 2 = (bit : Int) := by omega
      have V0 : (0 : Int) ≤ (V : Int) := by omega
      have ei : 127 - (j : Int) = (i : Int) := by omega
      have HI : Hid (128 - (j + 1) = i) := Lib.hid (by omega)
      rw [hT] at hdb hro
      have HDB := Lib.hid hdb
      have HN1 := Lib.hid n1
      have HN2 := Lib.hid n2
      have HO := Lib.hid own
      have HF := Lib.hid hfr
      rw [ei]
      clear hi hQ hL hb hbit hr hq hX c0 hO hT ei hdb own hfr n1 n2 hV
      by_cases hA : (9223372036854775808 : Int) ≤ (L : Int)
      · obtain ⟨M, hM⟩ : ∃ M, 2 * L = M + 18446744073709551616 := ⟨2 * L - 18446744073709551616, by omega⟩
        obtain ⟨t1, t2⟩ := take_d hLd hb1 (by omega)
        obtain ⟨R, hR⟩ : ∃ R, 2 * L + bit - d = R := ⟨_, rfl⟩
        have wM : IntKind.u64.wrap (2 * (L : Int)) = (M : Int) := by rw [IntKind.wrap_u64]; omega
        have wR : IntKind.u64.wrap ((M : Int) + (bit : Int) - (d : Int)) = (R : Int) := by rw [IntKind.wrap_u64]; omega
        have bM : M + bit < 18446744073709551616 := by omega
        rw [hR] at t2
        have T1 := Lib.hid t1
        have T2 := Lib.hid t2
        clear hM hR t1 t2
        have HRS : Hid ((wr.setCell ⟨g, q, none⟩ (.int .u64 ((O : Int) + (T : Int)))).ownsRow 0 22 1 (.slice (some ⟨g, 0, none⟩) 8 8) 8 (u64s (digs 8 ((2 * Q + 1) * 2 ^ i))) ∧ Fr S0 w (wr.setCell ⟨g, q, none⟩ (.int .u64 ((O : Int) + (T : Int))))) := Lib.hid (by
          have r := row_set HO.out HF.out HG.out q (O + T)
          rw [HDB.out, Int.natCast_add] at r
          exact r)
        go_wp2_with fail
        go_roundw
        case rel => exact ⟨j + 1, 2 * Q + 1, R, by omega, congrArg (Value.int .i64) (by have := HI.out; omega), rfl, by rw [HI.out, HN1.out, T1.out], by rw [HI.out, HN2.out, T2.out], HRS.out.2, by rw [HI.out]; exact HRS.out.1⟩
        case measure => simp [intOf]
      · have dA : decide ((9223372036854775808 : Int) ≤ (L : Int)) = false := decide_eq_false hA
        by_cases hB : (d : Int) ≤ 2 * (L : Int) + (bit : Int)
        · obtain ⟨t1, t2⟩ := take_d hLd hb1 (by omega)
          obtain ⟨R, hR⟩ : ∃ R, 2 * L + bit - d = R := ⟨_, rfl⟩
          have ER : Hid (2 * (L : Int) + (bit : Int) - (d : Int) = (R : Int)) := Lib.hid (by omega)
          rw [hR] at t2
          have T1 := Lib.hid t1
          have T2 := Lib.hid t2
          clear hR t1 t2
          have HRS : Hid ((wr.setCell ⟨g, q, none⟩ (.int .u64 ((O : Int) + (T : Int)))).ownsRow 0 22 1 (.slice (some ⟨g, 0, none⟩) 8 8) 8 (u64s (digs 8 ((2 * Q + 1) * 2 ^ i))) ∧ Fr S0 w (wr.setCell ⟨g, q, none⟩ (.int .u64 ((O : Int) + (T : Int))))) := Lib.hid (by
            have r := row_set HO.out HF.out HG.out q (O + T)
            rw [HDB.out, Int.natCast_add] at r
            exact r)
          go_wp2_with fail
          go_roundw
          case rel => exact ⟨j + 1, 2 * Q + 1, R, by omega, congrArg (Value.int .i64) (by have := HI.out; omega), congrArg (Value.int .u64) ER.out, by rw [HI.out, HN1.out, T1.out], by rw [HI.out, HN2.out, T2.out], HRS.out.2, by rw [HI.out]; exact HRS.out.1⟩
          case measure => simp [intOf]
        · have dB : decide ((d : Int) ≤ 2 * (L : Int) + (bit : Int)) = false := decide_eq_false hB
          have T1 : Hid ((2 * L + bit) / d = 0) := Lib.hid (Nat.div_eq_of_lt (by omega))
          have T2 : Hid ((2 * L + bit) % d = 2 * L + bit) := Lib.hid (Nat.mod_eq_of_lt (by omega))
          have HE : Hid (Q * 2 ^ (i + 1) = 2 * Q * 2 ^ i) := Lib.hid (by rw [Nat.pow_succ, Nat.mul_comm (2 ^ i) 2, ← Nat.mul_assoc, Nat.mul_comm Q 2])
          go_wp2_with fail
          go_roundw
          case rel => exact ⟨j + 1, 2 * Q, 2 * L + bit, by omega, congrArg (Value.int .i64) (by have := HI.out; omega), by go_num, by rw [HI.out, HN1.out, T1.out, Nat.add_zero], by rw [HI.out, HN2.out, T2.out], HF.out, by rw [HI.out, ← HE.out]; exact HO.out⟩
          case measure => simp [intOf]
    · obtain rfl : j = 128 := by omega
      rw [Nat.sub_self, Nat.pow_zero] at hQ hL own
      rw [Nat.div_one] at hQ hL
      rw [Nat.mul_one] at own
      have HL := Lib.hid hL
      have HN : Hid (NewDig w wr (.slice (some ⟨g, 0, none⟩) 8 8) (x / d)) := Lib.hid (NewDig.mk (by rw [hQ]; exact own) hfr)
      clear hQ hL own hfr
      go_wp2
      go_ret2
      exact ⟨_, by rw [HL.out]; rfl, HN.out⟩

set_option maxRecDepth 100000 in
set_option maxHeartbeats 1000000 in
theorem rmuldiv_no (a b d : Nat) (w : World) (ha : a < 18446744073709551616) (hb : b < 18446744073709551616) (h64 : d < 18446744073709551616) (hno : d = 0 ∨ 18446744073709551616 ≤ a * b / d) :
    Calls Tryz.prog 67 #[.int .u64 (a : Int), .int .u64 (b : Int), .int .u64 (d : Int)] w fun e w' => e = .returned (.tuple #[.int .u64 0, .int .u64 0, .bool false]) ∧ Fr S0 w w' := by
  by_cases h0 : d = 0
  · subst h0
    clear hno
    go_enter Tryz.func67, Tryz.ntmps67
    go_wp2
    go_ret3
    exact ⟨rfl, Fr.refl _ _⟩
  · have hq := hno.resolve_left h0
    have hd0 : ((d : Int) == 0) = false := by rw [beq_eq_false_iff_ne]; omega
    have hp : a * b < 340282366920938463463374607431768211456 := by
      have := Nat.mul_le_mul (show a ≤ 18446744073709551615 by omega) (show b ≤ 18446744073709551615 by omega)
      omega
    have HM := Lib.hid (fun W => rmul_any a b W ha hb)
    obtain ⟨X, hX⟩ : ∃ X, a * b = X := ⟨_, rfl⟩
    rw [hX] at HM hq hp
    have HD := Lib.hid (fun p c W h => rdiv_any p c X d W h hp (by omega) h64)
    have hq2 : X / d < 340282366920938463463374607431768211456 := Nat.lt_of_le_of_lt (Nat.div_le_self _ _) hp
    obtain ⟨Q, hQ⟩ : ∃ Q, X / d = Q := ⟨_, rfl⟩
    obtain ⟨R, hR⟩ : ∃ R, X % d = R := ⟨_, rfl⟩
    rw [hQ, hR] at HD
    rw [hQ] at hq hq2
    have HN := Lib.hid (fun p c W (h : Dig W p Q) => rnumber_any p c Q 4 W h (by decide))
    have e4 : Q / 65536 ^ 4 % 18446744073709551616 = Q / 18446744073709551616 := by
      rw [show (65536 : Nat) ^ 4 = 18446744073709551616 by decide]
      exact Nat.mod_eq_of_lt (by omega)
    have g4 : 0 < Q / 18446744073709551616 := by omega
    obtain ⟨K, hK⟩ : ∃ K, Q / 18446744073709551616 = K := ⟨_, rfl⟩
    rw [e4, hK] at HN
    rw [hK] at g4
    have gi : (K : Int) > 0 := by omega
    clear h0 hno hX hQ hR e4 hK hq hq2 hp ha hb h64
    go_enter Tryz.func67, Tryz.ntmps67
    go_wp2_with fail
    refine (HM.out _).mono ?_
    rintro e w1 ⟨v1, rfl, p1, c1, rfl, d1, f1⟩
    go_wp2_with fail
    refine (HD.out _ _ _ d1).mono ?_
    rintro e w2 ⟨v2, rfl, p2, c2, rfl, d2, f2⟩
    go_wp2_with fail
    refine (HN.out _ _ _ d2).mono ?_
    rintro e w3 ⟨rfl, rfl⟩
    go_wp2
    go_ret3
    exact ⟨rfl, f1.trans0 f2⟩

set_option maxRecDepth 100000 in
set_option maxHeartbeats 1000000 in
theorem rmuldiv_yes (a b d : Nat) (w : World) (ha : a < 18446744073709551616) (hb : b < 18446744073709551616) (h64 : d < 18446744073709551616) (hd : 0 < d) (hy : a * b / d < 18446744073709551616) :
    Calls Tryz.prog 67 #[.int .u64 (a : Int), .int .u64 (b : Int), .int .u64 (d : Int)] w fun e w' =>
      e = .returned (.tuple #[.int .u64 ((a * b / d : Nat) : Int), .int .u64 ((a * b % d : Nat) : Int), .bool true]) ∧ Fr S0 w w' := by
  have hd0 : ((d : Int) == 0) = false := by rw [beq_eq_false_iff_ne]; omega
  have hp : a * b < 340282366920938463463374607431768211456 := by
    have := Nat.mul_le_mul (show a ≤ 18446744073709551615 by omega) (show b ≤ 18446744073709551615 by omega)
    omega
  have HM := Lib.hid (fun W => rmul_any a b W ha hb)
  obtain ⟨X, hX⟩ : ∃ X, a * b = X := ⟨_, rfl⟩
  rw [hX] at HM hy hp ⊢
  have HD := Lib.hid (fun p c W h => rdiv_any p c X d W h hp hd h64)
  obtain ⟨Q, hQ⟩ : ∃ Q, X / d = Q := ⟨_, rfl⟩
  obtain ⟨R, hR⟩ : ∃ R, X % d = R := ⟨_, rfl⟩
  rw [hQ, hR] at HD
  rw [hQ] at hy
  rw [hQ, hR]
  have HN := Lib.hid (fun p c W (h : Dig W p Q) => rnumber_any p c Q 4 W h (by decide))
  have HL := Lib.hid (fun p c W (h : Dig W p Q) => rnumber_any p c Q 0 W h (by decide))
  rw [show Q / 65536 ^ 4 % 18446744073709551616 = 0 by rw [show (65536 : Nat) ^ 4 = 18446744073709551616 by decide]; omega] at HN
  rw [show Q / 65536 ^ 0 % 18446744073709551616 = Q by rw [Nat.pow_zero, Nat.div_one]; omega] at HL
  clear hX hQ hR hp ha hb h64 hd
  go_enter Tryz.func67, Tryz.ntmps67
  go_wp2_with fail
  refine (HM.out _).mono ?_
  rintro e w1 ⟨v1, rfl, p1, c1, rfl, d1, f1⟩
  go_wp2_with fail
  refine (HD.out _ _ _ d1).mono ?_
  rintro e w2 ⟨v2, rfl, p2, c2, rfl, d2, f2⟩
  go_wp2_with fail
  refine (HN.out _ _ _ d2).mono ?_
  rintro e w3 ⟨rfl, rfl⟩
  go_wp2_with fail
  refine (HL.out _ _ _ d2).mono ?_
  rintro e w3 ⟨rfl, rfl⟩
  go_wp2
  go_ret3
  exact ⟨rfl, f1.trans0 f2⟩
end Go.Proofs.YthfcfmnaiopogaaGreat
