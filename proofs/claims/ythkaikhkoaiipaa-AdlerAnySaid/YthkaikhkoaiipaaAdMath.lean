/- Plain mathematics of the sum Adler-32. -/
import Derived.WalkKit
namespace Go.Proofs.Ythkaikhkoaiipaa
open Go.RowKit

/-- the two parts, going on over a text -/
def adF (a b : Nat) : List Nat → Nat × Nat
  | [] => (a, b)
  | x :: r => adF ((a + x) % 65521) (((a + x) % 65521 + b) % 65521) r
/-- the bytes' sum; the sum of sums -/
def sS : List Nat → Nat
  | [] => 0
  | x :: r => x + sS r
def sW : List Nat → Nat
  | [] => 0
  | x :: r => (r.length + 1) * x + sW r
theorem mod_part (n y : Nat) : n * y = n * (y / 65521) * 65521 + n * (y % 65521) := by
  rw [Nat.mul_assoc, ← Nat.mul_add, Nat.mul_comm (y / 65521), Nat.div_add_mod]
theorem adF_eq : ∀ (l : List Nat) (a b : Nat), a < 65521 → b < 65521 → adF a b l = ((a + sS l) % 65521, (b + l.length * a + sW l) % 65521)
  | [], a, b, ha, hb => by
    simp only [adF, sS, sW, List.length_nil, Nat.zero_mul, Nat.add_zero]
    rw [Nat.mod_eq_of_lt ha, Nat.mod_eq_of_lt hb]
  | x :: r, a, b, ha, hb => by
    rw [adF, adF_eq r _ _ (Nat.mod_lt _ (by decide)) (Nat.mod_lt _ (by decide)), sS, sW, List.length_cons]
    have h1 := mod_part r.length (a + x)
    have h2 : (r.length + 1) * a + (r.length + 1) * x = r.length * (a + x) + (a + x) := by rw [← Nat.mul_add, Nat.add_mul, Nat.one_mul]
    generalize r.length * ((a + x) / 65521) = p at h1
    generalize r.length * ((a + x) % 65521) = q at h1 ⊢
    generalize r.length * (a + x) = t at h1 h2
    generalize (r.length + 1) * a = u at h2 ⊢
    generalize (r.length + 1) * x = v at h2 ⊢
    refine Prod.ext ?_ ?_
    · show ((a + x) % 65521 + sS r) % 65521 = (a + (x + sS r)) % 65521
      omega
    · show (((a + x) % 65521 + b) % 65521 + q + sW r) % 65521 = (b + u + (v + sW r)) % 65521
      omega
theorem adF_append : ∀ (l m : List Nat) (a b : Nat), adF a b (l ++ m) = adF (adF a b l).1 (adF a b l).2 m
  | [], _, _, _ => rfl
  | x :: r, m, a, b => by rw [List.cons_append, adF, adF, adF_append r]
theorem adF_lt (l : List Nat) (a b : Nat) (ha : a < 65521) (hb : b < 65521) : (adF a b l).1 < 65521 ∧ (adF a b l).2 < 65521 := by
  rw [adF_eq l a b ha hb]
  exact ⟨Nat.mod_lt _ (by decide), Nat.mod_lt _ (by decide)⟩
theorem adF_step (a b : Nat) (l : List Nat) (k : Nat) (hk : k < l.length) :
    adF a b (l.take (k + 1)) = (((adF a b (l.take k)).1 + l[k]) % 65521, (((adF a b (l.take k)).1 + l[k]) % 65521 + (adF a b (l.take k)).2) % 65521) := by
  rw [List.take_succ_eq_append_getElem hk, adF_append]; rfl
theorem sS_append : ∀ (l m : List Nat), sS (l ++ m) = sS l + sS m
  | [], m => by rw [List.nil_append, sS, Nat.zero_add]
  | x :: r, m => by rw [List.cons_append, sS, sS, sS_append r, Nat.add_assoc]
theorem sW_append : ∀ (l m : List Nat), sW (l ++ m) = sW l + m.length * sS l + sW m
  | [], m => by simp [sW, sS]
  | x :: r, m => by
    rw [List.cons_append, sW, sW, sW_append r, sS, List.length_append, Nat.mul_add, show (r.length + m.length + 1) * x = (r.length + 1) * x + m.length * x by rw [← Nat.add_mul]; congr 1; omega]
    omega

/-- a sum's parts, the first two and what is made of them -/
def loA (s : Nat) : Nat := s % 65536 % 65521
def hiA (s : Nat) : Nat := s / 65536 % 65521
def put (r : Nat × Nat) : Nat := 65536 * r.2 + r.1
def adMore (s : Nat) (l : List Nat) : Nat := put (adF (loA s) (hiA s) l)
def adSum (l : List Nat) : Nat := adMore 1 l
def adJoin (s t n : Nat) : Nat := 65536 * ((hiA s + hiA t + n % 65521 * ((loA s + 65520) % 65521)) % 65521) + (loA s + loA t + 65520) % 65521
def rightB (s : Nat) : Bool := decide (s % 65536 < 65521) && decide (s / 65536 < 65521)
theorem loA_lt (s : Nat) : loA s < 65521 := Nat.mod_lt _ (by decide)
theorem hiA_lt (s : Nat) : hiA s < 65521 := Nat.mod_lt _ (by decide)
theorem put_parts (r : Nat × Nat) (h : r.1 < 65521 ∧ r.2 < 65521) : loA (put r) = r.1 ∧ hiA (put r) = r.2 ∧ rightB (put r) = true ∧ put r < 4294967296 := by
  obtain ⟨a, b⟩ := r
  obtain ⟨ha, hb⟩ : a < 65521 ∧ b < 65521 := h
  unfold loA hiA rightB put
  simp only
  refine ⟨by omega, by omega, ?_, by omega⟩
  rw [Bool.and_eq_true, decide_eq_true_iff, decide_eq_true_iff]; omega
theorem adMore_put (s : Nat) (l : List Nat) : loA (adMore s l) = (adF (loA s) (hiA s) l).1 ∧ hiA (adMore s l) = (adF (loA s) (hiA s) l).2 ∧ rightB (adMore s l) = true ∧ adMore s l < 4294967296 :=
  put_parts _ (adF_lt l _ _ (loA_lt s) (hiA_lt s))
theorem adMore_lt (s : Nat) (l : List Nat) : adMore s l < 4294967296 := (adMore_put s l).2.2.2
theorem adMore_right (s : Nat) (l : List Nat) : rightB (adMore s l) = true := (adMore_put s l).2.2.1
theorem adMore_append (s : Nat) (l m : List Nat) : adMore (adMore s l) m = adMore s (l ++ m) := by
  have h := adMore_put s l
  rw [adMore, h.1, h.2.1, adMore, adF_append]
theorem one_parts : loA 1 = 1 ∧ hiA 1 = 0 := by decide
theorem adSum_parts (l : List Nat) : loA (adSum l) = (1 + sS l) % 65521 ∧ hiA (adSum l) = (l.length + sW l) % 65521 := by
  have h := adMore_put 1 l
  rw [adF_eq l _ _ (loA_lt 1) (hiA_lt 1), one_parts.1, one_parts.2, Nat.zero_add, Nat.mul_one] at h
  exact ⟨h.1, h.2.1⟩
theorem adSum_put (l : List Nat) : adSum l = 65536 * hiA (adSum l) + loA (adSum l) := by
  have h := adMore_put 1 l
  unfold adSum
  rw [h.1, h.2.1]; rfl
theorem join_sum (l m : List Nat) : adJoin (adSum l) (adSum m) m.length = adSum (l ++ m) := by
  rw [adSum_put (l ++ m)]
  unfold adJoin
  rw [(adSum_parts l).1, (adSum_parts l).2, (adSum_parts m).1, (adSum_parts m).2, (adSum_parts (l ++ m)).1, (adSum_parts (l ++ m)).2, sS_append, sW_append, List.length_append]
  have e1 : ((1 + sS l) % 65521 + 65520) % 65521 = sS l % 65521 := by omega
  rw [e1]
  have h1 := mod_part m.length (sS l)
  have h2 := mod_part (sS l % 65521) m.length
  rw [Nat.mul_comm (sS l % 65521) m.length, Nat.mul_comm (sS l % 65521) (m.length % 65521)] at h2
  generalize m.length * sS l = t at h1 ⊢
  generalize m.length * (sS l % 65521) = q at h1 h2
  generalize m.length * (sS l / 65521) = p at h1
  generalize sS l % 65521 * (m.length / 65521) = p2 at h2
  generalize m.length % 65521 * (sS l % 65521) = q2 at h2 ⊢
  omega
theorem sS_set : ∀ (l : List Nat) (i y : Nat), (hi : i < l.length) → sS (l.set i y) + l[i] = sS l + y
  | x :: r, 0, y, _ => by simp only [List.set_cons_zero, sS, List.getElem_cons_zero]; omega
  | x :: r, i + 1, y, hi => by
    have := sS_set r i y (by simpa using hi)
    simp only [List.set_cons_succ, sS, List.getElem_cons_succ]; omega
theorem sum_unlike (l : List Nat) (i y : Nat) (hi : i < l.length) (hx : l[i] < 256) (hy : y < 256) (hne : y ≠ l[i]) : adSum l ≠ adSum (l.set i y) := by
  intro h
  have h1 := (adSum_parts l).1
  have h2 := (adSum_parts (l.set i y)).1
  rw [← h, h1] at h2
  have h3 := sS_set l i y hi
  omega
end Go.Proofs.Ythkaikhkoaiipaa
