/- HufAll -/
import Derived.Test.YtnndgpggjlhhpaaGreatPt1
import Derived.Test.YtnndgpggjlhhpaaGreatPt2
import Derived.Test.YtnndgpggjlhhpaaGreatPt15
import Derived.Laws.MakeOwn
import Derived.BigRegion
import Derived.Laws.OwnMore
import Derived.IntWalk
import Derived.Lib.MakeNoZero
import Derived.Laws.CopyOwn
import Derived.StillTailTactics
import Derived.WalkKit
import Derived.WalkSpells
import Derived.WalkLawsBesides
import Derived.Deep.QuietTactic
import Derived.BigQuiet
import Derived.RegionTactic
import Derived.Deep.AppendLies
import Derived.Deep.RegionLaw
import Derived.Laws.ResultCell
import Derived.Laws.EntriesVeiled
import Derived.Lib.Hide
import Derived.Test.YtnndgpggjlhhpaaGreatRows
import Derived.Laws.BytesArg
import Derived.Lib.SlBytesConst
import Derived.Maps.AppendAt
import Derived.Laws.AppendOwnNone
set_option maxRecDepth 100000
set_option maxHeartbeats 8000000
namespace Go.Proofs.YtnndgpggjlhhpaaGreat
def mny (l : List Nat) (n : Nat) : Nat := if n = 0 then 0 else l.count n
def ztop (l : List Nat) : Nat → Nat
  | 0 => 0
  | n + 1 => 2 * ztop l n + mny l (n + 1)
def fst (l : List Nat) : Nat → Nat
  | 0 => 0
  | n + 1 => 2 * ztop l n
def zahd (l : List Nat) : Nat → Nat
  | 0 => 0
  | n + 1 => zahd l n + mny l n
def len (l : List Nat) (i : Nat) : Nat := l.getD i 0
def zrnk (l : List Nat) (i : Nat) : Nat := (l.take i).count (len l i)
def cod (l : List Nat) (i : Nat) : Nat := if len l i = 0 then 0 else fst l (len l i) + zrnk l i
def cods (l : List Nat) : List Nat := (List.range l.length).map (cod l)
def mx : List Nat → Nat
  | [] => 0
  | x :: r => max x (mx r)
theorem mny_succ (l : List Nat) (n : Nat) : mny l (n + 1) = l.count (n + 1) := rfl
theorem mny_pos (l : List Nat) {n : Nat} (h : 0 < n) : mny l n = l.count n := by unfold mny; rw [if_neg (by omega)]
theorem mny_le (l : List Nat) (n : Nat) : mny l n ≤ l.length := by
  unfold mny
  split
  · omega
  · exact List.count_le_length
theorem top_eq (l : List Nat) (n : Nat) : ztop l n = fst l n + mny l n := by
  cases n with
  | zero => rfl
  | succ n => rfl
theorem fst_succ (l : List Nat) (n : Nat) : fst l (n + 1) = 2 * ztop l n := rfl
theorem zahd_succ (l : List Nat) (n : Nat) : zahd l (n + 1) = zahd l n + mny l n := rfl
theorem zahd_mono (l : List Nat) (n : Nat) : ∀ k, zahd l n ≤ zahd l (n + k)
  | 0 => Nat.le_refl _
  | k + 1 => Nat.le_trans (zahd_mono l n k) (by rw [← Nat.add_assoc, zahd_succ]; omega)
theorem zahd_le (l : List Nat) : ∀ n, zahd l n ≤ n * l.length
  | 0 => Nat.zero_le _
  | n + 1 => by have := zahd_le l n; have := mny_le l n; rw [zahd_succ, Nat.succ_mul]; omega
theorem top_le (l : List Nat) : ∀ n, ztop l n ≤ (2 ^ (n + 1) - 1) * l.length
  | 0 => Nat.zero_le _
  | n + 1 => by
    have h := top_le l n
    have k := mny_le l (n + 1)
    have hp : 1 ≤ 2 ^ (n + 1) := Nat.pow_pos (by decide)
    have e : (2 ^ (n + 1 + 1) - 1) * l.length = 2 * ((2 ^ (n + 1) - 1) * l.length) + l.length := by
      rw [Nat.sub_mul, Nat.sub_mul, Nat.pow_succ 2 (n + 1), Nat.mul_comm (2 ^ (n + 1)) 2, Nat.mul_assoc, Nat.one_mul]
      have : l.length ≤ 2 ^ (n + 1) * l.length := Nat.le_mul_of_pos_left _ hp
      omega
    rw [ztop, e]
    omega
theorem top_small (l : List Nat) (n : Nat) (hn : n ≤ 15) (hl : l.length ≤ 1000) : ztop l n ≤ 65535000 := by
  refine Nat.le_trans (top_le l n) ?_
  have h1 : 2 ^ (n + 1) ≤ 2 ^ 16 := Nat.pow_le_pow_right (by decide) (by omega)
  calc (2 ^ (n + 1) - 1) * l.length ≤ 65535 * 1000 := Nat.mul_le_mul (by omega) hl
    _ = 65535000 := by decide
theorem fst_small (l : List Nat) (n : Nat) (hn : n ≤ 15) (hl : l.length ≤ 1000) : fst l n ≤ 65535000 := by
  have := top_small l n hn hl
  rw [top_eq] at this
  omega
theorem ahd_small (l : List Nat) (n : Nat) (hn : n ≤ 16) (hl : l.length ≤ 1000) : zahd l n ≤ 16000 :=
  Nat.le_trans (zahd_le l n) (Nat.mul_le_mul hn hl)
theorem len_get (l : List Nat) (i : Nat) (h : i < l.length) : len l i = l[i] := by simp [len, List.getD, h]
theorem len_no (l : List Nat) (i : Nat) (h : l.length ≤ i) : len l i = 0 := by simp [len, List.getD, h]
theorem len_in {l : List Nat} {i : Nat} (h : 0 < len l i) : i < l.length := by
  by_cases k : i < l.length
  · exact k
  · rw [len_no l i (by omega)] at h; omega
theorem cods_length (l : List Nat) : (cods l).length = l.length := by simp [cods]
theorem cods_get (l : List Nat) (i : Nat) (h : i < (cods l).length) : (cods l)[i] = cod l i := by simp [cods]
theorem mx_len : ∀ (l : List Nat) (i : Nat), len l i ≤ mx l
  | [], i => by simp [len]
  | x :: r, 0 => by simp only [len, List.getD_cons_zero, mx]; omega
  | x :: r, i + 1 => by
    have := mx_len r i
    unfold len at this ⊢
    rw [List.getD_cons_succ, mx]
    omega
theorem mx_append (l m : List Nat) : mx (l ++ m) = max (mx l) (mx m) := by
  induction l with
  | nil => simp [mx]
  | cons x r ih => rw [List.cons_append, mx, ih, mx]; omega
theorem mx_le {l : List Nat} {n : Nat} (h : ∀ x ∈ l, x ≤ n) : mx l ≤ n := by
  induction l with
  | nil => exact Nat.zero_le _
  | cons x r ih =>
    rw [mx]
    have := h x (by simp)
    have := ih fun y hy => h y (by simp [hy])
    omega
theorem take_snoc (l : List Nat) (k : Nat) (h : k < l.length) : l.take (k + 1) = l.take k ++ [l[k]] := by
  rw [List.take_succ_eq_append_getElem h]
theorem mx_take (l : List Nat) (k : Nat) (h : k < l.length) : mx (l.take (k + 1)) = max (mx (l.take k)) (len l k) := by
  rw [take_snoc l k h, mx_append, len_get l k h]
  simp [mx]
theorem count_take (l : List Nat) (n k : Nat) (h : k < l.length) : (l.take (k + 1)).count n = (l.take k).count n + if len l k = n then 1 else 0 := by
  rw [take_snoc l k h, List.count_append, len_get l k h, List.count_singleton]
  by_cases e : l[k] = n
  · rw [if_pos e, if_pos (by rw [e]; exact beq_self_eq_true n)]
  · rw [if_neg e, if_neg (by rw [beq_iff_eq]; exact e)]
theorem count_le (l : List Nat) (n k : Nat) : (l.take k).count n ≤ l.count n :=
  (List.take_sublist k l).count_le n
theorem rnk_lt {l : List Nat} {i : Nat} (h : i < l.length) : zrnk l i < l.count (len l i) := by
  have h1 := count_take l (len l i) i h
  have h2 := count_le l (len l i) (i + 1)
  rw [if_pos rfl] at h1
  unfold zrnk
  omega
theorem count_mono (l : List Nat) (n i : Nat) : ∀ k, (l.take i).count n ≤ (l.take (i + k)).count n
  | k => by
    have e : (l.take (i + k)).take i = l.take i := by rw [List.take_take, Nat.min_eq_left (by omega)]
    have := count_le (l.take (i + k)) n i
    rw [e] at this
    exact this
theorem rnk_inj {l : List Nat} {i k : Nat} (hi : i < l.length) (hk : k < l.length) (h : len l i = len l k) (hr : zrnk l i = zrnk l k) : i = k := by
  have key : ∀ i k : Nat, i < l.length → i < k → len l i = len l k → zrnk l i < zrnk l k := by
    intro i k hi hik h
    have h1 := count_take l (len l i) i hi
    have h2 := count_mono l (len l i) (i + 1) (k - (i + 1))
    rw [show i + 1 + (k - (i + 1)) = k by omega] at h2
    rw [if_pos rfl] at h1
    unfold zrnk
    rw [← h]
    omega
  rcases Nat.lt_trichotomy i k with h' | h' | h'
  · have := key i k hi h' h; omega
  · exact h'
  · have := key k i hk h' h.symm; omega
theorem rnk_ex (n : Nat) (hn : 0 < n) : ∀ (l : List Nat) (k : Nat), k < l.count n → ∃ i, i < l.length ∧ len l i = n ∧ (l.take i).count n = k
  | [], k, h => by simp at h
  | x :: r, k, h => by
    by_cases e : x = n
    · subst e
      cases k with
      | zero => exact ⟨0, by simp, by simp [len], by simp⟩
      | succ k =>
        rw [List.count_cons_self] at h
        obtain ⟨i, h1, h2, h3⟩ := rnk_ex x hn r k (by omega)
        exact ⟨i + 1, by simp; omega, by simpa [len] using h2, by rw [List.take_succ_cons, List.count_cons_self, h3]⟩
    · rw [List.count_cons_of_ne e] at h
      obtain ⟨i, h1, h2, h3⟩ := rnk_ex n hn r k h
      exact ⟨i + 1, by simp; omega, by simpa [len] using h2, by rw [List.take_succ_cons, List.count_cons_of_ne e, h3]⟩
theorem cod_pos {l : List Nat} {i : Nat} (h : 0 < len l i) : cod l i = fst l (len l i) + zrnk l i := by unfold cod; rw [if_neg (by omega)]
theorem cod_lt {l : List Nat} {i : Nat} (h : 0 < len l i) : cod l i < ztop l (len l i) := by
  rw [cod_pos h, top_eq, mny_pos l h]
  have := rnk_lt (len_in h)
  omega
theorem cod_ge {l : List Nat} {i : Nat} (h : 0 < len l i) : fst l (len l i) ≤ cod l i := by rw [cod_pos h]; omega
theorem cod_inj {l : List Nat} {i k : Nat} (hi : 0 < len l i) (h : len l i = len l k) (hc : cod l i = cod l k) : i = k := by
  have hk : 0 < len l k := h ▸ hi
  rw [cod_pos hi, cod_pos hk, h] at hc
  exact rnk_inj (len_in hi) (len_in hk) h (by omega)
theorem top_grow (l : List Nat) (n : Nat) : ∀ k, ztop l n * 2 ^ k ≤ ztop l (n + k)
  | 0 => by simp
  | k + 1 => by
    have := top_grow l n k
    rw [← Nat.add_assoc, ztop, Nat.pow_succ]
    have e : ztop l n * (2 ^ k * 2) = 2 * (ztop l n * 2 ^ k) := by rw [← Nat.mul_assoc]; omega
    omega
def prt (l : List Nat) : Nat → Nat
  | 0 => 0
  | n + 1 => ztop l n * 2 ^ (15 - n)
theorem prt_succ (l : List Nat) (n : Nat) (hn : n ≤ 15) : prt l (n + 1) = prt l n + mny l n * 2 ^ (15 - n) := by
  cases n with
  | zero => simp [prt, ztop, mny]
  | succ n =>
    simp only [prt, ztop]
    rw [Nat.add_mul]
    congr 1
    rw [show 15 - n = 15 - (n + 1) + 1 by omega, Nat.pow_succ]
    rw [Nat.mul_comm (2 ^ (15 - (n + 1))) 2, ← Nat.mul_assoc, Nat.mul_comm (ztop l n) 2]
theorem prt_end (l : List Nat) : prt l 16 = ztop l 15 := by simp [prt]
theorem prt_le (l : List Nat) (n : Nat) (hn : n ≤ 16) : prt l n ≤ ztop l 15 := by
  cases n with
  | zero => exact Nat.zero_le _
  | succ n =>
    have := top_grow l n (15 - n)
    rw [show n + (15 - n) = 15 by omega] at this
    exact this
def some' (l : List Nat) : Nat := l.countP (0 < ·)
def lst : List Nat → Nat
  | [] => 0
  | x :: r => if some' r = 0 then x else lst r
def ful (l : List Nat) : Prop := ztop l 15 = 32768
def lon (l : List Nat) : Prop := mx l = 1 ∧ l.count 1 = 1
def okl (l : List Nat) : Prop := ful l ∨ lon l ∨ mx l = 0
instance (l : List Nat) : Decidable (ful l) := inferInstanceAs (Decidable (_ = _))
instance (l : List Nat) : Decidable (lon l) := inferInstanceAs (Decidable (_ ∧ _))
instance (l : List Nat) : Decidable (okl l) := inferInstanceAs (Decidable (_ ∨ _))
theorem mny_above {l : List Nat} {n : Nat} (h : mx l < n) : mny l n = 0 := by
  rw [mny_pos l (by omega)]
  refine List.count_eq_zero.2 fun hm => ?_
  obtain ⟨i, hi, e⟩ := List.mem_iff_getElem.1 hm
  have := mx_len l i
  rw [len_get l i hi, e] at this
  omega
theorem top_above (l : List Nat) (n : Nat) (h : mx l ≤ n) : ∀ k, ztop l (n + k) = ztop l n * 2 ^ k
  | 0 => by simp
  | k + 1 => by
    have e : ztop l n * (2 ^ k * 2) = 2 * (ztop l n * 2 ^ k) := by rw [← Nat.mul_assoc]; omega
    rw [← Nat.add_assoc, ztop, top_above l n h k, mny_above (by omega), Nat.pow_succ, e]; rfl
theorem top_nil {l : List Nat} (h : mx l = 0) (n : Nat) : ztop l n = 0 := by
  have := top_above l 0 (by omega) n
  simpa [ztop] using this
theorem top_lon {l : List Nat} (h : lon l) : ztop l 1 = 1 := by
  simp [ztop, mny_succ, h.2]
theorem okl_top {l : List Nat} (h : okl l) : ztop l 15 ≤ 32768 := by
  rcases h with h | h | h
  · exact Nat.le_of_eq h
  · have := top_above l 1 (by rw [h.1]; omega) 14
    rw [top_lon h] at this
    have e : ztop l 15 = ztop l (1 + 14) := rfl
    rw [e, this]
    decide
  · rw [top_nil h]; omega
theorem top_two {l : List Nat} (h : okl l) (n : Nat) (hn : n ≤ 15) : ztop l n ≤ 2 ^ n := by
  have h1 := top_grow l n (15 - n)
  rw [show n + (15 - n) = 15 by omega] at h1
  have h2 := okl_top h
  have h3 : (2 : Nat) ^ n * 2 ^ (15 - n) = 32768 := by rw [← Nat.pow_add, show n + (15 - n) = 15 by omega]
  have hp : 0 < 2 ^ (15 - n) := Nat.pow_pos (by decide)
  refine Nat.le_of_mul_le_mul_right ?_ hp
  omega
theorem cod_two {l : List Nat} (h : okl l) {i : Nat} (hi : 0 < len l i) (hm : mx l ≤ 15) : cod l i < 2 ^ len l i :=
  Nat.lt_of_lt_of_le (cod_lt hi) (top_two h _ (Nat.le_trans (mx_len l i) hm))
def zval (B : List Nat) : Nat := num B.reverse
theorem zval_snoc (B : List Nat) (b : Nat) : zval (B ++ [b]) = 2 * zval B + b := by
  unfold zval
  rw [List.reverse_append]
  simp [num]; omega
theorem zval_lt {B : List Nat} (h : Bit01 B) : zval B < 2 ^ B.length := by
  have := num_lt B.reverse h.rev
  rwa [List.length_reverse] at this
theorem val_code (n c : Nat) : zval (code n c) = n % 2 ^ c := by
  unfold zval code
  rw [List.reverse_reverse, num_grp]
theorem val_take (B : List Nat) (j : Nat) (h : j < B.length) : zval (B.take (j + 1)) = 2 * zval (B.take j) + B[j] := by
  rw [take_snoc B j h, zval_snoc]
theorem val_fall {B : List Nat} (hb : Bit01 B) {l : List Nat} : ∀ (d j : Nat), j + d ≤ B.length → 0 < d → fst l (j + d) ≤ zval (B.take (j + d)) → ztop l j ≤ zval (B.take j)
  | 0, j, _, h, _ => by omega
  | 1, j, h, _, hv => by
    have h1 := val_take B j (by omega)
    have := hb _ (List.getElem_mem (show j < B.length by omega))
    rw [fst_succ] at hv
    omega
  | d + 2, j, h, _, hv => by
    have h1 := val_take B (j + d + 1) (by omega)
    have := hb _ (List.getElem_mem (show j + d + 1 < B.length by omega))
    rw [show j + (d + 2) = j + d + 1 + 1 by omega, fst_succ] at hv
    refine val_fall hb (d + 1) j (by omega) (by omega) ?_
    have := top_eq l (j + d + 1)
    rw [show j + (d + 1) = j + d + 1 by omega]
    omega
def hits (l B : List Nat) (i : Nat) : Prop := 0 < len l i ∧ len l i ≤ B.length ∧ zval (B.take (len l i)) = cod l i
instance (l B : List Nat) (i : Nat) : Decidable (hits l B i) := inferInstanceAs (Decidable (_ ∧ _ ∧ _))
def dry (l B : List Nat) (j : Nat) : Prop := ztop l j ≤ zval (B.take j)
theorem dry_zero (l B : List Nat) : dry l B 0 := by simp [dry, ztop, zval, num]
theorem dry_ge {l B : List Nat} {j : Nat} (h : dry l B j) (hj : j < B.length) : fst l (j + 1) ≤ zval (B.take (j + 1)) := by
  rw [val_take B j hj, fst_succ]
  unfold dry at h
  omega
theorem hit_here {l B : List Nat} {j : Nat} (h : dry l B j) (hj : j < B.length) (k : zval (B.take (j + 1)) < ztop l (j + 1)) :
    ∃ i, hits l B i ∧ len l i = j + 1 ∧ zrnk l i = zval (B.take (j + 1)) - fst l (j + 1) := by
  have h1 := dry_ge h hj
  have h2 := top_eq l (j + 1)
  obtain ⟨i, hi, hl, hr⟩ := rnk_ex (j + 1) (by omega) l (zval (B.take (j + 1)) - fst l (j + 1)) (by rw [← mny_succ]; omega)
  have hp : 0 < len l i := by omega
  refine ⟨i, ⟨hp, by omega, ?_⟩, hl, ?_⟩
  · rw [cod_pos hp, zrnk, hl, hr]; omega
  · rw [zrnk, hl, hr]
theorem hits_dry {l B : List Nat} (hb : Bit01 B) {i : Nat} (h : hits l B i) {j : Nat} (hj : j < len l i) : dry l B j := by
  refine val_fall hb (len l i - j) j (by have := h.2.1; omega) (by omega) ?_
  rw [show j + (len l i - j) = len l i by omega, h.2.2]
  exact cod_ge h.1
theorem hits_wet {l B : List Nat} {i : Nat} (h : hits l B i) : ¬ dry l B (len l i) := by
  unfold dry
  rw [h.2.2]
  have := cod_lt h.1
  omega
theorem hits_one {l B : List Nat} (hb : Bit01 B) {i k : Nat} (h : hits l B i) (h' : hits l B k) : i = k := by
  rcases Nat.lt_trichotomy (len l i) (len l k) with e | e | e
  · exact absurd (hits_dry hb h' e) (hits_wet h)
  · exact cod_inj h.1 e (by rw [← h.2.2, ← h'.2.2, e])
  · exact absurd (hits_dry hb h e) (hits_wet h')
end Go.Proofs.YtnndgpggjlhhpaaGreat
namespace Go.Proofs.YtnndgpggjlhhpaaGreat
inductive Res (α : Type) where
  | ok (a : α) (k : Nat)
  | no (e : Nat)
def Res.then {α β : Type} (r : Res α) (f : α → Nat → Res β) : Res β :=
  match r with
  | .ok a k => f a k
  | .no e => .no e
@[simp] theorem Res.then_ok {α β : Type} (a : α) (k : Nat) (f : α → Nat → Res β) : (Res.ok a k).then f = f a k := rfl
@[simp] theorem Res.then_no {α β : Type} (e : Nat) (f : α → Nat → Res β) : (Res.no e : Res α).then f = .no e := rfl
def rGrp (b : List Nat) (c k : Nat) : Res Nat := if k + c ≤ 8 * b.length then .ok (num (bitsAt b k c)) (k + c) else .no 20
def rSym (b l : List Nat) (k : Nat) : Res Nat :=
  match (List.range l.length).find? (fun i => decide (hits l ((bts b).drop k) i)) with
  | some i => .ok i (k + len l i)
  | none => if ((bts b).drop k).length < mx l then .no 20 else .no 62
def rIf (c : Bool) (e : Nat) (k : Nat) : Res Unit := if c = true then .ok () k else .no e
def baseN (s : Nat) : Nat := if s = 285 then 258 else if s - 257 < 4 then s - 254 else 3 + (4 + (s - 257) % 4) * 2 ^ ((s - 257) / 4 - 1)
def baseC (s : Nat) : Nat := if s = 285 then 0 else if s - 257 < 4 then 0 else (s - 257) / 4 - 1
def farN (d : Nat) : Nat := if d < 2 then d + 1 else 1 + (2 + d % 2) * 2 ^ (d / 2 - 1)
def farC (d : Nat) : Nat := if d < 2 then 0 else d / 2 - 1
def again (far : Nat) : Nat → List Nat → List Nat
  | 0, T => T
  | n + 1, T => again far n (T ++ [T.getD (T.length - far) 0])
def rShort (b : List Nat) : List Nat → List Nat → Nat → Res (List Nat)
  | [], l, k => .ok l k
  | s :: r, l, k => (rGrp b 3 k).then fun x k1 => rShort b r (l.set s x) k1
def order : List Nat := [16, 17, 18, 0, 8, 7, 9, 6, 10, 5, 11, 4, 12, 3, 13, 2, 14, 1, 15]
def rRun (b cl l : List Nat) (k : Nat) : Res (Nat × Nat) :=
  (rSym b cl k).then fun s k1 =>
    if s = 16 then (rIf (decide (l ≠ [])) 62 k1).then fun _ k2 => (rGrp b 2 k2).then fun n k3 => .ok (l.getLastD 0, 2 + n) k3
    else if s = 17 then (rGrp b 3 k1).then fun n k2 => .ok (0, 2 + n) k2
    else if s = 18 then (rGrp b 7 k1).then fun n k2 => .ok (0, 10 + n) k2
    else .ok (s, 0) k1
def rLens (b cl : List Nat) (many : Nat) (l : List Nat) (k : Nat) : Res (List Nat) :=
  if _h : many ≤ l.length then .ok l k
  else match rRun b cl l k with
    | .no e => .no e
    | .ok xt k1 => if many < l.length + xt.2 + 1 then .no 62 else rLens b cl many (l ++ List.replicate (xt.2 + 1) xt.1) k1
termination_by many - l.length
decreasing_by simp only [List.length_append, List.length_replicate]; omega
def rCode (b : List Nat) (many k : Nat) : Res (List Nat) := (rShort b (order.take many) (List.replicate 19 0) k).then fun cl k4 => (rIf (decide (ful cl)) 62 k4).then fun _ k4 => .ok cl k4
def rCodes (b : List Nat) (k : Nat) : Res (List Nat × List Nat) :=
  (rGrp b 5 k).then fun n1 k1 => (rGrp b 5 k1).then fun n2 k2 => (rGrp b 4 k2).then fun n3 k3 =>
  (rIf (decide (257 + n1 ≤ 286 ∧ 1 + n2 ≤ 30)) 62 k3).then fun _ k3 =>
  (rCode b (4 + n3) k3).then fun cl k4 =>
  (rLens b cl (257 + n1 + (1 + n2)) [] k4).then fun l k5 =>
  (rIf (decide (l.getD 256 0 ≠ 0 ∧ okl (l.take (257 + n1)) ∧ okl (l.drop (257 + n1)))) 62 k5).then fun _ k5 =>
  .ok (l.take (257 + n1), l.drop (257 + n1)) k5
def rBack (b : List Nat) (lim : Nat) (spn T : List Nat) (s k : Nat) : Res (List Nat) :=
  (rIf (decide (s ≤ 285)) 62 k).then fun _ k1 => (rGrp b (baseC s) k1).then fun n k2 => (rSym b spn k2).then fun d k3 =>
    (rIf (decide (d ≤ 29)) 62 k3).then fun _ k3 => (rGrp b (farC d) k3).then fun f k4 =>
    (rIf (decide (farN d + f ≤ T.length)) 63 k4).then fun _ k4 => (rIf (decide (T.length + (baseN s + n) ≤ lim)) 64 k4).then fun _ k4 =>
    .ok (again (farN d + f) (baseN s + n) T) k4
def rStep (b : List Nat) (lim : Nat) (lit spn T : List Nat) (k : Nat) : Res (Bool × List Nat) :=
  (rSym b lit k).then fun s k1 =>
    if s < 256 then (rIf (decide (T.length + 1 ≤ lim)) 64 k1).then fun _ k2 => .ok (false, T ++ [s]) k2
    else if s = 256 then .ok (true, T) k1
    else (rBack b lim spn T s k1).then fun T1 k2 => .ok (false, T1) k2
def rSyms (b : List Nat) (lim : Nat) (lit spn T : List Nat) (k : Nat) : Res (List Nat) :=
  match rStep b lim lit spn T k with
  | .no e => .no e
  | .ok (true, T1) k1 => .ok T1 k1
  | .ok (false, T1) k1 => if _h : k < k1 ∧ k1 ≤ 8 * b.length then rSyms b lim lit spn T1 k1 else .no 0
termination_by 8 * b.length + 1 - k
decreasing_by omega
def rStored (b : List Nat) (lim : Nat) (T : List Nat) (k : Nat) : Res (List Nat) :=
  (rGrp b 16 (upN k)).then fun n k1 => (rGrp b 16 k1).then fun m k2 =>
  (rIf (decide (n + m = 65535)) 61 k2).then fun _ k2 => (rIf (decide (T.length + n ≤ lim)) 64 k2).then fun _ k2 =>
  (rIf (decide (k2 + 8 * n ≤ 8 * b.length)) 20 k2).then fun _ k2 => .ok (T ++ (b.drop (k2 / 8)).take n) (k2 + 8 * n)
def fixLs' : List Nat := List.replicate 144 8 ++ (List.replicate 112 9 ++ (List.replicate 24 7 ++ List.replicate 8 8))
def rKind (b : List Nat) (lim : Nat) (T : List Nat) (kind k : Nat) : Res (List Nat) :=
  if kind = 0 then rStored b lim T k
  else if kind = 1 then rSyms b lim fixLs' (List.replicate 32 5) T k
  else if kind = 2 then (rCodes b k).then fun c k1 => rSyms b lim c.1 c.2 T k1
  else .no 60
def rBlock (b : List Nat) (lim : Nat) (T : List Nat) (k : Nat) : Res (Bool × List Nat) :=
  (rGrp b 1 k).then fun last k1 => (rGrp b 2 k1).then fun kind k2 => (rKind b lim T kind k2).then fun T1 k3 => .ok (decide (last = 1), T1) k3
def rBlocks (b : List Nat) (lim : Nat) (T : List Nat) (k : Nat) : Res (List Nat) :=
  match rBlock b lim T k with
  | .no e => .no e
  | .ok (true, T1) k1 => .ok T1 k1
  | .ok (false, T1) k1 => if _h : k < k1 ∧ k1 ≤ 8 * b.length then rBlocks b lim T1 k1 else .no 0
termination_by 8 * b.length + 1 - k
decreasing_by omega
def infl (b : List Nat) (lim : Nat) : Res (List Nat) := rBlocks b lim [] 0
end Go.Proofs.YtnndgpggjlhhpaaGreat
namespace Go.Proofs.YtnndgpggjlhhpaaGreat
open Go.RowKit
structure SetRow (w : World) (g : Nat) (A B C : Value) (m f a : Nat → Nat) (e : Nat) : Prop where
  ex : ∃ cs, w.heap[g]? = some (.cells cs 265 (0, 0)) ∧ cs.size = 52 ∧ cs[0]? = some A ∧ cs[1]? = some B ∧ cs[2]? = some C ∧ cs[51]? = some (.int .i64 (e : Nat)) ∧
    ∀ n, n < 16 → cs[3 + n * 3]? = some (.int .i64 (m n : Nat)) ∧ cs[3 + n * 3 + 1]? = some (.int .u32 (f n : Nat)) ∧ cs[3 + n * 3 + 2]? = some (.int .i64 (a n : Nat))
section
variable {w : World} {g : Nat} {A B C : Value} {m f a : Nat → Nat} {e : Nat}
theorem SetRow.c0 (h : SetRow w g A B C m f a e) : w.cell? ⟨g, 0, none⟩ = some A := by
  obtain ⟨cs, h1, -, h2, -⟩ := h.ex
  simp only [World.cell?, h1]; exact h2
theorem SetRow.c1 (h : SetRow w g A B C m f a e) : w.cell? ⟨g, 1, none⟩ = some B := by
  obtain ⟨cs, h1, -, -, h2, -⟩ := h.ex
  simp only [World.cell?, h1]; exact h2
theorem SetRow.c2 (h : SetRow w g A B C m f a e) : w.cell? ⟨g, 2, none⟩ = some C := by
  obtain ⟨cs, h1, -, -, -, h2, -⟩ := h.ex
  simp only [World.cell?, h1]; exact h2
theorem SetRow.ce (h : SetRow w g A B C m f a e) : w.cell? ⟨g, 51, none⟩ = some (.int .i64 (e : Nat)) := by
  obtain ⟨cs, h1, -, -, -, -, h2, -⟩ := h.ex
  simp only [World.cell?, h1]; exact h2
theorem SetRow.cm (h : SetRow w g A B C m f a e) (n : Nat) (hn : n < 16) : w.cell? ⟨g, 3 + n * 3, none⟩ = some (.int .i64 (m n : Nat)) := by
  obtain ⟨cs, h1, -, -, -, -, -, h2⟩ := h.ex
  simp only [World.cell?, h1]; exact (h2 n hn).1
theorem SetRow.cf (h : SetRow w g A B C m f a e) (n : Nat) (hn : n < 16) : w.cell? ⟨g, 3 + n * 3 + 1, none⟩ = some (.int .u32 (f n : Nat)) := by
  obtain ⟨cs, h1, -, -, -, -, -, h2⟩ := h.ex
  simp only [World.cell?, h1]; exact (h2 n hn).2.1
theorem SetRow.ca (h : SetRow w g A B C m f a e) (n : Nat) (hn : n < 16) : w.cell? ⟨g, 3 + n * 3 + 2, none⟩ = some (.int .i64 (a n : Nat)) := by
  obtain ⟨cs, h1, -, -, -, -, -, h2⟩ := h.ex
  simp only [World.cell?, h1]; exact (h2 n hn).2.2
theorem SetRow.fz (h : SetRow w g A B C m f a e) (k : Nat) : w.frozen? ⟨g, k, none⟩ = false := by
  obtain ⟨cs, h1, -⟩ := h.ex
  simp [World.frozen?, h1]
theorem SetRow.fr {S : Nat → Prop} {w' : World} (h : SetRow w g A B C m f a e) (hf : Fr S w w') (hs : ¬ S g) : SetRow w' g A B C m f a e := by
  obtain ⟨cs, h1, h2⟩ := h.ex
  exact ⟨cs, hf.row h1 hs, h2⟩
theorem SetRow.lt (h : SetRow w g A B C m f a e) : g < w.heap.size := by
  obtain ⟨cs, h1, h2⟩ := h.ex
  exact (Array.getElem?_eq_some_iff.1 h1).1
end
def upd (f : Nat → Nat) (n v : Nat) : Nat → Nat := fun k => if k = n then v else f k
theorem upd_at (f : Nat → Nat) (n v : Nat) : upd f n v n = v := by simp [upd]
theorem upd_ne (f : Nat → Nat) {n k : Nat} (v : Nat) (h : k ≠ n) : upd f n v k = f k := by simp [upd, h]
section
variable {w : World} {g : Nat} {A B C : Value} {m f a : Nat → Nat} {e : Nat}
theorem set_cells {cs : Array Value} {k i : Nat} {v : Value} {o : Option Value} (h : cs[i]? = o) (hk : k ≠ i) : (cs.setIfInBounds k v)[i]? = o := by
  rw [Array.getElem?_setIfInBounds, if_neg hk]; exact h
theorem SetRow.s1 (h : SetRow w g A B C m f a e) (x : Value) : SetRow (w.setCell ⟨g, 1, none⟩ x) g A x C m f a e := by
  obtain ⟨cs, h1, h2, h3, h4, h5, h6, h7⟩ := h.ex
  refine ⟨_, heap_setCell_same w g 1 _ _ _ h1, by simp [h2], set_cells h3 (by decide), by simp [h2], set_cells h5 (by decide), set_cells h6 (by decide), fun n hn => ?_⟩
  obtain ⟨q1, q2, q3⟩ := h7 n hn
  exact ⟨set_cells q1 (by omega), set_cells q2 (by omega), set_cells q3 (by omega)⟩
theorem SetRow.s2 (h : SetRow w g A B C m f a e) (x : Value) : SetRow (w.setCell ⟨g, 2, none⟩ x) g A B x m f a e := by
  obtain ⟨cs, h1, h2, h3, h4, h5, h6, h7⟩ := h.ex
  refine ⟨_, heap_setCell_same w g 2 _ _ _ h1, by simp [h2], set_cells h3 (by decide), set_cells h4 (by decide), by simp [h2], set_cells h6 (by decide), fun n hn => ?_⟩
  obtain ⟨q1, q2, q3⟩ := h7 n hn
  exact ⟨set_cells q1 (by omega), set_cells q2 (by omega), set_cells q3 (by omega)⟩
theorem SetRow.se (h : SetRow w g A B C m f a e) (x : Nat) : SetRow (w.setCell ⟨g, 51, none⟩ (.int .i64 (x : Nat))) g A B C m f a x := by
  obtain ⟨cs, h1, h2, h3, h4, h5, h6, h7⟩ := h.ex
  refine ⟨_, heap_setCell_same w g 51 _ _ _ h1, by simp [h2], set_cells h3 (by decide), set_cells h4 (by decide), set_cells h5 (by decide), by simp [h2], fun n hn => ?_⟩
  obtain ⟨q1, q2, q3⟩ := h7 n hn
  exact ⟨set_cells q1 (by omega), set_cells q2 (by omega), set_cells q3 (by omega)⟩
theorem set_here {cs : Array Value} {k : Nat} {v : Value} (h : k < cs.size) : (cs.setIfInBounds k v)[k]? = some v := by simp [h]
theorem SetRow.sm (h : SetRow w g A B C m f a e) (k : Nat) (hk : k < 16) (x : Nat) : SetRow (w.setCell ⟨g, 3 + k * 3, none⟩ (.int .i64 (x : Nat))) g A B C (upd m k x) f a e := by
  obtain ⟨cs, h1, h2, h3, h4, h5, h6, h7⟩ := h.ex
  refine ⟨_, heap_setCell_same w g _ _ _ _ h1, by simp [h2], set_cells h3 (by omega), set_cells h4 (by omega), set_cells h5 (by omega), set_cells h6 (by omega), fun n hn => ?_⟩
  obtain ⟨q1, q2, q3⟩ := h7 n hn
  refine ⟨?_, set_cells q2 (by omega), set_cells q3 (by omega)⟩
  by_cases q : n = k
  · subst q; rw [upd_at]; exact set_here (by omega)
  · rw [upd_ne m x q]; exact set_cells q1 (by omega)
theorem SetRow.sf (h : SetRow w g A B C m f a e) (k : Nat) (hk : k < 16) (x : Nat) : SetRow (w.setCell ⟨g, 3 + k * 3 + 1, none⟩ (.int .u32 (x : Nat))) g A B C m (upd f k x) a e := by
  obtain ⟨cs, h1, h2, h3, h4, h5, h6, h7⟩ := h.ex
  refine ⟨_, heap_setCell_same w g _ _ _ _ h1, by simp [h2], set_cells h3 (by omega), set_cells h4 (by omega), set_cells h5 (by omega), set_cells h6 (by omega), fun n hn => ?_⟩
  obtain ⟨q1, q2, q3⟩ := h7 n hn
  refine ⟨set_cells q1 (by omega), ?_, set_cells q3 (by omega)⟩
  by_cases q : n = k
  · subst q; rw [upd_at]; exact set_here (by omega)
  · rw [upd_ne f x q]; exact set_cells q2 (by omega)
theorem SetRow.sa (h : SetRow w g A B C m f a e) (k : Nat) (hk : k < 16) (x : Nat) : SetRow (w.setCell ⟨g, 3 + k * 3 + 2, none⟩ (.int .i64 (x : Nat))) g A B C m f (upd a k x) e := by
  obtain ⟨cs, h1, h2, h3, h4, h5, h6, h7⟩ := h.ex
  refine ⟨_, heap_setCell_same w g _ _ _ _ h1, by simp [h2], set_cells h3 (by omega), set_cells h4 (by omega), set_cells h5 (by omega), set_cells h6 (by omega), fun n hn => ?_⟩
  obtain ⟨q1, q2, q3⟩ := h7 n hn
  refine ⟨set_cells q1 (by omega), set_cells q2 (by omega), ?_⟩
  by_cases q : n = k
  · subst q; rw [upd_at]; exact set_here (by omega)
  · rw [upd_ne a x q]; exact set_cells q3 (by omega)
theorem SetRow.congr {m' f' a' : Nat → Nat} {e' : Nat} (h : SetRow w g A B C m f a e) (hm : ∀ n, n < 16 → m n = m' n) (hf : ∀ n, n < 16 → f n = f' n) (ha : ∀ n, n < 16 → a n = a' n) (he : e = e') : SetRow w g A B C m' f' a' e' := by
  obtain ⟨cs, h1, h2, h3, h4, h5, h6, h7⟩ := h.ex
  exact ⟨cs, h1, h2, h3, h4, h5, he ▸ h6, fun n hn => by rw [← hm n hn, ← hf n hn, ← ha n hn]; exact h7 n hn⟩
end
theorem bare_any (g : Nat) {A B C : Value} {m f a : Nat → Nat} {e : Nat} (w : World) (h : SetRow w g A B C m f a e) :
    Calls Tryz.prog 226 #[.pointer (some ⟨g, 0, none⟩)] w fun r w' => r = .returned (.bool (decide (e = 0))) ∧ w = w' := by
  have h1 := h.ce
  have E : Hid (((e : Int) == 0) = decide (e = 0)) := Lib.hid (by rw [Bool.eq_iff_iff, beq_iff_eq, decide_eq_true_iff]; omega)
  clear h
  go_enter Tryz.func226, Tryz.ntmps226
  go_wp2
  go_ret
  exact ⟨by rw [← E.out]; rfl, rfl⟩
def lonB (e k : Nat) : Bool := decide (e = 1 ∧ k = 1)
theorem lone_any (g : Nat) {A B C : Value} {m f a : Nat → Nat} {e : Nat} (w : World) (h : SetRow w g A B C m f a e) :
    Calls Tryz.prog 225 #[.pointer (some ⟨g, 0, none⟩)] w fun r w' => r = .returned (.bool (lonB e (m 1))) ∧ w = w' := by
  have h1 := h.ce
  have h2 := h.cm 1 (by decide)
  clear h
  by_cases he : e = 1
  · subst he
    obtain ⟨M, hM⟩ : ∃ M, m 1 = M := ⟨_, rfl⟩
    rw [hM] at h2 ⊢
    have E : Hid (((M : Int) == 1) = lonB 1 M) := Lib.hid (by unfold lonB; rw [Bool.eq_iff_iff, beq_iff_eq, decide_eq_true_iff]; omega)
    clear hM
    go_enter Tryz.func225, Tryz.ntmps225
    go_wp2
    go_ret
    exact ⟨by rw [← E.out]; rfl, rfl⟩
  · have E : Hid (lonB e (m 1) = false) := Lib.hid (decide_eq_false fun q => he q.1)
    have hb : ((e : Int) == 1) = false := by rw [beq_eq_false_iff_ne]; omega
    clear he
    go_enter Tryz.func225, Tryz.ntmps225
    go_wp2
    go_ret
    exact ⟨by rw [E.out]; rfl, rfl⟩
end Go.Proofs.YtnndgpggjlhhpaaGreat
namespace Go.Proofs.YtnndgpggjlhhpaaGreat
open Go.RowKit
theorem run_loadVar_at {P : Program} (w : World) (g o : Nat) (ty : TypeId) (cs : Array Value) (d : TypeDesc) (hc : ∀ j, j < cs.size → w.cell? ⟨g, o + j, none⟩ = cs[j]?)
    (hu : P.underlying ty = some d) (hd : (match d with | .struct _ | .array _ _ => true | _ => false) = true) (hi : (P.info? ty).map (·.size) = some cs.size) :
    (loadVar ty ⟨g, o, none⟩).run P w = .ok (.agg cs) w := by
  have hl : (loadCells ⟨g, o, none⟩ cs.toList.length).run P w = .ok cs.toList.toArray w :=
    run_loadCells_list (P := P) w ⟨g, o, none⟩ cs.toList (fun j v hv => by
      have hadd : (⟨g, o, none⟩ : Addr).add j = ⟨g, o + j, none⟩ := by unfold Addr.add; split <;> simp_all
      have hj : j < cs.size := by have := (List.getElem?_eq_some_iff.1 hv).1; simpa using this
      rw [hadd, hc j hj]
      simpa using hv)
  cases hq : P.info? ty with
  | none => simp [hq] at hi
  | some i =>
    have hs : i.size = cs.size := by simpa [hq] using hi
    have hagg : (isAgg ty).run P w = .ok true w := by
      unfold isAgg
      rw [Sem.run_bind, run_underlying hu w]
      cases d <;> simp_all
    simp only [Array.length_toList, Array.toArray_toList] at hl
    simp [loadVar, Sem.run_bind, hagg, sizeOf, typeInfo, hq, hs, hl]
theorem wpList_load_at {P : Program} {ops : Array Oper} {rest : List Oper} {o : Oper} {a : Act} {w : World} {Q : Exit → Act → World → Prop} (hgd : o.guard = none) (ty : TypeId) (x : Operand) (ho : o.op = .load ty x)
    {g k : Nat} (hx : a.eval x = .pointer (some ⟨g, k, none⟩)) {cs : Array Value} (hc : ∀ j, j < cs.size → w.cell? ⟨g, k + j, none⟩ = cs[j]?) {d : TypeDesc}
    (hu : P.underlying ty = some d) (hd : (match d with | .struct _ | .array _ _ => true | _ => false) = true) (hi : (P.info? ty).map (·.size) = some cs.size)
    (h : wpList P ops Q rest (a.put o.dst (.agg cs)) w) : wpList P ops Q (o :: rest) a w := by
  refine wpList_plain hgd fun K hK => ?_
  unfold Oper.wp execOp
  simp only [ho, hx, Instr.loadAt, Instr.sureAddr, Sem.run_bind, Sem.run_pure, Result.andThen_ok, run_loadVar_at w g k ty cs d hc hu hd hi]
  exact hK _ _ h
def shs (m f a : Nat → Nat) : Array Value := ((List.range 48).map fun j => if j % 3 = 0 then Value.int .i64 (m (j / 3) : Nat) else if j % 3 = 1 then .int .u32 (f (j / 3) : Nat) else .int .i64 (a (j / 3) : Nat)).toArray
theorem shs_size (m f a : Nat → Nat) : (shs m f a).size = 48 := by simp [shs]
theorem shs_get (m f a : Nat → Nat) (j : Nat) (h : j < 48) : (shs m f a)[j]? = some (if j % 3 = 0 then Value.int .i64 (m (j / 3) : Nat) else if j % 3 = 1 then .int .u32 (f (j / 3) : Nat) else .int .i64 (a (j / 3) : Nat)) := by
  simp [shs, h]
theorem shs_m (m f a : Nat → Nat) (n : Nat) (h : n < 16) : (shs m f a)[n * 3]? = some (.int .i64 (m n : Nat)) := by
  rw [shs_get _ _ _ _ (by omega), if_pos (by omega), show n * 3 / 3 = n by omega]
theorem shs_f (m f a : Nat → Nat) (n : Nat) (h : n < 16) : (shs m f a)[n * 3 + 1]? = some (.int .u32 (f n : Nat)) := by
  rw [shs_get _ _ _ _ (by omega), if_neg (by omega), if_pos (by omega), show (n * 3 + 1) / 3 = n by omega]
theorem shs_a (m f a : Nat → Nat) (n : Nat) (h : n < 16) : (shs m f a)[n * 3 + 2]? = some (.int .i64 (a n : Nat)) := by
  rw [shs_get _ _ _ _ (by omega), if_neg (by omega), if_neg (by omega), show (n * 3 + 2) / 3 = n by omega]
theorem shs_one (m f a : Nat → Nat) : ∀ v ∈ (shs m f a).toList, v.oneCell' = true := by
  intro v hv
  obtain ⟨j, hj, rfl⟩ := List.mem_iff_getElem.1 hv
  have hj' : j < 48 := by rw [Array.length_toList, shs_size] at hj; exact hj
  have := shs_get m f a j hj'
  rw [Array.getElem?_eq_getElem (by rw [shs_size]; exact hj')] at this
  have e := Option.some.inj this
  rw [Array.getElem_toList, e]
  split
  · rfl
  · split <;> rfl
theorem SetRow.cells {w : World} {g : Nat} {A B C : Value} {m f a : Nat → Nat} {e : Nat} (h : SetRow w g A B C m f a e) : ∀ j, j < (shs m f a).size → w.cell? ⟨g, 3 + j, none⟩ = (shs m f a)[j]? := by
  intro j hj
  rw [shs_size] at hj
  have h1 := h.cm (j / 3) (by omega)
  have h2 := h.cf (j / 3) (by omega)
  have h3 := h.ca (j / 3) (by omega)
  rw [shs_get _ _ _ _ hj]
  have hj3 : j % 3 = 0 ∨ j % 3 = 1 ∨ j % 3 = 2 := by omega
  rcases hj3 with e | e | e
  · rw [if_pos e, ← h1]; congr 2; omega
  · rw [if_neg (by omega), if_pos e, ← h2]; congr 2; omega
  · rw [if_neg (by omega), if_neg (by omega), ← h3]; congr 2; omega
theorem shelf_info : (Tryz.prog.info? 262).map (·.size) = some 3 := by kernel_rfl
theorem shelves_info : (Tryz.prog.info? 263).map (·.size) = some 48 := by kernel_rfl
theorem shs_cut (m f a : Nat → Nat) (n : Nat) (h : n < 16) : (shs m f a).extract (n * 3) (n * 3 + 3) = #[.int .i64 (m n : Nat), .int .u32 (f n : Nat), .int .i64 (a n : Nat)] := by
  apply Array.ext
  · rw [Array.size_extract, shs_size]
    show min (n * 3 + 3) 48 - n * 3 = 3
    omega
  · intro i h1 h2
    rw [Array.size_extract, shs_size] at h1
    have h3 : i = 0 ∨ i = 1 ∨ i = 2 := by omega
    rw [Array.getElem_extract]
    rcases h3 with rfl | rfl | rfl
    · have := shs_m m f a n h
      rw [Array.getElem?_eq_getElem (by rw [shs_size]; omega)] at this
      exact Option.some.inj this
    · have := shs_f m f a n h
      rw [Array.getElem?_eq_getElem (by rw [shs_size]; omega)] at this
      exact Option.some.inj this
    · have := shs_a m f a n h
      rw [Array.getElem?_eq_getElem (by rw [shs_size]; omega)] at this
      exact Option.some.inj this
theorem shs_index (m f a : Nat → Nat) (n : Nat) (h : n < 16) (w : World) : (Instr.index 263 (.agg (shs m f a)) (.int .i64 (n : Nat))).run Tryz.prog w = .ok (.agg #[.int .i64 (m n : Nat), .int .u32 (f n : Nat), .int .i64 (a n : Nat)]) w := by
  have hs : (sizeOf 262).run Tryz.prog w = .ok 3 w := by
    obtain ⟨i, hi, hz⟩ := Option.map_eq_some_iff.1 shelf_info
    simp [sizeOf, typeInfo, hi, hz]
  have hagg : (isAgg 262).run Tryz.prog w = .ok true w := by
    unfold isAgg
    rw [Sem.run_bind, run_underlying Tryz.underlying262 w]
    rfl
  have hn : (0 : Int) ≤ (n : Int) ∧ (n : Int) < (16 : Nat) := by omega
  simp only [Instr.index, asIntOf, Sem.run_bind, Sem.run_pure, Result.andThen_ok, run_underlying Tryz.underlying263 w]
  rw [if_pos hn]
  simp only [Sem.run_bind, hs, Result.andThen_ok, part, hagg, if_pos, Sem.run_pure, Int.toNat_natCast]
  rw [shs_cut m f a n h]
theorem shl_part (l : List Nat) (j : Nat) (h : j < 16) : prt l j + mny l j * 2 ^ (15 - j) = prt l (j + 1) := (prt_succ l j (by omega)).symm
theorem shl_wrap (M p j : Nat) (h : j ≤ 15) (hm : M ≤ 1000) (hp : p ≤ 65535000) : wrap64 ((p : Int) + wrap64 ((M : Int) * 2 ^ (15 - j))) = ((p + M * 2 ^ (15 - j) : Nat) : Int) := by
  have h1 : (2 : Nat) ^ (15 - j) ≤ 2 ^ 15 := Nat.pow_le_pow_right (by decide) (by omega)
  have h2 : M * 2 ^ (15 - j) ≤ 1000 * 32768 := Nat.mul_le_mul hm h1
  have e : (M : Int) * 2 ^ (15 - j) = ((M * 2 ^ (15 - j) : Nat) : Int) := by simp
  rw [e]
  generalize M * 2 ^ (15 - j) = K at h2 ⊢
  unfold wrap64
  omega
theorem ful_bool (l : List Nat) : ((ztop l 15 : Nat) : Int) = 32768 ↔ ful l := by unfold ful; omega
theorem full_any (g : Nat) {A B C : Value} {l : List Nat} {e : Nat} (w : World) (h : SetRow w g A B C (mny l) (fst l) (zahd l) e) (hl : l.length ≤ 1000) :
    Calls Tryz.prog 224 #[.pointer (some ⟨g, 0, none⟩)] w fun r w' => r = .returned (.bool (decide (ful l))) ∧ Fr S0 w w' := by
  have HC := h.cells
  have HI : (Tryz.prog.info? 263).map (·.size) = some (shs (mny l) (fst l) (zahd l)).size := by rw [shs_size]; exact shelves_info
  have HX := Lib.hid (shs_index (mny l) (fst l) (zahd l))
  have HL := Lib.hid hl
  clear h hl
  go_enter Tryz.func224, Tryz.ntmps224
  go_wp2_with (first | (refine wpList_load_at rfl 263 (.tmp 8) rfl rfl HC Tryz.underlying263 rfl HI ?_) | fail)
  clear HC HI
  go_loopw [3, 10] (fun t i wr => ∃ (j p : Nat), j ≤ 16 ∧ i = .int .i64 j ∧ t = .int .i64 p ∧ p = prt l j ∧ Fr S0 w wr) (fun _ i _ => 16 - (intOf i).toNat)
  case atStart => exact ⟨0, 0, by omega, rfl, rfl, rfl, Fr.refl _ _⟩
  case round =>
    obtain ⟨j, p, hj, rfl, rfl, hp, hfr⟩ := hrel
    have HP := Lib.hid hp
    clear hp
    by_cases hjc : (j : Int) < 16
    · have hx := HX.out j (by omega)
      have HS := Lib.hid (shl_part l j (by omega))
      have hm := mny_le l j
      obtain ⟨M, hM⟩ : ∃ M, mny l j = M := ⟨_, rfl⟩
      rw [hM] at hx HS hm
      have hj15 : j ≤ 15 := by omega
      have HW := Lib.hid (shl_wrap M p j hj15 (Nat.le_trans hm HL.out) (by rw [HP.out]; exact Nat.le_trans (prt_le l j (by omega)) (top_small l 15 (by omega) HL.out)))
      obtain ⟨SH, hSH⟩ : ∃ X, shs (mny l) (fst l) (zahd l) = X := ⟨_, rfl⟩
      rw [hSH] at hx ⊢
      clear hM hSH HX
      go_wp2_with (first | ((with_reducible show wpList _ _ _ (Oper.mk none (Op.store _ _ _) _ _ _ _ :: _) _ _); refine store_new 262 (.tmp 5) (.tmp 13) rfl rfl rfl rfl shelf_info rfl rfl ?_) | fail)
      go_roundw
      case rel => exact ⟨j + 1, prt l (j + 1), by omega, by go_num, by rw [HW.out, ← HS.out, ← HP.out], rfl, hfr.trans0 (Fr.alloc _ _ _)⟩
      case measure => simp [intOf]; omega
    · obtain rfl : j = 16 := by omega
      have E : Hid (((p : Int) == 32768) = decide (ful l)) := Lib.hid (by
        have e : p = ztop l 15 := by rw [HP.out, prt_end]
        rw [e, Bool.eq_iff_iff, beq_iff_eq, decide_eq_true_iff]; exact ful_bool l)
      clear HP
      go_wp2
      go_ret
      exact ⟨by rw [← E.out]; rfl, hfr⟩
end Go.Proofs.YtnndgpggjlhhpaaGreat
namespace Go.Proofs.YtnndgpggjlhhpaaGreat
open Go.RowKit
theorem mny_take (l : List Nat) (j : Nat) (h : j < l.length) (n : Nat) : mny (l.take (j + 1)) n = if len l j = n ∧ 0 < n then mny (l.take j) n + 1 else mny (l.take j) n := by
  unfold mny
  by_cases e : n = 0
  · subst e; simp
  · rw [if_neg e, if_neg e, count_take l n j h]
    by_cases k : len l j = n
    · rw [if_pos k, if_pos ⟨k, by omega⟩]
    · rw [if_neg k, if_neg (fun q => k q.1)]; rfl
def till (n : Nat) (f : Nat → Nat) : Nat → Nat := fun k => if k < n then f k else 0
theorem till_lt {n k : Nat} (f : Nat → Nat) (h : k < n) : till n f k = f k := by unfold till; rw [if_pos h]
theorem till_all (f : Nat → Nat) (k : Nat) (h : k < 16) : till 16 f k = f k := till_lt f h
theorem till_succ (f : Nat → Nat) (n k : Nat) : upd (till n f) n (f n) k = till (n + 1) f k := by
  by_cases e : k = n
  · subst e; rw [upd_at, till_lt f (by omega)]
  · rw [upd_ne _ _ e]
    unfold till
    by_cases h : k < n
    · rw [if_pos h, if_pos (by omega)]
    · rw [if_neg h, if_neg (by omega)]
theorem cnt_zero (l : List Nat) (n : Nat) : mny (l.take 0) n = 0 := by simp [mny]
theorem cnt_no {w : World} {g j : Nat} {A B C : Value} {l : List Nat} {f a : Nat → Nat} (h : SetRow w g A B C (mny (l.take j)) f a (mx (l.take j))) (hj : j < l.length) (hx : len l j = 0) :
    SetRow w g A B C (mny (l.take (j + 1))) f a (mx (l.take (j + 1))) :=
  h.congr (fun n _ => by rw [mny_take l j hj, if_neg (by omega)]) (fun _ _ => rfl) (fun _ _ => rfl) (by rw [mx_take l j hj, hx]; omega)
theorem SetRow.drew {w : World} {g : Nat} {A B C : Value} {m f a : Nat → Nat} {e : Nat} (h : SetRow w g A B C m f a e) : SetRow w.drew g A B C m f a e := h.fr (S := S0) (Fr.drew _ _) (fun h => h)
theorem cnt_yes {w : World} {g j x M E : Nat} {A B C : Value} {l : List Nat} {f a : Nat → Nat} (h : SetRow w g A B C (mny (l.take j)) f a (mx (l.take j))) (hj : j < l.length) (hx : len l j = x) (h0 : 0 < x) (h15 : x ≤ 15) (hM : mny (l.take j) x = M)
    (hE : max (mx (l.take j)) x = E) :
    SetRow ((w.setCell ⟨g, 3 + x * 3, none⟩ (.int .i64 ((M : Int) + 1))).setCell ⟨g, 51, none⟩ (.int .i64 (E : Nat))).drew g A B C (mny (l.take (j + 1))) f a (mx (l.take (j + 1))) := by
  refine ((h.sm x (by omega) (M + 1)).se E).drew.congr (fun n _ => ?_) (fun _ _ => rfl) (fun _ _ => rfl) (by rw [mx_take l j hj, hx, hE])
  rw [mny_take l j hj]
  by_cases e : n = x
  · subst e; rw [upd_at, if_pos ⟨hx, h0⟩, hM]
  · rw [upd_ne _ _ e, if_neg (by omega)]
theorem fr_two {w wr : World} {g : Nat} (h : Fr (· = g) w wr) (k i : Nat) (u v : Value) : Fr (· = g) w ((wr.setCell ⟨g, k, none⟩ u).setCell ⟨g, i, none⟩ v).drew :=
  ((h.trans (Fr.setCell (· = g) _ ⟨g, k, none⟩ _ rfl) (fun _ _ h => h)).trans (Fr.setCell (· = g) _ ⟨g, i, none⟩ _ rfl) (fun _ _ h => h)).trans0 (Fr.drew _ _)
theorem cnt_next {w : World} {g n F M N : Nat} {A B C : Value} {m f a : Nat → Nat} {e : Nat} (h : SetRow w g A B C m (till n f) (till n a) e) (hn : n < 16) (hf : f n = 2 * (F + M)) (ha : a n = N + M) :
    SetRow ((w.setCell ⟨g, 3 + n * 3 + 1, none⟩ (.int .u32 (((F : Int) + (M : Int)) * 2))).setCell ⟨g, 3 + n * 3 + 2, none⟩ (.int .i64 ((N : Int) + (M : Int)))).drew.drew g A B C m (till (n + 1) f) (till (n + 1) a) e := by
  have e1 : ((F : Int) + (M : Int)) * 2 = ((f n : Nat) : Int) := by omega
  have e2 : (N : Int) + (M : Int) = ((a n : Nat) : Int) := by omega
  rw [e1, e2]
  exact ((h.sf n hn (f n)).sa n hn (a n)).drew.drew.congr (fun _ _ => rfl) (fun k _ => till_succ f n k) (fun k _ => till_succ a n k) rfl
theorem count_any (g : Nat) (p : Option Addr) (d : Nat) {B C : Value} (l : List Nat) (w : World) (h : SetRow w g (.slice p l.length d) B C (fun _ => 0) (fun _ => 0) (fun _ => 0) 0)
    (hl : SlI w .u8 p l) (hp : Off (· = g) p) (h15 : ∀ x ∈ l, x ≤ 15) (hL : l.length ≤ 320) :
    Calls Tryz.prog 223 #[.pointer (some ⟨g, 0, none⟩)] w fun r w' => r = .returned (.tuple #[]) ∧ Fr (· = g) w w' ∧ SetRow w' g (.slice p l.length d) B C (mny l) (fst l) (zahd l) (mx l) := by
  have H := Lib.hid h
  have HL := Lib.hid hl
  have HP := Lib.hid hp
  have H15 := Lib.hid h15
  have hc0 := h.c0
  clear h hl hp h15
  go_enter Tryz.func223, Tryz.ntmps223
  go_wp2_with fail
  go_loopw [3, 11] (fun _ i wr => ∃ j : Nat, j ≤ l.length ∧ i = .int .i64 j ∧ Fr (· = g) w wr ∧ SetRow wr g (.slice p l.length d) B C (mny (l.take j)) (fun _ => 0) (fun _ => 0) (mx (l.take j))) (fun _ i _ => l.length - (intOf i).toNat)
  case atStart => exact ⟨0, by omega, rfl, Fr.refl _ _, H.out.congr (fun n _ => (cnt_zero l n).symm) (fun _ _ => rfl) (fun _ _ => rfl) (by simp [mx])⟩
  case round =>
    obtain ⟨j, hj, rfl, hfr, hs⟩ := hrel
    by_cases hjc : (j : Int) < (l.length : Int)
    · have hjl : j < l.length := by omega
      obtain ⟨b, o, hpe, hcl⟩ := (HL.out.fr hfr fun _ => HP.out).at j hjl
      have HX15 := H15.out _ (List.getElem_mem hjl)
      have HLEN := len_get l j hjl
      obtain ⟨x, hx⟩ : ∃ x, l[j] = x := ⟨_, rfl⟩
      rw [hx] at hcl HX15 HLEN
      clear hx
      subst hpe
      by_cases hx0 : 0 < x
      · have h1 := hs.cm x (by omega)
        have h2 := hs.fz (3 + x * 3)
        have h3 := hs.ce
        have h4 := hs.fz 51
        obtain ⟨M, hM⟩ : ∃ M, mny (l.take j) x = M := ⟨_, rfl⟩
        obtain ⟨E, hE⟩ : ∃ E, mx (l.take j) = E := ⟨_, rfl⟩
        have hM1 : M ≤ 320 := by rw [← hM]; exact Nat.le_trans (mny_le _ _) (by rw [List.length_take]; omega)
        have HS := Lib.hid (fun E' q => cnt_yes (E := E') hs hjl HLEN hx0 HX15 hM q)
        rw [hE] at h3 HS
        rw [hM] at h1
        clear hM hE HLEN hs
        by_cases hmx : E < x
        · have HS' := Lib.hid (HS.out x (by omega))
          clear HS
          go_wp2_with fail
          go_region
          go_wp2_with fail
          go_roundw
          case rel => exact ⟨j + 1, by omega, by go_num, fr_two hfr _ _ _ _, HS'.out⟩
          case measure => simp [intOf]; omega
        · have HS' := Lib.hid (HS.out E (by omega))
          clear HS
          go_wp2_with fail
          go_region
          go_wp2_with fail
          go_roundw
          case rel => exact ⟨j + 1, by omega, by go_num, fr_two hfr _ _ _ _, HS'.out⟩
          case measure => simp [intOf]; omega
      · obtain rfl : x = 0 := by omega
        have HS := Lib.hid (cnt_no hs hjl HLEN)
        clear HLEN hs
        go_wp2_with fail
        go_roundw
        case rel => exact ⟨j + 1, by omega, by go_num, hfr, HS.out⟩
        case measure => simp [intOf]; omega
    · obtain rfl : j = l.length := by omega
      rw [List.take_length] at hs
      have HS := Lib.hid (hs.congr (fun _ _ => rfl) (f' := till 1 (fst l)) (fun n _ => by unfold till; split <;> first | rfl | (rw [show n = 0 by omega]; rfl)) (a' := till 1 (zahd l)) (fun n _ => by unfold till; split <;> first | rfl | (rw [show n = 0 by omega]; rfl)) rfl)
      clear hs
      go_wp2_with fail
      go_loopw [4] (fun i wr => ∃ j : Nat, 1 ≤ j ∧ j ≤ 16 ∧ i = .int .i64 j ∧ Fr (· = g) w wr ∧ SetRow wr g (.slice p l.length d) B C (mny l) (till j (fst l)) (till j (zahd l)) (mx l)) (fun i _ => 16 - (intOf i).toNat)
      case atStart => exact ⟨1, by omega, by omega, rfl, hfr, HS.out⟩
      case round =>
        obtain ⟨j, hj1, hj, rfl, hfr, hs⟩ := hrel
        by_cases hjc : (j : Int) ≤ 15
        · obtain ⟨k, rfl⟩ : ∃ k, j = k + 1 := ⟨j - 1, by omega⟩
          have h1 := hs.cm k (by omega)
          have h2 := hs.cf k (by omega)
          have h3 := hs.ca k (by omega)
          rw [till_lt _ (by omega)] at h2 h3
          have hM := mny_le l k
          have hF := top_eq l k
          have hT := top_small l k (by omega) (by omega)
          have hA := ahd_small l k (by omega) (by omega)
          obtain ⟨M, hM'⟩ : ∃ M, mny l k = M := ⟨_, rfl⟩
          obtain ⟨F, hF'⟩ : ∃ F, fst l k = F := ⟨_, rfl⟩
          obtain ⟨N, hN'⟩ : ∃ N, zahd l k = N := ⟨_, rfl⟩
          rw [hM'] at h1 hM hF
          rw [hF'] at h2 hF
          rw [hN'] at h3 hA
          have HF1 : Hid (fst l (k + 1) = 2 * (F + M)) := Lib.hid (by rw [fst_succ, hF])
          have HN1 : Hid (zahd l (k + 1) = N + M) := Lib.hid (by rw [zahd_succ, hM', hN'])
          rw [hF] at hT
          have hgn : g < wr.heap.size := hs.lt
          clear hF hM' hF' hN'
          go_wp2_with fail
          have hs1 := hs.fr (S := S0) (Fr.alloc S0 wr (.cells #[.int .i64 (M : Nat), .int .u32 (F : Nat), .int .i64 (N : Nat)] 262)) (fun h => h)
          have hf1 := hfr.trans0 (Fr.alloc S0 wr (.cells #[.int .i64 (M : Nat), .int .u32 (F : Nat), .int .i64 (N : Nat)] 262))
          have hb1 := heap_alloc_new wr (.cells #[.int .i64 (M : Nat), .int .u32 (F : Nat), .int .i64 (N : Nat)] 262)
          obtain ⟨n, hn⟩ : ∃ n, wr.heap.size = n := ⟨_, rfl⟩
          rw [hn] at hb1 hgn ⊢
          generalize wr.alloc (.cells #[.int .i64 (M : Nat), .int .u32 (F : Nat), .int .i64 (N : Nat)] 262) = W at hs1 hf1 hb1 ⊢
          have n0 : W.cell? ⟨n, 0, none⟩ = some (.int .i64 (M : Nat)) := by simp [World.cell?, hb1]
          have n1 : W.cell? ⟨n, 1, none⟩ = some (.int .u32 (F : Nat)) := by simp [World.cell?, hb1]
          have n2 : W.cell? ⟨n, 2, none⟩ = some (.int .i64 (N : Nat)) := by simp [World.cell?, hb1]
          have k1 := hs1.cf (k + 1) (by omega)
          have k2 := hs1.fz (3 + (k + 1) * 3 + 1)
          have k3 := hs1.ca (k + 1) (by omega)
          have k4 := hs1.fz (3 + (k + 1) * 3 + 2)
          have hgn' : ¬ n = g := by omega
          clear h1 h2 h3 hn hs hb1
          go_region
          go_wp2_with fail
          go_region
          go_wp2_with fail
          go_roundw
          case rel => exact ⟨k + 1 + 1, by omega, by omega, by go_num, (fr_two hf1 _ _ _ _).trans0 (Fr.drew _ _), cnt_next hs1 (by omega) HF1.out HN1.out⟩
          case measure => simp [intOf]; omega
        · obtain rfl : j = 16 := by omega
          have HE := Lib.hid (hs.congr (fun _ _ => rfl) (till_all _) (till_all _) rfl)
          clear hs
          go_wp2_with fail
          go_end0
          exact ⟨rfl, hfr, HE.out⟩
end Go.Proofs.YtnndgpggjlhhpaaGreat
namespace Go.Proofs.YtnndgpggjlhhpaaGreat
open Go.RowKit
structure ShRow (w : World) (g : Nat) (m f a : Nat → Nat) : Prop where
  ex : ∃ cs, w.heap[g]? = some (.cells cs 263 (0, 0)) ∧ cs.size = 48 ∧
    ∀ n, n < 16 → cs[n * 3]? = some (.int .i64 (m n : Nat)) ∧ cs[n * 3 + 1]? = some (.int .u32 (f n : Nat)) ∧ cs[n * 3 + 2]? = some (.int .i64 (a n : Nat))
section
variable {w : World} {g : Nat} {m f a : Nat → Nat}
theorem ShRow.cm (h : ShRow w g m f a) (n : Nat) (hn : n < 16) : w.cell? ⟨g, n * 3, none⟩ = some (.int .i64 (m n : Nat)) := by
  obtain ⟨cs, h1, -, h2⟩ := h.ex
  simp only [World.cell?, h1]; exact (h2 n hn).1
theorem ShRow.cf (h : ShRow w g m f a) (n : Nat) (hn : n < 16) : w.cell? ⟨g, n * 3 + 1, none⟩ = some (.int .u32 (f n : Nat)) := by
  obtain ⟨cs, h1, -, h2⟩ := h.ex
  simp only [World.cell?, h1]; exact (h2 n hn).2.1
theorem ShRow.ca (h : ShRow w g m f a) (n : Nat) (hn : n < 16) : w.cell? ⟨g, n * 3 + 2, none⟩ = some (.int .i64 (a n : Nat)) := by
  obtain ⟨cs, h1, -, h2⟩ := h.ex
  simp only [World.cell?, h1]; exact (h2 n hn).2.2
theorem ShRow.fz (h : ShRow w g m f a) (k : Nat) : w.frozen? ⟨g, k, none⟩ = false := by
  obtain ⟨cs, h1, -⟩ := h.ex
  simp [World.frozen?, h1]
theorem ShRow.fr {S : Nat → Prop} {w' : World} (h : ShRow w g m f a) (hf : Fr S w w') (hs : ¬ S g) : ShRow w' g m f a := by
  obtain ⟨cs, h1, h2⟩ := h.ex
  exact ⟨cs, hf.row h1 hs, h2⟩
theorem ShRow.lt (h : ShRow w g m f a) : g < w.heap.size := by
  obtain ⟨cs, h1, h2⟩ := h.ex
  exact (Array.getElem?_eq_some_iff.1 h1).1
theorem ShRow.sf (h : ShRow w g m f a) (k : Nat) (hk : k < 16) (x : Nat) : ShRow (w.setCell ⟨g, k * 3 + 1, none⟩ (.int .u32 (x : Nat))) g m (upd f k x) a := by
  obtain ⟨cs, h1, h2, h7⟩ := h.ex
  refine ⟨_, heap_setCell_same w g _ _ _ _ h1, by simp [h2], fun n hn => ?_⟩
  obtain ⟨q1, q2, q3⟩ := h7 n hn
  refine ⟨set_cells q1 (by omega), ?_, set_cells q3 (by omega)⟩
  by_cases q : n = k
  · subst q; rw [upd_at]; exact set_here (by omega)
  · rw [upd_ne f x q]; exact set_cells q2 (by omega)
theorem ShRow.sa (h : ShRow w g m f a) (k : Nat) (hk : k < 16) (x : Nat) : ShRow (w.setCell ⟨g, k * 3 + 2, none⟩ (.int .i64 (x : Nat))) g m f (upd a k x) := by
  obtain ⟨cs, h1, h2, h7⟩ := h.ex
  refine ⟨_, heap_setCell_same w g _ _ _ _ h1, by simp [h2], fun n hn => ?_⟩
  obtain ⟨q1, q2, q3⟩ := h7 n hn
  refine ⟨set_cells q1 (by omega), set_cells q2 (by omega), ?_⟩
  by_cases q : n = k
  · subst q; rw [upd_at]; exact set_here (by omega)
  · rw [upd_ne a x q]; exact set_cells q3 (by omega)
theorem ShRow.congr {f' a' : Nat → Nat} (h : ShRow w g m f a) (hf : ∀ n, n < 16 → f n = f' n) (ha : ∀ n, n < 16 → a n = a' n) : ShRow w g m f' a' := by
  obtain ⟨cs, h1, h2, h7⟩ := h.ex
  exact ⟨cs, h1, h2, fun n hn => by rw [← hf n hn, ← ha n hn]; exact h7 n hn⟩
theorem ShRow.new (w : World) (m f a : Nat → Nat) : ShRow (w.alloc (.cells (shs m f a) 263)) w.heap.size m f a :=
  ⟨_, heap_alloc_new w _, shs_size m f a, fun n hn => ⟨shs_m m f a n hn, shs_f m f a n hn, shs_a m f a n hn⟩⟩
end
theorem info_u32 : (Tryz.prog.info? 54).map (fun i => (i.zero, i.size, i.bytes)) = some (some (.int .u32 0), 1, 4) := by kernel_rfl
theorem zinfo_int : (Tryz.prog.info? 3).map (fun i => (i.zero, i.size, i.bytes)) = some (some (.int .i64 0), 1, 8) := by kernel_rfl
def u32s (l : List Nat) : List Value := l.map fun (x : Nat) => Value.int .u32 (x : Int)
def zi64s (l : List Nat) : List Value := l.map fun (x : Nat) => Value.int .i64 (x : Int)
def zzers (k : IntKind) (n : Nat) : Array Value := madeCells #[.int k 0] n
theorem make_u32 (w : World) (n : Nat) (hn : n ≤ 1000) : (Instr.makeSlice 24 (.int .i64 (n : Nat)) (.int .i64 (n : Nat))).run Tryz.prog w = .ok (.slice (some ⟨w.heap.size, 0, none⟩) n n) (w.alloc (.cells (zzers .u32 n) 54)) := by
  obtain ⟨i, hi, hz, hs, hb⟩ := info_parts info_u32
  have := run_make w 24 54 i _ Tryz.underlying24 hi hz .i64 .i64 (n : Int) (n : Int) (by omega) (by omega) (by rw [hb]; omega) (by omega)
  rw [this, hs, Nat.mul_one, Int.toNat_natCast]
  rfl
theorem zmake_int (w : World) (n : Nat) (hn : n ≤ 100000) : (Instr.makeSlice 260 (.int .i64 (n : Nat)) (.int .i64 (n : Nat))).run Tryz.prog w = .ok (.slice (some ⟨w.heap.size, 0, none⟩) n n) (w.alloc (.cells (zzers .i64 n) 3)) := by
  obtain ⟨i, hi, hz, hs, hb⟩ := info_parts zinfo_int
  have := run_make w 260 3 i _ Tryz.underlying260 hi hz .i64 .i64 (n : Int) (n : Int) (by omega) (by omega) (by rw [hb]; omega) (by omega)
  rw [this, hs, Nat.mul_one, Int.toNat_natCast]
  rfl
theorem zers_own (w : World) (k : IntKind) (t : TypeId) (n : Nat) (hn : n ≤ 100000) : (w.alloc (.cells (zzers k n) t)).ownsRow 0 t 1 (.slice (some ⟨w.heap.size, 0, none⟩) n n) n ((List.replicate n 0).map fun (x : Nat) => Value.int k (x : Int)) := by
  refine ⟨by simp, .inr ⟨w.heap.size, n, zzers k n, rfl, Nat.zero_le _, heap_alloc_new w _, Nat.le_refl _, by unfold maxLen; omega, by simp [zzers, size_madeCells], ?_⟩⟩
  unfold zzers
  rw [toList_madeCells_one, List.take_of_length_le (by simp), List.map_replicate]
  rfl
theorem sh_info : ((Tryz.prog.info? 263).bind (·.zero)).map (·.cells.size) = some 48 := by kernel_rfl
theorem sh_agg : (((Tryz.prog.info? 263).bind (·.zero)).map fun v => match v with | .agg _ => true | _ => false) = some true := by kernel_rfl
theorem sh_zero : ∃ cs, (∀ w, (zeroValue 263).run Tryz.prog w = .ok (.agg cs) w) ∧ cs.size = 48 := by
  have h1 := sh_info
  have h2 := sh_agg
  cases hi : Tryz.prog.info? 263 with
  | none => rw [hi] at h1; simp at h1
  | some i =>
    rw [hi] at h1 h2
    simp only [Option.bind_some] at h1 h2
    cases hz : i.zero with
    | none => rw [hz] at h1; simp at h1
    | some v =>
      rw [hz] at h1 h2
      simp only [Option.map_some, Option.some.injEq] at h1 h2
      cases v <;> simp at h2
      rename_i cs
      exact ⟨cs, fun w => by simp [zeroValue, typeInfo, hi, hz], h1⟩
def codsTo (l : List Nat) (j : Nat) : List Nat := (List.range l.length).map fun i => if i < j then cod l i else 0
theorem codsTo_length (l : List Nat) (j : Nat) : (codsTo l j).length = l.length := by simp [codsTo]
theorem codsTo_zero (l : List Nat) : codsTo l 0 = List.replicate l.length 0 := by
  apply List.ext_getElem
  · simp [codsTo]
  · intro i h1 h2; simp [codsTo]
theorem codsTo_all (l : List Nat) : codsTo l l.length = cods l := by
  apply List.ext_getElem
  · simp [codsTo, cods]
  · intro i h1 h2
    have : i < l.length := by rw [codsTo_length] at h1; exact h1
    simp [codsTo, cods, this]
theorem codsTo_no (l : List Nat) (j : Nat) (h : len l j = 0) : codsTo l (j + 1) = codsTo l j := by
  unfold codsTo
  refine List.map_congr_left fun i _ => ?_
  by_cases e : i = j
  · subst e
    rw [if_pos (by omega), if_neg (by omega)]
    unfold cod; rw [if_pos h]
  · by_cases k : i < j
    · rw [if_pos k, if_pos (by omega)]
    · rw [if_neg k, if_neg (by omega)]
theorem codsTo_yes (l : List Nat) (j : Nat) : codsTo l (j + 1) = (codsTo l j).set j (cod l j) := by
  apply List.ext_getElem
  · simp [codsTo]
  · intro i h1 h2
    rw [List.getElem_set]
    by_cases e : j = i
    · subst e; simp [codsTo]
    · rw [if_neg e]
      have hc : ∀ (j : Nat) (h : i < (codsTo l j).length), (codsTo l j)[i] = if i < j then cod l i else 0 := fun j h => by simp [codsTo]
      rw [hc, hc]
      by_cases k : i < j
      · rw [if_pos k, if_pos (by omega)]
      · rw [if_neg k, if_neg (by omega)]
def pos (l : List Nat) (i : Nat) : Nat := zahd l (len l i) + zrnk l i
theorem pos_lt {l : List Nat} {i : Nat} (h : 0 < len l i) : pos l i < zahd l (len l i + 1) := by
  have := rnk_lt (len_in h)
  rw [zahd_succ, mny_pos l h]
  unfold pos
  omega
theorem pos_all {l : List Nat} {i : Nat} (h : 0 < len l i) : pos l i < zahd l (mx l + 1) := by
  have := zahd_mono l (len l i + 1) (mx l - len l i)
  have h2 := mx_len l i
  rw [show len l i + 1 + (mx l - len l i) = mx l + 1 by omega] at this
  have := pos_lt h
  omega
theorem pos_inj {l : List Nat} {i k : Nat} (hi : 0 < len l i) (hk : 0 < len l k) (h : pos l i = pos l k) : i = k := by
  have key : ∀ i k : Nat, 0 < len l i → 0 < len l k → len l i < len l k → pos l i ≠ pos l k := by
    intro i k hi hk hlt
    have h1 := pos_lt hi
    have h2 := zahd_mono l (len l i + 1) (len l k - len l i - 1)
    rw [show len l i + 1 + (len l k - len l i - 1) = len l k by omega] at h2
    have : zahd l (len l k) ≤ pos l k := by unfold pos; omega
    omega
  rcases Nat.lt_trichotomy (len l i) (len l k) with e | e | e
  · exact absurd h (key i k hi hk e)
  · exact rnk_inj (len_in hi) (len_in hk) e (by unfold pos at h; rw [e] at h; omega)
  · exact absurd h.symm (key k i hk hi e)
def ordTo (l : List Nat) : Nat → List Nat
  | 0 => List.replicate (zahd l (mx l + 1)) 0
  | j + 1 => if len l j = 0 then ordTo l j else (ordTo l j).set (pos l j) j
theorem ordTo_length (l : List Nat) : ∀ j, (ordTo l j).length = zahd l (mx l + 1)
  | 0 => by simp [ordTo]
  | j + 1 => by
    rw [ordTo]
    split
    · exact ordTo_length l j
    · rw [List.length_set]; exact ordTo_length l j
theorem ordTo_get (l : List Nat) : ∀ (j i : Nat), i < j → 0 < len l i → (ordTo l j)[pos l i]? = some i
  | 0, i, h, _ => by omega
  | j + 1, i, h, hi => by
    rw [ordTo]
    by_cases e : i = j
    · subst e
      rw [if_neg (by omega), List.getElem?_set_self (by rw [ordTo_length]; exact pos_all hi)]
    · split
      · exact ordTo_get l j i (by omega) hi
      · rw [List.getElem?_set_ne (fun q => e (pos_inj hi (by omega) q.symm))]
        exact ordTo_get l j i (by omega) hi
def nxf (l : List Nat) (j : Nat) : Nat → Nat := fun n => fst l n + mny (l.take j) n
def nxa (l : List Nat) (j : Nat) : Nat → Nat := fun n => zahd l n + mny (l.take j) n
theorem nxf_zero (l : List Nat) (n : Nat) : fst l n = nxf l 0 n := by unfold nxf; rw [cnt_zero]; rfl
theorem nxa_zero (l : List Nat) (n : Nat) : zahd l n = nxa l 0 n := by unfold nxa; rw [cnt_zero]; rfl
theorem nx_no (l : List Nat) (j : Nat) (hj : j < l.length) (h : len l j = 0) (n : Nat) : nxf l j n = nxf l (j + 1) n ∧ nxa l j n = nxa l (j + 1) n := by
  unfold nxf nxa
  rw [mny_take l j hj, if_neg (by omega)]
  exact ⟨rfl, rfl⟩
theorem nx_yes (l : List Nat) (j : Nat) (hj : j < l.length) (h : 0 < len l j) (n : Nat) : upd (nxf l j) (len l j) (cod l j + 1) n = nxf l (j + 1) n ∧ upd (nxa l j) (len l j) (pos l j + 1) n = nxa l (j + 1) n := by
  have hc : cod l j = nxf l j (len l j) := by rw [cod_pos h, nxf, mny_pos _ h]; rfl
  have hp : pos l j = nxa l j (len l j) := by unfold pos; rw [nxa, mny_pos _ h]; rfl
  rw [hc, hp]
  have hm := mny_take l j hj n
  by_cases e : n = len l j
  · subst e
    rw [upd_at, upd_at]
    rw [if_pos ⟨rfl, h⟩] at hm
    unfold nxf nxa
    rw [hm]
    omega
  · rw [upd_ne _ _ e, upd_ne _ _ e]
    rw [if_neg (fun q => e q.1.symm)] at hm
    unfold nxf nxa
    rw [hm]
    exact ⟨rfl, rfl⟩
theorem nx_here (l : List Nat) (j : Nat) (h : 0 < len l j) : nxf l j (len l j) = cod l j ∧ nxa l j (len l j) = pos l j := by
  constructor
  · rw [cod_pos h, nxf, mny_pos _ h]; rfl
  · unfold pos; rw [nxa, mny_pos _ h]; rfl
structure Giv (w0 w : World) (g : Nat) (A : Value) (l : List Nat) (nb cb ob j : Nat) : Prop where
  set : SetRow w g A (.slice (some ⟨cb, 0, none⟩) l.length l.length) (.slice (some ⟨ob, 0, none⟩) (zahd l (mx l + 1)) (zahd l (mx l + 1))) (mny l) (fst l) (zahd l) (mx l)
  nxt : ShRow w nb (mny l) (nxf l j) (nxa l j)
  codes : w.ownsRow 0 54 1 (.slice (some ⟨cb, 0, none⟩) l.length l.length) l.length (u32s (codsTo l j))
  order : w.ownsRow 0 3 1 (.slice (some ⟨ob, 0, none⟩) (zahd l (mx l + 1)) (zahd l (mx l + 1))) (zahd l (mx l + 1)) (zi64s (ordTo l j))
  fr : Fr (· = g) w0 w
  news : w0.heap.size ≤ nb ∧ w0.heap.size ≤ cb ∧ w0.heap.size ≤ ob
  old : g < w0.heap.size
  apart : nb ≠ cb ∧ nb ≠ ob ∧ cb ≠ ob
theorem Giv.drew {w0 w : World} {g : Nat} {A : Value} {l : List Nat} {nb cb ob j : Nat} (h : Giv w0 w g A l nb cb ob j) : Giv w0 w.drew g A l nb cb ob j :=
  ⟨h.set.drew, h.nxt.fr (S := S0) (Fr.drew _ _) (fun h => h), (Fr.drew S0 w).owns h.codes (fun _ _ h => h), (Fr.drew S0 w).owns h.order (fun _ _ h => h), h.fr.trans0 (Fr.drew _ _), h.news, h.old, h.apart⟩
theorem Giv.no {w0 w : World} {g : Nat} {A : Value} {l : List Nat} {nb cb ob j : Nat} (h : Giv w0 w g A l nb cb ob j) (hj : j < l.length) (hx : len l j = 0) : Giv w0 w g A l nb cb ob (j + 1) :=
  ⟨h.set, h.nxt.congr (fun n _ => (nx_no l j hj hx n).1) (fun n _ => (nx_no l j hj hx n).2), by rw [codsTo_no l j hx]; exact h.codes, by rw [ordTo, if_pos hx]; exact h.order, h.fr, h.news, h.old, h.apart⟩
theorem Giv.yes {w0 w : World} {g x c q : Nat} {A : Value} {l : List Nat} {nb cb ob j : Nat} (h : Giv w0 w g A l nb cb ob j) (hj : j < l.length) (hx : len l j = x) (h0 : 0 < x) (h15 : x ≤ 15) (hc : cod l j = c) (hq : pos l j = q) :
    Giv w0 ((((w.setCell ⟨cb, j, none⟩ (.int .u32 (c : Nat))).setCell ⟨ob, q, none⟩ (.int .i64 (j : Nat))).setCell ⟨nb, x * 3 + 1, none⟩ (.int .u32 ((c : Int) + 1))).setCell ⟨nb, x * 3 + 2, none⟩ (.int .i64 ((q : Int) + 1))) g A l nb cb ob (j + 1) := by
  subst hx
  obtain ⟨n1, n2, n3⟩ := h.news
  obtain ⟨a1, a2, a3⟩ := h.apart
  have hg := h.old
  have f1 : Fr (· = cb) w (w.setCell ⟨cb, j, none⟩ (.int .u32 (c : Nat))) := Fr.setCell _ _ _ _ rfl
  obtain ⟨o1, -⟩ := h.codes.stored j (.int .u32 (c : Nat))
  generalize w.setCell ⟨cb, j, none⟩ (.int .u32 (c : Nat)) = w1 at f1 o1 ⊢
  have s1 := h.set.fr f1 (by omega)
  have t1 := h.nxt.fr f1 a1
  have r1 := f1.owns h.order (fun k hk e => by simp only [Value.ownBlock, Option.some.injEq] at hk; omega)
  have F1 : Fr (· = g) w0 w1 := h.fr.trans f1 (fun k hk e => by omega)
  have f2 : Fr (· = ob) w1 (w1.setCell ⟨ob, q, none⟩ (.int .i64 (j : Nat))) := Fr.setCell _ _ _ _ rfl
  obtain ⟨r2, -⟩ := r1.stored q (.int .i64 (j : Nat))
  generalize w1.setCell ⟨ob, q, none⟩ (.int .i64 (j : Nat)) = w2 at f2 r2 ⊢
  have s2 := s1.fr f2 (by omega)
  have t2 := t1.fr f2 a2
  have o2 := f2.owns o1 (fun k hk e => by simp only [Value.ownBlock, Option.some.injEq] at hk; omega)
  have F2 : Fr (· = g) w0 w2 := F1.trans f2 (fun k hk e => by omega)
  have t3 := (t2.sf (len l j) (by omega) (c + 1)).sa (len l j) (by omega) (q + 1)
  have f3 : Fr (· = nb) w2 ((w2.setCell ⟨nb, len l j * 3 + 1, none⟩ (.int .u32 ((c : Int) + 1))).setCell ⟨nb, len l j * 3 + 2, none⟩ (.int .i64 ((q : Int) + 1))) :=
    (Fr.setCell (· = nb) _ ⟨nb, len l j * 3 + 1, none⟩ _ rfl).trans (Fr.setCell (· = nb) _ ⟨nb, len l j * 3 + 2, none⟩ _ rfl) (fun _ _ h => h)
  rw [show (((c + 1 : Nat) : Int)) = (c : Int) + 1 by omega, show (((q + 1 : Nat) : Int)) = (q : Int) + 1 by omega] at t3
  generalize (w2.setCell ⟨nb, len l j * 3 + 1, none⟩ (.int .u32 ((c : Int) + 1))).setCell ⟨nb, len l j * 3 + 2, none⟩ (.int .i64 ((q : Int) + 1)) = w3 at t3 f3 ⊢
  refine ⟨s2.fr f3 (by omega), t3.congr (fun n _ => ?_) (fun n _ => ?_), ?_, ?_, F2.trans f3 (fun k hk e => by omega), h.news, h.old, h.apart⟩
  · rw [← hc]; exact (nx_yes l j hj h0 n).1
  · rw [← hq]; exact (nx_yes l j hj h0 n).2
  · have o3 := f3.owns o2 (fun k hk e => by simp only [Value.ownBlock, Option.some.injEq] at hk; omega)
    rw [codsTo_yes, hc]
    unfold u32s at o3 ⊢
    rw [List.map_set]
    exact o3
  · have r3 := f3.owns r2 (fun k hk e => by simp only [Value.ownBlock, Option.some.injEq] at hk; omega)
    rw [ordTo, if_neg (by omega), hq]
    unfold zi64s at r3 ⊢
    rw [List.map_set]
    exact r3
theorem give_any (g : Nat) (p : Option Addr) (d : Nat) {B C : Value} (l : List Nat) (w : World) (h : SetRow w g (.slice p l.length d) B C (mny l) (fst l) (zahd l) (mx l))
    (hl : SlI w .u8 p l) (hp : Off (· = g) p) (h15 : ∀ x ∈ l, x ≤ 15) (hL : l.length ≤ 320) :
    Calls Tryz.prog 227 #[.pointer (some ⟨g, 0, none⟩)] w fun r w' => r = .returned (.tuple #[]) ∧ ∃ nb cb ob, Giv w w' g (.slice p l.length d) l nb cb ob l.length := by
  have H := Lib.hid h
  have HL := Lib.hid hl
  have HP := Lib.hid hp
  have H15 := Lib.hid h15
  have hc0 := h.c0
  have hc1 := h.c1
  have hf1 := h.fz 1
  have hgn := h.lt
  have HC := h.cells
  have HI : (Tryz.prog.info? 263).map (·.size) = some (shs (mny l) (fst l) (zahd l)).size := by rw [shs_size]; exact shelves_info
  have HO := Lib.hid (shs_one (mny l) (fst l) (zahd l))
  have HM := fun w => make_u32 w l.length (by omega)
  clear h hl hp h15
  obtain ⟨Z, hz, hZ⟩ := sh_zero
  have HZ : Hid (Z.size = (shs (mny l) (fst l) (zahd l)).size) := Lib.hid (by rw [hZ, shs_size])
  have HSN := Lib.hid (fun w => ShRow.new w (mny l) (fst l) (zahd l))
  obtain ⟨SH, hSH⟩ : ∃ X, shs (mny l) (fst l) (zahd l) = X := ⟨_, rfl⟩
  rw [hSH] at HC HI HO HZ HSN
  clear hZ hSH
  go_enter Tryz.func227, Tryz.ntmps227
  go_wp2_with (first
    | ((with_reducible show wpList _ _ _ (Oper.mk (some 9) _ _ _ _ _ :: _) _ _); refine wpList_load_at rfl 263 (.tmp 8) rfl rfl HC Tryz.underlying263 rfl HI ?_)
    | ((with_reducible show wpList _ _ _ (Oper.mk none (Op.store 263 _ _) _ _ _ _ :: _) _ _); refine store_new 263 (.tmp 2) (.tmp 9) rfl rfl rfl rfl HI HZ.out (by rw [Array.all_eq_true']; exact fun v hv => HO.out v (Array.mem_toList_iff.2 hv)) ?_)
    | fail)
  clear hc1 hf1 HC HI HZ HM hz
  have f0 : Fr (· = g) w (w.setCell ⟨g, 1, none⟩ (.slice (some ⟨w.heap.size + 1, 0, none⟩) l.length l.length)) := Fr.setCell _ _ _ _ rfl
  have s0 := H.out.s1 (.slice (some ⟨w.heap.size + 1, 0, none⟩) l.length l.length)
  have z0 : (w.setCell ⟨g, 1, none⟩ (.slice (some ⟨w.heap.size + 1, 0, none⟩) l.length l.length)).heap.size = w.heap.size := by simp [World.setCell]
  generalize w.setCell ⟨g, 1, none⟩ (.slice (some ⟨w.heap.size + 1, 0, none⟩) l.length l.length) = w1 at f0 s0 z0 ⊢
  have f1 : Fr (· = g) w (w1.alloc (.cells SH 263)) := f0.trans0 (Fr.alloc _ _ _)
  have s1 := s0.fr (S := S0) (Fr.alloc S0 w1 (.cells SH 263)) (fun h => h)
  have t1 := HSN.out w1
  have z1 : (w1.alloc (.cells SH 263)).heap.size = w.heap.size + 1 := by rw [size_alloc, z0]
  rw [z0] at t1
  generalize w1.alloc (.cells SH 263) = w2 at f1 s1 t1 z1 ⊢
  have f2 : Fr (· = g) w (w2.alloc (.cells (zzers .u32 l.length) 54)) := f1.trans0 (Fr.alloc _ _ _)
  have s2 := s1.fr (S := S0) (Fr.alloc S0 w2 (.cells (zzers .u32 l.length) 54)) (fun h => h)
  have t2 := t1.fr (S := S0) (Fr.alloc S0 w2 (.cells (zzers .u32 l.length) 54)) (fun h => h)
  have o2 := zers_own w2 .u32 54 l.length (by omega)
  have z2 : (w2.alloc (.cells (zzers .u32 l.length) 54)).heap.size = w.heap.size + 2 := by rw [size_alloc, z1]
  rw [z1] at o2
  generalize w2.alloc (.cells (zzers .u32 l.length) 54) = W at f2 s2 t2 o2 z2 ⊢
  clear f0 s0 z0 f1 s1 t1 z1 w1 w2 HSN HO
  obtain ⟨nb, hnb⟩ : ∃ n, w.heap.size = n := ⟨_, rfl⟩
  obtain ⟨E, hE⟩ : ∃ E, mx l = E := ⟨_, rfl⟩
  have hE15 : E ≤ 15 := by rw [← hE]; exact mx_le H15.out
  have k0 := s2.c0
  have k1 := s2.ce
  have k2 := t2.cm E (by omega)
  have k3 := t2.ca E (by omega)
  have k4 := s2.c2
  have k5 := s2.fz 2
  have b1 := mny_le l E
  have b2 := ahd_small l E (by omega) (by omega)
  have hN : zahd l E + mny l E = zahd l (mx l + 1) := by rw [zahd_succ, hE]
  obtain ⟨K, hK⟩ : ∃ K, zahd l (mx l + 1) = K := ⟨_, rfl⟩
  rw [hK] at hN
  have HMI : ∀ w, (Instr.makeSlice 260 (.int .i64 ((zahd l E : Int) + (mny l E : Int))) (.int .i64 ((zahd l E : Int) + (mny l E : Int)))).run Tryz.prog w = .ok (.slice (some ⟨w.heap.size, 0, none⟩) K K) (w.alloc (.cells (zzers .i64 K) 3)) := fun w => by
    have := zmake_int w (zahd l E + mny l E) (by omega)
    rw [hN] at this
    rw [← this]
    congr 4 <;> omega
  have hgnb : g < W.heap.size := by omega
  rw [hnb] at t2 o2 z2 k2 k3 ⊢
  rw [hE] at k1
  have hgnb' : ¬ nb = g := by omega
  obtain ⟨M, hM⟩ : ∃ M, mny l E = M := ⟨_, rfl⟩
  obtain ⟨N, hN'⟩ : ∃ N, zahd l E = N := ⟨_, rfl⟩
  rw [hM] at k2 b1 HMI hN
  rw [hN'] at k3 b2 HMI hN
  have HE := Lib.hid hE
  have HK := Lib.hid hK
  have HN := Lib.hid hN
  have HNB := Lib.hid hnb
  have HZ2 := Lib.hid z2
  have HS := Lib.hid s2
  have HT := Lib.hid t2
  have HO := Lib.hid o2
  clear hE hN hM hN' hnb z2 s2 t2 o2 hK
  go_region
  go_wp2_with fail
  have HG : Hid (Giv w ((W.setCell ⟨g, 2, none⟩ (.slice (some ⟨W.heap.size, 0, none⟩) K K)).alloc (.cells (zzers .i64 K) 3)).drew g (.slice p l.length d) l nb (nb + 1) (nb + 2) 0) := Lib.hid (by
    have hz := HZ2.out
    have hnb := HNB.out
    have h3 : Fr (· = g) W (W.setCell ⟨g, 2, none⟩ (.slice (some ⟨W.heap.size, 0, none⟩) K K)) := Fr.setCell _ _ _ _ rfl
    have s3 := HS.out.s2 (.slice (some ⟨W.heap.size, 0, none⟩) K K)
    have z3 : (W.setCell ⟨g, 2, none⟩ (.slice (some ⟨W.heap.size, 0, none⟩) K K)).heap.size = nb + 2 := by rw [← hz]; simp [World.setCell]
    have t3 := HT.out.fr h3 (by omega)
    have o3 := h3.owns HO.out (fun k hk e => by simp only [Value.ownBlock, Option.some.injEq] at hk; omega)
    rw [hz] at s3 z3 t3 o3 h3 ⊢
    generalize W.setCell ⟨g, 2, none⟩ (.slice (some ⟨nb + 2, 0, none⟩) K K) = w3 at h3 s3 z3 t3 o3 ⊢
    have o4 := zers_own w3 .i64 3 K (by have := ahd_small l (mx l + 1) (by have := mx_le H15.out; omega) (by omega); rw [HK.out] at this; omega)
    rw [z3] at o4
    have f4 : Fr S0 w3 (w3.alloc (.cells (zzers .i64 K) 3)) := Fr.alloc _ _ _
    have hK := HK.out
    have hn := HNB.out
    refine Giv.drew ⟨?_, (t3.fr f4 (fun h => h)).congr (fun n _ => nxf_zero l n) (fun n _ => nxa_zero l n), ?_, ?_, (f2.trans h3 (fun _ _ h => h)).trans0 f4, by omega, hgn, by omega⟩
    · have := s3.fr f4 (fun h => h)
      rw [hn] at this
      rw [hK]; exact this
    · rw [codsTo_zero]; exact f4.owns o3 (fun _ _ h => h)
    · rw [hK, ordTo, hK]; exact o4)
  clear HS HT HO k0 k1 k2 k3 k4 k5 HMI b1 b2 f2 HE HN hgnb hc0
  generalize ((W.setCell ⟨g, 2, none⟩ (.slice (some ⟨W.heap.size, 0, none⟩) K K)).alloc (.cells (zzers .i64 K) 3)).drew = W3 at HG ⊢
  clear HZ2 HNB
  go_loopw [3, 4, 5, 43] (fun _ _ _ i wr => ∃ j : Nat, j ≤ l.length ∧ i = .int .i64 j ∧ Giv w wr g (.slice p l.length d) l nb (nb + 1) (nb + 2) j) (fun _ _ _ i _ => l.length - (intOf i).toNat)
  case atStart => exact ⟨0, by omega, rfl, HG.out⟩
  case round =>
    obtain ⟨j, hj, rfl, hG⟩ := hrel
    by_cases hjc : (j : Int) < (l.length : Int)
    · have hjl : j < l.length := by omega
      obtain ⟨b, o, hpe, hcl⟩ := (HL.out.fr hG.fr fun _ => HP.out).at j hjl
      have HX15 := H15.out _ (List.getElem_mem hjl)
      have HLEN := len_get l j hjl
      obtain ⟨x, hx⟩ : ∃ x, l[j] = x := ⟨_, rfl⟩
      rw [hx] at hcl HX15 HLEN
      clear hx
      subst hpe
      by_cases hx0 : 0 < x
      · obtain ⟨c, hc⟩ : ∃ c, cod l j = c := ⟨_, rfl⟩
        obtain ⟨q, hq⟩ : ∃ q, pos l j = q := ⟨_, rfl⟩
        have hlp : 0 < len l j := by omega
        have HS := Lib.hid (hG.yes hjl HLEN hx0 HX15 hc hq)
        have hcs : c ≤ 65535000 := by rw [← hc]; exact Nat.le_of_lt (Nat.lt_of_lt_of_le (cod_lt hlp) (top_small l _ (by omega) (by omega)))
        have hqK : q < K := by rw [← hq, ← HK.out]; exact pos_all hlp
        have hKs := ahd_small l (mx l + 1) (by have := mx_le H15.out; omega) (by omega)
        have k1 := hG.set.c1
        have k2 := hG.set.c2
        have k3 := hG.nxt.cf x (by omega)
        have k4 := hG.nxt.ca x (by omega)
        have k5 := hG.nxt.fz (x * 3 + 1)
        have k6 := hG.nxt.fz (x * 3 + 2)
        have e1 := nx_here l j hlp
        rw [HLEN, hc, hq] at e1
        rw [e1.1] at k3
        rw [e1.2] at k4
        rw [HK.out] at k2 hKs
        have k7 := hG.codes.cellAt j (by omega)
        have k8 := hG.codes.frozenAt j
        have k9 := hG.order.cellAt q (by rw [HK.out]; omega)
        have k10 := hG.order.frozenAt q
        have hu : j < (u32s (codsTo l j)).length := by unfold u32s; rw [List.length_map, codsTo_length]; exact hjl
        have hv : q < (zi64s (ordTo l j)).length := by unfold zi64s; rw [List.length_map, ordTo_length, HK.out]; exact hqK
        rw [List.getElem?_eq_getElem hu] at k7
        rw [List.getElem?_eq_getElem hv] at k9
        obtain ⟨u, hu'⟩ : ∃ u, (u32s (codsTo l j))[j] = u := ⟨_, rfl⟩
        obtain ⟨v, hv'⟩ : ∃ v, (zi64s (ordTo l j))[q] = v := ⟨_, rfl⟩
        rw [hu'] at k7
        rw [hv'] at k9
        have HW := Lib.hid hG
        have z1 : ¬ nb = g := by have := hG.news; have := hG.old; omega
        have z2 : ¬ nb + 1 = g := by have := hG.news; have := hG.old; omega
        have z3 : ¬ nb + 2 = g := by have := hG.news; have := hG.old; omega
        clear hG HLEN hc hq hlp e1 hu hv hu' hv'
        go_wp2_with fail
        go_region
        go_wp2_with fail
        go_region
        go_wp2_with fail
        go_roundw
        case rel => exact ⟨j + 1, by omega, by go_num, HS.out.drew.drew⟩
        case measure => simp [intOf]; omega
      · obtain rfl : x = 0 := by omega
        have HS := Lib.hid (hG.no hjl HLEN)
        clear HLEN hG
        go_wp2_with fail
        go_roundw
        case rel => exact ⟨j + 1, by omega, by go_num, HS.out⟩
        case measure => simp [intOf]; omega
    · obtain rfl : j = l.length := by omega
      have HS := Lib.hid hG
      clear hG
      go_wp2_with fail
      go_end0
      exact ⟨rfl, nb, nb + 1, nb + 2, HS.out⟩
end Go.Proofs.YtnndgpggjlhhpaaGreat
namespace Go.Proofs.YtnndgpggjlhhpaaGreat
open Go.RowKit
theorem tooLong_any (x : Nat) (w : World) : Calls Tryz.prog 222 #[.int .u8 (x : Nat)] w fun e w' => e = .returned (.bool (decide (15 < x))) ∧ w = w' := by
  have E : Hid (decide ((x : Int) > 15) = decide (15 < x)) := Lib.hid (by rw [decide_eq_decide]; omega)
  go_enter Tryz.func222, Tryz.ntmps222
  go_wp2
  go_ret
  exact ⟨by rw [← E.out]; rfl, rfl⟩
def long (l : List Nat) : Bool := l.any (15 < ·)
theorem long_no {l : List Nat} (h : long l = false) : ∀ x ∈ l, x ≤ 15 := by
  intro x hx
  unfold long at h
  rw [List.any_eq_false] at h
  have := h x hx
  simpa using this
theorem long_yes {l : List Nat} (h : long l = true) : ∃ k, ∃ h : k < l.length, 15 < l[k] ∧ ∀ i, (hi : i < k) → l[i] ≤ 15 := by
  induction l with
  | nil => simp [long] at h
  | cons x r ih =>
    by_cases e : 15 < x
    · exact ⟨0, by simp, by simpa using e, fun i hi => by omega⟩
    · have hr : long r = true := by
        unfold long at h ⊢
        rw [List.any_cons, decide_eq_false e, Bool.false_or] at h
        exact h
      obtain ⟨k, h1, h2, h3⟩ := ih hr
      refine ⟨k + 1, by simp; omega, by simpa using h2, fun i hi => ?_⟩
      cases i with
      | zero => simp; omega
      | succ i => simpa using h3 i (by omega)
theorem zindex_no (p : Option Addr) (d : Nat) (l : List Nat) (w : World) (hl : SlI w .u8 p l) (h : long l = false) (hL : l.length ≤ 1000) :
    Calls Tryz.prog 246 #[.slice p l.length d, .func (.func 222) #[] #[]] w fun e w' => e = .returned (.int .i64 (-1)) ∧ w = w' := by
  have HL := Lib.hid hl
  have H15 := Lib.hid (long_no h)
  clear hl h
  go_enter Tryz.func246, Tryz.ntmps246
  go_wp2
  go_loopw [5, 8] (fun _ i wr => ∃ j : Nat, j ≤ l.length ∧ i = .int .i64 j ∧ w = wr) (fun _ i _ => l.length - (intOf i).toNat)
  case atStart => exact ⟨0, by omega, rfl, rfl⟩
  case round =>
    obtain ⟨j, hj, rfl, rfl⟩ := hrel
    by_cases hjc : (j : Int) < (l.length : Int)
    · have hjl : j < l.length := by omega
      obtain ⟨b, o, hpe, hcl⟩ := HL.out.at j hjl
      have HX15 := H15.out _ (List.getElem_mem hjl)
      obtain ⟨x, hx⟩ : ∃ x, l[j] = x := ⟨_, rfl⟩
      rw [hx] at hcl HX15
      clear hx
      subst hpe
      have hT := tooLong_any x w
      rw [decide_eq_false (by omega : ¬ 15 < x)] at hT
      have HT := Lib.hid hT
      clear hT
      go_wp2_with fail
      refine HT.out.mono ?_
      rintro e w' ⟨rfl, rfl⟩
      go_wp2_with fail
      go_roundw
      case rel => exact ⟨j + 1, by omega, by go_num, by trivial⟩
      case measure => simp [intOf]; omega
    · go_wp2
      go_ret
      exact ⟨rfl, rfl⟩
theorem index_yes (p : Option Addr) (d k : Nat) (l : List Nat) (w : World) (hl : SlI w .u8 p l) (hk : k < l.length) (h1 : 15 < l[k]) (h2 : ∀ i, (hi : i < k) → l[i] ≤ 15) (hL : l.length ≤ 1000) :
    Calls Tryz.prog 246 #[.slice p l.length d, .func (.func 222) #[] #[]] w fun e w' => e = .returned (.int .i64 (k : Nat)) ∧ w = w' := by
  have HL := Lib.hid hl
  have H1 := Lib.hid h1
  have H2 := Lib.hid h2
  clear hl h1 h2
  go_enter Tryz.func246, Tryz.ntmps246
  go_wp2
  go_loopw [5, 8] (fun _ i wr => ∃ j : Nat, j ≤ k ∧ i = .int .i64 j ∧ w = wr) (fun _ i _ => l.length - (intOf i).toNat)
  case atStart => exact ⟨0, by omega, rfl, rfl⟩
  case round =>
    obtain ⟨j, hj, rfl, rfl⟩ := hrel
    have hjl : j < l.length := by omega
    have hjc : (j : Int) < (l.length : Int) := by omega
    obtain ⟨b, o, hpe, hcl⟩ := HL.out.at j hjl
    subst hpe
    by_cases e : j = k
    · subst e
      have HX := H1.out
      obtain ⟨x, hx⟩ : ∃ x, l[j] = x := ⟨_, rfl⟩
      rw [hx] at hcl HX
      clear hx
      have hT := tooLong_any x w
      rw [decide_eq_true HX] at hT
      have HT := Lib.hid hT
      clear hT
      go_wp2_with fail
      refine HT.out.mono ?_
      rintro e w' ⟨rfl, rfl⟩
      go_wp2_with fail
      go_ret
      exact ⟨rfl, rfl⟩
    · have HX := H2.out j (by omega)
      obtain ⟨x, hx⟩ : ∃ x, l[j] = x := ⟨_, rfl⟩
      rw [hx] at hcl HX
      clear hx
      have hT := tooLong_any x w
      rw [decide_eq_false (by omega : ¬ 15 < x)] at hT
      have HT := Lib.hid hT
      clear hT
      go_wp2_with fail
      refine HT.out.mono ?_
      rintro e w' ⟨rfl, rfl⟩
      go_wp2_with fail
      go_roundw
      case rel => exact ⟨j + 1, by omega, by go_num, by trivial⟩
      case measure => simp [intOf]; omega
theorem contains_any (p : Option Addr) (d : Nat) (l : List Nat) (w : World) (hl : SlI w .u8 p l) (hL : l.length ≤ 1000) :
    Calls Tryz.prog 221 #[.slice p l.length d, .func (.func 222) #[] #[]] w fun e w' => e = .returned (.bool (long l)) ∧ w = w' := by
  cases h : long l with
  | false =>
    have HI := Lib.hid (zindex_no p d l w hl h hL)
    clear hl h
    go_enter Tryz.func221, Tryz.ntmps221
    go_wp2_with fail
    refine HI.out.mono ?_
    rintro e w' ⟨rfl, rfl⟩
    go_wp2_with fail
    go_ret
    exact ⟨rfl, rfl⟩
  | true =>
    obtain ⟨k, h1, h2, h3⟩ := long_yes h
    have HI := Lib.hid (index_yes p d k l w hl h1 h2 h3 hL)
    have hk : (0 : Int) ≤ (k : Int) := by omega
    clear hl h h2 h3
    go_enter Tryz.func221, Tryz.ntmps221
    go_wp2_with fail
    refine HI.out.mono ?_
    rintro e w' ⟨rfl, rfl⟩
    go_wp2_with fail
    go_ret
    exact ⟨rfl, rfl⟩
structure SetIs (w : World) (A B g : Nat) (l : List Nat) : Prop where
  ex : ∃ pl cl cb cc ob oc, SetRow w g (.slice pl l.length cl) (.slice (some ⟨cb, 0, none⟩) l.length cc) (.slice (some ⟨ob, 0, none⟩) (zahd l (mx l + 1)) oc) (mny l) (fst l) (zahd l) (mx l) ∧
    SlI w .u8 pl l ∧ (pl = none → cl = 0) ∧ (∀ a, pl = some a → A ≤ a.block ∧ a.block < B) ∧ SlI w .u32 (some ⟨cb, 0, none⟩) (cods l) ∧ (A ≤ cb ∧ cb < B) ∧ SlI w .i64 (some ⟨ob, 0, none⟩) (ordTo l l.length) ∧ (A ≤ ob ∧ ob < B)
  lt : A ≤ g ∧ g < B
  ok : okl l
  small : l.length ≤ 320
  short : ∀ x ∈ l, x ≤ 15
theorem SetIs.fr {w w' : World} {A B g : Nat} {l : List Nat} {S : Nat → Prop} (h : SetIs w A B g l) (hf : Fr S w w') (hs : ∀ k, A ≤ k → k < B → ¬ S k) : SetIs w' A B g l := by
  obtain ⟨pl, cl, cb, cc, ob, oc, h1, h2, h3, h4, h5, h6, h7, h8⟩ := h.ex
  exact ⟨⟨pl, cl, cb, cc, ob, oc, h1.fr hf (hs _ h.lt.1 h.lt.2), h2.fr hf (fun _ a ha => hs _ (h4 a ha).1 (h4 a ha).2), h3, h4, h5.fr hf (fun _ a ha => by cases ha; exact hs _ h6.1 h6.2), h6, h7.fr hf (fun _ a ha => by cases ha; exact hs _ h8.1 h8.2), h8⟩, h.lt, h.ok, h.small, h.short⟩
theorem SetIs.fr0 {w w' : World} {A B g : Nat} {l : List Nat} (h : SetIs w A B g l) (hf : Fr S0 w w') : SetIs w' A B g l := h.fr hf fun _ _ _ h => h
theorem SetIs.mono {w : World} {A B A' B' g : Nat} {l : List Nat} (h : SetIs w A B g l) (hA : A' ≤ A) (hB : B ≤ B') : SetIs w A' B' g l := by
  obtain ⟨pl, cl, cb, cc, ob, oc, h1, h2, h3, h4, h5, h6, h7, h8⟩ := h.ex
  exact ⟨⟨pl, cl, cb, cc, ob, oc, h1, h2, h3, fun a ha => ⟨Nat.le_trans hA (h4 a ha).1, Nat.lt_of_lt_of_le (h4 a ha).2 hB⟩, h5, ⟨Nat.le_trans hA h6.1, Nat.lt_of_lt_of_le h6.2 hB⟩, h7, ⟨Nat.le_trans hA h8.1, Nat.lt_of_lt_of_le h8.2 hB⟩⟩, ⟨Nat.le_trans hA h.lt.1, Nat.lt_of_lt_of_le h.lt.2 hB⟩, h.ok, h.small, h.short⟩
theorem SetIs.mx15 {w : World} {A B g : Nat} {l : List Nat} (h : SetIs w A B g l) : mx l ≤ 15 := mx_le h.short
def bareC (v : Value) : Array Value := #[v, .slice none 0 0, .slice none 0 0, .int .i64 0, .int .u32 0, .int .i64 0, .int .i64 0, .int .u32 0, .int .i64 0, .int .i64 0, .int .u32 0, .int .i64 0, .int .i64 0, .int .u32 0, .int .i64 0, .int .i64 0, .int .u32 0, .int .i64 0, .int .i64 0, .int .u32 0, .int .i64 0, .int .i64 0, .int .u32 0, .int .i64 0, .int .i64 0, .int .u32 0, .int .i64 0, .int .i64 0, .int .u32 0, .int .i64 0, .int .i64 0, .int .u32 0, .int .i64 0, .int .i64 0, .int .u32 0, .int .i64 0, .int .i64 0, .int .u32 0, .int .i64 0, .int .i64 0, .int .u32 0, .int .i64 0, .int .i64 0, .int .u32 0, .int .i64 0, .int .i64 0, .int .u32 0, .int .i64 0, .int .i64 0, .int .u32 0, .int .i64 0, .int .i64 0]
theorem bareC_at (v : Value) : ∀ n, n < 16 → (bareC v)[3 + n * 3]? = some (.int .i64 (0 : Nat)) ∧ (bareC v)[3 + n * 3 + 1]? = some (.int .u32 (0 : Nat)) ∧ (bareC v)[3 + n * 3 + 2]? = some (.int .i64 (0 : Nat))
  | 0, _ => ⟨rfl, rfl, rfl⟩
  | 1, _ => ⟨rfl, rfl, rfl⟩
  | 2, _ => ⟨rfl, rfl, rfl⟩
  | 3, _ => ⟨rfl, rfl, rfl⟩
  | 4, _ => ⟨rfl, rfl, rfl⟩
  | 5, _ => ⟨rfl, rfl, rfl⟩
  | 6, _ => ⟨rfl, rfl, rfl⟩
  | 7, _ => ⟨rfl, rfl, rfl⟩
  | 8, _ => ⟨rfl, rfl, rfl⟩
  | 9, _ => ⟨rfl, rfl, rfl⟩
  | 10, _ => ⟨rfl, rfl, rfl⟩
  | 11, _ => ⟨rfl, rfl, rfl⟩
  | 12, _ => ⟨rfl, rfl, rfl⟩
  | 13, _ => ⟨rfl, rfl, rfl⟩
  | 14, _ => ⟨rfl, rfl, rfl⟩
  | 15, _ => ⟨rfl, rfl, rfl⟩
  | n + 16, h => by omega
theorem bare_row (w : World) (v : Value) : SetRow (w.alloc (.cells (bareC v) 265)) w.heap.size v (.slice none 0 0) (.slice none 0 0) (fun _ => 0) (fun _ => 0) (fun _ => 0) 0 :=
  ⟨_, heap_alloc_new w _, rfl, rfl, rfl, rfl, rfl, bareC_at v⟩
theorem make_end {w w3 w4 : World} {g nb cb ob c : Nat} {q : Option Addr} {l : List Nat} (hG : Giv w3 w4 g (.slice q l.length c) l nb cb ob l.length) (hf : Fr S0 w w3) (hg : w.heap.size ≤ g)
    (own : w3.ownsRow 0 5 1 (.slice q l.length c) l.length (u8s l)) (hq : q = none → c = 0) (hqb : ∀ k, Value.ownBlock (.slice q l.length c) = some k → k < w3.heap.size ∧ w.heap.size ≤ k) (hoff : Off (· = g) q) (ok : okl l) (hL : l.length ≤ 320) (h15 : ∀ x ∈ l, x ≤ 15) :
    Fr S0 w w4 ∧ SetIs w4 w.heap.size w4.heap.size g l := by
  have hlt : ∀ {v : Value} {k : Nat} {t : TypeId} {n : Nat} {xs : List Value}, w4.ownsRow 0 t 1 v n xs → v.ownBlock = some k → k < w4.heap.size := fun h hk => (h.lt _ hk).2
  have hc := hG.codes
  rw [codsTo_all] at hc
  have hx := hG.order
  refine ⟨hf.trans hG.fr (fun k hk e => by omega), ⟨q, c, cb, _, ob, _, hG.set, (SlI.ofOwns own).fr hG.fr (fun _ => hoff), hq, ?_, SlI.ofOwns (l := cods l) hc, ⟨Nat.le_trans hf.size hG.news.2.1, hlt hc rfl⟩, SlI.ofOwns (l := ordTo l l.length) hx, ⟨Nat.le_trans hf.size hG.news.2.2, hlt hx rfl⟩⟩, ⟨hg, hG.set.lt⟩, ok, hL, h15⟩
  intro a ha
  have hq2 := hqb a.block (by rw [ha]; rfl)
  exact ⟨hq2.2, Nat.lt_of_lt_of_le hq2.1 hG.fr.size⟩
theorem make_ok (p : Option Addr) (d : Nat) (l : List Nat) (w : World) (hl : SlI w .u8 p l) (hp : p = none → d = 0) (hL : l.length ≤ 320) (h15 : ∀ x ∈ l, x ≤ 15) (ok : okl l) :
    Calls Tryz.prog 202 #[.slice p l.length d] w fun e w' => ∃ g, e = .returned (.tuple #[.pointer (some ⟨g, 0, none⟩), .int .i64 0]) ∧ (Fr S0 w w' ∧ SetIs w' w.heap.size w'.heap.size g l) ∧ w.heap.size ≤ g := by
  have hlong : long l = false := by
    unfold long
    rw [List.any_eq_false]
    intro x hx
    have := h15 x hx
    simpa using this
  have HC := contains_any p d l w hl (by omega)
  rw [hlong] at HC
  have HK := Lib.hid HC
  have HCL := Lib.hid (clone_any p d l w hl hp (by omega))
  have HL := Lib.hid hl
  have H15 := Lib.hid h15
  have hnot : ¬ (l.length : Int) > 320 := by omega
  clear hlong HC hl h15
  go_enter Tryz.func202, Tryz.ntmps202
  go_wp2_with fail
  refine HK.out.mono ?_
  rintro e w' ⟨rfl, rfl⟩
  go_wp2_with fail
  refine HCL.out.mono ?_
  rintro e w1 ⟨v, rfl, f1, hv⟩
  obtain ⟨q, c, rfl, hq, -, -⟩ := slForm hv.own
  have sb := bare_row w1 (.slice q l.length c)
  have fb : Fr S0 w (w1.alloc (.cells (bareC (.slice q l.length c)) 265)) := f1.trans0 (Fr.alloc _ _ _)
  have ob : (w1.alloc (.cells (bareC (.slice q l.length c)) 265)).ownsRow 0 5 1 (.slice q l.length c) l.length (u8s l) := hv.own.alloc _
  have zb : (w1.alloc (.cells (bareC (.slice q l.length c)) 265)).heap.size = w1.heap.size + 1 := size_alloc _ _
  obtain ⟨BC, hBC⟩ : ∃ X, bareC (.slice q l.length c) = X := ⟨_, rfl⟩
  rw [hBC] at sb fb ob zb
  have hg1 := f1.size
  have hqb : ∀ k, Value.ownBlock (.slice q l.length c) = some k → k < w1.heap.size ∧ w.heap.size ≤ k := fun k hk => ⟨(hv.own.lt k hk).2, hv.fresh k hk⟩
  unfold bareC at hBC
  have HQ := Lib.hid hq
  clear hq hv
  go_wp2_with fail
  obtain ⟨g, hg⟩ : ∃ g, w1.heap.size = g := ⟨_, rfl⟩
  rw [hg] at sb zb hg1 hqb ⊢
  generalize w1.alloc (.cells BC 265) = W at sb fb ob zb ⊢
  have hoff : Off (· = g) q := fun a ha e => by
    have := hqb a.block (by rw [ha]; rfl)
    omega
  have HC := Lib.hid (count_any g q c l W sb (SlI.ofOwns ob) hoff H15.out hL)
  clear hBC hg sb
  refine HC.out.mono ?_
  rintro e w2 ⟨rfl, f2, s2⟩
  have ob2 := f2.owns ob (fun k hk e => by have := hqb k hk; omega)
  have fb2 : Fr S0 w w2 := fb.trans f2 (fun k hk e => by omega)
  have hqb' : ∀ k, Value.ownBlock (.slice q l.length c) = some k → k < w2.heap.size ∧ w.heap.size ≤ k := fun k hk => by have := hqb k hk; have := f2.size; omega
  clear HC fb ob f2 zb
  have hF := full_any g w2 s2 (by omega)
  by_cases hfu : ful l
  · rw [decide_eq_true hfu] at hF
    have HF := Lib.hid hF
    clear hF hfu
    go_wp2_with fail
    refine HF.out.mono ?_
    rintro e w3 ⟨rfl, f3⟩
    have s3 := Lib.hid (s2.fr f3 (fun h => h))
    have o3 := Lib.hid (f3.owns ob2 (fun _ _ h => h))
    have fb3 := Lib.hid (fb2.trans0 f3)
    have hz3 := f3.size
    clear HF f3 s2 ob2 fb2
    go_wp2_with fail
    have HG := Lib.hid (give_any g q c l w3 s3.out (SlI.ofOwns o3.out) hoff H15.out hL)
    refine HG.out.mono ?_
    rintro e w4 ⟨rfl, nb, cb, ob4, hG⟩
    have HW := Lib.hid hG
    clear hG
    go_wp2_with fail
    go_ret2
    exact ⟨g, rfl, make_end HW.out fb3.out (by omega) o3.out HQ.out (fun k hk => ⟨Nat.lt_of_lt_of_le (hqb' k hk).1 hz3, (hqb' k hk).2⟩) hoff ok hL H15.out, hg1⟩
  · rw [decide_eq_false hfu] at hF
    have HF := Lib.hid hF
    clear hF
    go_wp2_with fail
    refine HF.out.mono ?_
    rintro e w3 ⟨rfl, f3⟩
    have s3 := Lib.hid (s2.fr f3 (fun h => h))
    have o3 := Lib.hid (f3.owns ob2 (fun _ _ h => h))
    have fb3 := Lib.hid (fb2.trans0 f3)
    have hz3 := f3.size
    clear HF f3 s2 ob2 fb2
    have hl1 := lone_any g w3 s3.out
    cases hlo : lonB (mx l) (mny l 1) with
    | true =>
      rw [hlo] at hl1
      have HL1 := Lib.hid hl1
      clear hl1 hfu hlo
      go_wp2_with fail
      refine HL1.out.mono ?_
      rintro e w' ⟨rfl, rfl⟩
      clear HL1
      go_wp2_with fail
      have HG := Lib.hid (give_any g q c l w3 s3.out (SlI.ofOwns o3.out) hoff H15.out hL)
      refine HG.out.mono ?_
      rintro e w4 ⟨rfl, nb, cb, ob4, hG⟩
      have HW := Lib.hid hG
      clear hG
      go_wp2_with fail
      go_ret2
      exact ⟨g, rfl, make_end HW.out fb3.out (by omega) o3.out HQ.out (fun k hk => ⟨Nat.lt_of_lt_of_le (hqb' k hk).1 hz3, (hqb' k hk).2⟩) hoff ok hL H15.out, hg1⟩
    | false =>
      have h0 : mx l = 0 := by
        rcases ok with h | h | h
        · exact absurd h hfu
        · exfalso
          have : lonB (mx l) (mny l 1) = true := decide_eq_true ⟨h.1, h.2⟩
          rw [hlo] at this
          cases this
        · exact h
      rw [hlo] at hl1
      have HL1 := Lib.hid hl1
      have hb1 := bare_any g w3 s3.out
      rw [decide_eq_true h0] at hb1
      have HB1 := Lib.hid hb1
      clear hl1 hfu hlo hb1 h0
      go_wp2_with fail
      refine HL1.out.mono ?_
      rintro e w' ⟨rfl, rfl⟩
      clear HL1
      go_wp2_with fail
      refine HB1.out.mono ?_
      rintro e w' ⟨rfl, rfl⟩
      clear HB1
      go_wp2_with fail
      have HG := Lib.hid (give_any g q c l w3 s3.out (SlI.ofOwns o3.out) hoff H15.out hL)
      refine HG.out.mono ?_
      rintro e w4 ⟨rfl, nb, cb, ob4, hG⟩
      have HW := Lib.hid hG
      clear hG
      go_wp2_with fail
      go_ret2
      exact ⟨g, rfl, make_end HW.out fb3.out (by omega) o3.out HQ.out (fun k hk => ⟨Nat.lt_of_lt_of_le (hqb' k hk).1 hz3, (hqb' k hk).2⟩) hoff ok hL H15.out, hg1⟩
theorem make_no (p : Option Addr) (d : Nat) (l : List Nat) (w : World) (hl : SlI w .u8 p l) (hp : p = none → d = 0) (hL : l.length ≤ 320) (h15 : ∀ x ∈ l, x ≤ 15) (ok : ¬ okl l) :
    Calls Tryz.prog 202 #[.slice p l.length d] w fun e w' => e = .returned (.tuple #[.pointer none, .int .i64 62]) ∧ Fr S0 w w' := by
  have hlong : long l = false := by
    unfold long
    rw [List.any_eq_false]
    intro x hx
    have := h15 x hx
    simpa using this
  have HC := contains_any p d l w hl (by omega)
  rw [hlong] at HC
  have HK := Lib.hid HC
  have HCL := Lib.hid (clone_any p d l w hl hp (by omega))
  have HL := Lib.hid hl
  have H15 := Lib.hid h15
  have hnot : ¬ (l.length : Int) > 320 := by omega
  clear hlong HC hl h15
  go_enter Tryz.func202, Tryz.ntmps202
  go_wp2_with fail
  refine HK.out.mono ?_
  rintro e w' ⟨rfl, rfl⟩
  go_wp2_with fail
  refine HCL.out.mono ?_
  rintro e w1 ⟨v, rfl, f1, hv⟩
  obtain ⟨q, c, rfl, hq, -, -⟩ := slForm hv.own
  have sb := bare_row w1 (.slice q l.length c)
  have fb : Fr S0 w (w1.alloc (.cells (bareC (.slice q l.length c)) 265)) := f1.trans0 (Fr.alloc _ _ _)
  have ob : (w1.alloc (.cells (bareC (.slice q l.length c)) 265)).ownsRow 0 5 1 (.slice q l.length c) l.length (u8s l) := hv.own.alloc _
  have zb : (w1.alloc (.cells (bareC (.slice q l.length c)) 265)).heap.size = w1.heap.size + 1 := size_alloc _ _
  obtain ⟨BC, hBC⟩ : ∃ X, bareC (.slice q l.length c) = X := ⟨_, rfl⟩
  rw [hBC] at sb fb ob zb
  have hg1 := f1.size
  have hqb : ∀ k, Value.ownBlock (.slice q l.length c) = some k → k < w1.heap.size ∧ w.heap.size ≤ k := fun k hk => ⟨(hv.own.lt k hk).2, hv.fresh k hk⟩
  unfold bareC at hBC
  have HQ := Lib.hid hq
  clear hq hv
  go_wp2_with fail
  obtain ⟨g, hg⟩ : ∃ g, w1.heap.size = g := ⟨_, rfl⟩
  rw [hg] at sb zb hg1 hqb ⊢
  generalize w1.alloc (.cells BC 265) = W at sb fb ob zb ⊢
  have hoff : Off (· = g) q := fun a ha e => by
    have := hqb a.block (by rw [ha]; rfl)
    omega
  have HC := Lib.hid (count_any g q c l W sb (SlI.ofOwns ob) hoff H15.out hL)
  clear hBC hg sb
  refine HC.out.mono ?_
  rintro e w2 ⟨rfl, f2, s2⟩
  have fb2 : Fr S0 w w2 := fb.trans f2 (fun k hk e => by omega)
  clear HC fb ob f2 zb
  have hF := full_any g w2 s2 (by omega)
  have hfu : ¬ ful l := fun h => ok (.inl h)
  have hlo : lonB (mx l) (mny l 1) = false := decide_eq_false fun h => ok (.inr (.inl ⟨h.1, h.2⟩))
  have h0 : ¬ mx l = 0 := fun h => ok (.inr (.inr h))
  rw [decide_eq_false hfu] at hF
  have HF := Lib.hid hF
  clear hF
  go_wp2_with fail
  refine HF.out.mono ?_
  rintro e w3 ⟨rfl, f3⟩
  have s3 := Lib.hid (s2.fr f3 (fun h => h))
  have fb3 := Lib.hid (fb2.trans0 f3)
  clear HF f3 s2 fb2
  have hl1 := lone_any g w3 s3.out
  rw [hlo] at hl1
  have HL1 := Lib.hid hl1
  have hb1 := bare_any g w3 s3.out
  rw [decide_eq_false h0] at hb1
  have HB1 := Lib.hid hb1
  clear hl1 hfu hlo hb1 h0 ok
  go_wp2_with fail
  refine HL1.out.mono ?_
  rintro e w' ⟨rfl, rfl⟩
  clear HL1
  go_wp2_with fail
  refine HB1.out.mono ?_
  rintro e w' ⟨rfl, rfl⟩
  clear HB1
  go_wp2_with fail
  go_ret2
  exact ⟨rfl, fb3.out⟩
end Go.Proofs.YtnndgpggjlhhpaaGreat
namespace Go.Proofs.YtnndgpggjlhhpaaGreat
open Go.RowKit
variable {X : Wx}
def lenI (l : List Nat) (s : Int) : Nat := if 0 ≤ s then len l s.toNat else 0
theorem lenI_nat (l : List Nat) (s : Nat) : lenI l s = len l s := by unfold lenI; rw [if_pos (by omega), Int.toNat_natCast]
theorem lenI_no {l : List Nat} {s : Int} (h : ¬ (0 ≤ s ∧ s < l.length)) : lenI l s = 0 := by
  unfold lenI
  by_cases h0 : 0 ≤ s
  · rw [if_pos h0]; exact len_no _ _ (by omega)
  · rw [if_neg h0]
theorem length_any (A B g : Nat) (l : List Nat) (s : Int) (w : World) (h : SetIs w A B g l) :
    Calls Tryz.prog 206 #[.pointer (some ⟨g, 0, none⟩), .int .i64 s] w fun e w' => e = .returned (.int .i64 (lenI l s : Nat)) ∧ w = w' := by
  obtain ⟨pl, cl, cb, cc, ob, oc, h1, h2, h3, h4, h5, h6, h7, h8⟩ := h.ex
  have hs := h.small
  have k1 := h1.c0
  by_cases h0 : s < 0
  · have E := Lib.hid (lenI_no (l := l) (s := s) (by omega))
    clear h h1 h2 h3 h4 h5 h6 h7 h8 k1
    go_enter Tryz.func206, Tryz.ntmps206
    go_wp2_with fail
    go_ret
    exact ⟨by rw [E.out]; rfl, rfl⟩
  · by_cases hlt : s < (l.length : Int)
    · obtain ⟨i, rfl⟩ : ∃ i : Nat, s = i := ⟨s.toNat, by omega⟩
      obtain ⟨b, o, hpe, hcl⟩ := h2.at i (by omega)
      have E := Lib.hid ((lenI_nat l i).trans (len_get l i (by omega)))
      obtain ⟨x, hx⟩ : ∃ x, l[i] = x := ⟨_, rfl⟩
      have hx15 := h.short _ (List.getElem_mem (show i < l.length by omega))
      rw [hx] at hcl E hx15
      subst hpe
      clear h h1 h2 h3 h4 h5 h6 h7 h8 hx
      go_enter Tryz.func206, Tryz.ntmps206
      go_wp2_with fail
      go_ret
      exact ⟨by rw [E.out]; rfl, rfl⟩
    · have hge : s ≥ (l.length : Int) := by omega
      have E := Lib.hid (lenI_no (l := l) (s := s) (by omega))
      clear h h1 h2 h3 h4 h5 h6 h7 h8
      go_enter Tryz.func206, Tryz.ntmps206
      go_wp2_with fail
      go_ret
      exact ⟨by rw [E.out]; rfl, rfl⟩
theorem write_yes (A B g : Nat) (l : List Nat) (i gw : Nat) (r : Option Nat) (L : List Nat) (w : World) (h : SetIs w A B g l) (hi : 0 < len l i) (hw : WrIs X w gw r L) (hL : L.length + 32 ≤ 1099511627776) :
    Calls Tryz.prog 187 #[.pointer (some ⟨g, 0, none⟩), .pointer (some ⟨gw, 0, none⟩), .int .i64 i] w fun e w' => e = .returned (.int .i64 0) ∧ WrTo X w w' gw r (L ++ code (cod l i) (len l i)) := by
  have hN := length_any A B g l i w h
  rw [lenI_nat] at hN
  have HN := Lib.hid hN
  obtain ⟨pl, cl, cb, cc, ob, oc, h1, h2, h3, h4, h5, h6, h7, h8⟩ := h.ex
  have hs := h.small
  have k1 := h1.c1
  have hil := len_in hi
  have hm := h.mx15
  have hlen := Nat.le_trans (mx_len l i) hm
  have hcod := cod_two h.ok hi hm
  have h15 : 2 ^ len l i ≤ 32768 := Nat.le_trans (Nat.pow_le_pow_right (n := 2) (by decide) hlen) (by decide)
  obtain ⟨b, o, hpe, hcl⟩ := h5.at i (by rw [cods_length]; exact hil)
  rw [cods_get] at hcl
  have hfit : fitB (cod l i) (len l i : Int) = true := decide_eq_true ⟨by omega, by omega, by rw [Int.toNat_natCast]; exact hcod⟩
  have hC := code_yes gw r L (cod l i) (len l i : Int) w hw (by omega) hfit hL
  rw [Int.toNat_natCast] at hC
  have HC := Lib.hid hC
  have hc32 : cod l i < 32768 := by omega
  obtain ⟨x, hx⟩ : ∃ x, len l i = x := ⟨_, rfl⟩
  obtain ⟨c, hc⟩ : ∃ c, cod l i = c := ⟨_, rfl⟩
  rw [hx] at HN HC hi hlen ⊢
  rw [hc] at hcl HC hc32 ⊢
  simp only [Option.some.injEq, Addr.mk.injEq] at hpe
  obtain ⟨rfl, rfl, -⟩ := hpe
  rw [Nat.zero_add] at hcl
  have hil' : (i : Int) < (l.length : Int) := by omega
  clear h h1 h2 h3 h4 h5 h6 h7 h8 hN hm hcod h15 hfit hC hx hc hw hL
  go_enter Tryz.func187, Tryz.ntmps187
  go_wp2_with fail
  refine HN.out.mono ?_
  rintro e w' ⟨rfl, rfl⟩
  go_wp2_with fail
  refine HC.out.mono ?_
  rintro e w' ⟨rfl, hto⟩
  have K := Lib.hid hto
  clear hto HC HN
  go_wp2_with fail
  go_ret
  exact ⟨rfl, K.out⟩
end Go.Proofs.YtnndgpggjlhhpaaGreat
namespace Go.Proofs.YtnndgpggjlhhpaaGreat
open Go.RowKit
theorem dry_down {l B : List Nat} (hb : Bit01 B) {n : Nat} (h : dry l B n) (hn : n ≤ B.length) : ∀ {j : Nat}, j ≤ n → dry l B j := by
  intro j hj
  by_cases e : j = n
  · subst e; exact h
  · refine val_fall hb (n - j) j (by omega) (by omega) ?_
    rw [show j + (n - j) = n by omega]
    have := top_eq l n
    unfold dry at h
    omega
theorem dry_none {l B : List Nat} (hb : Bit01 B) {n : Nat} (h : dry l B n) (hn : n ≤ B.length) (hm : n = B.length ∨ n = mx l) : ∀ i, ¬ hits l B i := by
  intro i hi
  have h1 := mx_len l i
  have h2 := hi.2.1
  exact hits_wet hi (dry_down hb h hn (by omega))
def Found (l B : List Nat) (e : Ending) (n : Nat) : Prop :=
  (∃ i, hits l B i ∧ e = .returned (.tuple #[.int .i64 (i : Nat), .int .i64 0]) ∧ n = len l i) ∨
  ((∀ i, ¬ hits l B i) ∧ B.length < mx l ∧ e = .returned (.tuple #[.int .i64 0, .int .i64 20]) ∧ n = B.length) ∨
  ((∀ i, ¬ hits l B i) ∧ mx l ≤ B.length ∧ e = .returned (.tuple #[.int .i64 0, .int .i64 62]) ∧ n = mx l)
theorem shl_or (c x : Nat) (hc : c < 2147483648) (hx : x < 2) : bits .or .u32 ((c : Int) * 2) (x : Int) = ((2 * c + x : Nat) : Int) := by
  rw [show (c : Int) * 2 = ((2 * c : Nat) : Int) by omega, u32_or_nat _ _ (by omega) (by omega)]
  congr 1
  have := Nat.shiftLeft_add_eq_or_of_lt (i := 1) (b := x) (by omega) c
  rw [Nat.shiftLeft_eq, Nat.pow_one, Nat.mul_comm] at this
  exact this.symm
theorem bit_next (b : List Nat) (k j : Nat) (h : j < ((bts b).drop k).length) : num (bitsAt b (k + j) 1) = ((bts b).drop k)[j] := by
  have h2 : k + j < (bts b).length := by rw [List.length_drop] at h; omega
  unfold bitsAt
  rw [List.getElem_drop, List.drop_eq_getElem_cons h2, List.take_succ_cons, List.take_zero, num_one]
def zTold (w : World) (l b : List Nat) (k gr : Nat) (r : Option Nat) (e : Ending) (w' : World) : Prop := ∃ n, Found l ((bts b).drop k) e n ∧ RdTo w w' gr r b (k + n)
def Dry (l B : List Nat) (j : Nat) : Prop := dry l B j
theorem find_any (A B g : Nat) (l : List Nat) (gr : Nat) (r : Option Nat) (b : List Nat) (k : Nat) (w : World) (h : SetIs w A B g l) (hr : RdIs w gr r b k) (hg : gr < A ∨ B ≤ gr) (hb : b.length ≤ 140737488355328) :
    Calls Tryz.prog 253 #[.pointer (some ⟨g, 0, none⟩), .func (.func 254) #[.pointer (some ⟨gr, 0, none⟩)] #[]] w (zTold w l b k gr r) := by
  have HS := Lib.hid h
  have HR := Lib.hid hr
  have hm := h.mx15
  have HB : Hid (Bit01 ((bts b).drop k)) := Lib.hid ((bts_bit b).sub fun _ hx => List.mem_of_mem_drop hx)
  have HBL : Hid (k + ((bts b).drop k).length = 8 * b.length) := Lib.hid (by have := hr.inside; rw [List.length_drop, bts_length]; omega)
  have HNX := Lib.hid (bit_next b k)
  obtain ⟨BB, hBB⟩ : ∃ X, (bts b).drop k = X := ⟨_, rfl⟩
  rw [hBB] at HB HBL HNX
  have HBB := Lib.hid hBB
  obtain ⟨pl, cl, cb, cc, ob, oc, h1, -⟩ := h.ex
  have k1 := h1.ce
  obtain ⟨M, hM⟩ : ∃ M, mx l = M := ⟨_, rfl⟩
  rw [hM] at k1 hm
  have HM := Lib.hid hM
  have q1 : IntKind.i64.wrap ((M : Int) + 1) = (M : Int) + 1 := IntWalk.i64_in _ (by omega)
  have q2 : (1 : Int) ≤ (M : Int) + 1 := by omega
  have q3 : (M : Int) + 1 ≤ 16 := by omega
  have q4 : ((M : Int) + 1).toNat = M + 1 := by omega
  clear h hr h1 hM hBB
  go_enter Tryz.func253, Tryz.ntmps253
  go_wp2_with fail
  go_quiet (fail)
  clear q1 q2 q3 q4 k1
  go_wp2_with fail
  go_loopw [6, 22] (fun c i wr => ∃ j : Nat, j ≤ M ∧ i = .int .i64 j ∧ c = .int .u32 (zval (BB.take j) : Nat) ∧ j ≤ BB.length ∧ Dry l BB j ∧ RdTo w wr gr r b (k + j)) (fun _ i _ => M - (intOf i).toNat)
  case atStart => exact ⟨0, by omega, rfl, rfl, by omega, dry_zero l BB, (HR.out.drewN nq)⟩
  case round =>
    obtain ⟨j, hj, rfl, rfl, hjB, hdry, hto⟩ := hrel
    have HD := Lib.hid hdry
    have HT := Lib.hid hto
    clear hdry hto
    by_cases hjc : (j : Int) < (M : Int)
    · have hSW := HS.out.fr HT.out.2 (fun q hq hq2 e => by omega)
      obtain ⟨pl, cl, cb, cc, ob, oc, h1, -, -, -, -, -, h7, h8⟩ := hSW.ex
      have k1 := h1.cm (j + 1) (by omega)
      have k2 := h1.cf (j + 1) (by omega)
      have k3 := h1.ca (j + 1) (by omega)
      have k4 := h1.c2
      rw [show 3 + (j + 1) * 3 = 6 + j * 3 by omega] at k1 k2 k3
      have bM := mny_le l (j + 1)
      have bF := fst_small l (j + 1) (by omega) (by have := HS.out.small; omega)
      have bN := ahd_small l (j + 1) (by omega) (by have := HS.out.small; omega)
      have bL := HS.out.small
      have hgW := hSW.lt
      have HTOP := Lib.hid (top_eq l (j + 1))
      have HFS := Lib.hid (fst_succ l j)
      by_cases hend : j = BB.length
      · have HE := Lib.hid (fun W (q : RdIs W gr r b (k + j)) => rbit_of gr W _ _ _ (rgroup_end gr r b (k + j) 1 W q (by omega) (by have := HBL.out; omega) (by omega)))
        have HNO := Lib.hid (dry_none HB.out HD.out hjB (.inl hend))
        obtain ⟨A1, hA1⟩ : ∃ X, mny l (j + 1) = X := ⟨_, rfl⟩
        obtain ⟨A2, hA2⟩ : ∃ X, fst l (j + 1) = X := ⟨_, rfl⟩
        obtain ⟨A3, hA3⟩ : ∃ X, zahd l (j + 1) = X := ⟨_, rfl⟩
        rw [hA1] at k1
        rw [hA2] at k2
        rw [hA3] at k3
        have HEND := Lib.hid hend
        obtain ⟨V, hV⟩ : ∃ V, zval (BB.take j) = V := ⟨_, rfl⟩
        rw [hV]
        clear h1 h7 h8 hSW bM bF bN hA1 hA2 hA3 hend k4 hV
        go_wp2_with fail
        have f1 := Fr.alloc S0 wr (.cells #[.int .i64 (A1 : Nat), .int .u32 (A2 : Nat), .int .i64 (A3 : Nat)] 262)
        generalize wr.alloc (.cells #[.int .i64 (A1 : Nat), .int .u32 (A2 : Nat), .int .i64 (A3 : Nat)] 262) = W at f1 ⊢
        have HX := Lib.hid (HT.out.fr0 f1)
        clear f1 k1 k2 k3
        refine (HE.out W HX.out.1).mono ?_
        rintro e w2 ⟨rfl, f2⟩
        have HY := Lib.hid (HX.out.fr0 f2)
        clear f2
        go_wp2_with fail
        go_ret2
        exact ⟨BB.length, by rw [HBB.out]; exact .inr (.inl ⟨HNO.out, by rw [HM.out, ← HEND.out]; omega, rfl, rfl⟩), by rw [← HEND.out]; exact HY.out⟩
      · have hjB2 : j < BB.length := by omega
        have hval := val_take BB j hjB2
        have hx2 := HB.out _ (List.getElem_mem hjB2)
        have hV := zval_lt (HB.out.sub (m := BB.take j) fun _ hx => List.mem_of_mem_take hx)
        rw [List.length_take, Nat.min_eq_left hjB] at hV
        have hV2 : 2 ^ j ≤ 16384 := Nat.le_trans (Nat.pow_le_pow_right (n := 2) (by decide) (show j ≤ 14 by omega)) (by decide)
        have hge := dry_ge HD.out hjB2
        have hbit := HNX.out j hjB2
        obtain ⟨x, hx⟩ : ∃ x, BB[j] = x := ⟨_, rfl⟩
        rw [hx] at hval hx2 hbit
        have HE := Lib.hid (fun W (q : RdIs W gr r b (k + j)) => rbit_of gr W _ _ _ (rgroup_ok gr r b (k + j) 1 W q (by omega) (by have := HBL.out; omega) (by omega)))
        rw [hbit] at HE
        have HHIT := Lib.hid (fun q => hit_here HD.out hjB2 q)
        have HDRY : Hid (¬ zval (BB.take (j + 1)) < ztop l (j + 1) → Dry l BB (j + 1)) := Lib.hid (fun q => Nat.le_of_not_lt q)
        have hor := shl_or (zval (BB.take j)) x (by omega) hx2
        rw [← hval] at hor
        obtain ⟨D, hD⟩ : ∃ D, zval (BB.take (j + 1)) = fst l (j + 1) + D := ⟨zval (BB.take (j + 1)) - fst l (j + 1), by omega⟩
        have hTOP := HTOP.out
        rw [hD] at hor HHIT HDRY hval
        rw [hTOP] at HHIT HDRY
        have HVJ := Lib.hid hD
        have HK1 := Lib.hid k1
        obtain ⟨A1, hA1⟩ : ∃ X, mny l (j + 1) = X := ⟨_, rfl⟩
        obtain ⟨A2, hA2⟩ : ∃ X, fst l (j + 1) = X := ⟨_, rfl⟩
        obtain ⟨A3, hA3⟩ : ∃ X, zahd l (j + 1) = X := ⟨_, rfl⟩
        have HA3 := Lib.hid hA3
        rw [hA1] at k1 bM HHIT HDRY
        rw [hA2] at k2 bF HHIT HDRY hor hval HVJ
        rw [hA3] at k3 bN
        obtain ⟨V, hVV⟩ : ∃ V, zval (BB.take j) = V := ⟨_, rfl⟩
        rw [hVV] at hV hor hval ⊢
        rw [Int.natCast_add] at hor
        have bD : A2 + D ≤ 32767 := by omega
        have bV : V ≤ 16384 := by omega
        have hgr : gr < wr.heap.size := HT.out.1.lt
        clear h1 h7 h8 hSW hA1 hA2 hA3 hend k4 hVV hval hV hV2 hbit hx hge hTOP hD HK1 hx2
        go_wp2_with fail
        have f1 := Fr.alloc S0 wr (.cells #[.int .i64 (A1 : Nat), .int .u32 (A2 : Nat), .int .i64 (A3 : Nat)] 262)
        have hb1 := heap_alloc_new wr (.cells #[.int .i64 (A1 : Nat), .int .u32 (A2 : Nat), .int .i64 (A3 : Nat)] 262)
        obtain ⟨n, hn⟩ : ∃ n, wr.heap.size = n := ⟨_, rfl⟩
        rw [hn] at hb1 hgr ⊢
        generalize wr.alloc (.cells #[.int .i64 (A1 : Nat), .int .u32 (A2 : Nat), .int .i64 (A3 : Nat)] 262) = W at f1 hb1 ⊢
        have HX := Lib.hid (HT.out.fr0 f1)
        have HB1 := Lib.hid hb1
        clear f1 k1 k2 k3 hn hb1
        refine (HE.out W HX.out.1).mono ?_
        rintro e w2 ⟨rfl, f2⟩
        have hb2 := f2.2.row HB1.out (by omega)
        have n0 : w2.cell? ⟨n, 0, none⟩ = some (.int .i64 (A1 : Nat)) := by simp [World.cell?, hb2]
        have n1 : w2.cell? ⟨n, 1, none⟩ = some (.int .u32 (A2 : Nat)) := by simp [World.cell?, hb2]
        have n2 : w2.cell? ⟨n, 2, none⟩ = some (.int .i64 (A3 : Nat)) := by simp [World.cell?, hb2]
        have HY := Lib.hid (HX.out.trans f2)
        clear f2 hb2 HB1 HX HE
        by_cases hin : D < A1
        · obtain ⟨i, hh, hli, hri⟩ := HHIT.out (by omega)
          have hS2 := HS.out.fr HY.out.2 (fun q hq hq2 e => by omega)
          obtain ⟨pl, cl, cb, cc, ob, oc, h1, -, -, -, -, -, h7, h8⟩ := hS2.ex
          have k4 := h1.c2
          have hpos : pos l i = A3 + D := by unfold pos; rw [hli, HA3.out, hri]; omega
          have hord := ordTo_get l l.length i (len_in hh.1) hh.1
          rw [hpos] at hord
          obtain ⟨hlt, hget⟩ := List.getElem?_eq_some_iff.1 hord
          obtain ⟨bb, oo, hpe, hcl⟩ := h7.at (A3 + D) hlt
          rw [hget] at hcl
          simp only [Option.some.injEq, Addr.mk.injEq] at hpe
          obtain ⟨rfl, rfl, -⟩ := hpe
          rw [Nat.zero_add] at hcl
          rw [ordTo_length] at hlt
          obtain ⟨Q, hQ⟩ : ∃ Q, zahd l (mx l + 1) = Q := ⟨_, rfl⟩
          rw [hQ] at k4 hlt
          have q1 : ((A3 : Int) + (D : Int)).toNat = A3 + D := by omega
          have q2 : IntKind.i64.wrap ((A3 : Int) + (D : Int)) = (A3 : Int) + (D : Int) := IntWalk.i64_in _ (by omega)
          have q3 : (0 : Int) ≤ (A3 : Int) + (D : Int) := by omega
          have q4 : (A3 : Int) + (D : Int) < (Q : Int) := by omega
          have hin' : (D : Int) < (A1 : Int) := by omega
          have HH := Lib.hid hh
          have HLI := Lib.hid hli
          clear hh hli hri hS2 h1 h7 h8 hpos hord hget hQ HHIT HDRY hlt hin
          go_wp2_with fail
          go_quiet (fail)
          go_wp2_with fail
          go_ret2
          exact ⟨j + 1, by rw [HBB.out]; exact .inl ⟨i, HH.out, rfl, HLI.out.symm⟩, HY.out.fr0 (Fr.drewN _ _ _)⟩
        · have HDR := Lib.hid (HDRY.out (by omega))
          have hin' : ¬ (D : Int) < (A1 : Int) := by omega
          clear HHIT HDRY hin
          go_wp2_with fail
          go_roundw
          case rel => exact ⟨j + 1, by omega, by go_num, by rw [HVJ.out]; go_num, by omega, HDR.out, HY.out⟩
          case measure => simp [intOf]; omega
    · obtain rfl : j = M := by omega
      have HNO := Lib.hid (dry_none HB.out HD.out hjB (.inr HM.out.symm))
      obtain ⟨V, hV⟩ : ∃ V, zval (BB.take j) = V := ⟨_, rfl⟩
      rw [hV]
      clear hV
      go_wp2_with fail
      go_ret2
      exact ⟨j, by rw [HBB.out]; exact .inr (.inr ⟨HNO.out, by rw [HM.out]; exact hjB, rfl, HM.out.symm⟩), HT.out⟩
theorem read_any (A B g : Nat) (l : List Nat) (gr : Nat) (r : Option Nat) (b : List Nat) (k : Nat) (w : World) (h : SetIs w A B g l) (hr : RdIs w gr r b k) (hg : gr < A ∨ B ≤ gr) (hb : b.length ≤ 140737488355328) :
    Calls Tryz.prog 251 #[.pointer (some ⟨g, 0, none⟩), .pointer (some ⟨gr, 0, none⟩)] w (zTold w l b k gr r) := by
  have HF := Lib.hid (find_any A B g l gr r b k w h hr hg hb)
  have hmf : ∀ (fn : Fn) (first cap : Array Value) (w : World), (Instr.makeFunc fn first cap).run Tryz.prog w = .ok (.func fn first cap) w := fun _ _ _ _ => rfl
  clear h hr hg hb
  go_enter Tryz.func251, Tryz.ntmps251
  go_wp2_with fail
  refine HF.out.mono ?_
  rintro e w' ⟨n, hn, hto⟩
  have HT := Lib.hid hto
  rcases hn with ⟨i, hi, rfl, e1⟩ | ⟨hi, hm, rfl, e1⟩ | ⟨hi, hm, rfl, e1⟩
  · have K : Hid (zTold w l b k gr r (.returned (.tuple #[.int .i64 (i : Nat), .int .i64 0])) w') := Lib.hid ⟨n, .inl ⟨i, hi, rfl, e1⟩, HT.out⟩
    clear hi e1 hto HT HF
    go_wp2_with fail
    go_ret2
    exact K.out
  · have K : Hid (zTold w l b k gr r (.returned (.tuple #[.int .i64 0, .int .i64 20])) w') := Lib.hid ⟨n, .inr (.inl ⟨hi, hm, rfl, e1⟩), HT.out⟩
    clear hi e1 hto HT HF hm
    go_wp2_with fail
    go_ret2
    exact K.out
  · have K : Hid (zTold w l b k gr r (.returned (.tuple #[.int .i64 0, .int .i64 62])) w') := Lib.hid ⟨n, .inr (.inr ⟨hi, hm, rfl, e1⟩), HT.out⟩
    clear hi e1 hto HT HF hm
    go_wp2_with fail
    go_ret2
    exact K.out
end Go.Proofs.YtnndgpggjlhhpaaGreat
namespace Go.Proofs.YtnndgpggjlhhpaaGreat
open Go.RowKit
def fixL (i : Nat) : Nat := if i ≤ 143 then 8 else if i ≤ 255 then 9 else if i ≤ 279 then 7 else 8
def fixLs : List Nat := (List.range 288).map fixL
theorem fixLs_length : fixLs.length = 288 := by simp [fixLs]
theorem fixed1_any (i : Nat) (w : World) : Calls Tryz.prog 228 #[.int .i64 i] w fun e w' => e = .returned (.int .u8 (fixL i : Nat)) ∧ w = w' := by
  by_cases h1 : (i : Int) ≤ 143
  · have E : Hid (fixL i = 8) := Lib.hid (by unfold fixL; rw [if_pos (by omega)])
    go_enter Tryz.func228, Tryz.ntmps228
    go_wp2
    go_ret
    exact ⟨by rw [E.out]; rfl, rfl⟩
  · by_cases h2 : (i : Int) ≤ 255
    · have E : Hid (fixL i = 9) := Lib.hid (by unfold fixL; rw [if_neg (by omega), if_pos (by omega)])
      go_enter Tryz.func228, Tryz.ntmps228
      go_wp2
      go_ret
      exact ⟨by rw [E.out]; rfl, rfl⟩
    · by_cases h3 : (i : Int) ≤ 279
      · have E : Hid (fixL i = 7) := Lib.hid (by unfold fixL; rw [if_neg (by omega), if_neg (by omega), if_pos (by omega)])
        go_enter Tryz.func228, Tryz.ntmps228
        go_wp2
        go_ret
        exact ⟨by rw [E.out]; rfl, rfl⟩
      · have E : Hid (fixL i = 8) := Lib.hid (by unfold fixL; rw [if_neg (by omega), if_neg (by omega), if_neg (by omega)])
        go_enter Tryz.func228, Tryz.ntmps228
        go_wp2
        go_ret
        exact ⟨by rw [E.out]; rfl, rfl⟩
def fixTo (j : Nat) : List Nat := (List.range 288).map fun i => if i < j then fixL i else 0
theorem fixTo_length (j : Nat) : (fixTo j).length = 288 := by simp [fixTo]
theorem fixTo_get (j i : Nat) (h : i < (fixTo j).length) : (fixTo j)[i] = if i < j then fixL i else 0 := by simp [fixTo]
theorem fixTo_zero : fixTo 0 = List.replicate 288 0 := by
  apply List.ext_getElem
  · rw [fixTo_length, List.length_replicate]
  · intro i h1 h2; rw [fixTo_get, if_neg (by omega), List.getElem_replicate]
theorem fixTo_all : fixTo 288 = fixLs := by
  apply List.ext_getElem
  · simp [fixTo, fixLs]
  · intro i h1 h2
    rw [fixTo_length] at h1
    rw [fixTo_get, if_pos h1]; simp [fixLs]
theorem fixTo_succ (j : Nat) : fixTo (j + 1) = (fixTo j).set j (fixL j) := by
  apply List.ext_getElem
  · simp [fixTo]
  · intro i h1 h2
    rw [List.getElem_set, fixTo_get]
    by_cases e : j = i
    · subst e; rw [if_pos (by omega), if_pos rfl]
    · rw [if_neg e, fixTo_get]
      by_cases k : i < j
      · rw [if_pos k, if_pos (by omega)]
      · rw [if_neg k, if_neg (by omega)]
theorem make_u8 (w : World) (n : Nat) (hn : n ≤ 1000) : (Instr.makeSlice 31 (.int .i64 (n : Nat)) (.int .i64 (n : Nat))).run Tryz.prog w = .ok (.slice (some ⟨w.heap.size, 0, none⟩) n n) (w.alloc (.cells (zzers .u8 n) 5)) := by
  obtain ⟨i, hi, hz, hs, hb⟩ := info_parts info_u8
  have := run_make w 31 5 i _ Tryz.underlying31 hi hz .i64 .i64 (n : Int) (n : Int) (by omega) (by omega) (by rw [hb]; omega) (by omega)
  rw [this, hs, Nat.mul_one, Int.toNat_natCast]
  rfl
theorem fixed_any (w : World) : Calls Tryz.prog 203 #[] w fun e w' => ∃ v, e = .returned v ∧ Fr S0 w w' ∧ RowNew w w' v fixLs := by
  have hm : ∀ w, (Instr.makeSlice 31 (.int .i64 288) (.int .i64 288)).run Tryz.prog w = .ok (.slice (some ⟨w.heap.size, 0, none⟩) 288 288) (w.alloc (.cells (zzers .u8 288) 5)) := fun w => make_u8 w 288 (by decide)
  have f0 : Fr S0 w (w.alloc (.cells (zzers .u8 288) 5)) := Fr.alloc _ _ _
  have o0 := zers_own w .u8 5 288 (by decide)
  go_enter Tryz.func203, Tryz.ntmps203
  go_wp2_with fail
  obtain ⟨g, hg⟩ : ∃ g, w.heap.size = g := ⟨_, rfl⟩
  rw [hg] at o0 ⊢
  have HG : Hid (w.heap.size ≤ g) := Lib.hid (by omega)
  generalize w.alloc (.cells (zzers .u8 288) 5) = W at f0 o0 ⊢
  have HO := Lib.hid o0
  clear o0 hg hm
  go_loopw [2, 6] (fun _ i wr => ∃ j : Nat, j ≤ 288 ∧ i = .int .i64 j ∧ Fr S0 w wr ∧ wr.ownsRow 0 5 1 (.slice (some ⟨g, 0, none⟩) 288 288) 288 (u8s (fixTo j))) (fun _ i _ => 288 - (intOf i).toNat)
  case atStart => exact ⟨0, by omega, rfl, f0, by rw [fixTo_zero]; exact HO.out⟩
  case round =>
    obtain ⟨j, hj, rfl, hfr, own⟩ := hrel
    by_cases hjc : (j : Int) < 288
    · have hjl : j < 288 := by omega
      have k7 := own.cellAt j (by omega)
      have k8 := own.frozenAt j
      have hu : j < (u8s (fixTo j)).length := by unfold u8s; rw [List.length_map, fixTo_length]; exact hjl
      rw [List.getElem?_eq_getElem hu] at k7
      obtain ⟨u, hu'⟩ : ∃ u, (u8s (fixTo j))[j] = u := ⟨_, rfl⟩
      rw [hu'] at k7
      have HF := Lib.hid (fixed1_any j wr)
      have HS := Lib.hid (own.stored j (.int .u8 (fixL j : Nat))).1
      have HT := Lib.hid (fixTo_succ j)
      obtain ⟨x, hx⟩ : ∃ x, fixL j = x := ⟨_, rfl⟩
      rw [hx] at HF HS HT
      clear hu hu' own hx
      go_wp2_with fail
      refine HF.out.mono ?_
      rintro e w' ⟨rfl, rfl⟩
      go_wp2_with fail
      go_roundw
      case rel =>
        refine ⟨j + 1, by omega, by go_num, hfr.trans (Fr.setCell (· = g) _ ⟨g, j, none⟩ _ rfl) (fun q hq e => by have := HG.out; omega), ?_⟩
        rw [HT.out]
        unfold u8s
        rw [List.map_set]
        exact HS.out
      case measure => simp [intOf]; omega
    · obtain rfl : j = 288 := by omega
      have HO2 := Lib.hid own
      clear own
      go_wp2_with fail
      go_ret
      refine ⟨.slice (some ⟨g, 0, none⟩) 288 288, rfl, hfr, ?_, fun q hq => by simp only [Value.ownBlock, Option.some.injEq] at hq; have := HG.out; omega⟩
      rw [fixLs_length, ← fixTo_all]
      exact HO2.out
theorem and_low (n : Nat) (h : n < 4294967296) : bits .and .u64 (n : Int) 4294967295 = (n : Int) := by
  have := u64_and_nat n 4294967295 (by omega) (by decide)
  rw [show (4294967295 : Nat) = 2 ^ 32 - 1 by decide, Nat.and_two_pow_sub_one_eq_mod, Nat.mod_eq_of_lt (by omega)] at this
  exact this
theorem mul64_any (n : Nat) (hn : n ≤ 1000000) (w : World) : Calls Tryz.prog 149 #[.int .u64 1, .int .u64 (n : Nat)] w fun e w' => e = .returned (.tuple #[.int .u64 0, .int .u64 (n : Nat)]) ∧ w = w' := by
  have a1 : bits .and .u64 1 4294967295 = 1 := by decide
  have a2 : bits .and .u64 (n : Int) 4294967295 = (n : Int) := and_low n (by omega)
  have a3 : bits .and .u64 0 4294967295 = 0 := by decide
  have a4 : (n : Int) / 4294967296 = 0 := by omega
  go_enter Tryz.func149, Tryz.ntmps149
  go_wp2_with fail
  go_ret2
  exact ⟨rfl, rfl⟩
theorem zmul_any (n : Nat) (hn : n ≤ 1000000) (w : World) : Calls Tryz.prog 117 #[.int .u64 1, .int .u64 (n : Nat)] w fun e w' => e = .returned (.tuple #[.int .u64 0, .int .u64 (n : Nat)]) ∧ w = w' := by
  have HM := Lib.hid (mul64_any n hn w)
  go_enter Tryz.func117, Tryz.ntmps117
  go_wp2_with fail
  refine HM.out.mono ?_
  rintro e w' ⟨rfl, rfl⟩
  go_wp2_with fail
  go_ret2
  exact ⟨rfl, rfl⟩
end Go.Proofs.YtnndgpggjlhhpaaGreat
namespace Go.Proofs.YtnndgpggjlhhpaaGreat
open Go.RowKit
def Fives (five : Value) (R : List Value) (m : Nat) : Prop := ∀ i, i < m → R[i]? = some five
theorem fives_splice {five : Value} {R : List Value} {m c : Nat} (h : Fives five R m) (hm : m + c ≤ R.length) : Fives five (splice R m (List.replicate c five)) (m + c) ∧ (splice R m (List.replicate c five)).length = R.length := by
  refine ⟨fun i hi => ?_, length_splice _ _ _ (by rw [List.length_replicate]; exact hm)⟩
  unfold splice
  by_cases e : i < m
  · rw [List.getElem?_append_left (by rw [List.length_take]; omega), List.getElem?_take, if_pos e]
    exact h i e
  · rw [List.getElem?_append_right (by rw [List.length_take]; omega), List.length_take, Nat.min_eq_left (by omega), List.getElem?_append_left (by rw [List.length_replicate]; omega), List.getElem?_replicate, if_pos (by omega)]
theorem zrepeat_any (x n g0 : Nat) (w : World) (h0 : w.cell? ⟨g0, 0, none⟩ = some (.int .u8 (x : Nat))) (hn1 : 1 ≤ n) (hn2 : n ≤ 1000) :
    Calls Tryz.prog 229 #[.slice (some ⟨g0, 0, none⟩) 1 1, .int .i64 (n : Nat)] w fun e w' => ∃ g, e = .returned (.slice (some ⟨g, 0, none⟩) n n) ∧ Fr S0 w w' ∧ SlI w' .u8 (some ⟨g, 0, none⟩) (List.replicate n x) := by
  have HMU := Lib.hid (fun W => zmul_any n (by omega) W)
  obtain ⟨cs, hrunM, hle, -⟩ := Lib.run_makeNoZero (P := Tryz.prog) w #[3] 31 5 Tryz.underlying31 n (by omega)
  have hcall : (callFunc 178 #[.int .i64 (n : Nat)]).run Tryz.prog w = .ok (.value (.slice (some ⟨w.heap.size, 0, none⟩) n cs.size)) ((w.alloc (.cells cs 5)).drewN 2) := by
    rw [run_callFunc_extern Tryz.func178 (by kernel_rfl) (by kernel_rfl) (by kernel_rfl) (e := Extern.BytealgMakeNoZero.makeNoZero #[3] #[31]) (by kernel_rfl)]
    show (Sem.run _ (Extern.BytealgMakeNoZero.makeNoZero #[3] #[31] #[.int .i64 (n : Nat)]) w).andThen _ = _
    rw [hrunM]
    rfl
  obtain ⟨R, rfl⟩ : ∃ R : List Value, cs = R.toArray := ⟨cs.toList, by simp⟩
  have hb1 := heap_alloc_new w (.cells R.toArray 5)
  have bl1 : Below w.heap.size w (w.alloc (.cells R.toArray 5)) := (Below.refl _ _).alloc (Nat.le_refl _) _
  have hg0 : g0 < w.heap.size := World.block_lt_of_cell? w _ h0
  have hc1 : ((w.alloc (.cells R.toArray 5)).drewN 2).cell? ⟨g0, 0, none⟩ = some (.int .u8 (x : Nat)) := (bl1.cell (p := ⟨g0, 0, none⟩) hg0).trans h0
  have hR : n ≤ R.length := by simpa using hle
  have i1 : (n : Int) ≤ (R.length : Int) := by omega
  have HB : Hid (((w.alloc (.cells R.toArray 5)).drewN 2).heap[w.heap.size]? = some (.cells R.toArray 5 (0, 0))) := Lib.hid hb1
  have HBL : Hid (Below w.heap.size w ((w.alloc (.cells R.toArray 5)).drewN 2)) := Lib.hid ⟨bl1.os, bl1.tape, bl1.output, bl1.size, bl1.block⟩
  have HC1 := Lib.hid hc1
  have hsz : (Tryz.prog.info? 5).map (·.size) = some 1 := by kernel_rfl
  have HSZ := Lib.hid hsz
  have HMIN : Hid (([Value.int .u8 (x : Nat)] : List Value).length = Nat.min 1 n) := Lib.hid (Nat.min_eq_left hn1).symm
  clear hrunM h0 hb1 bl1 hle hc1 hsz
  go_enter Tryz.func229, Tryz.ntmps229
  go_wp2_with fail
  refine (HMU.out w).mono ?_
  rintro e w' ⟨rfl, rfl⟩
  go_wp2_with (first
    | ((with_reducible show wpList _ _ _ (Oper.mk (some 60) _ _ _ _ _ :: _) _ _); refine wpList_copy_splice rfl (.tmp 58) (.tmp 59) 31 31 rfl 5 Tryz.underlying31 HSZ.out (some ⟨w.heap.size, 0, none⟩) (some ⟨g0, 0, none⟩) n n 1 1 rfl rfl w.heap.size 0 R 5 HB.out [.int .u8 (x : Nat)] HMIN.out (fun _ => ⟨rfl, ⟨g0, 0, none⟩, rfl, fun j v hj => by (have : j = 0 := by (have := (List.getElem?_eq_some_iff.1 hj).1; simpa using this)); subst this; simp only [List.getElem?_cons_zero, Option.some.injEq] at hj; subst hj; exact HC1.out⟩) (by simp; omega) (by intro v hv; simp at hv; subst hv; rfl) w.heap.size w HBL.out (Nat.le_refl _) ?_; intro w2 hg2 hb2)
    | fail)
  have HW2 := Lib.hid hb2
  have HF1 : Hid (Fives (.int .u8 (x : Nat)) (splice R 0 [.int .u8 (x : Nat)]) 1 ∧ (splice R 0 [.int .u8 (x : Nat)]).length = R.length) := Lib.hid (by
    have := fives_splice (five := Value.int .u8 (x : Nat)) (R := R) (m := 0) (c := 1) (fun i hi => by omega) (by omega)
    exact this)
  obtain ⟨g, hg⟩ : ∃ g, w.heap.size = g := ⟨_, rfl⟩
  obtain ⟨N, hN⟩ : ∃ N, R.length = N := ⟨_, rfl⟩
  rw [hg] at hg2 ⊢
  rw [hN] at HF1 hR
  have HGE := Lib.hid hg
  have HG2 := Lib.hid hg2.out
  clear hb2 hg2 hg hN HB HBL HC1 hcall i1 hg0 HMU
  go_loopw [10, 11] (fun b _ wr => ∃ m : Nat, 1 ≤ m ∧ m ≤ n ∧ b = .int .i64 m ∧ Below w.heap.size w wr ∧ ∃ Q : List Value, Q.length = N ∧ wr.heap[g]? = some (.cells Q.toArray 5 (0, 0)) ∧ Fives (.int .u8 (x : Nat)) Q m) (fun b _ _ => n - (intOf b).toNat)
  case atStart => exact ⟨1, by omega, by omega, rfl, HW2.out, _, HF1.out.2, HG2.out, HF1.out.1⟩
  case round =>
    obtain ⟨m, hm1, hm, rfl, hbl, Q, hQ, hgq, hfv⟩ := hrel
    have HBLW := Lib.hid hbl
    have HQ := Lib.hid hQ
    have HGQ := Lib.hid hgq
    have HFV := Lib.hid hfv
    clear hbl hQ hgq hfv
    by_cases hmc : (m : Int) < (n : Int)
    · obtain ⟨C, hC⟩ : ∃ C : Nat, C = min m (n - m) := ⟨_, rfl⟩
      have hCm : C ≤ m := by omega
      have hmC : m + C ≤ n := by omega
      have hC1 : 1 ≤ C := by omega
      have HSP : Hid (Fives (.int .u8 (x : Nat)) (splice Q m (List.replicate C (Value.int .u8 (x : Nat)))) (m + C) ∧ (splice Q m (List.replicate C (Value.int .u8 (x : Nat)))).length = N) := Lib.hid (by
        have h := fives_splice HFV.out (c := C) (by rw [HQ.out]; omega)
        rw [HQ.out] at h
        exact h)
      have HBD : Hid (Below w.heap.size w wr.drew) := Lib.hid ⟨HBLW.out.os, HBLW.out.tape, HBLW.out.output, HBLW.out.size, HBLW.out.block⟩
      have HGD : Hid (wr.drew.heap[g]? = some (.cells Q.toArray 5 (0, 0))) := Lib.hid HGQ.out
      have HCL : Hid (∀ (j : Nat) (v : Value), (List.replicate C (Value.int .u8 (x : Nat)))[j]? = some v → wr.drew.cell? ((⟨g, 0, none⟩ : Addr).add j) = some v) := Lib.hid (fun j v hj => by
        have hjl := (List.getElem?_eq_some_iff.1 hj).1
        rw [List.length_replicate] at hjl
        rw [List.getElem?_replicate, if_pos hjl] at hj
        have hadd : (⟨g, 0, none⟩ : Addr).add j = ⟨g, j, none⟩ := by unfold Addr.add; split <;> simp_all
        rw [hadd, cell_of_row _ g j _ _ _ HGD.out, List.getElem?_toArray, HFV.out j (by omega)]
        exact hj)
      have HLN : Hid ((List.replicate C (Value.int .u8 (x : Nat))).length = Nat.min m (n - m)) := Lib.hid (by rw [List.length_replicate, hC])
      have hle2 : (m : Int) ≤ (n : Int) := by omega
      have hne : ¬ n = m := by omega
      have HCE := Lib.hid hC
      have q1 : ((n : Int) - (m : Int)).toNat = n - m := by omega
      clear hC
      have HFIT : Hid (m + (List.replicate C (Value.int .u8 (x : Nat))).length ≤ Q.length) := Lib.hid (by rw [List.length_replicate, HQ.out]; omega)
      have HONE : Hid (∀ v ∈ List.replicate C (Value.int .u8 (x : Nat)), v.oneCell' = true) := Lib.hid (fun v hv => by rw [List.eq_of_mem_replicate hv]; rfl)
      have HLC : Hid ((List.replicate C (Value.int .u8 (x : Nat))).length = C) := Lib.hid List.length_replicate
      obtain ⟨CS, hCS⟩ : ∃ X, List.replicate C (Value.int .u8 (x : Nat)) = X := ⟨_, rfl⟩
      rw [hCS] at HSP HCL HLN HFIT HONE HLC
      have hcs : CS.length ≤ n := by have := HLC.out; omega
      clear hCS
      go_wp2_with fail
      go_region_law (refine step_copy_splice rfl (.tmp 70) (.tmp 73) 31 31 rfl 5 Tryz.underlying31 HSZ.out (some ⟨g, m, none⟩) (some ⟨g, 0, none⟩) (n - m) (n - m) m n (by go_simp) (by go_simp) g m Q 5 HGD.out CS HLN.out (fun _ => ⟨rfl, ⟨g, 0, none⟩, rfl, HCL.out⟩) HFIT.out HONE.out w.heap.size w HBD.out (Nat.le_of_eq HGE.out) ?_; intro w4 hg4 hb4)
      have HB4 := Lib.hid hb4
      have HG4 := Lib.hid hg4.out
      clear hg4 hb4
      have HQ5 : Hid (IntKind.i64.wrap ((m : Int) + (CS.length : Int)) = ((m + C : Nat) : Int)) := Lib.hid (by rw [IntWalk.i64_in _ (by omega), HLC.out]; omega)
      go_simp
      rw [HQ5.out]
      go_wp2_with fail
      go_roundw
      case rel => exact ⟨m + C, by omega, by omega, rfl, HB4.out, _, HSP.out.2, HG4.out, HSP.out.1⟩
      case measure => simp [intOf]; omega
    · obtain rfl : n = m := by omega
      have HSL : Hid (SlI wr .u8 (some ⟨g, 0, none⟩) (List.replicate n x)) := Lib.hid ⟨by rw [List.length_replicate]; unfold maxLen; omega, fun _ => ⟨g, 0, rfl, fun i hi => by
        have hi' : i < n := by rw [List.length_replicate] at hi; exact hi
        rw [Nat.zero_add, cell_of_row _ g i _ _ _ HGQ.out, List.getElem?_toArray, HFV.out i hi', List.getElem_replicate]⟩⟩
      go_wp2_with fail
      go_ret
      exact ⟨g, rfl, Fr.ofBelow HBLW.out, HSL.out⟩
theorem spans_any (w : World) : Calls Tryz.prog 204 #[] w fun e w' => ∃ g, e = .returned (.slice (some ⟨g, 0, none⟩) 32 32) ∧ Fr S0 w w' ∧ SlI w' .u8 (some ⟨g, 0, none⟩) (List.replicate 32 5) := by
  have HR := Lib.hid (zrepeat_any 5 32 w.heap.size (w.alloc (.cells #[.int .u8 5] 5)) ((cell_of_row _ _ 0 _ _ _ (heap_alloc_new w _)).trans rfl) (by decide) (by decide))
  have HF := Lib.hid (Fr.alloc S0 w (.cells #[.int .u8 5] 5))
  go_enter Tryz.func204, Tryz.ntmps204
  go_wp2_with fail
  refine HR.out.mono ?_
  rintro e w1 ⟨g, rfl, f1, hs⟩
  have HS := Lib.hid hs
  have HF1 := Lib.hid (HF.out.trans0 f1)
  clear hs f1 HR
  go_wp2_with fail
  go_ret
  exact ⟨g, rfl, HF1.out, HS.out⟩
end Go.Proofs.YtnndgpggjlhhpaaGreat
