/- Stored blocks and the least stream, as numbers. -/
import Derived.Test.YtmcmchldjfnneaaInfRd
namespace Go.Proofs.Ytmcmchldjfnneaa
open Go.RowKit

theorem bits_app (a b : List Nat) : bts (a ++ b) = bts a ++ bts b := by simp [bts, List.flatMap_append]
theorem bits_cons (x : Nat) (r : List Nat) : bts (x :: r) = grp x 8 ++ bts r := by simp [bts]
theorem drop_pre (pre s : List Nat) (k : Nat) : (bts (pre ++ s)).drop (8 * pre.length + k) = (bts s).drop k := by
  rw [bits_app, ← List.drop_drop, List.drop_left' (by rw [bts_length])]
theorem rGrp_pre {pre s : List Nat} {c k n j : Nat} (h : rGrp s c k = .ok n j) : rGrp (pre ++ s) c (8 * pre.length + k) = .ok n (8 * pre.length + j) := by
  have hj := (rGrp_lt h).2
  unfold rGrp at h ⊢
  split at h
  · rename_i hc
    simp only [Res.ok.injEq] at h
    rw [if_pos (by rw [List.length_append]; omega)]
    unfold bitsAt at h ⊢
    rw [drop_pre, h.1, hj]
    congr 1
    omega
  · cases h
theorem rSym_pre {pre s l : List Nat} {k i j : Nat} (h : rSym s l k = .ok i j) : rSym (pre ++ s) l (8 * pre.length + k) = .ok i (8 * pre.length + j) := by
  obtain ⟨h1, rfl⟩ := rSym_in h
  rw [rSym_hit (i := i) (by rw [drop_pre]; exact h1)]
  congr 1
  omega
theorem end1 : rGrp [3, 0] 1 0 = .ok 1 1 := rfl
theorem end2 : rGrp [3, 0] 2 1 = .ok 1 3 := rfl
theorem end3 : rSym [3, 0] fixLs' 3 = .ok 256 10 := by
  have h : hits fixLs' ((bts [3, 0]).drop 3) 256 := by decide +kernel
  rw [rSym_hit h]
  congr 1
theorem end_block (pre : List Nat) (lim : Nat) (T : List Nat) : rBlock (pre ++ [3, 0]) lim T (8 * pre.length) = .ok (true, T) (8 * pre.length + 10) := by
  have h1 := rGrp_pre (pre := pre) end1
  have h2 := rGrp_pre (pre := pre) end2
  have h3 := rSym_pre (pre := pre) end3
  rw [Nat.add_zero] at h1
  have hk : rKind (pre ++ [3, 0]) lim T 1 (8 * pre.length + 3) = .ok T (8 * pre.length + 10) := by
    unfold rKind
    rw [if_neg (by decide), if_pos rfl]
    refine rSyms_end ?_
    unfold rStep
    rw [h3, Res.then_ok, if_neg (by decide), if_pos rfl]
  unfold rBlock
  rw [h1, Res.then_ok, h2, Res.then_ok, hk, Res.then_ok]
  rfl
theorem num_two (x y : Nat) (r : List Nat) (hx : x < 256) (hy : y < 256) : rGrp (x :: y :: r) 16 0 = .ok (x + 256 * y) 16 := by
  have hb : bitsAt (x :: y :: r) 0 16 = grp x 8 ++ grp y 8 := by
    unfold bitsAt
    rw [bits_cons, bits_cons, List.drop_zero, ← List.append_assoc, List.take_left' (by rw [List.length_append, grp_length, grp_length])]
  unfold rGrp
  rw [if_pos (by simp only [List.length_cons]; omega), hb, num_append, grp_length, num_grp, num_grp, Nat.mod_eq_of_lt (by omega), Nat.mod_eq_of_lt (by omega)]
theorem head1 (x : Nat) (r : List Nat) : rGrp (x :: r) 1 0 = .ok (x % 2) 1 := by
  have hb : bitsAt (x :: r) 0 1 = [x % 2] := by
    unfold bitsAt
    rw [bits_cons, List.drop_zero, List.take_append_of_le_length (by rw [grp_length]; decide)]
    rfl
  unfold rGrp
  rw [if_pos (by simp only [List.length_cons]; omega), hb, num_one]
theorem head2 (x : Nat) (r : List Nat) : rGrp (x :: r) 2 1 = .ok (x / 2 % 4) 3 := by
  have hb : bitsAt (x :: r) 1 2 = [x / 2 % 2, x / 2 / 2 % 2] := by
    unfold bitsAt
    rw [bits_cons, List.drop_append_of_le_length (by rw [grp_length]; decide), List.take_append_of_le_length (by rw [List.length_drop, grp_length]; decide)]
    rfl
  unfold rGrp
  rw [if_pos (by simp only [List.length_cons]; omega), hb]
  simp only [num]
  congr 1
  omega
/-- a stored block: its head x, its count, and its contrary -/
theorem stored_block (pre l rest : List Nat) (lim : Nat) (T : List Nat) (x a b c d : Nat) (hx : x / 2 % 4 = 0) (ha : a < 256) (hb : b < 256) (hc : c < 256) (hd : d < 256) (hn : a + 256 * b = l.length) :
    rBlock (pre ++ (x :: a :: b :: c :: d :: (l ++ rest))) lim T (8 * pre.length) = if l.length + (c + 256 * d) = 65535 then (if T.length + l.length ≤ lim then .ok (decide (x % 2 = 1), T ++ l) (8 * (pre.length + 5 + l.length)) else .no 64) else .no 61 := by
  have h1 := rGrp_pre (pre := pre) (head1 x (a :: b :: c :: d :: (l ++ rest)))
  have h2 := rGrp_pre (pre := pre) (head2 x (a :: b :: c :: d :: (l ++ rest)))
  have h3 := rGrp_pre (pre := pre ++ [x]) (num_two a b (c :: d :: (l ++ rest)) ha hb)
  have h4 := rGrp_pre (pre := pre ++ [x, a, b]) (num_two c d (l ++ rest) hc hd)
  obtain ⟨B, hB⟩ : ∃ B, pre ++ (x :: a :: b :: c :: d :: (l ++ rest)) = B := ⟨_, rfl⟩
  have hdrop : (B.drop (pre.length + 5)).take l.length = l := by
    rw [← hB, show pre ++ (x :: a :: b :: c :: d :: (l ++ rest)) = (pre ++ [x, a, b, c, d]) ++ (l ++ rest) by simp, List.drop_left' (by simp), List.take_left' rfl]
  have hlen : B.length = pre.length + 5 + l.length + rest.length := by rw [← hB]; simp; omega
  rw [show pre ++ [x] ++ (a :: b :: c :: d :: (l ++ rest)) = pre ++ (x :: a :: b :: c :: d :: (l ++ rest)) by simp, hB] at h3
  rw [show pre ++ [x, a, b] ++ (c :: d :: (l ++ rest)) = pre ++ (x :: a :: b :: c :: d :: (l ++ rest)) by simp, hB] at h4
  rw [hB] at h1 h2 ⊢
  have hup : upN (8 * pre.length + 3) = 8 * (pre ++ [x]).length + 0 := by unfold upN; rw [List.length_append, List.length_singleton]; omega
  have e4 : 8 * (pre ++ [x]).length + 16 = 8 * (pre ++ [x, a, b]).length + 0 := by simp; omega
  have e5 : (8 * (pre ++ [x, a, b]).length + 16) / 8 = pre.length + 5 := by simp; omega
  unfold rBlock
  rw [← Nat.add_zero (8 * pre.length), h1, Res.then_ok, h2, Res.then_ok, hx]
  unfold rKind
  rw [if_pos rfl]
  unfold rStored
  rw [hup, h3, Res.then_ok, e4, h4, Res.then_ok, hn]
  by_cases q1 : l.length + (c + 256 * d) = 65535
  · rw [if_pos q1, rIf_yes (decide_eq_true q1), Res.then_ok]
    by_cases q2 : T.length + l.length ≤ lim
    · rw [if_pos q2, rIf_yes (decide_eq_true q2), Res.then_ok, rIf_yes (decide_eq_true (by simp; omega)), Res.then_ok, Res.then_ok, e5, hdrop]
      congr 1
      simp; omega
    · rw [if_neg q2, rIf_no (decide_eq_false q2)]; rfl
  · rw [if_neg q1, rIf_no (decide_eq_false q1)]; rfl
theorem ex1 : infl [3, 0] 9 = .ok [] 10 := rBlocks_end (end_block [] 9 [])
theorem ex2 : infl [1, 1, 0, 254, 255, 97] 9 = .ok [97] 48 := by
  have h := stored_block [] [97] [] 9 [] 1 1 0 254 255 rfl (by decide) (by decide) (by decide) (by decide) rfl
  exact rBlocks_end h
theorem ex3 : infl [7] 9 = .no 60 := by
  have h1 := head1 7 []
  have h2 := head2 7 []
  refine rBlocks_no ?_
  unfold rBlock
  rw [h1, Res.then_ok, h2, Res.then_ok]
  rfl
/-- a last stored block of nothing -/
theorem ex4 (lo hi : Nat) (h1 : lo < 256) (h2 : hi < 256) : infl [1, 0, 0, lo, hi] 9 = if lo + 256 * hi = 65535 then .ok [] 40 else .no 61 := by
  have h := stored_block [] [] [] 9 [] 1 0 0 lo hi rfl (by decide) (by decide) h1 h2 rfl
  simp only [List.length_nil, Nat.zero_add] at h
  by_cases q : lo + 256 * hi = 65535
  · rw [if_pos q] at h ⊢
    exact rBlocks_end h
  · rw [if_neg q] at h ⊢
    exact rBlocks_no h
end Go.Proofs.Ytmcmchldjfnneaa
