/- What wrapped streams tell, as lists. -/
import Derived.Test.YtnckoghgplnhfaaGreatZlRefPack
import Derived.Test.YtnckoghgplnhfaaGreatZlBytes
import Derived.Test.YtnckoghgplnhfaaGreatDefPure
namespace Go.Proofs.YtnckoghgplnhfaaGreat
open Go.RowKit

theorem zopen_head (x y : Nat) (R : List Nat) (lim : Nat) : zopen (x :: y :: R) lim = if headB x y = false then .no 90 else (infl R lim).then fun T k => rest9 (R.drop (upN k / 8)) T := by
  have e : hdB (x :: y :: R) = headB x y := by simp [hdB]
  unfold zopen
  rw [e, if_neg (by simp)]
  rfl
theorem rest9_ok (b : List Nat) : rest9 (sum4 b) b = .ok b 0 := by
  unfold rest9
  rw [if_neg (by rw [sum4_length]; decide), if_neg (fun h => h rfl), if_neg (by rw [sum4_length]; decide)]
theorem reads_lim {S b : List Nat} (h : Reads S b) (X : List Nat) (lim : Nat) (hl : b.length ≤ lim) : ∃ K, infl (S ++ X) lim = .ok b K ∧ upN K / 8 = S.length := by
  obtain ⟨K, h1, h2⟩ := h X
  exact ⟨K, (infl_lim h1).2.1 lim hl, h2⟩
theorem reads_less {S b : List Nat} (h : Reads S b) (X : List Nat) (lim : Nat) (hl : lim < b.length) : infl (S ++ X) lim = .no 64 := by
  obtain ⟨K, h1, h2⟩ := h X
  exact (infl_lim h1).2.2 lim hl
theorem drop_len (S X : List Nat) : (S ++ X).drop S.length = X := by simp
/-- behind a right head -/
theorem zopen_yes {S b : List Nat} (h : Reads S b) (x y lim : Nat) (hh : headB x y = true) (hl : b.length ≤ lim) : zopen (x :: y :: (S ++ sum4 b)) lim = .ok b 0 := by
  obtain ⟨K, h1, h2⟩ := reads_lim h (sum4 b) lim hl
  rw [zopen_head, hh, if_neg (by decide), h1, Res.then_ok, h2, drop_len, rest9_ok]
theorem zopen_less {S b : List Nat} (h : Reads S b) (x y lim : Nat) (hh : headB x y = true) (hl : lim < b.length) : zopen (x :: y :: (S ++ sum4 b)) lim = .no 64 := by
  rw [zopen_head, hh, if_neg (by decide), reads_less h _ lim hl, Res.then_no]
theorem zopen_no (x y lim : Nat) (R : List Nat) (hh : headB x y = false) : zopen (x :: y :: R) lim = .no 90 := by
  rw [zopen_head, hh, if_pos rfl]
theorem zopen_more {S b : List Nat} (h : Reads S b) (x y lim z : Nat) (hh : headB x y = true) (hl : b.length ≤ lim) : zopen (x :: y :: (S ++ (sum4 b ++ [z]))) lim = .no 92 := by
  obtain ⟨K, h1, h2⟩ := reads_lim h (sum4 b ++ [z]) lim hl
  rw [zopen_head, hh, if_neg (by decide), h1, Res.then_ok, h2, drop_len]
  unfold rest9
  have hs : (sum4 b ++ [z]).length = 5 := rfl
  have ht : (sum4 b ++ [z]).take 4 = sum4 b := rfl
  rw [hs, ht, if_neg (by decide), if_neg (fun h => h rfl), if_pos (by decide)]
theorem zopen_sum {S b : List Nat} (h : Reads S b) (x y lim : Nat) (X : List Nat) (hX : X.length = 4) (hne : X ≠ sum4 b) (hh : headB x y = true) (hl : b.length ≤ lim) : zopen (x :: y :: (S ++ X)) lim = .no 91 := by
  obtain ⟨K, h1, h2⟩ := reads_lim h X lim hl
  rw [zopen_head, hh, if_neg (by decide), h1, Res.then_ok, h2, drop_len]
  unfold rest9
  rw [if_neg (by omega), List.take_of_length_le (by omega), if_pos hne]
theorem zopen_cut {S b : List Nat} (h : Reads S b) (lim n : Nat) (hl : b.length ≤ lim) (hn : n < S.length + 6) : zopen ((wrap9 S b).take n) lim = .no 20 := by
  match n, hn with
  | 0, _ => rfl
  | 1, _ => rfl
  | n + 2, hn =>
    obtain ⟨K, h1, h2⟩ := reads_lim h (sum4 b) lim hl
    have hb := infl_behind h1
    show zopen (120 :: 1 :: (S ++ sum4 b).take n) lim = _
    rw [zopen_head, show headB 120 1 = true by decide, if_neg (by decide)]
    by_cases q : n < S.length
    · rw [hb.2.2 n (by omega), Res.then_no]
    · have e : (S ++ sum4 b).take n = (S ++ sum4 b).take (upN K / 8) ++ (sum4 b).take (n - S.length) := by
        rw [h2, List.take_append_of_le_length (Nat.le_refl _), List.take_length, List.take_append, List.take_of_length_le (by omega)]
      rw [e, hb.2.1, Res.then_ok, ← e, h2]
      unfold rest9
      rw [if_pos]
      rw [List.length_drop, List.length_take, List.length_append, sum4_length]
      omega
theorem wrap9_cons (S b : List Nat) : wrap9 S b = 120 :: 1 :: (S ++ sum4 b) := rfl
theorem wrap9_256 {S b : List Nat} (h : ∀ x ∈ S, x < 256) : ∀ x ∈ wrap9 S b, x < 256 := by
  intro x hx
  rw [wrap9_cons] at hx
  simp only [List.mem_cons, List.mem_append] at hx
  rcases hx with hx | hx | hx | hx
  · omega
  · omega
  · exact h x hx
  · exact sum4_256 b x hx
end Go.Proofs.YtnckoghgplnhfaaGreat
