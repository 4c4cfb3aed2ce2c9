/- ZlPure -/
import Derived.Test.YtnndgpggjlhhpaaGreatPt1
import Derived.Test.YtnndgpggjlhhpaaGreatPt2
import Derived.Test.YtnndgpggjlhhpaaGreatPt15
import Derived.Test.YtnndgpggjlhhpaaGreatPt19
import Derived.Test.YtnndgpggjlhhpaaGreatPt20
import Derived.Test.YtnndgpggjlhhpaaGreatPt21
import Derived.Test.YtnndgpggjlhhpaaGreatPt22
import Derived.Test.YtnndgpggjlhhpaaGreatPt23
import Derived.Test.YtnndgpggjlhhpaaGreatPt24
import Derived.Test.YtnndgpggjlhhpaaGreatPt25
import Derived.Test.YtnndgpggjlhhpaaGreatPt26
import Derived.Test.YtnndgpggjlhhpaaGreatPt27
import Derived.Test.YtnndgpggjlhhpaaGreatPt28
import Derived.Test.YtnndgpggjlhhpaaGreatPt34
import Derived.Test.YtnndgpggjlhhpaaGreatPt37
import Derived.WalkKit
import Derived.StillTailTactics
import Derived.WalkSpells
import Derived.WalkLawsBesides
import Derived.Deep.QuietTactic
import Derived.BigQuiet
import Derived.RegionTactic
import Derived.Deep.AppendLies
import Derived.Deep.RegionLaw
import Derived.Laws.ResultCell
import Derived.Laws.EntriesVeiled
import Derived.Lib.Hide
import Derived.Test.YtnndgpggjlhhpaaGreatRows
import Derived.Laws.BytesArg
import Derived.Lib.SlBytesConst
import Derived.Maps.AppendAt
import Derived.Laws.AppendOwnNone
import Derived.Laws.MakeOwn
import Derived.BigRegion
import Derived.Laws.OwnMore
import Derived.IntWalk
import Derived.Lib.MakeNoZero
import Derived.Laws.CopyOwn
import Derived.Laws.Tables
import Derived.Defers
import Derived.Recover
import Derived.Deep.RegionHeld3
import Derived.DeepKeys4
import Derived.WideKeyPair
import Derived.MapKept
import Derived.ChangeMaps
import Derived.Laws.Cover3
set_option maxRecDepth 100000
set_option maxHeartbeats 8000000
namespace Go.Proofs.YtnndgpggjlhhpaaGreat
open Go.RowKit
theorem zopen_head (x y : Nat) (R : List Nat) (lim : Nat) : zopen (x :: y :: R) lim = if zheadB x y = false then .no 90 else (infl R lim).then fun T k => rest9 (R.drop (upN k / 8)) T := by
  have e : hdB (x :: y :: R) = zheadB x y := by simp [hdB]
  unfold zopen
  rw [e, if_neg (by simp)]
  rfl
theorem rest9_ok (b : List Nat) : rest9 (sum4 b) b = .ok b 0 := by
  unfold rest9
  rw [if_neg (by rw [sum4_length]; decide), if_neg (fun h => h rfl), if_neg (by rw [sum4_length]; decide)]
theorem reads_lim {S b : List Nat} (h : Reads S b) (X : List Nat) (lim : Nat) (hl : b.length ≤ lim) : ∃ K, infl (S ++ X) lim = .ok b K ∧ upN K / 8 = S.length := by
  obtain ⟨K, h1, h2⟩ := h X
  exact ⟨K, (infl_lim h1).2.1 lim hl, h2⟩
theorem drop_len (S X : List Nat) : (S ++ X).drop S.length = X := by simp
theorem zopen_yes {S b : List Nat} (h : Reads S b) (x y lim : Nat) (hh : zheadB x y = true) (hl : b.length ≤ lim) : zopen (x :: y :: (S ++ sum4 b)) lim = .ok b 0 := by
  obtain ⟨K, h1, h2⟩ := reads_lim h (sum4 b) lim hl
  rw [zopen_head, hh, if_neg (by decide), h1, Res.then_ok, h2, drop_len, rest9_ok]
theorem zopen_more {S b : List Nat} (h : Reads S b) (x y lim z : Nat) (hh : zheadB x y = true) (hl : b.length ≤ lim) : zopen (x :: y :: (S ++ (sum4 b ++ [z]))) lim = .no 92 := by
  obtain ⟨K, h1, h2⟩ := reads_lim h (sum4 b ++ [z]) lim hl
  rw [zopen_head, hh, if_neg (by decide), h1, Res.then_ok, h2, drop_len]
  unfold rest9
  have hs : (sum4 b ++ [z]).length = 5 := rfl
  have ht : (sum4 b ++ [z]).take 4 = sum4 b := rfl
  rw [hs, ht, if_neg (by decide), if_neg (fun h => h rfl), if_pos (by decide)]
theorem zopen_sum {S b : List Nat} (h : Reads S b) (x y lim : Nat) (X : List Nat) (hX : X.length = 4) (hne : X ≠ sum4 b) (hh : zheadB x y = true) (hl : b.length ≤ lim) : zopen (x :: y :: (S ++ X)) lim = .no 91 := by
  obtain ⟨K, h1, h2⟩ := reads_lim h X lim hl
  rw [zopen_head, hh, if_neg (by decide), h1, Res.then_ok, h2, drop_len]
  unfold rest9
  rw [if_neg (by omega), List.take_of_length_le (by omega), if_pos hne]
theorem zopen_cut {S b : List Nat} (h : Reads S b) (lim n : Nat) (hl : b.length ≤ lim) (hn : n < S.length + 6) : zopen ((wrap9 S b).take n) lim = .no 20 := by
  match n, hn with
  | 0, _ => rfl
  | 1, _ => rfl
  | n + 2, hn =>
    obtain ⟨K, h1, h2⟩ := reads_lim h (sum4 b) lim hl
    have hb := infl_behind h1
    show zopen (120 :: 1 :: (S ++ sum4 b).take n) lim = _
    rw [zopen_head, show zheadB 120 1 = true by decide, if_neg (by decide)]
    by_cases q : n < S.length
    · rw [hb.2.2 n (by omega), Res.then_no]
    · have e : (S ++ sum4 b).take n = (S ++ sum4 b).take (upN K / 8) ++ (sum4 b).take (n - S.length) := by
        rw [h2, List.take_append_of_le_length (Nat.le_refl _), List.take_length, List.take_append, List.take_of_length_le (by omega)]
      rw [e, hb.2.1, Res.then_ok, ← e, h2]
      unfold rest9
      rw [if_pos]
      rw [List.length_drop, List.length_take, List.length_append, sum4_length]
      omega
theorem wrap9_cons (S b : List Nat) : wrap9 S b = 120 :: 1 :: (S ++ sum4 b) := rfl
theorem wrap9_256 {S b : List Nat} (h : ∀ x ∈ S, x < 256) : ∀ x ∈ wrap9 S b, x < 256 := by
  intro x hx
  rw [wrap9_cons] at hx
  simp only [List.mem_cons, List.mem_append] at hx
  rcases hx with hx | hx | hx | hx
  · omega
  · omega
  · exact h x hx
  · exact sum4_256 b x hx
end Go.Proofs.YtnndgpggjlhhpaaGreat
