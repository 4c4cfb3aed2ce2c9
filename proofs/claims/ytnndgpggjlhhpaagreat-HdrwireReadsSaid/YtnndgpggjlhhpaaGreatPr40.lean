/- ZlPure -/
import Derived.Test.YtnndgpggjlhhpaaGreatPr1
import Derived.Test.YtnndgpggjlhhpaaGreatPr2
import Derived.Test.YtnndgpggjlhhpaaGreatPr15
import Derived.Test.YtnndgpggjlhhpaaGreatPr19
import Derived.Test.YtnndgpggjlhhpaaGreatPr20
import Derived.Test.YtnndgpggjlhhpaaGreatPr21
import Derived.Test.YtnndgpggjlhhpaaGreatPr22
import Derived.Test.YtnndgpggjlhhpaaGreatPr23
import Derived.Test.YtnndgpggjlhhpaaGreatPr24
import Derived.Test.YtnndgpggjlhhpaaGreatPr25
import Derived.Test.YtnndgpggjlhhpaaGreatPr26
import Derived.Test.YtnndgpggjlhhpaaGreatPr27
import Derived.Test.YtnndgpggjlhhpaaGreatPr28
import Derived.Test.YtnndgpggjlhhpaaGreatPr29
import Derived.Test.YtnndgpggjlhhpaaGreatPr30
import Derived.Test.YtnndgpggjlhhpaaGreatPr31
import Derived.Test.YtnndgpggjlhhpaaGreatPr37
import Derived.WalkKit
import Derived.StillTailTactics
import Derived.WalkSpells
import Derived.WalkLawsBesides
import Derived.Deep.QuietTactic
import Derived.BigQuiet
import Derived.RegionTactic
import Derived.Deep.AppendLies
import Derived.Deep.RegionLaw
import Derived.Laws.ResultCell
import Derived.Laws.EntriesVeiled
import Derived.Lib.Hide
import Derived.Test.YtnndgpggjlhhpaaGreatRows
import Derived.Laws.BytesArg
import Derived.Lib.SlBytesConst
import Derived.Maps.AppendAt
import Derived.Laws.AppendOwnNone
import Derived.Laws.MakeOwn
import Derived.BigRegion
import Derived.Laws.OwnMore
import Derived.IntWalk
import Derived.Lib.MakeNoZero
import Derived.Laws.CopyOwn
import Derived.Laws.Tables
import Derived.Defers
import Derived.Recover
import Derived.Deep.RegionHeld3
import Derived.DeepKeys4
import Derived.WideKeyPair
import Derived.MapKept
import Derived.ChangeMaps
import Derived.Laws.Cover3
set_option maxRecDepth 100000
set_option maxHeartbeats 8000000
namespace Go.Proofs.YtnndgpggjlhhpaaGreat
open Go.RowKit
theorem zopen_head (x y : Nat) (R : List Nat) (lim : Nat) : zopen (x :: y :: R) lim = if zheadB x y = false then .no 90 else (infl R lim).then fun T k => rest9 (R.drop (upN k / 8)) T := by
  have e : hdB (x :: y :: R) = zheadB x y := by simp [hdB]
  unfold zopen
  rw [e, if_neg (by simp)]
  rfl
theorem rest9_ok (b : List Nat) : rest9 (sum4 b) b = .ok b 0 := by
  unfold rest9
  rw [if_neg (by rw [sum4_length]; decide), if_neg (fun h => h rfl), if_neg (by rw [sum4_length]; decide)]
theorem reads_lim {S b : List Nat} (h : Reads S b) (X : List Nat) (lim : Nat) (hl : b.length ≤ lim) : ∃ K, infl (S ++ X) lim = .ok b K ∧ upN K / 8 = S.length := by
  obtain ⟨K, h1, h2⟩ := h X
  exact ⟨K, (infl_lim h1).2.1 lim hl, h2⟩
theorem drop_len (S X : List Nat) : (S ++ X).drop S.length = X := by simp
theorem zopen_yes {S b : List Nat} (h : Reads S b) (x y lim : Nat) (hh : zheadB x y = true) (hl : b.length ≤ lim) : zopen (x :: y :: (S ++ sum4 b)) lim = .ok b 0 := by
  obtain ⟨K, h1, h2⟩ := reads_lim h (sum4 b) lim hl
  rw [zopen_head, hh, if_neg (by decide), h1, Res.then_ok, h2, drop_len, rest9_ok]
theorem wrap9_cons (S b : List Nat) : wrap9 S b = 120 :: 1 :: (S ++ sum4 b) := rfl
theorem wrap9_256 {S b : List Nat} (h : ∀ x ∈ S, x < 256) : ∀ x ∈ wrap9 S b, x < 256 := by
  intro x hx
  rw [wrap9_cons] at hx
  simp only [List.mem_cons, List.mem_append] at hx
  rcases hx with hx | hx | hx | hx
  · omega
  · omega
  · exact h x hx
  · exact sum4_256 b x hx
end Go.Proofs.YtnndgpggjlhhpaaGreat
