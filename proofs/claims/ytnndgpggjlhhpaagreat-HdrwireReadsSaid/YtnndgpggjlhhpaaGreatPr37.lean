/- ZlBytes -/
import Derived.Test.YtnndgpggjlhhpaaGreatPr1
import Derived.Test.YtnndgpggjlhhpaaGreatPr2
import Derived.Test.YtnndgpggjlhhpaaGreatPr15
import Derived.Test.YtnndgpggjlhhpaaGreatPr20
import Derived.Test.YtnndgpggjlhhpaaGreatPr22
import Derived.Test.YtnndgpggjlhhpaaGreatPr23
import Derived.Laws.Tables
import Derived.Defers
import Derived.Recover
import Derived.StillTailTactics
import Derived.BigRegion
import Derived.Deep.RegionHeld3
import Derived.Laws.MakeOwn
import Derived.Laws.OwnMore
import Derived.IntWalk
import Derived.Lib.MakeNoZero
import Derived.Laws.CopyOwn
import Derived.WalkKit
import Derived.WalkSpells
import Derived.WalkLawsBesides
import Derived.Deep.QuietTactic
import Derived.BigQuiet
import Derived.RegionTactic
import Derived.Deep.AppendLies
import Derived.Deep.RegionLaw
import Derived.Laws.ResultCell
import Derived.Laws.EntriesVeiled
import Derived.Lib.Hide
import Derived.Test.YtnndgpggjlhhpaaGreatRows
import Derived.Laws.BytesArg
import Derived.Lib.SlBytesConst
import Derived.Maps.AppendAt
import Derived.Laws.AppendOwnNone
set_option maxRecDepth 100000
set_option maxHeartbeats 8000000
namespace Go.Proofs.YtnndgpggjlhhpaaGreat
theorem then_some {α β : Type} {r : Res α} {f : α → Nat → Res β} {a : β} {k : Nat} (h : r.then f = .ok a k) : ∃ a1 k1, r = .ok a1 k1 ∧ f a1 k1 = .ok a k := by
  cases r with
  | ok a1 k1 => exact ⟨a1, k1, rfl, h⟩
  | no e => cases h
theorem rBack_256 {b spn T T1 : List Nat} {lim s k k1 : Nat} (h8 : ∀ x ∈ T, x < 256) (h : rBack b lim spn T s k = .ok T1 k1) : ∀ x ∈ T1, x < 256 := by
  unfold rBack at h
  obtain ⟨_, _, -, h⟩ := then_some h
  obtain ⟨_, _, -, h⟩ := then_some h
  obtain ⟨_, _, -, h⟩ := then_some h
  obtain ⟨_, _, -, h⟩ := then_some h
  obtain ⟨_, _, -, h⟩ := then_some h
  obtain ⟨_, _, -, h⟩ := then_some h
  obtain ⟨_, _, -, h⟩ := then_some h
  simp only [Res.ok.injEq] at h
  rw [← h.1]
  exact again_256 _ _ _ h8
theorem rStep_256 {b lit spn T : List Nat} {lim k k1 : Nat} {x : Bool × List Nat} (h8 : ∀ x ∈ T, x < 256) (h : rStep b lim lit spn T k = .ok x k1) : ∀ y ∈ x.2, y < 256 := by
  unfold rStep at h
  obtain ⟨s, j, -, h⟩ := then_some h
  split at h
  · rename_i hs
    obtain ⟨_, _, -, h⟩ := then_some h
    simp only [Res.ok.injEq] at h
    rw [← h.1]
    intro y hy
    rcases List.mem_append.1 hy with hy | hy
    · exact h8 y hy
    · simp only [List.mem_singleton] at hy
      omega
  · split at h
    · simp only [Res.ok.injEq] at h
      rw [← h.1]
      exact h8
    · obtain ⟨T1, _, h1, h⟩ := then_some h
      simp only [Res.ok.injEq] at h
      rw [← h.1]
      exact rBack_256 h8 h1
theorem rSyms_256 {b lit spn : List Nat} {lim : Nat} : ∀ (d : Nat) (T : List Nat) (k : Nat) (T1 : List Nat) (k1 : Nat), 8 * b.length + 1 - k ≤ d → (∀ x ∈ T, x < 256) → rSyms b lim lit spn T k = .ok T1 k1 → ∀ x ∈ T1, x < 256
  | d, T, k, T1, k1, hd, h8, h => by
    rw [rSyms] at h
    split at h
    · cases h
    · rename_i T2 k2 hs
      simp only [Res.ok.injEq] at h
      rw [← h.1]
      exact rStep_256 h8 hs
    · rename_i T2 k2 hs
      split at h
      · rename_i hk
        match d, hd with
        | 0, hd => omega
        | d + 1, hd => exact rSyms_256 d T2 k2 T1 k1 (by omega) (rStep_256 h8 hs) h
      · cases h
theorem rKind_256 {b T T1 : List Nat} {lim n k k1 : Nat} (hb : ∀ x ∈ b, x < 256) (h8 : ∀ x ∈ T, x < 256) (h : rKind b lim T n k = .ok T1 k1) : ∀ x ∈ T1, x < 256 := by
  unfold rKind at h
  split at h
  · unfold rStored at h
    obtain ⟨_, _, -, h⟩ := then_some h
    obtain ⟨_, _, -, h⟩ := then_some h
    obtain ⟨_, _, -, h⟩ := then_some h
    obtain ⟨_, _, -, h⟩ := then_some h
    obtain ⟨_, _, -, h⟩ := then_some h
    simp only [Res.ok.injEq] at h
    rw [← h.1]
    intro y hy
    rcases List.mem_append.1 hy with hy | hy
    · exact h8 y hy
    · exact hb y (List.mem_of_mem_drop (List.mem_of_mem_take hy))
  · split at h
    · exact rSyms_256 _ T k T1 k1 (Nat.le_refl _) h8 h
    · split at h
      · obtain ⟨c, j, -, h⟩ := then_some h
        exact rSyms_256 _ T j T1 k1 (Nat.le_refl _) h8 h
      · cases h
theorem rBlock_256 {b T : List Nat} {lim k k1 : Nat} {x : Bool × List Nat} (hb : ∀ x ∈ b, x < 256) (h8 : ∀ x ∈ T, x < 256) (h : rBlock b lim T k = .ok x k1) : ∀ y ∈ x.2, y < 256 := by
  unfold rBlock at h
  obtain ⟨_, _, -, h⟩ := then_some h
  obtain ⟨_, _, -, h⟩ := then_some h
  obtain ⟨T1, _, h1, h⟩ := then_some h
  simp only [Res.ok.injEq] at h
  rw [← h.1]
  exact rKind_256 hb h8 h1
theorem rBlocks_256 {b : List Nat} {lim : Nat} (hb : ∀ x ∈ b, x < 256) : ∀ (d : Nat) (T : List Nat) (k : Nat) (T1 : List Nat) (k1 : Nat), 8 * b.length + 1 - k ≤ d → (∀ x ∈ T, x < 256) → rBlocks b lim T k = .ok T1 k1 → ∀ x ∈ T1, x < 256
  | d, T, k, T1, k1, hd, h8, h => by
    rw [rBlocks] at h
    split at h
    · cases h
    · rename_i T2 k2 hs
      simp only [Res.ok.injEq] at h
      rw [← h.1]
      exact rBlock_256 hb h8 hs
    · rename_i T2 k2 hs
      split at h
      · rename_i hk
        match d, hd with
        | 0, hd => omega
        | d + 1, hd => exact rBlocks_256 hb d T2 k2 T1 k1 (by omega) (rBlock_256 hb h8 hs) h
      · cases h
theorem infl_256 {b T : List Nat} {lim k : Nat} (hb : ∀ x ∈ b, x < 256) (h : infl b lim = .ok T k) : ∀ x ∈ T, x < 256 := rBlocks_256 hb _ [] 0 T k (Nat.le_refl _) (by simp) h
end Go.Proofs.YtnndgpggjlhhpaaGreat
