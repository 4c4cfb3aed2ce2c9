/- ZlModel -/
import Derived.Test.YtnndgpggjlhhpaaGreatPr1
import Derived.Test.YtnndgpggjlhhpaaGreatPr2
import Derived.Test.YtnndgpggjlhhpaaGreatPr15
import Derived.Test.YtnndgpggjlhhpaaGreatPr19
import Derived.Test.YtnndgpggjlhhpaaGreatPr20
import Derived.WalkKit
import Derived.StillTailTactics
import Derived.WalkSpells
import Derived.WalkLawsBesides
import Derived.Deep.QuietTactic
import Derived.BigQuiet
import Derived.RegionTactic
import Derived.Deep.AppendLies
import Derived.Deep.RegionLaw
import Derived.Laws.ResultCell
import Derived.Laws.EntriesVeiled
import Derived.Lib.Hide
import Derived.Test.YtnndgpggjlhhpaaGreatRows
import Derived.Laws.BytesArg
import Derived.Lib.SlBytesConst
import Derived.Maps.AppendAt
import Derived.Laws.AppendOwnNone
import Derived.Laws.MakeOwn
import Derived.BigRegion
import Derived.Laws.OwnMore
import Derived.IntWalk
import Derived.Lib.MakeNoZero
import Derived.Laws.CopyOwn
set_option maxRecDepth 100000
set_option maxHeartbeats 8000000
namespace Go.Proofs.YtnndgpggjlhhpaaGreat
open Go.RowKit
def sum4 (l : List Nat) : List Nat := [adSum l / 16777216, adSum l / 65536 % 256, adSum l / 256 % 256, adSum l % 256]
theorem sum4_length (l : List Nat) : (sum4 l).length = 4 := rfl
theorem adSum_lt (l : List Nat) : adSum l < 4294967296 := adMore_lt 1 l
theorem sum4_256 (l : List Nat) : ∀ x ∈ sum4 l, x < 256 := by
  have := adSum_lt l
  intro x hx
  simp only [sum4, List.mem_cons, List.not_mem_nil, or_false] at hx
  omega
def zheadB (x y : Nat) : Bool := decide (x % 16 = 8) && (decide (x / 16 ≤ 7) && (decide (y / 32 % 2 = 0) && decide ((256 * x + y) % 31 = 0)))
def hdB (b : List Nat) : Bool := decide (2 ≤ b.length) && zheadB (b.getD 0 0) (b.getD 1 0)
def rest9 (r T : List Nat) : Res (List Nat) :=
  if r.length < 4 then .no 20 else if r.take 4 ≠ sum4 T then .no 91 else if 4 < r.length then .no 92 else .ok T 0
def zopen (b : List Nat) (lim : Nat) : Res (List Nat) :=
  if b.length < 2 then .no 20 else if hdB b = false then .no 90 else
  (infl (b.drop 2) lim).then fun T k => rest9 ((b.drop 2).drop (upN k / 8)) T
def wrap9 (s b : List Nat) : List Nat := [120, 1] ++ (s ++ sum4 b)
theorem bit32 (y : Nat) (h : y < 256) : bits .and .i64 (y : Int) 32 = ((y / 32 % 2 * 32 : Nat) : Int) := by
  have : ∀ y : Fin 256, bits .and .i64 ((y.val : Nat) : Int) 32 = ((y.val / 32 % 2 * 32 : Nat) : Int) := by decide +kernel
  exact this ⟨y, h⟩
theorem bit15 (y : Nat) (h : y < 256) : bits .and .i64 (y : Int) 15 = ((y % 16 : Nat) : Int) := by
  have : ∀ y : Fin 256, bits .and .i64 ((y.val : Nat) : Int) 15 = ((y.val % 16 : Nat) : Int) := by decide +kernel
  exact this ⟨y, h⟩
theorem zhead_any (p : Option Addr) (n d : Nat) (b : List Nat) (w : World) (hn : b.length = n) (hb : SlI w .u8 p b) (h8 : ∀ x ∈ b, x < 256) :
    Calls Tryz.prog 144 #[.slice p n d] w fun e w' => e = .returned (.bool (hdB b)) ∧ Fr S0 w w' := by
  subst hn
  by_cases h2 : (b.length : Int) < 2
  · have e : hdB b = false := by unfold hdB; rw [decide_eq_false (by omega)]; rfl
    rw [e]
    clear e hb h8
    go_enter Tryz.func144, Tryz.ntmps144
    go_wp2_with fail
    go_ret
    exact ⟨rfl, Fr.refl _ _⟩
  · obtain ⟨B, o, rfl, c0⟩ := hb.at 0 (by omega)
    obtain ⟨B', o', e, c1⟩ := hb.at 1 (by omega)
    simp only [Option.some.injEq, Addr.mk.injEq] at e
    obtain ⟨rfl, rfl, -⟩ := e
    have x8 := h8 _ (List.getElem_mem (show 0 < b.length by omega))
    have y8 := h8 _ (List.getElem_mem (show 1 < b.length by omega))
    have hB : hdB b = zheadB (b[0]'(by omega)) (b[1]'(by omega)) := by
      unfold hdB
      rw [decide_eq_true (by omega), List.getD_eq_getElem?_getD, List.getD_eq_getElem?_getD, List.getElem?_eq_getElem (by omega), List.getElem?_eq_getElem (by omega)]
      rfl
    rw [hB]
    obtain ⟨x, hx⟩ : ∃ x, b[0]'(by omega) = x := ⟨_, rfl⟩
    obtain ⟨y, hy⟩ : ∃ y, b[1]'(by omega) = y := ⟨_, rfl⟩
    rw [hx] at c0 x8
    rw [hy] at c1 y8
    rw [hx, hy]
    obtain ⟨n, hn⟩ : ∃ n, b.length = n := ⟨_, rfl⟩
    rw [hn] at h2 ⊢
    have hn1 : 0 < n := by omega
    have hn2 : 1 < n := by omega
    rw [Nat.add_zero] at c0
    have b32 := bit32 y y8
    have b15 := bit15 x x8
    clear hb h8 hB hx hy hn
    go_enter Tryz.func144, Tryz.ntmps144
    go_wp2_with fail
    go_quiet (fail)
    go_wp2_with fail
    all_goals
      go_ret
      refine ⟨congrArg (fun z => Ending.returned (Value.bool z)) ?_, Fr.drewN _ _ _⟩
      rw [Bool.eq_iff_iff]
      simp only [zheadB, Bool.and_eq_true, decide_eq_true_iff, beq_iff_eq, Bool.false_eq_true, false_iff]
      omega
end Go.Proofs.YtnndgpggjlhhpaaGreat
