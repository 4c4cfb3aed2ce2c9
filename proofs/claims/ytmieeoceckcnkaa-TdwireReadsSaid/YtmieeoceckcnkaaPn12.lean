/- DgShort -/
import Derived.Test.YtmieeoceckcnkaaPn1
import Derived.Test.YtmieeoceckcnkaaPn2
import Derived.Test.YtmieeoceckcnkaaPn4
import Derived.Test.YtmieeoceckcnkaaPn5
import Derived.Test.YtmieeoceckcnkaaPn6
import Derived.Test.YtmieeoceckcnkaaPn7
import Derived.Laws.Externs
import Derived.Shelf.Spec.BitsCarry
import Derived.Deep.CutBlock
import Derived.Deep.CutRange
import Derived.Deep.DeepCutAuto
import Derived.Lib.BitFns
import Derived.Shelf.Small.Bits
import Derived.Shelf.Strconv.Itoa0
import Derived.Shelf.Bits.Mul64
import Derived.Test.YtmieeoceckcnkaaRows
import Derived.WalkKit
import Derived.WalkSpells
import Derived.WalkLawsBesides
import Derived.Deep.QuietTactic
import Derived.BigQuiet
import Derived.RegionTactic
import Derived.Deep.AppendLies
import Derived.Deep.RegionLaw
import Derived.Laws.ResultCell
import Derived.Laws.EntriesVeiled
import Derived.Lib.Hide
import Derived.Laws.BytesArg
import Derived.Lib.SlBytesConst
import Derived.Maps.AppendAt
import Derived.Laws.AppendOwnNone
set_option maxRecDepth 100000
set_option maxHeartbeats 8000000
namespace Go.Proofs.Ytmieeoceckcnkaa
open Go.RowKit
def Gap (d n : Nat) : Nat → List Tm → Prop
  | _, [] => True
  | _, [_] => True
  | L, a :: b :: r => (∃ f, f ≤ b.2 ∧ may d n L (a.2 + f) = false) ∧ Gap d n (L + a.2) (b :: r)
theorem Gap.tail {d n L : Nat} {a : Tm} {r : List Tm} (h : Gap d n L (a :: r)) : Gap d n (L + a.2) r := by
  cases r with
  | nil => trivial
  | cons b r => exact h.2
theorem Gap.more {d n : Nat} {q q' : Tm} (hq : q.2 ≤ q'.2) : ∀ (o : List Tm) (L : Nat), Gap d n L (o ++ [q]) → Gap d n L (o ++ [q'])
  | [], _, _ => trivial
  | [_], _, h => ⟨let ⟨f, h1, h2⟩ := h.1; ⟨f, Nat.le_trans h1 hq, h2⟩, trivial⟩
  | _ :: b :: r, _, h => ⟨h.1, Gap.more hq (b :: r) _ h.2⟩
theorem Gap.next {d n : Nat} {q m : Tm} : ∀ (o : List Tm) (L : Nat), Gap d n L (o ++ [q]) → may d n (L + wts o) (q.2 + m.2) = false → Gap d n L (o ++ [q] ++ [m])
  | [], L, _, hm => ⟨⟨m.2, Nat.le_refl _, by rw [wts_nil, Nat.add_zero] at hm; exact hm⟩, trivial⟩
  | [a], L, h, hm => ⟨h.1, Gap.next [] _ h.2 (by rw [wts_cons, ← Nat.add_assoc] at hm; exact hm)⟩
  | a :: b :: r, L, h, hm => ⟨h.1, Gap.next (b :: r) _ h.2 (by rw [wts_cons, ← Nat.add_assoc] at hm; exact hm)⟩
theorem stp_gap {d n : Nat} {s : List Tm × Nat} {m : Tm} (h : s.2 = wts s.1.dropLast ∧ Gap d n 0 s.1) : (stp d n s m).2 = wts (stp d n s m).1.dropLast ∧ Gap d n 0 (stp d n s m).1 := by
  obtain ⟨o, L⟩ := s
  obtain ⟨h1, h2⟩ := h
  rcases last_or o with rfl | ⟨i, q, rfl⟩
  · rw [stp_nil]
    exact ⟨h1, trivial⟩
  · simp only [List.dropLast_concat] at h1
    rw [stp_snoc]
    split
    · exact ⟨by simpa using h1, h2.more (by simp only [join]; omega) i 0⟩
    · rename_i hm
      simp only [Bool.not_eq_true] at hm
      refine ⟨?_, h2.next i 0 (by rw [Nat.zero_add, ← h1]; exact hm)⟩
      simp only [List.dropLast_concat]
      rw [wts_app, h1]
      simp [wts]
theorem run_gap (d n : Nat) (l : List Tm) : (run d n l).2 = wts (run d n l).1.dropLast ∧ Gap d n 0 (run d n l).1 := by
  induction l using list_rev with
  | h0 => exact ⟨rfl, trivial⟩
  | h1 l m ih =>
    rw [run_snoc]
    exact stp_gap ih
theorem gap_heavy {d n L W : Nat} (hd : d ≤ 70) (h : may d n L W = false) (h1 : 134217728 ≤ L) (h2 : L + W + 134217728 ≤ n) : 3834792 ≤ W := by
  unfold may at h
  have h3 := of_decide_eq_false h
  obtain ⟨X, eX⟩ : ∃ X, 2 * L + W = X := ⟨_, rfl⟩
  obtain ⟨Y, eY⟩ : ∃ Y, 2 * n - X = Y := ⟨_, rfl⟩
  rw [eX, eY] at h3
  have hn : 0 < n := by omega
  have hxy : 268435456 * n ≤ X * Y := by
    rcases Nat.le_total n X with h | h
    · calc 268435456 * n ≤ Y * n := Nat.mul_le_mul_right n (by omega)
        _ ≤ Y * X := Nat.mul_le_mul_left Y h
        _ = X * Y := Nat.mul_comm _ _
    · have hy : n ≤ Y := by omega
      calc 268435456 * n ≤ X * n := Nat.mul_le_mul_right n (by omega)
        _ ≤ X * Y := Nat.mul_le_mul_left X hy
  have h4 : 268435456 * n < W * d * n := by omega
  have h5 : 268435456 < W * d := Nat.lt_of_mul_lt_mul_right h4
  have h6 : W * d ≤ W * 70 := Nat.mul_le_mul_left W hd
  omega
theorem wts_ge {l : List Tm} (h : ∀ t ∈ l, 0 < t.2) : l.length ≤ wts l := by
  induction l with
  | nil => exact Nat.le_refl _
  | cons t r ih =>
    rw [wts_cons, List.length_cons]
    have := ih fun t ht => h t (List.mem_cons_of_mem _ ht)
    have := h t List.mem_cons_self
    omega
theorem gap_len {d n : Nat} (hd : d ≤ 70) : ∀ (k : Nat) (l : List Tm) (L : Nat), l.length ≤ k → Gap d n L l → (∀ t ∈ l, 0 < t.2) → L + wts l = n → 3834792 * l.length ≤ 3834792 * (134217728 - L) + 2 * wts l + 3834792 * 134217730
  | 0, l, L, hk, _, _, _ => by omega
  | k + 1, [], L, _, _, _, _ => by simp
  | k + 1, [a], L, _, _, _, _ => by simp only [List.length_cons, List.length_nil]; omega
  | k + 1, a :: b :: r, L, hk, hg, hp, hn => by
    have ha := hp a List.mem_cons_self
    have hb := hp b (by simp)
    have hpr : ∀ t ∈ r, 0 < t.2 := fun t ht => hp t (by simp [ht])
    rw [wts_cons, wts_cons] at hn ⊢
    simp only [List.length_cons] at hk ⊢
    rcases Nat.lt_or_ge L 134217728 with h1 | h1
    · have ih := gap_len hd k (b :: r) (L + a.2) (by simp only [List.length_cons]; omega) hg.tail (fun t ht => hp t (List.mem_cons_of_mem _ ht)) (by rw [wts_cons]; omega)
      rw [wts_cons] at ih
      simp only [List.length_cons] at ih
      omega
    · rcases Nat.lt_or_ge (wts r) 134217728 with h2 | h2
      · have := wts_ge hpr
        omega
      · obtain ⟨f, hf, hm⟩ := hg.1
        have hw := gap_heavy hd hm h1 (by omega)
        have ih := gap_len hd k r (L + a.2 + b.2) (by omega) hg.tail.tail hpr (by omega)
        omega
theorem press_short {lo hi : Int} (d : Nat) (h1 : -9223372036854775808 ≤ lo) (l : List Tm) (hf : ∀ x ∈ l, Fit lo hi x) (hd : d ≤ 70) (hn : wts l ≤ 281474976710656) : (press d l).length ≤ 500000000 := by
  have hg := (run_gap d (wts l) (srt l)).2
  have hw := press_wts d h1 l hf
  have hl := gap_len hd _ _ 0 (Nat.le_refl _) hg (fun t ht => (press_fit d h1 l hf t ht).n) (by rw [Nat.zero_add]; exact hw)
  have e : wts (run d (wts l) (srt l)).1 = wts l := hw
  rw [e] at hl
  show (run d (wts l) (srt l)).1.length ≤ 500000000
  omega
end Go.Proofs.Ytmieeoceckcnkaa
