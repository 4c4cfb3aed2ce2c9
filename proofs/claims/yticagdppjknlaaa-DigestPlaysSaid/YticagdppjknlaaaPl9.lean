/- DgPtM -/
import Derived.Test.YticagdppjknlaaaPl1
import Derived.Test.YticagdppjknlaaaPl2
import Derived.Test.YticagdppjknlaaaPl3
import Derived.Test.YticagdppjknlaaaPl4
import Derived.Test.YticagdppjknlaaaPl5
import Derived.Test.YticagdppjknlaaaPl6
import Derived.Test.YticagdppjknlaaaPl7
import Derived.Test.YticagdppjknlaaaPl8
import Derived.BigRegion
import Derived.Deep.RegionLaw
import Derived.Deep.RegionHeld3
import Derived.StillTailTactics
import Derived.Maps.AppendAt
import Derived.Laws.AppendOwnNone
import Derived.Laws.OwnMore
import Derived.Lib.AppendZerosOnto
import Derived.Lib.SliceRun
import Derived.Lib.Walk
import Derived.Laws.Externs
import Derived.Shelf.Spec.BitsCarry
import Derived.Deep.CutBlock
import Derived.Deep.CutRange
import Derived.Deep.DeepCutAuto
import Derived.Lib.BitFns
import Derived.Shelf.Small.Bits
import Derived.Shelf.Strconv.Itoa0
import Derived.Shelf.Bits.Mul64
import Derived.Test.YticagdppjknlaaaRows
import Derived.WalkKit
import Derived.WalkSpells
import Derived.WalkLawsBesides
import Derived.Deep.QuietTactic
import Derived.BigQuiet
import Derived.RegionTactic
import Derived.Deep.AppendLies
import Derived.Laws.ResultCell
import Derived.Laws.EntriesVeiled
import Derived.Lib.Hide
import Derived.Laws.BytesArg
import Derived.Lib.SlBytesConst
set_option maxRecDepth 100000
set_option maxHeartbeats 8000000
namespace Go.Proofs.Yticagdppjknlaaa
open Go.RowKit
def Up2 (a b : Tm) : Prop := a.1 ≤ b.1 ∧ a.2 < b.2
theorem mids_mem {L : Nat} {l : List Tm} (h : ∀ t ∈ l, 0 < t.2) {t : Tm} (ht : t ∈ mids L l) : (∃ u ∈ l, t.1 = u.1) ∧ 2 * L < t.2 ∧ t.2 < 2 * (L + wts l) := by
  induction l generalizing L with
  | nil => cases ht
  | cons y r ih =>
    have hy := h y List.mem_cons_self
    rw [mids] at ht
    rw [wts_cons]
    rcases List.mem_cons.1 ht with rfl | ht
    · exact ⟨⟨y, List.mem_cons_self, rfl⟩, by simp only; omega, by simp only; omega⟩
    · obtain ⟨⟨u, hu, e⟩, h1, h2⟩ := ih (fun t ht => h t (List.mem_cons_of_mem _ ht)) ht
      exact ⟨⟨u, List.mem_cons_of_mem _ hu, e⟩, by omega, by omega⟩
theorem mids_up {L : Nat} {l : List Tm} (h : ∀ t ∈ l, 0 < t.2) (hr : Ris l) : (mids L l).Pairwise Up2 := by
  induction l generalizing L with
  | nil => exact List.Pairwise.nil
  | cons y r ih =>
    obtain ⟨h1, h2⟩ := List.pairwise_cons.1 hr
    rw [mids]
    refine List.pairwise_cons.2 ⟨fun t ht => ?_, ih (fun t ht => h t (List.mem_cons_of_mem _ ht)) h2⟩
    obtain ⟨⟨u, hu, e⟩, h3, -⟩ := mids_mem (fun t ht => h t (List.mem_cons_of_mem _ ht)) ht
    exact ⟨by rw [e]; exact h1 u hu, by simp only; have := h y List.mem_cons_self; omega⟩
theorem Dg.pts_first (x : Dg) : ∃ h : 0 < x.pts.length, x.pts[0] = (x.lo, 0) := ⟨by unfold Dg.pts; simp, rfl⟩
theorem Dg.pts_last (x : Dg) : ∃ h : 0 < x.pts.length, x.pts[x.pts.length - 1]'(by omega) = (x.hi, 2 * x.tot) := by
  refine ⟨by unfold Dg.pts; simp, ?_⟩
  unfold Dg.pts
  simp
section
variable {x : Dg} (h : x.Good) (h0 : 0 < x.tot)
include h h0
theorem Dg.Good.pts_up : x.pts.Pairwise Up2 := by
  have hp := press_inv x.d h.l1 x.all h.fit
  have hw := press_wts x.d h.l1 x.all h.fit
  have hpos : ∀ t ∈ Go.Proofs.Yticagdppjknlaaa.press x.d x.all, 0 < t.2 := fun t ht => (press_fit x.d h.l1 x.all h.fit t ht).n
  have hlo : ∀ t ∈ Go.Proofs.Yticagdppjknlaaa.press x.d x.all, x.lo ≤ t.1 ∧ t.1 ≤ x.hi := fun t ht => ⟨(press_fit x.d h.l1 x.all h.fit t ht).lo, (press_fit x.d h.l1 x.all h.fit t ht).hi⟩
  have hm := mids_up (L := 0) hpos (press_ris x.d h.l1 x.all h.fit)
  have hlh : x.lo ≤ x.hi := by
    cases ha : x.all with
    | nil => have := h.allNil.1 ha; omega
    | cons t r => have := h.fit t (by rw [ha]; simp); exact Int.le_trans this.lo this.hi
  unfold Dg.pts
  refine List.pairwise_cons.2 ⟨fun t ht => ?_, List.pairwise_append.2 ⟨hm, List.pairwise_singleton _ _, fun t ht u hu => ?_⟩⟩
  · rcases List.mem_append.1 ht with ht | ht
    · obtain ⟨⟨u, hu, e⟩, h1, -⟩ := mids_mem hpos ht
      exact ⟨by rw [e]; exact (hlo u hu).1, by simp only; omega⟩
    · rw [List.mem_singleton.1 ht]
      exact ⟨hlh, by simp only; omega⟩
  · rw [List.mem_singleton.1 hu]
    obtain ⟨⟨u, hu, e⟩, -, h1⟩ := mids_mem hpos ht
    refine ⟨by rw [e]; exact (hlo u hu).2, ?_⟩
    rw [hw] at h1
    simp only
    unfold Dg.tot
    omega
theorem Dg.Good.at_mono {s : Nat} (hs : s < 2 * x.tot) : Mono (fun p => decide (s < p.2)) x.pts := by
  have hu := h.pts_up h0
  refine ⟨fun i j hi hj hij h1 => ?_, fun hl => ?_, ?_⟩
  · rcases Nat.lt_or_ge i j with hlt | hge
    · have := (List.pairwise_iff_getElem.1 hu i j hi hj hlt).2
      simp only [decide_eq_true_eq] at h1 ⊢
      omega
    · obtain rfl : i = j := by omega
      exact h1
  · obtain ⟨_, e⟩ := x.pts_first
    rw [e]
    simp
  · obtain ⟨hl, e⟩ := x.pts_last
    exact ⟨hl, by rw [e]; simpa using hs⟩
theorem Dg.Good.upto_mono {v : Int} (h1 : x.lo ≤ v) (h2 : v < x.hi) : Mono (fun p => decide (v < p.1)) x.pts := by
  have hu := h.pts_up h0
  refine ⟨fun i j hi hj hij h1 => ?_, fun hl => ?_, ?_⟩
  · rcases Nat.lt_or_ge i j with hlt | hge
    · have := (List.pairwise_iff_getElem.1 hu i j hi hj hlt).1
      simp only [decide_eq_true_eq] at h1 ⊢
      omega
    · obtain rfl : i = j := by omega
      exact h1
  · obtain ⟨_, e⟩ := x.pts_first
    rw [e]
    simp only [decide_eq_false_iff_not]
    omega
  · obtain ⟨hl, e⟩ := x.pts_last
    exact ⟨hl, by rw [e]; simpa using h2⟩
end
theorem Parts.idx {q : Tm → Bool} {l : List Tm} {i : Nat} (h : Parts q l i) : l.findIdx q = i := (List.findIdx_eq h.lt).2 ⟨h.yes, fun j hj => h.no j (Nat.lt_trans hj h.lt) hj⟩
theorem Mono.parts {q : Tm → Bool} {l : List Tm} (h : Mono q l) : Parts q l (l.findIdx q) := by
  obtain ⟨hl, hlast⟩ := h.last
  have hlt : l.findIdx q < l.length := List.findIdx_lt_length_of_exists ⟨_, List.getElem_mem (by omega), hlast⟩
  refine ⟨?_, hlt, fun j hj hji => ?_, List.findIdx_getElem⟩
  · rcases Nat.eq_zero_or_pos (l.findIdx q) with e | e
    · have h1 := List.findIdx_getElem (p := q) (xs := l) (w := hlt)
      have h2 := h.first hl
      simp only [e] at h1
      rw [h2] at h1
      cases h1
    · exact e
  · have := List.not_of_lt_findIdx hji
    simpa using this
def lerp (a b : Tm) (s : Nat) : Int := a.1 + (((b.1 - a.1).toNat * (s - a.2) / (b.2 - a.2) : Nat) : Int)
def lerpU (a b : Tm) (v : Int) : Nat := (a.2 + (b.2 - a.2) * (v - a.1).toNat / (b.1 - a.1).toNat) / 2
def atL (l : List Tm) (s : Nat) : Int := lerp (l.getD (l.findIdx (fun p => decide (s < p.2)) - 1) (0, 0)) (l.getD (l.findIdx (fun p => decide (s < p.2))) (0, 0)) s
def uptoL (l : List Tm) (v : Int) : Nat := lerpU (l.getD (l.findIdx (fun p => decide (v < p.1)) - 1) (0, 0)) (l.getD (l.findIdx (fun p => decide (v < p.1))) (0, 0)) v
def Dg.at (x : Dg) (s : Nat) : Int := if s = 2 * x.tot then x.hi else atL x.pts s
def Dg.upto (x : Dg) (v : Int) : Nat := if v < x.lo then 0 else if x.hi ≤ v then x.tot else uptoL x.pts v
structure Two (a b : Tm) (x : Dg) : Prop where
  v : a.1 ≤ b.1
  s : a.2 < b.2
  lo : x.lo ≤ a.1
  hi : b.1 ≤ x.hi
  top : b.2 ≤ 2 * x.tot
theorem Dg.Good.two {x : Dg} (h : x.Good) (h0 : 0 < x.tot) {i : Nat} (hi0 : 0 < i) (hi : i < x.pts.length) : Two (x.pts.getD (i - 1) (0, 0)) (x.pts.getD i (0, 0)) x := by
  have hu := List.pairwise_iff_getElem.1 (h.pts_up h0)
  have e1 : x.pts.getD (i - 1) (0, 0) = x.pts[i - 1]'(by omega) := by simp [show i - 1 < x.pts.length by omega]
  have e2 : x.pts.getD i (0, 0) = x.pts[i] := by simp [hi]
  rw [e1, e2]
  have h1 := hu (i - 1) i (by omega) hi (by omega)
  obtain ⟨hl, f⟩ := x.pts_first
  obtain ⟨_, l⟩ := x.pts_last
  refine ⟨h1.1, h1.2, ?_, ?_, ?_⟩
  · rcases Nat.eq_zero_or_pos (i - 1) with e | e
    · simp only [e, f]; exact Int.le_refl _
    · have := (hu 0 (i - 1) hl (by omega) e).1
      rw [f] at this
      exact this
  · rcases Nat.lt_or_ge i (x.pts.length - 1) with e | e
    · have := (hu i (x.pts.length - 1) hi (by omega) e).1
      rw [l] at this
      exact this
    · have e9 : i = x.pts.length - 1 := by omega
      subst e9
      rw [l]
      exact Int.le_refl _
  · rcases Nat.lt_or_ge i (x.pts.length - 1) with e | e
    · have := (hu i (x.pts.length - 1) hi (by omega) e).2
      rw [l] at this
      exact Nat.le_of_lt this
    · have e9 : i = x.pts.length - 1 := by omega
      subst e9
      rw [l]
      exact Nat.le_refl _
end Go.Proofs.Yticagdppjknlaaa
