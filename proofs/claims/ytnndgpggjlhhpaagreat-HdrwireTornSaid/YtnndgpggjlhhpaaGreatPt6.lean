/- HrMath -/
import Derived.Test.YtnndgpggjlhhpaaGreatPt1
import Derived.Test.YtnndgpggjlhhpaaGreatPt2
import Derived.Test.YtnndgpggjlhhpaaGreatPt4
import Derived.Test.YtnndgpggjlhhpaaGreatPt5
import Derived.BigRegion
import Derived.BigQuiet
import Derived.StillTailTactics
import Derived.Deep.CutBlock
import Derived.Deep.CutRange
import Derived.Deep.DeepCutAuto
import Derived.Deep.RegionHeld3
import Derived.Deep.RegionLaw
import Derived.Lib.BitFns
import Derived.Shelf.Small.Bits
import Derived.Shelf.Strconv.Itoa0
import Derived.Shelf.Bits.Mul64
import Derived.Laws.Externs
import Derived.Shelf.Spec.BitsCarry
import Derived.Test.YtnndgpggjlhhpaaGreatRows
import Derived.WalkKit
import Derived.WalkSpells
import Derived.WalkLawsBesides
import Derived.Deep.QuietTactic
import Derived.RegionTactic
import Derived.Deep.AppendLies
import Derived.Laws.ResultCell
import Derived.Laws.EntriesVeiled
import Derived.Lib.Hide
import Derived.Laws.BytesArg
import Derived.Lib.SlBytesConst
import Derived.Maps.AppendAt
import Derived.Laws.AppendOwnNone
set_option maxRecDepth 100000
set_option maxHeartbeats 8000000
namespace Go.Proofs.YtnndgpggjlhhpaaGreat
structure Hm where
  L : Nat
  H : Nat
  D : Nat
  gr : Bool
  u : Nat
  m : Nat
  b : Nat
  l : List Pr
namespace Hm
def first (M : Hm) : Nat := 1 + bkt (M.u + M.m) M.H
def reach (M : Hm) : Nat := if M.b = M.first then M.H else top M.u M.m M.b
def check (M : Hm) (v : Int) (n : Nat) : Nat :=
  if n = 0 then 4 else if v < 0 ∨ (M.gr = false ∧ (top M.u M.m M.b : Int) < v) then 5 else if 4611686018427387904 - ltot M.l < n then 6 else 0
def count (M : Hm) (v n : Nat) : Hm := { M with b := max M.b (1 + bkt (M.u + M.m) v), l := lput M.l (idx M.u M.m v : Nat) n }
def record (M : Hm) (v : Int) (n : Nat) : Hm := if M.check v n = 0 then M.count v.toNat n else M
def more (v e : Int) : Nat := if e < 1 ∨ v ≤ 0 then 0 else (v / e - 1).toNat
def counts (M : Hm) (v e n : Nat) : Nat → Hm
  | 0 => M.count v n
  | j + 1 => (M.counts v e n j).count (v - (j + 1) * e) n
def like (M G : Hm) : Prop := G.L = M.L ∧ G.H = M.H ∧ G.D = M.D ∧ G.gr = M.gr
instance (M G : Hm) : Decidable (like M G) := inferInstanceAs (Decidable (_ ∧ _))
def takeE (M G : Hm) : Nat := if ¬ M.like G then 3 else if 4611686018427387904 - ltot M.l < ltot G.l then 6 else 0
def taken (M G : Hm) : Hm := { M with b := max M.b G.b, l := lputs M.l G.l }
def take (M G : Hm) : Hm := if M.takeE G = 0 then M.taken G else M
def cell (M : Hm) (v : Int) : Int := (idx M.u M.m v.toNat : Nat)
def least (M : Hm) (i : Int) : Nat := vof M.u M.m i.toNat
def most (M : Hm) (i : Int) : Nat := vof M.u M.m i.toNat + (2 ^ (M.u + ibk M.m i.toNat) - 1)
structure Good (M : Hm) : Prop where
  d : 1 ≤ M.D ∧ M.D ≤ 5
  l0 : 0 < M.L
  lh : 2 * M.L ≤ M.H
  hh : M.H < 9223372036854775808
  eu : M.u = unt M.L
  em : M.m = mag M.D
  s : M.u + M.m ≤ 62
  srt : Srt M.l
  pos : Pos M.l
  tot : ltot M.l ≤ 4611686018427387904
  keys : ∀ t ∈ M.l, 0 ≤ t.1 ∧ ibk M.m t.1.toNat < M.b
  b0 : M.first ≤ M.b
  b1 : M.b ≤ 64 - (M.u + M.m)
  fix : M.gr = false → M.b = M.first
namespace Good
variable {M : Hm}
theorem m5 (g : M.Good) : 5 ≤ M.m ∧ M.m ≤ 18 := by rw [g.em]; exact mag_bd _ g.d.1 g.d.2
theorem m1 (g : M.Good) : 1 ≤ M.m := by have := g.m5; omega
theorem b2 (g : M.Good) : 1 ≤ M.b := by have := g.b0; unfold first at this; omega
theorem of_check (g : M.Good) {v : Int} {n : Nat} (h : M.check v n = 0) : 0 < n ∧ 0 ≤ v ∧ (M.gr = false → v ≤ (top M.u M.m M.b : Nat)) ∧ ltot M.l + n ≤ 4611686018427387904 := by
  have := g.tot
  unfold check at h
  split at h
  · omega
  · split at h
    · omega
    · split at h
      · omega
      · rename_i h1 h2 h3
        refine ⟨by omega, by omega, fun hg => ?_, by omega⟩
        by_cases hc : v ≤ (top M.u M.m M.b : Nat)
        · exact hc
        · exact absurd (Or.inr ⟨hg, by omega⟩) h2
theorem top_bkt (g : M.Good) {v : Nat} (h : v ≤ top M.u M.m M.b) : bkt (M.u + M.m) v < M.b := by
  have h1 := g.b2
  have h2 := g.b1
  have h3 := g.s
  have hv := top_lt M.u M.m M.b
  have : bkt (M.u + M.m) v ≤ M.b - 1 := by
    rw [bkt_iff _ _ _ (by omega)]
    rw [top, show min (M.u + M.m + M.b - 1) 63 = M.u + M.m + (M.b - 1) by omega] at h
    have := two_pos (M.u + M.m + (M.b - 1))
    omega
  omega
theorem count (g : M.Good) {v n : Nat} (hv : v < 9223372036854775808) (hn : 0 < n) (ht : ltot M.l + n ≤ 4611686018427387904) (hg : M.gr = false → v ≤ top M.u M.m M.b) : (M.count v n).Good := by
  have hs := g.s
  have hb := bkt_most (M.u + M.m) v (by omega) hv
  refine ⟨g.d, g.l0, g.lh, g.hh, g.eu, g.em, g.s, put_srt g.srt, put_pos g.pos hn, by simp only [Hm.count]; rw [tot_put]; exact ht, fun t ht => ?_, ?_, ?_, fun hf => ?_⟩
  · simp only [Hm.count] at ht ⊢
    rcases put_mem ht with e | ht
    · rw [e]
      refine ⟨by omega, ?_⟩
      rw [show ((idx M.u M.m v : Nat) : Int).toNat = idx M.u M.m v by omega, ibk_idx _ _ _ g.m1 (by omega)]
      omega
    · have := g.keys t ht
      exact ⟨this.1, by omega⟩
  · have := g.b0
    simp only [Hm.count, first] at this ⊢
    omega
  · have := g.b1
    simp only [Hm.count] at this ⊢
    omega
  · have h1 := g.fix hf
    have h2 := g.top_bkt (hg hf)
    simp only [Hm.count, first] at h1 ⊢
    omega
theorem record (g : M.Good) (v : Int) (n : Nat) (hv : v < 9223372036854775808) : (M.record v n).Good := by
  unfold Hm.record
  split
  · rename_i h
    obtain ⟨h1, h2, h3, h4⟩ := g.of_check h
    exact g.count (by omega) h1 h4 fun hg => by have := h3 hg; omega
  · exact g
end Good
theorem count_tot (M : Hm) (v n : Nat) : ltot (M.count v n).l = ltot M.l + n := by simp only [count]; exact tot_put _ _ _
theorem count_top (M : Hm) (v n : Nat) : M.gr = false → M.Good → v ≤ top M.u M.m M.b → (M.count v n).b = M.b := fun hg g h => by
  have := g.top_bkt h
  simp only [count]; omega
theorem counts_same (M : Hm) (v e n : Nat) : ∀ j, (M.counts v e n j).L = M.L ∧ (M.counts v e n j).H = M.H ∧ (M.counts v e n j).D = M.D ∧ (M.counts v e n j).gr = M.gr ∧ (M.counts v e n j).u = M.u ∧ (M.counts v e n j).m = M.m
  | 0 => ⟨rfl, rfl, rfl, rfl, rfl, rfl⟩
  | j + 1 => by
    have ih := counts_same M v e n j
    simp only [counts, count]
    exact ih
theorem counts_tot (M : Hm) (v e n : Nat) : ∀ j, ltot (M.counts v e n j).l = ltot M.l + n * (j + 1)
  | 0 => by simp only [counts]; rw [count_tot]; omega
  | j + 1 => by simp only [counts]; rw [count_tot, counts_tot M v e n j, Nat.mul_succ n (j + 1)]; omega
theorem Good.counts {M : Hm} (g : M.Good) {v e n : Nat} (hv : v < 9223372036854775808) (hn : 0 < n) (hg : M.gr = false → v ≤ top M.u M.m M.b) :
    ∀ j, ltot M.l + n * (j + 1) ≤ 4611686018427387904 → (M.counts v e n j).Good ∧ (M.gr = false → (M.counts v e n j).b = M.b)
  | 0, ht => by
    refine ⟨g.count hv hn (by omega) hg, fun hf => ?_⟩
    exact count_top M v n hf g (hg hf)
  | j + 1, ht => by
    rw [Nat.mul_succ n (j + 1)] at ht
    obtain ⟨g1, g2⟩ := Good.counts g (e := e) hv hn hg j (by omega)
    obtain ⟨-, -, -, s4, s5, s6⟩ := counts_same M v e n j
    have hle : (M.counts v e n j).gr = false → v - (j + 1) * e ≤ top (M.counts v e n j).u (M.counts v e n j).m (M.counts v e n j).b := fun hf => by
      rw [s5, s6, g2 (by rw [← s4]; exact hf)]
      have := hg (by rw [← s4]; exact hf)
      omega
    refine ⟨?_, fun hf => ?_⟩
    · simp only [Hm.counts]
      exact g1.count (by omega) hn (by rw [counts_tot]; omega) hle
    · simp only [Hm.counts]
      rw [count_top _ _ _ (by rw [s4]; exact hf) g1 (hle (by rw [s4]; exact hf))]
      exact g2 hf
theorem Good.take {M G : Hm} (g : M.Good) (k : G.Good) : (M.take G).Good := by
  unfold Hm.take
  split
  · rename_i h
    unfold takeE at h
    split at h
    · omega
    · split at h
      · omega
      · rename_i h1 h2
        have h1 := Classical.not_not.1 h1
        obtain ⟨e1, e2, e3, e4⟩ := h1
        have hu : G.u = M.u := by rw [k.eu, g.eu, e1]
        have hm : G.m = M.m := by rw [k.em, g.em, e3]
        have hf : G.first = M.first := by unfold first; rw [hu, hm, e2]
        refine ⟨g.d, g.l0, g.lh, g.hh, g.eu, g.em, g.s, putAll_srt g.srt _, putAll_pos g.pos k.pos, ?_, fun t ht => ?_, ?_, ?_, fun hg => ?_⟩
        · simp only [taken]; rw [tot_putAll]; have := g.tot; omega
        · simp only [taken] at ht ⊢
          rcases putAll_mem _ _ _ ht with ⟨y, hy, e⟩ | ht
          · have := k.keys y hy
            rw [← e]
            rw [hm] at this
            exact ⟨this.1, by omega⟩
          · have := g.keys t ht
            exact ⟨this.1, by omega⟩
        · have := g.b0
          simp only [taken, first] at this ⊢; omega
        · have a := g.b1
          have b := k.b1
          rw [hu, hm] at b
          simp only [taken] at a b ⊢; omega
        · have a := g.fix hg
          have b := k.fix (by rw [e4]; exact hg)
          rw [hf] at b
          simp only [taken, first] at a b ⊢; omega
  · exact g
end Hm
end Go.Proofs.YtnndgpggjlhhpaaGreat
