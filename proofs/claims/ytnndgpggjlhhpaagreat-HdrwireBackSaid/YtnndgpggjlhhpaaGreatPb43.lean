/- HwLawWrites, HwBack -/
import Derived.Test.YtnndgpggjlhhpaaGreatPb1
import Derived.Test.YtnndgpggjlhhpaaGreatPb2
import Derived.Test.YtnndgpggjlhhpaaGreatPb3
import Derived.Test.YtnndgpggjlhhpaaGreatPb4
import Derived.Test.YtnndgpggjlhhpaaGreatPb5
import Derived.Test.YtnndgpggjlhhpaaGreatPb6
import Derived.Test.YtnndgpggjlhhpaaGreatPb7
import Derived.Test.YtnndgpggjlhhpaaGreatPb8
import Derived.Test.YtnndgpggjlhhpaaGreatPb9
import Derived.Test.YtnndgpggjlhhpaaGreatPb10
import Derived.Test.YtnndgpggjlhhpaaGreatPb11
import Derived.Test.YtnndgpggjlhhpaaGreatPb12
import Derived.Test.YtnndgpggjlhhpaaGreatPb13
import Derived.Test.YtnndgpggjlhhpaaGreatPb14
import Derived.Test.YtnndgpggjlhhpaaGreatPb15
import Derived.Test.YtnndgpggjlhhpaaGreatPb16
import Derived.Test.YtnndgpggjlhhpaaGreatPb17
import Derived.Test.YtnndgpggjlhhpaaGreatPb18
import Derived.Test.YtnndgpggjlhhpaaGreatPb19
import Derived.Test.YtnndgpggjlhhpaaGreatPb20
import Derived.Test.YtnndgpggjlhhpaaGreatPb21
import Derived.Test.YtnndgpggjlhhpaaGreatPb22
import Derived.Test.YtnndgpggjlhhpaaGreatPb23
import Derived.Test.YtnndgpggjlhhpaaGreatPb24
import Derived.Test.YtnndgpggjlhhpaaGreatPb25
import Derived.Test.YtnndgpggjlhhpaaGreatPb26
import Derived.Test.YtnndgpggjlhhpaaGreatPb27
import Derived.Test.YtnndgpggjlhhpaaGreatPb28
import Derived.Test.YtnndgpggjlhhpaaGreatPb29
import Derived.Test.YtnndgpggjlhhpaaGreatPb30
import Derived.Test.YtnndgpggjlhhpaaGreatPb31
import Derived.Test.YtnndgpggjlhhpaaGreatPb32
import Derived.Test.YtnndgpggjlhhpaaGreatPb33
import Derived.Test.YtnndgpggjlhhpaaGreatPb34
import Derived.Test.YtnndgpggjlhhpaaGreatPb35
import Derived.Test.YtnndgpggjlhhpaaGreatPb36
import Derived.Test.YtnndgpggjlhhpaaGreatPb37
import Derived.Test.YtnndgpggjlhhpaaGreatPb38
import Derived.Test.YtnndgpggjlhhpaaGreatPb39
import Derived.Test.YtnndgpggjlhhpaaGreatPb40
import Derived.Test.YtnndgpggjlhhpaaGreatPb42
import Derived.BigRegion
import Derived.RangeFuncNested
import Derived.RangeFuncBound
import Derived.RangeFuncCalls
import Derived.RangeFuncLeaves
import Derived.Shelf.Abstract
import Derived.Shelf.RegionOpen
import Derived.WalkKit
import Derived.OwnWalkIn
import Derived.TacticsInMore
import Derived.LoopNIn
import Derived.LoopIn
import Derived.Sort.BigQuietIn
import Derived.Lib.Repeat
import Derived.StillTailTactics
import Derived.Laws.BitsAllLaws
import Derived.Laws.BytesArg
import Derived.Lib.SlBytesConst
import Derived.Maps.AppendAt
import Derived.Laws.AppendOwnNone
import Derived.WalkSpells
import Derived.WalkLawsBesides
import Derived.Deep.QuietTactic
import Derived.BigQuiet
import Derived.RegionTactic
import Derived.Deep.AppendLies
import Derived.Deep.RegionLaw
import Derived.Laws.ResultCell
import Derived.Laws.EntriesVeiled
import Derived.Lib.Hide
import Derived.Test.YtnndgpggjlhhpaaGreatRows
import Derived.Maps.RangeWalk
import Derived.Deep.RegionHeld3
import Derived.Deep.CutBlock
import Derived.Deep.DeepCutAuto
import Derived.Deep.CutRange
import Derived.Lib.BitFns
import Derived.Shelf.Small.Bits
import Derived.Shelf.Strconv.Itoa0
import Derived.Shelf.Bits.Mul64
import Derived.Laws.Externs
import Derived.Shelf.Spec.BitsCarry
import Derived.Shelf.SlSortCmp.WholeK
import Derived.Shelf.Strings.Repeat
import Derived.Lib.AppendZerosOnto
import Derived.Lib.SliceRun
import Derived.Lib.Walk
import Derived.Laws.MakeOwn
import Derived.Laws.OwnMore
import Derived.IntWalk
import Derived.Lib.MakeNoZero
import Derived.Laws.CopyOwn
import Derived.Laws.Tables
import Derived.Defers
import Derived.Recover
import Derived.DeepKeys4
import Derived.WideKeyPair
import Derived.MapKept
import Derived.ChangeMaps
import Derived.Laws.Cover3
import Derived.Stop.BytesEq
/- The law on what is written. -/
namespace Go.Proofs.YtnndgpggjlhhpaaGreat
open Go.RowKit Go.ChangeMaps

/-- what a recorded histogram is, for a law -/
theorem recs19_is {L H D : Nat} {gr : Bool} (d1 : 1 ≤ D) (d5 : D ≤ 5) (l0 : 0 < L) (lh : 2 * L ≤ H) (hh : H < 9223372036854775808) (hs : unt L + mag D ≤ 62) (vs : List Int) (ns : List Nat) (hv : ∀ v ∈ vs, -9223372036854775808 ≤ v ∧ v ≤ 9223372036854775807) {m : Nat} (hm : vs.length = m) :
    ∃ M : Hm, recs19 (Hm.new L H D gr) vs ns (min m 40) = M ∧ M.Good ∧ Own M L H D gr ∧ M.l.length ≤ 40 := by
  obtain ⟨h1, h2, h3⟩ := recs19_own (gr := gr) d1 d5 l0 lh hh hs vs ns (fun v h => (hv v h).2) (min m 40) (by omega)
  exact ⟨_, rfl, h1, h2, by omega⟩
theorem plain_len40 {M : Hm} (hl : M.l.length ≤ 40) : (plainB M).length ≤ 850 := by
  rw [plainB_len]
  have h1 := encs_le (nums M.l)
  have h2 := (nums_len M.l).2
  omega
/-- a row of bytes that a call left, told as numbers -/
theorem RowNew.sli {w w' : World} {q : Option Addr} {n d : Nat} {l : List Nat} (h : RowNew w w' (.slice q n d) l) (hn : l.length = n) : SlI w' .u8 q l ∧ (q = none → d = 0) ∧ n ≤ d ∧ d ≤ maxLen := by
  obtain ⟨p, c, e, h0, h1, h2⟩ := slForm h.own
  simp only [Value.slice.injEq] at e
  obtain ⟨rfl, -, rfl⟩ := e
  have hs := h.own
  rw [hn] at hs
  exact ⟨SlI.ofOwns hs, h0, by omega, h2⟩
theorem reach_lt {M : Hm} (hg : M.Good) : M.reach < 9223372036854775808 := by
  unfold Hm.reach
  split
  · have := hg.hh; omega
  · exact top_lt _ _ _
/-- the text of a row -/
theorem RowNew.txt {w w' : World} {q : Option Addr} {n d : Nat} {l : List Nat} (h : RowNew w w' (.slice q n d) l) (hn : l.length = n) {W : World} (f : Fr S0 w' W) : (convert 31 9 (.slice q n d)).run Tryz.prog W = .ok (.string (strB l)) W := by
  have := conv_sl ((h.sli hn).1.fr0 f) n d (by omega)
  rwa [List.take_of_length_le (by omega)] at this
section
variable (a d y : Nat) (gr : Bool) (p : Option Addr) (m c : Nat) (vs : List Int) (q : Option Addr) (k c2 : Nat) (ns : List Nat) (w : World)
end
end Go.Proofs.YtnndgpggjlhhpaaGreat

/- What is read back of a histogram: the same one, that doesn't grow. -/
namespace Go.Proofs.YtnndgpggjlhhpaaGreat
open Go.RowKit Go.ChangeMaps

theorem bkt_top19 {u m b : Nat} (hb : 1 ≤ b) (hs : u + m ≤ 62) (h : b ≤ 64 - (u + m)) : bkt (u + m) (top u m b) = b - 1 := by
  have h1 := top_lt u m b
  have p := two_pos (u + m + b - 1)
  have e : top u m b = 2 ^ (u + m + b - 1) - 1 := by
    unfold top
    rw [show min (u + m + b - 1) 63 = u + m + b - 1 by omega]
  refine bkt_is _ _ _ (by omega) ?_ fun h0 => ?_
  · rw [e, show u + m + (b - 1) = u + m + b - 1 by omega]
    omega
  · rw [e]
    have h2 : u + m + b - 1 = u + m + (b - 1 - 1) + 1 := by omega
    rw [h2, Nat.pow_succ]
    have := two_pos (u + m + (b - 1 - 1))
    omega
/-- what stands in the plain form of M -/
def back (M : Hm) : Hm := { M with gr := false, H := M.reach }
theorem back_first {M : Hm} (g : M.Good) : (back M).first = M.b := by
  show 1 + bkt (M.u + M.m) M.reach = M.b
  unfold Hm.reach
  split
  · rename_i h
    exact h.symm
  · have h2 := g.b2
    rw [bkt_top19 h2 g.s g.b1]
    omega
theorem reach_ge {M : Hm} (g : M.Good) : M.H ≤ M.reach := by
  unfold Hm.reach
  split
  · exact Nat.le_refl _
  · have h1 := top_ge M.u M.m M.H g.s g.hh
    have h2 : top M.u M.m (1 + bkt (M.u + M.m) M.H) ≤ top M.u M.m M.b := by
      have h0 := g.b0
      unfold Hm.first at h0
      have h5 : 2 ^ min (M.u + M.m + (1 + bkt (M.u + M.m) M.H) - 1) 63 ≤ 2 ^ min (M.u + M.m + M.b - 1) 63 := Nat.pow_le_pow_right (by decide) (by omega)
      unfold top
      omega
    omega
theorem back_good {M : Hm} (g : M.Good) : (back M).Good where
  d := g.d
  l0 := g.l0
  lh := by have h1 := reach_ge g; have h2 := g.lh; show 2 * M.L ≤ M.reach; omega
  hh := reach_lt g
  eu := g.eu
  em := g.em
  s := g.s
  srt := g.srt
  pos := g.pos
  tot := g.tot
  keys := g.keys
  b0 := by rw [back_first g]; exact Nat.le_refl _
  b1 := g.b1
  fix := fun _ => (back_first g).symm
theorem back_is {M : Hm} (g : M.Good) {L H D : Nat} {gr : Bool} (o : Own M L H D gr) : Is19 (back M) (plainB M) := by
  refine ⟨back_good g, ⟨?_, rfl, rfl, rfl, rfl⟩, ?_⟩
  · show M.b = max (back M).first (kb M.m M.l)
    rw [back_first g]
    have h := o.bq
    unfold Bq at h
    omega
  · have h : (back M).reach = M.reach := by
      show (if M.b = (back M).first then M.reach else top M.u M.m M.b) = M.reach
      rw [if_pos (back_first g).symm]
    unfold plainB
    rw [h]
    rfl
end Go.Proofs.YtnndgpggjlhhpaaGreat
