/- KlRows2 -/
import Derived.Test.YtbpfmjekpjfceaaPm1
import Derived.Test.YtbpfmjekpjfceaaPm2
import Derived.Test.YtbpfmjekpjfceaaPm3
import Derived.Test.YtbpfmjekpjfceaaPm4
import Derived.Test.YtbpfmjekpjfceaaPm16
import Derived.Test.YtbpfmjekpjfceaaPm17
import Derived.Test.YtbpfmjekpjfceaaPm18
import Derived.Test.YtbpfmjekpjfceaaPm19
import Derived.Test.YtbpfmjekpjfceaaPm20
import Derived.Test.YtbpfmjekpjfceaaPm32
import Derived.Test.YtbpfmjekpjfceaaPm33
import Derived.Test.YtbpfmjekpjfceaaPm34
import Derived.Test.YtbpfmjekpjfceaaPm35
import Derived.Laws.Externs
import Derived.Shelf.Spec.BitsCarry
import Derived.Deep.CutBlock
import Derived.Deep.CutRange
import Derived.Deep.DeepCutAuto
import Derived.Lib.BitFns
import Derived.Shelf.Small.Bits
import Derived.Shelf.Strconv.Itoa0
import Derived.Shelf.Bits.Mul64
import Derived.Test.YtbpfmjekpjfceaaRows
import Derived.WalkKit
import Derived.WalkSpells
import Derived.WalkLawsBesides
import Derived.Deep.QuietTactic
import Derived.BigQuiet
import Derived.RegionTactic
import Derived.Deep.AppendLies
import Derived.Deep.RegionLaw
import Derived.Laws.ResultCell
import Derived.Laws.EntriesVeiled
import Derived.Lib.Hide
import Derived.Laws.BytesArg
import Derived.Lib.SlBytesConst
import Derived.Maps.AppendAt
import Derived.Laws.AppendOwnNone
import Derived.StillTailTactics
import Derived.Laws.OwnMore
import Derived.Lib.AppendZerosOnto
import Derived.Lib.SliceRun
import Derived.Lib.Walk
set_option maxRecDepth 100000
set_option maxHeartbeats 8000000
namespace Go.Proofs.Ytbpfmjekpjfceaa
open Go.RowKit
theorem jnfo_i64 : (Try.prog.info? 2).map (fun i => (i.zero, i.size, i.bytes)) = some (some (.int .i64 0), 1, 8) := by kernel_rfl
theorem elj64 : ElemOk Try.prog 53 2 (.int .i64 0) 1 8 := ⟨Try.underlying53, jnfo_i64, rfl, by decide, by decide⟩
def j64s (l : List Int) : List Value := l.map fun x => Value.int .i64 x
theorem ZsI.ofOwns {w : World} {q : Option Addr} {n d : Nat} {l : List Int} (h : w.ownsRow 0 2 1 (.slice q n d) n (j64s l)) (hm : n ≤ maxLen) : ZsI w q l := by
  have hlen : l.length = n := by have h1 := h.1; simpa [j64s] using h1
  refine ⟨by omega, fun hl => ?_⟩
  rcases h.2 with ⟨hv, hn⟩ | ⟨g, cap, cur, hv, _⟩
  · exact absurd (List.eq_nil_of_length_eq_zero (by omega)) hl
  · simp only [Value.slice.injEq] at hv
    obtain ⟨rfl, -, rfl⟩ := hv
    refine ⟨g, 0, rfl, fun i hi => ?_⟩
    rw [Nat.zero_add, h.cellAt _ (by omega)]
    simp [j64s, hi]
theorem keep_row2 {w w1 : World} {o : Obj} {e e' : TypeId} {s s' n n' : Nat} {v v' : Value} {xs xs' : List Value} (h : w.ownsRow 0 e s v n xs) (h' : w.ownsRow 0 e' s' v' n' xs') (hne : e ≠ e') (g : (w.alloc o).grownBy w1 v.ownBlock) :
    w1.ownsRow 0 e' s' v' n' xs' := by
  refine (h'.alloc o).kept g ?_
  rcases h'.2 with ⟨rfl, -⟩ | ⟨b', cap', cur', rfl, -, hb', -⟩
  · exact .inl rfl
  · refine .inr fun hv => ?_
    rcases h.2 with ⟨rfl, -⟩ | ⟨b, cap, cur, rfl, -, hb, -⟩
    · simp [Value.ownBlock] at hv
    · simp only [Value.ownBlock, Option.some.injEq] at hv
      subst hv
      rw [hb'] at hb
      simp only [Option.some.injEq, Obj.cells.injEq] at hb
      exact hne hb.2.1.symm
structure Acc2 (w W : World) (v u : Value) (k : Nat) (l : List Tm) : Prop where
  ov : W.ownsRow 0 2 1 v k (j64s (l.map fun t => t.1))
  ou : W.ownsRow 0 34 1 u k (u64s (l.map fun t => t.2))
  fv : Fresh w v
  fu : Fresh w u
  fr : Fr S0 w W
theorem one_j (x : Int) : ∀ u ∈ (#[Value.int .i64 x]).toList, u.oneCell' = true := by
  intro u hu
  simp only [List.mem_cons, List.not_mem_nil, or_false] at hu
  rw [hu]
  rfl
theorem one_v (x : Nat) : ∀ u ∈ (#[Value.int .u64 (x : Int)]).toList, u.oneCell' = true := by
  intro u hu
  simp only [List.mem_cons, List.not_mem_nil, or_false] at hu
  rw [hu]
  rfl
theorem Acc2.nil (w : World) : Acc2 w w (.slice none 0 0) (.slice none 0 0) 0 [] := ⟨World.ownsRow_nil _ _ _ _, World.ownsRow_nil _ _ _ _, fresh_nil _ _, fresh_nil _ _, Fr.refl _ _⟩
theorem Acc2.fr0 {w W W2 : World} {v u : Value} {k : Nat} {l : List Tm} (a : Acc2 w W v u k l) (f : Fr S0 W W2) : Acc2 w W2 v u k l := ⟨f.owns a.ov fun _ _ h => h, f.owns a.ou fun _ _ h => h, a.fv, a.fu, a.fr.trans0 f⟩
theorem Acc2.mean {w W : World} {v u : Value} {k : Nat} {l : List Tm} (a : Acc2 w W v u k l) (hl : l.length = k) (hk : k ≤ 1000000) (hok : ∀ t ∈ l, TmOk t) (hno : ¬ MeanNo l) :
    Calls Try.prog 41 #[v, u] W fun e w' => e = .returned (.tuple #[.int .i64 (((lsm l / wts l : Nat) : Int) - 9223372036854775808), .bool true]) ∧ Fr S0 W w' := by
  obtain ⟨p1, c1, rfl⟩ := slFormN a.ov
  obtain ⟨p2, c2, rfl⟩ := slFormN a.ou
  have h1 := rmean_any p1 p2 c1 c2 k l W hl (ZsI.ofOwns a.ov (by unfold maxLen; omega)) (SlI.ofOwns a.ou) hok
  refine h1.mono fun e w' he => ?_
  unfold RMeanEnds at he
  rw [if_neg hno] at he
  exact he
end Go.Proofs.Ytbpfmjekpjfceaa
