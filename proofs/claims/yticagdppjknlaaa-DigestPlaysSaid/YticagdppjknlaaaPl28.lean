/- DgPlays -/
import Derived.Test.YticagdppjknlaaaPl1
import Derived.Test.YticagdppjknlaaaPl2
import Derived.Test.YticagdppjknlaaaPl3
import Derived.Test.YticagdppjknlaaaPl4
import Derived.Test.YticagdppjknlaaaPl5
import Derived.Test.YticagdppjknlaaaPl6
import Derived.Test.YticagdppjknlaaaPl7
import Derived.Test.YticagdppjknlaaaPl8
import Derived.Test.YticagdppjknlaaaPl9
import Derived.Test.YticagdppjknlaaaPl10
import Derived.Test.YticagdppjknlaaaPl11
import Derived.Test.YticagdppjknlaaaPl12
import Derived.Test.YticagdppjknlaaaPl13
import Derived.Test.YticagdppjknlaaaPl14
import Derived.Test.YticagdppjknlaaaPl15
import Derived.Test.YticagdppjknlaaaPl16
import Derived.Test.YticagdppjknlaaaPl17
import Derived.Test.YticagdppjknlaaaPl18
import Derived.Test.YticagdppjknlaaaPl19
import Derived.Test.YticagdppjknlaaaPl20
import Derived.Test.YticagdppjknlaaaPl21
import Derived.Test.YticagdppjknlaaaPl23
import Derived.Test.YticagdppjknlaaaPl24
import Derived.Test.YticagdppjknlaaaPl25
import Derived.Test.YticagdppjknlaaaPl26
import Derived.Test.YticagdppjknlaaaPl27
import Derived.BigQuiet
import Derived.BigRegion
import Derived.Deep.RegionLaw
import Derived.Deep.RegionHeld3
import Derived.StillTailTactics
import Derived.Maps.AppendAt
import Derived.Laws.AppendOwnNone
import Derived.Laws.OwnMore
import Derived.Lib.AppendZerosOnto
import Derived.Lib.SliceRun
import Derived.Lib.Walk
import Derived.Laws.Externs
import Derived.Shelf.Spec.BitsCarry
import Derived.Deep.CutBlock
import Derived.Deep.CutRange
import Derived.Deep.DeepCutAuto
import Derived.Lib.BitFns
import Derived.Shelf.Small.Bits
import Derived.Shelf.Strconv.Itoa0
import Derived.Shelf.Bits.Mul64
import Derived.Test.YticagdppjknlaaaRows
import Derived.WalkKit
import Derived.WalkSpells
import Derived.WalkLawsBesides
import Derived.Deep.QuietTactic
import Derived.RegionTactic
import Derived.Deep.AppendLies
import Derived.Laws.ResultCell
import Derived.Laws.EntriesVeiled
import Derived.Lib.Hide
import Derived.Laws.BytesArg
import Derived.Lib.SlBytesConst
set_option maxRecDepth 100000
set_option maxHeartbeats 8000000
namespace Go.Proofs.Yticagdppjknlaaa
open Go.RowKit
structure St (D : Nat) (x : Dg) : Prop where
  sm : Sm x
  d : x.d = D
theorem take_dd (x y : Dg) : (x.take y).d = x.d := by
  unfold Dg.take
  split <;> rfl
theorem add_dd (x : Dg) (v : Int) (u : Nat) : (x.add v u).d = x.d := by
  unfold Dg.add
  split
  · unfold Dg.full
    split <;> rfl
  · rfl
section
variable {xo : Nat} {MO : Dg} {w W : World} {gs gw a b xA xB rA rB : Nat} {MA MB NA NB : Dg}
theorem Quad.goodA (q : Quad xo MO DIs w W gs gw a b xA xB rA rB MA MB NA NB) : MA.Good := let ⟨_, _, ⟨_, _, _, _, _, _, s⟩, _⟩ := q.codeA obD; s.good
theorem Quad.same (q : Quad xo MO DIs w W gs gw a b xA xB rA rB MA MB MA MB) (h : Sm MA) :
    Calls Try.prog 16 #[.pointer (some ⟨xA, 0, none⟩), .pointer (some ⟨rA, 0, none⟩)] W fun e w' => e = .returned (.bool true) ∧ Fr S0 W w' := by
  obtain ⟨C, -, h1, -⟩ := q.codeA obD
  obtain ⟨D, -, h2, -⟩ := q.refA obD
  exact same_any xA rA C D MA W h1 h2 (by have := h.all; omega)
theorem do_one {D : Nat} (q : Quad xo MO DIs w W gs gw a b xA xB rA rB MA MB MA MB) (kd : Nat) (who : Bool) (v : Int) (n : Nat) (hw : (who = false ∧ a = 0 ∧ b = 1) ∨ (who = true ∧ a = 1 ∧ b = 0)) (hA : St D MA) (hB : St D MB) (hv1 : -9223372036854775808 ≤ v) (hv2 : v ≤ 9223372036854775807) :
    Calls Try.prog 15 #[.slice (some ⟨gs, 0, none⟩) 2 2, .slice (some ⟨gw, 0, none⟩) 2 2, .agg #[.int .u8 (kd : Nat), .bool who, .int .i64 v, .int .u64 (n : Nat)]] W fun e w' => e = .returned (.bool true) ∧ ∃ M', Quad xo MO DIs w w' gs gw a b xA xB rA rB M' MB M' MB ∧ St D M' := by
  have gA := q.goodA
  have gB := q.swap.goodA
  have lA := hA.sm.all
  have lB := hB.sm.all
  by_cases h5 : kd % 8 = 5
  · exact (do_take w W gs gw a b xA xB rA rB MA MB q kd who v n hw h5 (by omega)).mono fun e w' h => ⟨h.1, _, h.2, hA.sm.take gA gB, (take_dd _ _).trans hA.d⟩
  · by_cases h6 : kd % 8 = 6
    · exact (do_self w W gs gw a b xA xB rA rB MA MB q kd who v n hw h6 (by omega)).mono fun e w' h => ⟨h.1, _, h.2, hA.sm.take gA gA, (take_dd _ _).trans hA.d⟩
    · by_cases h7 : kd % 8 = 7
      · exact (do_press w W gs gw a b xA xB rA rB MA MB q kd who v n hw h7 (by omega)).mono fun e w' h => ⟨h.1, _, h.2, sm_press gA hA.sm.d, hA.d⟩
      · exact (do_add w W gs gw a b xA xB rA rB MA MB q kd who v n hw ⟨h5, h6, h7⟩ (by omega) hv1 hv2).mono fun e w' h => ⟨h.1, _, h.2, hA.sm.add gA v n hv1 hv2, (add_dd _ _ _).trans hA.d⟩
theorem do_any {D : Nat} (q : Quad xo MO DIs w W gs gw 0 1 xA xB rA rB MA MB MA MB) (kd : Nat) (who : Bool) (v : Int) (n : Nat) (hA : St D MA) (hB : St D MB) (hv1 : -9223372036854775808 ≤ v) (hv2 : v ≤ 9223372036854775807) :
    Calls Try.prog 15 #[.slice (some ⟨gs, 0, none⟩) 2 2, .slice (some ⟨gw, 0, none⟩) 2 2, .agg #[.int .u8 (kd : Nat), .bool who, .int .i64 v, .int .u64 (n : Nat)]] W fun e w' => e = .returned (.bool true) ∧ ∃ MA' MB', Quad xo MO DIs w w' gs gw 0 1 xA xB rA rB MA' MB' MA' MB' ∧ St D MA' ∧ St D MB' := by
  cases who with
  | false => exact (do_one q kd false v n (.inl ⟨rfl, rfl, rfl⟩) hA hB hv1 hv2).mono fun e w' h => ⟨h.1, let ⟨M, h2, h3⟩ := h.2; ⟨M, MB, h2, h3, hB⟩⟩
  | true => exact (do_one q.swap kd true v n (.inr ⟨rfl, rfl, rfl⟩) hB hA hv1 hv2).mono fun e w' h => ⟨h.1, let ⟨M, h2, h3⟩ := h.2; ⟨MA, M, h2.swap, hA, h3⟩⟩
end
theorem quad_start {w w2 w3 w4 : World} {xA xB xo D : Nat} {A B O : Dg} (hD1 : 10 ≤ D) (hD2 : D ≤ 1000) (k1 : NewD w w2 xA A) (k2 : NewD w2 w3 xB B) (k3 : NewD w3 w4 xo O) :
    Quad xo O DIs w ((((w4.alloc (.cells #[.pointer (some ⟨xA, 0, none⟩), .pointer (some ⟨xB, 0, none⟩)] 25)).alloc (.cells #[.int .i64 (D : Nat), .slice none 0 0, .slice none 0 0, .int .i64 0, .int .i64 0] 34)).alloc (.cells #[.int .i64 (D : Nat), .slice none 0 0, .slice none 0 0, .int .i64 0, .int .i64 0] 34)).alloc (.cells #[.pointer (some ⟨w4.heap.size + 1, 0, none⟩), .pointer (some ⟨w4.heap.size + 2, 0, none⟩)] 31))
      w4.heap.size (w4.heap.size + 3) 0 1 xA xB (w4.heap.size + 1) (w4.heap.size + 2) A B (Dg.new D) (Dg.new D) := by
  obtain ⟨CA, a1, a2⟩ := k1.ex
  obtain ⟨CB, b1, b2⟩ := k2.ex
  obtain ⟨CO, o1, o2⟩ := k3.ex
  have z1 := k1.fr.size
  have z2 := k2.fr.size
  have z3 := k3.fr.size
  have la := a1.below
  have lb := b1.below
  have lo := o1.below
  obtain ⟨r, er⟩ : ∃ r, w4.heap.size = r := ⟨_, rfl⟩
  obtain ⟨u5, e5⟩ : ∃ u, w4.alloc (.cells #[.pointer (some ⟨xA, 0, none⟩), .pointer (some ⟨xB, 0, none⟩)] 25) = u := ⟨_, rfl⟩
  have h5 := heap_alloc_new w4 (.cells #[.pointer (some ⟨xA, 0, none⟩), .pointer (some ⟨xB, 0, none⟩)] 25)
  have s5 := size_alloc w4 (.cells #[.pointer (some ⟨xA, 0, none⟩), .pointer (some ⟨xB, 0, none⟩)] 25)
  have f5 : Fr S0 w4 (w4.alloc (.cells #[.pointer (some ⟨xA, 0, none⟩), .pointer (some ⟨xB, 0, none⟩)] 25)) := Fr.alloc _ _ _
  rw [e5, er] at h5 s5
  rw [e5] at f5
  rw [e5, er]
  obtain ⟨u6, e6⟩ : ∃ u, u5.alloc (.cells #[.int .i64 (D : Nat), .slice none 0 0, .slice none 0 0, .int .i64 0, .int .i64 0] 34) = u := ⟨_, rfl⟩
  have h6 := heap_alloc_new u5 (.cells #[.int .i64 (D : Nat), .slice none 0 0, .slice none 0 0, .int .i64 0, .int .i64 0] 34)
  have s6 := size_alloc u5 (.cells #[.int .i64 (D : Nat), .slice none 0 0, .slice none 0 0, .int .i64 0, .int .i64 0] 34)
  have f6 : Fr S0 u5 (u5.alloc (.cells #[.int .i64 (D : Nat), .slice none 0 0, .slice none 0 0, .int .i64 0, .int .i64 0] 34)) := Fr.alloc _ _ _
  rw [e6, s5] at h6 s6
  rw [e6] at f6 ⊢
  obtain ⟨u7, e7⟩ : ∃ u, u6.alloc (.cells #[.int .i64 (D : Nat), .slice none 0 0, .slice none 0 0, .int .i64 0, .int .i64 0] 34) = u := ⟨_, rfl⟩
  have h7 := heap_alloc_new u6 (.cells #[.int .i64 (D : Nat), .slice none 0 0, .slice none 0 0, .int .i64 0, .int .i64 0] 34)
  have s7 := size_alloc u6 (.cells #[.int .i64 (D : Nat), .slice none 0 0, .slice none 0 0, .int .i64 0, .int .i64 0] 34)
  have f7 : Fr S0 u6 (u6.alloc (.cells #[.int .i64 (D : Nat), .slice none 0 0, .slice none 0 0, .int .i64 0, .int .i64 0] 34)) := Fr.alloc _ _ _
  rw [e7, s6] at h7 s7
  rw [e7] at f7 ⊢
  obtain ⟨u8, e8⟩ : ∃ u, u7.alloc (.cells #[.pointer (some ⟨r + 1, 0, none⟩), .pointer (some ⟨r + 2, 0, none⟩)] 31) = u := ⟨_, rfl⟩
  have h8 := heap_alloc_new u7 (.cells #[.pointer (some ⟨r + 1, 0, none⟩), .pointer (some ⟨r + 2, 0, none⟩)] 31)
  have s8 := size_alloc u7 (.cells #[.pointer (some ⟨r + 1, 0, none⟩), .pointer (some ⟨r + 2, 0, none⟩)] 31)
  have f8 : Fr S0 u7 (u7.alloc (.cells #[.pointer (some ⟨r + 1, 0, none⟩), .pointer (some ⟨r + 2, 0, none⟩)] 31)) := Fr.alloc _ _ _
  rw [e8, s7] at h8 s8
  rw [e8] at f8 ⊢
  have f48 := ((f5.trans0 f6).trans0 f7).trans0 f8
  have hre : ∀ y, u8.heap[y]? = some (.cells #[.int .i64 (D : Nat), .slice none 0 0, .slice none 0 0, .int .i64 0, .int .i64 0] 34 (0, 0)) → y < u8.heap.size → RIs u8 y (fun b => b = y) (Dg.new D) := fun y hy hl =>
    ⟨none, 0, 0, none, 0, 0, hy, World.ownsRow_nil _ _ _ _, World.ownsRow_nil _ _ _ _, fun z hz => by simp [Value.ownBlock] at hz, fun z hz => by simp [Value.ownBlock] at hz, rfl, fun b hb => by rw [hb]; exact hl, Dg.Good.new hD1 hD2⟩
  refine ⟨fun y => if y < w2.heap.size then 0 else if y < w3.heap.size then 1 else if y < r then 6 else if y = r then 4 else if y = r + 1 then 2 else if y = r + 2 then 3 else 5, 0, 1, by decide, by decide, by decide, by decide, ⟨CA, a1.fr0 ((k2.fr.trans0 k3.fr).trans0 f48), fun y hy => ?_⟩, ⟨CB, b1.fr0 (k3.fr.trans0 f48), fun y hy => ?_⟩, ⟨_, hre (r + 1) (f8.row (f7.row h6 fun h => h) fun h => h) (by omega), fun y hy => ?_⟩, ⟨_, hre (r + 2) (f8.row h7 fun h => h) (by omega), fun y hy => ?_⟩, ?_, ?_, by omega, by omega, ⟨_, (((f6.trans0 f7).trans0 f8).row h5 fun h => h), rfl, rfl⟩, ⟨_, h8, rfl, rfl⟩, ((k1.fr.trans0 k2.fr).trans0 k3.fr).trans0 f48, ⟨CO, o1.fr0 f48, fun y hy => ?_⟩⟩
  · have := la y hy
    exact ⟨a2 y hy, if_pos this⟩
  · have := lb y hy
    have := b2 y hy
    exact ⟨by omega, by simp only; rw [if_neg (by omega), if_pos (by omega)]⟩
  · have hy2 : y = r + 1 := hy
    exact ⟨by omega, by simp only; rw [if_neg (by omega), if_neg (by omega), if_neg (by omega), if_neg (by omega), if_pos (by omega)]⟩
  · have hy2 : y = r + 2 := hy
    exact ⟨by omega, by simp only; rw [if_neg (by omega), if_neg (by omega), if_neg (by omega), if_neg (by omega), if_neg (by omega), if_pos (by omega)]⟩
  · show (if r < w2.heap.size then 0 else if r < w3.heap.size then 1 else if r < r then 6 else if r = r then 4 else if r = r + 1 then 2 else if r = r + 2 then 3 else 5 : Nat) = 4
    rw [if_neg (by omega), if_neg (by omega), if_neg (by omega), if_pos rfl]
  · show (if r + 3 < w2.heap.size then 0 else if r + 3 < w3.heap.size then 1 else if r + 3 < r then 6 else if r + 3 = r then 4 else if r + 3 = r + 1 then 2 else if r + 3 = r + 2 then 3 else 5 : Nat) = 5
    rw [if_neg (by omega), if_neg (by omega), if_neg (by omega), if_neg (by omega), if_neg (by omega), if_neg (by omega)]
  · have := lo y hy
    have := o2 y hy
    exact ⟨by omega, by simp only; rw [if_neg (by omega), if_neg (by omega), if_pos (by omega)]⟩
end Go.Proofs.Yticagdppjknlaaa
