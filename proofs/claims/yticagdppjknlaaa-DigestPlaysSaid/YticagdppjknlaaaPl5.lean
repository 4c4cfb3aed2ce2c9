/- Many, Bytes -/
import Derived.Test.YticagdppjknlaaaPl1
import Derived.Maps.AppendAt
import Derived.Laws.AppendOwnNone
import Derived.WalkKit
import Derived.WalkSpells
import Derived.WalkLawsBesides
import Derived.Deep.QuietTactic
import Derived.BigQuiet
import Derived.RegionTactic
import Derived.Deep.AppendLies
import Derived.Deep.RegionLaw
import Derived.Laws.ResultCell
import Derived.Laws.EntriesVeiled
import Derived.Lib.Hide
import Derived.Test.YticagdppjknlaaaRows
import Derived.Laws.BytesArg
import Derived.Lib.SlBytesConst
set_option maxRecDepth 100000
set_option maxHeartbeats 8000000
namespace Go.Proofs.Yticagdppjknlaaa
open Go.RowKit
def SrcIs (w : World) (u : Value) (m : Nat) (ys : List Value) : Prop :=
  ys.length = m ∧ ((u = .slice none 0 0 ∧ m = 0) ∨ ∃ ad c, u = .slice (some ad) m c ∧ ∀ j v, ys[j]? = some v → w.cell? (ad.add j) = some v)
theorem SrcIs.ofOwns {w : World} {e : TypeId} {u : Value} {m : Nat} {ys : List Value} (h : w.ownsRow 0 e 1 u m ys) : SrcIs w u m ys := by
  refine ⟨by simpa using h.1, ?_⟩
  rcases h.2 with hn | ⟨g, cap, cur, rfl, _⟩
  · exact .inl hn
  · exact .inr ⟨_, cap, rfl, h.cells rfl⟩
theorem SrcIs.fr {S : Nat → Prop} {w w' : World} {u : Value} {m : Nat} {ys : List Value} (h : SrcIs w u m ys) (hf : Fr S w w') (hs : ∀ k, u.ownBlock = some k → ¬ S k) : SrcIs w' u m ys := by
  refine ⟨h.1, ?_⟩
  rcases h.2 with hn | ⟨ad, c, rfl, hc⟩
  · exact .inl hn
  · refine .inr ⟨ad, c, rfl, fun j v hj => hf.cell (hc j v hj) ?_⟩
    have : (ad.add j).block = ad.block := by unfold Addr.add; split <;> rfl
    rw [this]
    exact hs _ rfl
end Go.Proofs.Yticagdppjknlaaa

namespace Go.Proofs.Yticagdppjknlaaa
open Go.RowKit
def Fresh (w : World) (v : Value) : Prop := ∀ g, v.ownBlock = some g → w.heap.size ≤ g
theorem fresh_nil (w : World) (c : Nat) : Fresh w (.slice none 0 c) := fun g h => by simp [Value.ownBlock] at h
theorem fresh_many {w : World} {v v' : Value} {B : Nat} (h : Fresh w v) (hB : w.heap.size ≤ B) (ha : v'.ownBlock = v.ownBlock ∨ v'.ownBlock = some B) : Fresh w v' := by
  intro k hk
  rcases ha with ha | ha
  · exact h k (ha ▸ hk)
  · rw [ha] at hk; simp only [Option.some.injEq] at hk; omega
theorem fresh_app {w wr : World} {v : Value} {g n c : Nat} (h : Fr S0 w wr) (hv : Fresh w v) (hat : v.ownBlock = some g ∨ g = wr.heap.size + 1) : Fresh w (.slice (some ⟨g, 0, none⟩) n c) := by
  intro k hk
  simp only [Value.ownBlock, Option.some.injEq] at hk
  subst hk
  rcases hat with h1 | h1
  · exact hv _ h1
  · have := h.size; omega
theorem SlI.take {w : World} {k : IntKind} {p : Option Addr} {l : List Nat} (h : SlI w k p l) (n : Nat) : SlI w k p (l.take n) := by
  refine ⟨by have := h.1; rw [List.length_take]; omega, fun hl => ?_⟩
  obtain ⟨b, off, hp, hc⟩ := h.2 (by intro e; subst e; simp at hl)
  refine ⟨b, off, hp, fun i hi => ?_⟩
  rw [List.length_take] at hi
  rw [hc i (by omega), List.getElem_take]
theorem SlI.ofBlock {w : World} {g : Nat} {t : TypeId} {fr : Nat × Nat} {k : IntKind} {l : List Nat} {cs : Array Value} (hb : w.heap[g]? = some (.cells cs t fr)) (hc : cs.toList = l.map fun (x : Nat) => Value.int k (x : Int)) (hl : l.length ≤ maxLen) :
    SlI w k (some ⟨g, 0, none⟩) l := by
  refine ⟨hl, fun _ => ⟨g, 0, rfl, fun i hi => ?_⟩⟩
  rw [cell_of_row w g (0 + i) cs t fr hb, ← Array.getElem?_toList, hc]
  simp [hi]
theorem SlI.new (w : World) (C : Array Value) (t : TypeId) (fr : Nat × Nat) (k : IntKind) (l : List Nat) (hc : C.toList = l.map fun (x : Nat) => Value.int k (x : Int)) (hl : l.length ≤ maxLen) : SlI (w.alloc (.cells C t fr)) k (some ⟨w.heap.size, 0, none⟩) l :=
  SlI.ofBlock (heap_alloc_new w _) hc hl
end Go.Proofs.Yticagdppjknlaaa
