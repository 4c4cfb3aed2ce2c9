/- KcTerm -/
import Derived.Test.YtbpfmjekpjfceaaPm1
import Derived.Test.YtbpfmjekpjfceaaPm2
import Derived.Test.YtbpfmjekpjfceaaPm3
import Derived.Test.YtbpfmjekpjfceaaPm4
import Derived.Test.YtbpfmjekpjfceaaPm16
import Derived.Test.YtbpfmjekpjfceaaPm17
import Derived.Test.YtbpfmjekpjfceaaPm18
import Derived.Test.YtbpfmjekpjfceaaPm19
import Derived.Maps.AppendAt
import Derived.Laws.AppendOwnNone
import Derived.Laws.OwnMore
import Derived.Lib.AppendZerosOnto
import Derived.Lib.SliceRun
import Derived.Lib.Walk
import Derived.WalkKit
import Derived.Laws.BytesArg
import Derived.Lib.SlBytesConst
import Derived.WalkSpells
import Derived.WalkLawsBesides
import Derived.Deep.QuietTactic
import Derived.BigQuiet
import Derived.RegionTactic
import Derived.Deep.AppendLies
import Derived.Deep.RegionLaw
import Derived.Laws.ResultCell
import Derived.Laws.EntriesVeiled
import Derived.Lib.Hide
import Derived.Test.YtbpfmjekpjfceaaRows
import Derived.Laws.Externs
import Derived.Shelf.Spec.BitsCarry
import Derived.Deep.CutBlock
import Derived.Deep.CutRange
import Derived.Deep.DeepCutAuto
import Derived.Lib.BitFns
import Derived.Shelf.Small.Bits
import Derived.Shelf.Strconv.Itoa0
import Derived.Shelf.Bits.Mul64
set_option maxRecDepth 100000
set_option maxHeartbeats 8000000
namespace Go.Proofs.Ytbpfmjekpjfceaa
open Go.RowKit
theorem info_tm : (Try.prog.info? 107).map (fun i => (i.zero, i.size, i.bytes)) = some (some (.agg #[.int .i64 0, .int .u64 0]), 2, 16) := by kernel_rfl
abbrev El (t e : TypeId) : Prop := ElemOk Try.prog t e (.agg #[.int .i64 0, .int .u64 0]) 2 16
theorem elTm : El 103 107 := ⟨Try.underlying103, info_tm, rfl, by decide, by decide⟩
def prs (l : List Tm) : List Value := l.flatMap fun t => [.int .i64 t.1, .int .u64 (t.2 : Int)]
theorem prs_cons (t : Tm) (l : List Tm) : prs (t :: l) = [.int .i64 t.1, .int .u64 (t.2 : Int)] ++ prs l := rfl
theorem prs_snoc (l : List Tm) (t : Tm) : prs (l ++ [t]) = prs l ++ [.int .i64 t.1, .int .u64 (t.2 : Int)] := by simp [prs]
theorem prs_len (l : List Tm) : (prs l).length = l.length * 2 := by
  induction l with
  | nil => rfl
  | cons t l ih => rw [prs_cons, List.length_append, ih, List.length_cons]; simp; omega
theorem prs_at : ∀ (l : List Tm) (i : Nat) (h : i < l.length), (prs l)[i * 2]? = some (.int .i64 l[i].1) ∧ (prs l)[i * 2 + 1]? = some (.int .u64 (l[i].2 : Int))
  | t :: l, 0, _ => by simp [prs]
  | t :: l, i + 1, h => by
    have := prs_at l i (by simpa using h)
    rw [prs_cons]
    rw [List.getElem?_append_right (by simp; omega), List.getElem?_append_right (by simp; omega)]
    simp only [List.length_cons, List.length_nil, List.getElem_cons_succ]
    rw [show (i + 1) * 2 - (0 + 1 + 1) = i * 2 by omega, show (i + 1) * 2 + 1 - (0 + 1 + 1) = i * 2 + 1 by omega]
    exact this
theorem one_pr (x : Int) (y : Nat) : ∀ u ∈ (#[Value.int .i64 x, Value.int .u64 (y : Int)]).toList, u.oneCell' = true := by
  intro u hu
  simp only [List.mem_cons, List.not_mem_nil, or_false] at hu
  rcases hu with rfl | rfl <;> rfl
theorem prs_get (l : List Tm) (j : Nat) (u : Value) (h : (prs l)[j]? = some u) : ∃ i, ∃ h : i < l.length, (j = i * 2 ∧ u = .int .i64 l[i].1) ∨ (j = i * 2 + 1 ∧ u = .int .u64 (l[i].2 : Int)) := by
  have hj := (List.getElem?_eq_some_iff.1 h).1
  rw [prs_len] at hj
  have hi : j / 2 < l.length := by omega
  obtain ⟨h1, h2⟩ := prs_at l (j / 2) hi
  refine ⟨j / 2, hi, ?_⟩
  rcases (by omega : j = j / 2 * 2 ∨ j = j / 2 * 2 + 1) with e | e
  · exact .inl ⟨e, by rw [e, h1] at h; exact (Option.some.inj h).symm⟩
  · exact .inr ⟨e, by rw [e, h2] at h; exact (Option.some.inj h).symm⟩
theorem TmI.nil (w : World) (p : Option Addr) : TmI w p [] := ⟨by simp, fun h => absurd rfl h⟩
theorem TmI.fr {S : Nat → Prop} {w w' : World} {p : Option Addr} {l : List Tm} (h : TmI w p l) (f : Fr S w w') (ho : Off S p) : TmI w' p l :=
  ⟨h.len, fun hl => let ⟨b, o, hp, hc⟩ := h.cel hl; ⟨b, o, hp, fun i hi => ⟨f.cell (hc i hi).1 (ho ⟨b, o, none⟩ hp), f.cell (hc i hi).2 (ho ⟨b, o, none⟩ hp)⟩⟩⟩
theorem TmI.lt {w : World} {p : Option Addr} {l : List Tm} (h : TmI w p l) (hl : l ≠ []) : ∀ a, p = some a → a.block < w.heap.size := by
  intro a ha
  obtain ⟨b, off, hp, hc⟩ := h.cel hl
  rw [hp] at ha
  obtain rfl := Option.some.inj ha
  exact World.block_lt_of_cell? w _ (hc 0 (List.length_pos_iff.2 hl)).1
theorem TmI.cells {w : World} {b o : Nat} {l : List Tm} (h : TmI w (some ⟨b, o, none⟩) l) : ∀ j u, (prs l)[j]? = some u → w.cell? ((⟨b, o, none⟩ : Addr).add j) = some u := by
  intro j u hu
  obtain ⟨i, hi, hc⟩ := prs_get l j u hu
  obtain ⟨b', o', hp, c0, c1⟩ := h.at i hi
  simp only [Option.some.injEq, Addr.mk.injEq] at hp
  obtain ⟨rfl, rfl, -⟩ := hp
  have hadd : (⟨b, o, none⟩ : Addr).add j = ⟨b, o + j, none⟩ := by unfold Addr.add; split <;> simp_all
  rw [hadd]
  rcases hc with ⟨rfl, rfl⟩ | ⟨rfl, rfl⟩
  · exact c0
  · rw [← Nat.add_assoc]; exact c1
theorem TmI.take {w : World} {p : Option Addr} {l : List Tm} (h : TmI w p l) (i : Nat) : TmI w p (l.take i) :=
  ⟨Nat.le_trans (by rw [List.length_take]; omega) h.len, fun hl => by
    obtain ⟨b, o, hp, hc⟩ := h.cel (fun e => hl (by rw [e]; simp))
    refine ⟨b, o, hp, fun j hj => ?_⟩
    have hj2 : j < l.length := by rw [List.length_take] at hj; omega
    rw [List.getElem_take]
    exact hc j hj2⟩
theorem TmI.drop {w : World} {b o : Nat} {l : List Tm} (h : TmI w (some ⟨b, o, none⟩) l) (i : Nat) : TmI w (some ⟨b, o + i * 2, none⟩) (l.drop i) :=
  ⟨Nat.le_trans (by rw [List.length_drop]; omega) h.len, fun hl => by
    obtain ⟨b', o', hp, hc⟩ := h.cel (fun e => hl (by rw [e]; simp))
    simp only [Option.some.injEq, Addr.mk.injEq] at hp
    obtain ⟨rfl, rfl, -⟩ := hp
    refine ⟨b, o + i * 2, rfl, fun j hj => ?_⟩
    have hj2 : i + j < l.length := by rw [List.length_drop] at hj; omega
    rw [List.getElem_drop]
    have := hc (i + j) hj2
    rw [show o + i * 2 + j * 2 = o + (i + j) * 2 by omega]
    exact this⟩
theorem tmi_own {w : World} {e : TypeId} {q : Option Addr} {n d : Nat} {l : List Tm} (h : w.ownsRow 0 e 2 (.slice q n d) n (prs l)) (hm : n ≤ maxLen) : TmI w q l := by
  have hlen : l.length * 2 = n * 2 := by have h1 := h.1; rw [prs_len] at h1; exact h1
  refine ⟨by omega, fun hl => ?_⟩
  rcases h.2 with ⟨hv, hn⟩ | ⟨g, cap, cur, hv, _⟩
  · exact absurd (List.eq_nil_of_length_eq_zero (by omega)) hl
  · simp only [Value.slice.injEq] at hv
    obtain ⟨rfl, -, rfl⟩ := hv
    refine ⟨g, 0, rfl, fun i hi => ?_⟩
    obtain ⟨h1, h2⟩ := prs_at l i hi
    rw [Nat.zero_add]
    exact ⟨(h.cellAt _ (by omega)).trans h1, (h.cellAt _ (by omega)).trans h2⟩
structure Sl (w : World) (p : Option Addr) (n c : Nat) (l : List Tm) : Prop where
  tmi : TmI w p l
  len : l.length = n
  cap : n ≤ c
  max : c ≤ maxLen
  nil : p = none → c = 0
section
variable {S : Nat → Prop} {w w' : World} {p : Option Addr} {n c : Nat} {l : List Tm}
theorem Sl.fr (h : Sl w p n c l) (f : Fr S w w') (ho : Off S p) : Sl w' p n c l := ⟨h.tmi.fr f ho, h.len, h.cap, h.max, h.nil⟩
theorem Sl.fr0 (h : Sl w p n c l) (f : Fr S0 w w') : Sl w' p n c l := h.fr f (Off.s0 p)
theorem Sl.at (h : Sl w p n c l) (i : Nat) (hi : i < l.length) : ∃ b off, p = some ⟨b, off, none⟩ ∧ w.cell? ⟨b, off + i * 2, none⟩ = some (.int .i64 l[i].1) ∧ w.cell? ⟨b, off + i * 2 + 1, none⟩ = some (.int .u64 (l[i].2 : Nat)) := h.tmi.at i hi
theorem Sl.ofOwns {e : TypeId} (h : w.ownsRow 0 e 2 (.slice p n c) n (prs l)) : Sl w p n c l := by
  obtain ⟨h1, h2, h3⟩ := own_cap h
  have hl := h.1
  rw [prs_len] at hl
  exact ⟨tmi_own h (Nat.le_trans h1 h2), by omega, h1, h2, h3⟩
end
structure Acc (e : TypeId) (w wr : World) (v : Value) (N : Nat) (L : List Tm) : Prop where
  own : wr.ownsRow 0 e 2 v N (prs L)
  fresh : Fresh w v
  fr : Fr S0 w wr
section
variable {e : TypeId} {w wr w2 w3 : World} {v : Value} {N : Nat} {L : List Tm}
theorem Acc.nil (f : Fr S0 w wr) : Acc e w wr (.slice none 0 0) 0 [] := ⟨World.ownsRow_nil _ _ _ _, fresh_nil _ _, f⟩
theorem Acc.len (h : Acc e w wr v N L) : L.length = N := by
  have := h.own.1
  rw [prs_len] at this
  omega
theorem Acc.fr0 (h : Acc e w wr v N L) (f : Fr S0 wr w2) : Acc e w w2 v N L := ⟨f.owns h.own fun _ _ h => h, h.fresh, h.fr.trans0 f⟩
theorem Acc.from (h : Acc e w wr v N L) {w0 : World} (f : Fr S0 w0 w) : Acc e w0 wr v N L := ⟨h.own, fun g hg => Nat.le_trans f.size (h.fresh g hg), f.trans0 h.fr⟩
theorem Acc.app {o : Obj} {g cap n : Nat} {k : Int} (h : Acc e w wr v N L) (own : w3.ownsRow 0 e 2 (.slice (some ⟨g, 0, none⟩) (N + 1) cap) (N + 1) (prs L ++ #[Value.int .i64 k, Value.int .u64 (n : Int)].toList))
    (hg : (wr.alloc o).grownBy w3 v.ownBlock) (hat : v.ownBlock = some g ∨ g = wr.heap.size + 1) : Acc e w w3 (.slice (some ⟨g, 0, none⟩) (N + 1) cap) (N + 1) (L ++ [(k, n)]) :=
  ⟨by rw [prs_snoc]; exact own, fresh_app h.fr h.fresh hat, (h.fr.trans0 (Fr.alloc S0 wr _)).append hg h.fresh⟩
theorem Acc.sl (h : Acc e w wr v N L) : ∃ p c, v = .slice p N c ∧ Sl wr p N c L := by
  obtain ⟨p, c, rfl⟩ := slFormN h.own
  exact ⟨p, c, rfl, Sl.ofOwns h.own⟩
end
end Go.Proofs.Ytbpfmjekpjfceaa
