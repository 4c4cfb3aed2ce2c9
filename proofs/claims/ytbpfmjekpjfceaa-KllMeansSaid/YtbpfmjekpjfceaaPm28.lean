/- KlThing, KlBoth, KlTold -/
import Derived.Test.YtbpfmjekpjfceaaPm1
import Derived.Test.YtbpfmjekpjfceaaPm2
import Derived.Test.YtbpfmjekpjfceaaPm3
import Derived.Test.YtbpfmjekpjfceaaPm4
import Derived.Test.YtbpfmjekpjfceaaPm6
import Derived.Test.YtbpfmjekpjfceaaPm7
import Derived.Test.YtbpfmjekpjfceaaPm8
import Derived.Test.YtbpfmjekpjfceaaPm9
import Derived.Test.YtbpfmjekpjfceaaPm10
import Derived.Test.YtbpfmjekpjfceaaPm11
import Derived.Test.YtbpfmjekpjfceaaPm12
import Derived.Test.YtbpfmjekpjfceaaPm13
import Derived.Test.YtbpfmjekpjfceaaPm14
import Derived.Test.YtbpfmjekpjfceaaPm15
import Derived.Test.YtbpfmjekpjfceaaPm16
import Derived.Test.YtbpfmjekpjfceaaPm17
import Derived.Test.YtbpfmjekpjfceaaPm18
import Derived.Test.YtbpfmjekpjfceaaPm19
import Derived.Test.YtbpfmjekpjfceaaPm20
import Derived.Test.YtbpfmjekpjfceaaPm21
import Derived.Test.YtbpfmjekpjfceaaPm22
import Derived.Test.YtbpfmjekpjfceaaPm23
import Derived.Test.YtbpfmjekpjfceaaPm24
import Derived.Test.YtbpfmjekpjfceaaPm25
import Derived.Test.YtbpfmjekpjfceaaPm26
import Derived.Test.YtbpfmjekpjfceaaPm27
import Derived.Deep.LoopGhost
import Derived.BigQuiet
import Derived.Deep.CutRange
import Derived.Maps.AppendAt
import Derived.Laws.AppendOwnNone
import Derived.Laws.OwnMore
import Derived.Lib.AppendZerosOnto
import Derived.Lib.SliceRun
import Derived.Lib.Walk
import Derived.WalkKit
import Derived.Laws.BytesArg
import Derived.Lib.SlBytesConst
import Derived.WalkSpells
import Derived.WalkLawsBesides
import Derived.Deep.QuietTactic
import Derived.RegionTactic
import Derived.Deep.AppendLies
import Derived.Deep.RegionLaw
import Derived.Laws.ResultCell
import Derived.Laws.EntriesVeiled
import Derived.Lib.Hide
import Derived.Test.YtbpfmjekpjfceaaRows
import Derived.Laws.BitsAllLaws
import Derived.Deep.RegionHeld3
import Derived.BigRegion
import Derived.RangeFuncNested
import Derived.RangeFuncBound
import Derived.RangeFuncCalls
import Derived.RangeFuncLeaves
import Derived.Shelf.Abstract
import Derived.Shelf.RegionOpen
import Derived.OwnWalkIn
import Derived.TacticsInMore
import Derived.LoopNIn
import Derived.LoopIn
import Derived.StillTailTactics
import Derived.Laws.Externs
import Derived.Shelf.Spec.BitsCarry
import Derived.Deep.CutBlock
import Derived.Deep.DeepCutAuto
import Derived.Lib.BitFns
import Derived.Shelf.Small.Bits
import Derived.Shelf.Strconv.Itoa0
import Derived.Shelf.Bits.Mul64
import Derived.Shelf.SlSortCmp.WholeK
set_option maxRecDepth 100000
set_option maxHeartbeats 8000000
namespace Go.Proofs.Ytbpfmjekpjfceaa
open Go.RowKit
abbrev Kind := World → (Nat → Prop) → Prop
structure Obk (P : Kind) : Prop where
  fr : ∀ {W W' S T}, P W S → Fr T W W' → (∀ b, S b → ¬ T b) → P W' S
  lt : ∀ {W S}, P W S → ∀ b, S b → b < W.heap.size
def Th (own : Nat → Nat) (i : Nat) (w W : World) (P : Kind) : Prop := ∃ S, P W S ∧ ∀ b, S b → w.heap.size ≤ b ∧ own b = i
def PK (g k : Nat) (L : Lv) (T E : Nat) : Kind := fun W S => ∃ C D, KsS W g C D k L T E ∧ ∀ b, S b ↔ C b ∨ D b
def PX (r : Nat) (bs : List Nat) (a : Nat) : Kind := fun W S => ∃ rr, RdIs W r rr bs a ∧ ∀ b, S b ↔ b = r ∨ rr = some b
def PR (g k : Nat) (L : Lv) (E : Nat) : Kind := fun W S => ∃ C D, RkS W g C D k L E ∧ ∀ b, S b ↔ C b ∨ D b
def PC (r : Nat) (q : Option Addr) (n c a : Nat) : Kind := fun W S => W.heap[r]? = some (.cells #[.slice q n c, .int .i64 (a : Nat)] 42 (0, 0)) ∧ ∀ b, S b ↔ b = r
theorem RkS.below {w : World} {g k E : Nat} {C D : Nat → Prop} {L : Lv} (s : RkS w g C D k L E) : ∀ b, C b ∨ D b → b < w.heap.size := let ⟨_, _, _, _, s⟩ := s; s.below
theorem RkS.fr {S : Nat → Prop} {w w' : World} {g k E : Nat} {C D : Nat → Prop} {L : Lv} (s : RkS w g C D k L E) (f : Fr S w w') (ho : ∀ b, C b ∨ D b → ¬ S b) : RkS w' g C D k L E := let ⟨p, n, c, rs, s⟩ := s; ⟨p, n, c, rs, s.fr f ho⟩
theorem obK (g k : Nat) (L : Lv) (T E : Nat) : Obk (PK g k L T E) where
  fr := fun ⟨_, _, s, h⟩ f ho => ⟨_, _, s.fr f fun b hb => ho b ((h b).2 hb), h⟩
  lt := fun ⟨_, _, s, h⟩ b hb => s.below b ((h b).1 hb)
theorem obX (r : Nat) (bs : List Nat) (a : Nat) : Obk (PX r bs a) where
  fr := fun ⟨rr, s, h⟩ f ho => ⟨rr, s.fr f (ho r ((h r).2 (.inl rfl))) fun j hj => ho j ((h j).2 (.inr hj)), h⟩
  lt := fun ⟨rr, s, h⟩ b hb => ((h b).1 hb).elim (fun e => by rw [e]; exact s.lt) fun e => s.rlt b e
theorem obR (g k : Nat) (L : Lv) (E : Nat) : Obk (PR g k L E) where
  fr := fun ⟨_, _, s, h⟩ f ho => ⟨_, _, s.fr f fun b hb => ho b ((h b).2 hb), h⟩
  lt := fun ⟨_, _, s, h⟩ b hb => s.below b ((h b).1 hb)
theorem obC (r : Nat) (q : Option Addr) (n c a : Nat) : Obk (PC r q n c a) where
  fr := fun ⟨s, h⟩ f ho => ⟨f.row s (ho r ((h r).2 rfl)), h⟩
  lt := fun ⟨s, h⟩ b hb => by rw [(h b).1 hb]; exact (Array.getElem?_eq_some_iff.1 s).1
def dye (own : Nat → Nat) (j n : Nat) : Nat → Nat := fun y => if n ≤ y then j else own y
theorem dye_below (own : Nat → Nat) (j n y : Nat) (h : y < n) : dye own j n y = own y := if_neg (by omega)
theorem dye_above (own : Nat → Nat) (j n y : Nat) (h : n ≤ y) : dye own j n y = j := if_pos h
section
variable {own : Nat → Nat} {i j l : Nat} {w W W' : World} {P Q : Kind}
theorem Th.fr0 (o : Obk P) (h : Th own i w W P) (f : Fr S0 W W') : Th own i w W' P := let ⟨S, h1, h2⟩ := h; ⟨S, o.fr h1 f (fun _ _ h => h), h2⟩
theorem Th.keep (o : Obk P) (h : Th own l w W P) {S : Nat → Prop} (f : Fr S W W') (hS : ∀ b, S b → own b = i ∨ own b = j) (hi : l ≠ i) (hj : l ≠ j) (m : Nat) : Th (dye own m W.heap.size) l w W' P := by
  obtain ⟨C, h1, h2⟩ := h
  refine ⟨C, o.fr h1 f fun b hb hs => ?_, fun b hb => ⟨(h2 b hb).1, by rw [dye_below _ _ _ _ (o.lt h1 b hb)]; exact (h2 b hb).2⟩⟩
  have := (h2 b hb).2
  rcases hS b hs with h | h <;> omega
theorem Th.new {S : Nat → Prop} (h : P W' S) (hS : ∀ b, S b → W.heap.size ≤ b) (f : Fr S0 w W) (m : Nat) : Th (dye own m W.heap.size) m w W' P :=
  ⟨S, h, fun b hb => ⟨Nat.le_trans f.size (hS b hb), dye_above _ _ _ _ (hS b hb)⟩⟩
end
theorem Th.code {own : Nat → Nat} {i j : Nat} {w W : World} {g k T E r a : Nat} {L : Lv} {bs : List Nat} (hs : Th own i w W (PK g k L T E)) (hx : Th own j w W (PX r bs a)) (hij : i ≠ j) (f : Fr S0 w W) :
    ∃ C D rr, KsS W g C D k L T E ∧ RdIs W r rr bs a ∧ Xap W r rr C D ∧ (∀ b, C b ∨ b = r → own b = i ∨ own b = j) ∧ (∀ b, C b ∨ D b → w.heap.size ≤ b ∧ own b = i) ∧ (∀ b, b = r ∨ rr = some b → w.heap.size ≤ b ∧ own b = j) ∧
      ∀ W' L' T' E' a', XpTurn W W' g r rr C D k L' T' E' bs a' → Th (dye own i W.heap.size) i w W' (PK g k L' T' E') ∧ Th (dye own i W.heap.size) j w W' (PX r bs a') ∧ Fr S0 w W' := by
  obtain ⟨S, ⟨C, D, s, hS⟩, h1⟩ := hs
  obtain ⟨R, ⟨rr, x, hR⟩, h2⟩ := hx
  have hC : ∀ b, C b ∨ D b → w.heap.size ≤ b ∧ own b = i := fun b hb => h1 b ((hS b).2 hb)
  have hX : ∀ b, b = r ∨ rr = some b → w.heap.size ≤ b ∧ own b = j := fun b hb => h2 b ((hR b).2 hb)
  have hr := (hX r (.inl rfl)).2
  refine ⟨C, D, rr, s, x, ⟨fun h => hij ?_, fun h => hij ?_, x.lt, fun y hy => ⟨fun h => hij ?_, x.rlt y hy⟩⟩, fun b hb => ?_, hC, hX, fun W' L' T' E' a' t => ?_⟩
  · rw [← (hC r (.inl h)).2, hr]
  · rw [← (hC r (.inr h)).2, hr]
  · rw [← (hC y (.inl h)).2, (hX y (.inr hy)).2]
  · rcases hb with h | h
    · exact .inl (hC b (.inl h)).2
    · exact .inr (hX b (.inl h)).2
  · obtain ⟨C', D', s', x', f', t1, t2⟩ := t
    refine ⟨⟨fun b => C' b ∨ D' b, ⟨C', D', s', fun _ => Iff.rfl⟩, fun b hb => ?_⟩, ⟨fun b => b = r ∨ rr = some b, ⟨rr, x', fun _ => Iff.rfl⟩, fun b hb => ?_⟩, f.trans f' fun y hy h => ?_⟩
    · have : (C b ∨ D b) ∨ W.heap.size ≤ b := by
        rcases hb with h | h
        · exact (t1 b h).imp .inl id
        · exact (t2 b h).imp .inr id
      rcases this with h | h
      · exact ⟨(hC b h).1, by rw [dye_below _ _ _ _ (s.below b h)]; exact (hC b h).2⟩
      · exact ⟨Nat.le_trans f.size h, dye_above _ _ _ _ h⟩
    · have hb2 : b < W.heap.size := hb.elim (fun e => by rw [e]; exact x.lt) fun e => x.rlt b e
      exact ⟨(hX b hb).1, by rw [dye_below _ _ _ _ hb2]; exact (hX b hb).2⟩
    · have := h.elim (fun h => (hC y (.inl h)).1) fun h => (hX y (.inl h)).1
      omega
theorem Th.ref {own : Nat → Nat} {i j : Nat} {w W : World} {g k E r a n c : Nat} {q : Option Addr} {L : Lv} {bs : List Nat} (hs : Th own i w W (PR g k L E)) (hx : Th own j w W (PC r q n c a)) (hij : i ≠ j) (f : Fr S0 w W) (sl : SlI w .u8 q bs) (hn : bs.length = n) (h8 : ∀ x ∈ bs, x < 256) :
    ∃ C D, RkS W g C D k L E ∧ RcIs W r q n c bs a ∧ Aparts W r q bs C D ∧ (∀ b, C b ∨ b = r → own b = i ∨ own b = j) ∧ (∀ b, C b ∨ D b → w.heap.size ≤ b ∧ own b = i) ∧
      ∀ W' L' E' a', PkTurn W W' g r C D k L' E' q n c bs a' → Th (dye own i W.heap.size) i w W' (PR g k L' E') ∧ Th (dye own i W.heap.size) j w W' (PC r q n c a') ∧ Fr S0 w W' := by
  obtain ⟨S, ⟨C, D, s, hS⟩, h1⟩ := hs
  obtain ⟨R, ⟨x, hR⟩, h2⟩ := hx
  have hC : ∀ b, C b ∨ D b → w.heap.size ≤ b ∧ own b = i := fun b hb => h1 b ((hS b).2 hb)
  have hr := h2 r ((hR r).2 rfl)
  have hlt : r < W.heap.size := (Array.getElem?_eq_some_iff.1 x).1
  have hq : bs ≠ [] → ∀ a, q = some a → a.block < w.heap.size := fun hb a ha => sl.lt hb a ha
  refine ⟨C, D, s, ⟨x, sl.fr0 f, hn, fun hb a ha e => ?_, h8⟩, ⟨fun h => hij ?_, fun h => hij ?_, hlt, fun hb a ha => ⟨fun h => ?_, Nat.lt_of_lt_of_le (hq hb a ha) f.size⟩⟩, fun b hb => ?_, hC, fun W' L' E' a' t => ?_⟩
  · have h3 := hq hb a ha
    have h4 := hr.1
    rw [e] at h3
    omega
  · rw [← (hC r (.inl h)).2, hr.2]
  · rw [← (hC r (.inr h)).2, hr.2]
  · have h3 := hq hb a ha
    have h4 := (hC _ (.inl h)).1
    omega
  · rcases hb with h | h
    · exact .inl (hC b (.inl h)).2
    · exact .inr (by rw [h]; exact hr.2)
  · obtain ⟨C', D', s', x', f', t1, t2⟩ := t
    refine ⟨⟨fun b => C' b ∨ D' b, ⟨C', D', s', fun _ => Iff.rfl⟩, fun b hb => ?_⟩, ⟨fun b => b = r, ⟨x'.blk, fun _ => Iff.rfl⟩, fun b hb => ?_⟩, f.trans f' fun y hy h => ?_⟩
    · have : (C b ∨ D b) ∨ W.heap.size ≤ b := by
        rcases hb with h | h
        · exact (t1 b h).imp .inl id
        · exact (t2 b h).imp .inr id
      rcases this with h | h
      · exact ⟨(hC b h).1, by rw [dye_below _ _ _ _ (s.below b h)]; exact (hC b h).2⟩
      · exact ⟨Nat.le_trans f.size h, dye_above _ _ _ _ h⟩
    · rw [hb]
      exact ⟨hr.1, by rw [dye_below _ _ _ _ hlt]; exact hr.2⟩
    · have := h.elim (fun h => (hC y (.inl h)).1) fun h => by rw [h]; exact hr.1
      omega
structure Good (k : Nat) (L : Lv) (E : Nat) : Prop where
  fine : Fine L E
  room : over k L = none
  lo : 8 ≤ k
  hi : k ≤ 4096
theorem Good.len {k : Nat} {L : Lv} {E : Nat} (h : Good k L E) : L.length ≤ 49 := top_len h.fine.top h.fine.wt
theorem Good.kept {k : Nat} {L : Lv} {E : Nat} (h : Good k L E) : kept L ≤ 20000 := by
  have h1 := kept_few (by have := h.lo; omega) h.room
  have h2 := h.len
  have h3 := h.hi
  omega
theorem Good.new {k : Nat} (h1 : 8 ≤ k) (h2 : k ≤ 4096) : Good k [] 0 := ⟨⟨trivial, by decide, by decide, (fun _ h => nomatch h), by omega⟩, rfl, h1, h2⟩
theorem fine_pack {k : Nat} {L : Lv} {E : Nat} (bs : List Nat) (a : Nat) (h : Fine L E) : Fine (pack k bs L E a).1 (pack k bs L E a).2.1 :=
  ⟨pack_top k bs L E a h.top, by rw [pack_wt]; exact h.wt, Nat.le_trans (pack_kept k bs L E a) h.kept, pack_asc k bs L E a h.asc, (pack_ledger k bs L E a h.led).2⟩
theorem Good.add {k : Nat} {L : Lv} {E : Nat} (h : Good k L E) (bs : List Nat) (a : Nat) (v : Int) (n : Nat) (hn : n ≤ 281474976710656 - wtL L) : Good k (pack k bs (addN L v n) E a).1 (pack k bs (addN L v n) E a).2.1 :=
  ⟨fine_pack bs a (fine_addN h.fine v n hn (by have := h.kept; omega)), pack_room k bs _ E a, h.lo, h.hi⟩
end Go.Proofs.Ytbpfmjekpjfceaa

namespace Go.Proofs.Ytbpfmjekpjfceaa
open Go.RowKit
abbrev St := Lv × Nat × Nat
def adR (L : Lv) (n : Nat) : Nat := if n = 0 then 4 else if 281474976710656 - wtL L < n then 6 else 0
def adS (k : Nat) (bs : List Nat) (s : St) (v : Int) (n : Nat) : St := if adR s.1 n = 0 then pack k bs (addN s.1 v n) s.2.1 s.2.2 else s
theorem adR_ok {L : Lv} {n : Nat} (h : adR L n = 0) : 0 < n ∧ n ≤ 281474976710656 - wtL L := by
  unfold adR at h
  split at h
  · cases h
  · split at h
    · cases h
    · omega
theorem adR_zero {L : Lv} {n : Nat} (h0 : 0 < n) (h : n ≤ 281474976710656 - wtL L) : adR L n = 0 := by
  unfold adR
  rw [if_neg (by omega), if_neg (by omega)]
theorem nxt_most {bs : List Nat} {a n : Nat} (hl : bs.length = n) (h : a ≤ 8 * n) : nxt bs a ≤ 8 * n := by
  unfold nxt
  split <;> omega
theorem pack_coins {k n : Nat} {bs : List Nat} (hl : bs.length = n) (L : Lv) (E a : Nat) (h : a ≤ 8 * n) : (pack k bs L E a).2.2 ≤ 8 * n :=
  (pack_ind (fun _ _ b => b ≤ 8 * n) (fun _ _ _ _ _ hp => nxt_most hl hp) _ L E a (Nat.le_refl _) h).1
structure GoodS (k n : Nat) (s : St) : Prop where
  good : Good k s.1 s.2.1
  coins : s.2.2 ≤ 8 * n
theorem GoodS.add {k n : Nat} {bs : List Nat} {s : St} (h : GoodS k n s) (hl : bs.length = n) (v : Int) (m : Nat) : GoodS k n (adS k bs s v m) := by
  unfold adS
  split
  · rename_i hr
    exact ⟨h.good.add bs s.2.2 v m (adR_ok hr).2, pack_coins hl _ _ _ h.coins⟩
  · exact h
theorem adS_wt {k n : Nat} {bs : List Nat} {s : St} {m : Nat} (h : GoodS k n s) (v : Int) (hr : adR s.1 m = 0) : wtL (adS k bs s v m).1 = wtL s.1 + m := by
  have hw := h.good.fine.wt
  have := (adR_ok hr).2
  unfold adS
  rw [if_pos hr, pack_wt, addN_wt _ _ _ (by omega)]
structure Bo (w W : World) (g r gr r2 : Nat) (q : Option Addr) (n c : Nat) (bs : List Nat) (k : Nat) (s t : St) : Prop where
  ex : ∃ own, Th own 0 w W (PK g k s.1 (wtL s.1) s.2.1) ∧ Th own 1 w W (PX r bs s.2.2) ∧ Th own 2 w W (PR gr k t.1 t.2.1) ∧ Th own 3 w W (PC r2 q n c t.2.2)
  fr : Fr S0 w W
  gs : GoodS k n s
  gt : GoodS k n t
structure Bts (w : World) (q : Option Addr) (n : Nat) (bs : List Nat) : Prop where
  sl : SlI w .u8 q bs
  len : bs.length = n
  b8 : ∀ x ∈ bs, x < 256
  few : n ≤ 100000
section
variable {w W W' : World} {g r gr r2 n c k : Nat} {q : Option Addr} {bs : List Nat} {s t : St}
theorem Bo.fr0 (b : Bo w W g r gr r2 q n c bs k s t) (f : Fr S0 W W') : Bo w W' g r gr r2 q n c bs k s t := by
  obtain ⟨own, h1, h2, h3, h4⟩ := b.ex
  exact ⟨⟨own, h1.fr0 (obK _ _ _ _ _) f, h2.fr0 (obX _ _ _) f, h3.fr0 (obR _ _ _ _) f, h4.fr0 (obC _ _ _ _ _) f⟩, b.fr.trans0 f, b.gs, b.gt⟩
theorem Bo.code (b : Bo w W g r gr r2 q n c bs k s t) : ∃ C D, KsS W g C D k s.1 (wtL s.1) s.2.1 := by
  obtain ⟨own, ⟨S, ⟨C, D, h, -⟩, -⟩, -⟩ := b.ex
  exact ⟨C, D, h⟩
theorem Bo.ref (b : Bo w W g r gr r2 q n c bs k s t) : ∃ C D, RkS W gr C D k t.1 t.2.1 := by
  obtain ⟨own, -, -, ⟨S, ⟨C, D, h, -⟩, -⟩, -⟩ := b.ex
  exact ⟨C, D, h⟩
theorem bo_add (b : Bo w W g r gr r2 q n c bs k s t) (hb : Bts w q n bs) (v : Int) (m : Nat) :
    Calls Try.prog 38 #[.pointer (some ⟨g, 0, none⟩), .int .i64 v, .int .u64 (m : Nat), .pointer (some ⟨r, 0, none⟩)] W fun e w' => e = .returned (.int .i64 (adR s.1 m : Nat)) ∧ Bo w w' g r gr r2 q n c bs k (adS k bs s v m) t := by
  obtain ⟨own, h1, h2, h3, h4⟩ := b.ex
  obtain ⟨C, D, rr, ks, x, ap, hS, hC, hX, ht⟩ := Th.code h1 h2 (by decide) b.fr
  have hg := b.gs.good
  have hw := hg.fine.wt
  by_cases hm : m = 0
  · subst hm
    refine (xadd_zero g v W (.pointer (some ⟨r, 0, none⟩))).mono fun e w' hq => ⟨hq.1, ?_⟩
    rw [hq.2]
    exact b
  · by_cases hc : 281474976710656 - wtL s.1 < m
    · have e1 : adR s.1 m = 6 := by unfold adR; rw [if_neg hm, if_pos hc]
      have e2 : adS k bs s v m = s := by unfold adS; rw [e1, if_neg (by decide)]
      rw [e1, e2]
      refine (xadd_cap g k (wtL s.1) s.2.1 m v C D s.1 W ks (.pointer (some ⟨r, 0, none⟩)) hc hw).mono fun e w' hq => ⟨hq.1, ?_⟩
      rw [hq.2]
      exact b
    · have e1 : adR s.1 m = 0 := adR_zero (by omega) (by omega)
      have e2 : adS k bs s v m = pack k bs (addN s.1 v m) s.2.1 s.2.2 := by unfold adS; rw [if_pos e1]
      have hgs := b.gs.add hb.len v m
      have hwt := adS_wt (bs := bs) b.gs v e1
      rw [e1]
      have hl := hb.len
      have hf := hb.few
      refine (xadd_yes g r k (wtL s.1) s.2.1 s.2.2 m v rr C D s.1 bs W ks x ap hg.lo hg.hi hg.fine (by have := hg.kept; omega) (by omega) (by omega) rfl (by omega)).mono fun e w' hq => ⟨hq.1, ?_⟩
      rw [← e2, ← hwt] at hq
      obtain ⟨k1, k2, kf⟩ := ht _ _ _ _ _ hq.2
      obtain ⟨-, -, -, -, hfr, -⟩ := hq.2
      exact ⟨⟨_, k1, k2, h3.keep (obR _ _ _ _) hfr hS (by decide) (by decide) 0, h4.keep (obC _ _ _ _ _) hfr hS (by decide) (by decide) 0⟩, kf, hgs, b.gt⟩
theorem bo_radd (b : Bo w W g r gr r2 q n c bs k s t) (hb : Bts w q n bs) (v : Int) (m : Nat) :
    Calls Try.prog 39 #[.pointer (some ⟨gr, 0, none⟩), .int .i64 v, .int .u64 (m : Nat), .pointer (some ⟨r2, 0, none⟩)] W fun e w' => e = .returned (.int .i64 (adR t.1 m : Nat)) ∧ Bo w w' g r gr r2 q n c bs k s (adS k bs t v m) := by
  obtain ⟨own, h1, h2, h3, h4⟩ := b.ex
  obtain ⟨C, D, ks, x, ap, hS, hC, ht⟩ := Th.ref h3 h4 (by decide) b.fr hb.sl hb.len hb.b8
  have hg := b.gt.good
  have hw := hg.fine.wt
  have hlen := hg.len
  by_cases hm : m = 0
  · subst hm
    refine (radd_zero gr v W (.pointer (some ⟨r2, 0, none⟩))).mono fun e w' hq => ⟨hq.1, ?_⟩
    rw [hq.2]
    exact b
  · by_cases hc : 281474976710656 - wtL t.1 < m
    · have e1 : adR t.1 m = 6 := by unfold adR; rw [if_neg hm, if_pos hc]
      have e2 : adS k bs t v m = t := by unfold adS; rw [e1, if_neg (by decide)]
      rw [e1, e2]
      refine (radd_cap gr k t.2.1 m v C D t.1 W ks (.pointer (some ⟨r2, 0, none⟩)) (by omega) hw hc).mono fun e w' hq => ⟨hq.1, ?_⟩
      rw [hq.2]
      exact b
    · have e1 : adR t.1 m = 0 := adR_zero (by omega) (by omega)
      have e2 : adS k bs t v m = pack k bs (addN t.1 v m) t.2.1 t.2.2 := by unfold adS; rw [if_pos e1]
      have hgs := b.gt.add hb.len v m
      rw [e1]
      have hl := hb.len
      have hf := hb.few
      refine (radd_yes gr r2 k t.2.1 t.2.2 m n c v q C D t.1 bs W ks x ap hg.lo hg.hi hg.fine (by have := hg.kept; omega) hf b.gt.coins (by omega) (by omega)).mono fun e w' hq => ⟨hq.1, ?_⟩
      rw [← e2] at hq
      obtain ⟨k1, k2, kf⟩ := ht _ _ _ _ hq.2
      obtain ⟨-, -, -, -, hfr, -⟩ := hq.2
      exact ⟨⟨_, h1.keep (obK _ _ _ _ _) hfr hS (by decide) (by decide) 2, h2.keep (obX _ _ _) hfr hS (by decide) (by decide) 2, k1, k2⟩, kf, b.gs, hgs⟩
end
theorem bo_start {w W1 W2 W3 W4 : World} {g r gr r2 n c k : Nat} {rr : Option Nat} {C D : Nat → Prop} {q : Option Addr} {bs : List Nat} (f0 : Fr S0 w W1) (hk : 8 ≤ k) (hk2 : k ≤ 4096) (nk : XNew W1 W2 g C D k [] 0 0)
    (e3 : W3 = W2.alloc (.cells #[.int .i64 (k : Nat), .slice none 0 0, .int .u64 0] 36)) (hgr : gr = W2.heap.size) (nx : RdNew W3 W4 r rr bs 0) (hr2 : r2 = W4.heap.size) :
    Bo w (W4.alloc (.cells #[.slice q n c, .int .i64 0] 42)) g r gr r2 q n c bs k ([], 0, 0) ([], 0, 0) := by
  subst e3
  subst hgr
  subst hr2
  obtain ⟨s, f1, hC⟩ := nk
  obtain ⟨x, f2, x1, x2⟩ := nx
  have fa := Fr.alloc S0 W2 (.cells #[.int .i64 (k : Nat), .slice none 0 0, .int .u64 0] 36)
  have fb := Fr.alloc S0 W4 (.cells #[.slice q n c, .int .i64 0] 42)
  have z0 := f0.size
  have z1 := f1.size
  have z2 := f2.size
  rw [World.size_alloc] at x1 z2
  have x2' : ∀ j, rr = some j → W2.heap.size + 1 ≤ j := fun j hj => by have := x2 j hj; rwa [World.size_alloc] at this
  have hgs : GoodS k n ([], 0, 0) := ⟨Good.new hk hk2, Nat.zero_le _⟩
  have hlt := s.below
  refine ⟨⟨fun y => if y < W2.heap.size then 0 else if y = W2.heap.size then 2 else if y < W4.heap.size then 1 else 3, ⟨fun b => C b ∨ D b, ⟨C, D, ((s.fr fa fun _ _ h => h).fr f2 fun _ _ h => h).fr fb fun _ _ h => h, fun _ => Iff.rfl⟩, fun b hb => ?_⟩,
    ⟨fun b => b = r ∨ rr = some b, ⟨rr, x.fr0 fb, fun _ => Iff.rfl⟩, fun b hb => ?_⟩, ⟨fun b => b = W2.heap.size, ⟨fun b => b = W2.heap.size, fun _ => False, ⟨none, 0, 0, [], ?_, World.ownsRow_nil _ _ _ _, Lvs.nil _ _, fun b h => by simp [Value.ownBlock] at h, rfl, fun _ _ h => h, fun b hb => ?_⟩, fun b => by simp⟩, fun b hb => ?_⟩,
    ⟨fun b => b = W4.heap.size, ⟨heap_alloc_new W4 _, fun _ => Iff.rfl⟩, fun b hb => ?_⟩⟩, (((f0.trans0 f1).trans0 fa).trans0 f2).trans0 fb, hgs, hgs⟩
  · have h1 := hC b hb
    have h2 := hlt b hb
    exact ⟨by omega, by dsimp only; rw [if_pos h2]⟩
  · have h1 : W2.heap.size + 1 ≤ b ∧ b < W4.heap.size := by
      rcases hb with rfl | h
      · exact ⟨x1, x.lt⟩
      · exact ⟨x2' b h, x.rlt b h⟩
    exact ⟨by omega, by dsimp only; rw [if_neg (by omega), if_neg (by omega), if_pos (by omega)]⟩
  · exact fb.row (f2.row (heap_alloc_new W2 _) fun h => h) fun h => h
  · rcases hb with rfl | h
    · rw [World.size_alloc]; omega
    · exact h.elim
  · rw [hb]
    exact ⟨by omega, by dsimp only; rw [if_neg (by omega), if_pos rfl]⟩
  · rw [hb]
    exact ⟨by omega, by dsimp only; rw [if_neg (by omega), if_neg (by omega), if_neg (by omega)]⟩
end Go.Proofs.Ytbpfmjekpjfceaa

namespace Go.Proofs.Ytbpfmjekpjfceaa
open Go.RowKit
section
variable {w W : World} {g r gr r2 n c k : Nat} {q : Option Addr} {bs : List Nat} {s t : St}
theorem Bo.lens (b : Bo w W g r gr r2 q n c bs k s t) : (s.1.length ≤ 49 ∧ kept s.1 ≤ 20000 ∧ wtL s.1 ≤ 281474976710656) ∧ 8 ≤ k ∧ k ≤ 4096 := ⟨⟨b.gs.good.len, b.gs.good.kept, b.gs.good.fine.wt⟩, b.gs.good.lo, b.gs.good.hi⟩
theorem bo_ledger (b : Bo w W g r gr r2 q n c bs k s t) : Calls Try.prog 24 #[.pointer (some ⟨g, 0, none⟩)] W fun e w' => e = .returned (.int .u64 (s.2.1 : Nat)) ∧ w' = W := by
  obtain ⟨C, D, h⟩ := b.code
  exact xledger_any _ _ _ _ _ _ _ _ h
theorem kept_mem : ∀ (L : Lv) l, l ∈ L → l.length ≤ kept L
  | [], _, h => nomatch h
  | a :: r, l, h => by
    rcases List.mem_cons.1 h with rfl | h
    · rw [kept]; omega
    · have := kept_mem r l h
      rw [kept]; omega
end
end Go.Proofs.Ytbpfmjekpjfceaa
