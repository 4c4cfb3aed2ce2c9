/- KlAlive -/
import Derived.Test.YtbpfmjekpjfceaaPm1
import Derived.Test.YtbpfmjekpjfceaaPm2
import Derived.Test.YtbpfmjekpjfceaaPm3
import Derived.Test.YtbpfmjekpjfceaaPm4
import Derived.Test.YtbpfmjekpjfceaaPm6
import Derived.Test.YtbpfmjekpjfceaaPm7
import Derived.Test.YtbpfmjekpjfceaaPm8
import Derived.Test.YtbpfmjekpjfceaaPm9
import Derived.Test.YtbpfmjekpjfceaaPm10
import Derived.Test.YtbpfmjekpjfceaaPm11
import Derived.Test.YtbpfmjekpjfceaaPm12
import Derived.Test.YtbpfmjekpjfceaaPm13
import Derived.Test.YtbpfmjekpjfceaaPm14
import Derived.Test.YtbpfmjekpjfceaaPm16
import Derived.Test.YtbpfmjekpjfceaaPm17
import Derived.Test.YtbpfmjekpjfceaaPm18
import Derived.Test.YtbpfmjekpjfceaaPm19
import Derived.Test.YtbpfmjekpjfceaaPm20
import Derived.Test.YtbpfmjekpjfceaaPm21
import Derived.Test.YtbpfmjekpjfceaaPm22
import Derived.Test.YtbpfmjekpjfceaaPm23
import Derived.Test.YtbpfmjekpjfceaaPm24
import Derived.Test.YtbpfmjekpjfceaaPm25
import Derived.Test.YtbpfmjekpjfceaaPm26
import Derived.Maps.AppendAt
import Derived.Laws.AppendOwnNone
import Derived.Laws.OwnMore
import Derived.Lib.AppendZerosOnto
import Derived.Lib.SliceRun
import Derived.Lib.Walk
import Derived.WalkKit
import Derived.Laws.BytesArg
import Derived.Lib.SlBytesConst
import Derived.WalkSpells
import Derived.WalkLawsBesides
import Derived.Deep.QuietTactic
import Derived.BigQuiet
import Derived.RegionTactic
import Derived.Deep.AppendLies
import Derived.Deep.RegionLaw
import Derived.Laws.ResultCell
import Derived.Laws.EntriesVeiled
import Derived.Lib.Hide
import Derived.Test.YtbpfmjekpjfceaaRows
import Derived.Laws.Externs
import Derived.Shelf.Spec.BitsCarry
import Derived.Deep.CutBlock
import Derived.Deep.CutRange
import Derived.Deep.DeepCutAuto
import Derived.Lib.BitFns
import Derived.Shelf.Small.Bits
import Derived.Shelf.Strconv.Itoa0
import Derived.Shelf.Bits.Mul64
import Derived.Deep.RegionHeld3
import Derived.BigRegion
import Derived.Shelf.SlSortCmp.WholeK
import Derived.Laws.BitsAllLaws
import Derived.Deep.LoopGhost
import Derived.RangeFuncNested
import Derived.RangeFuncBound
import Derived.RangeFuncCalls
import Derived.RangeFuncLeaves
import Derived.Shelf.Abstract
import Derived.Shelf.RegionOpen
import Derived.OwnWalkIn
import Derived.TacticsInMore
import Derived.LoopNIn
import Derived.LoopIn
import Derived.StillTailTactics
set_option maxRecDepth 100000
set_option maxHeartbeats 8000000
namespace Go.Proofs.Ytbpfmjekpjfceaa
open Go.RowKit
theorem KsS.below {w : World} {g k T E : Nat} {C D : Nat → Prop} {L : Lv} (s : KsS w g C D k L T E) : ∀ b, C b ∨ D b → b < w.heap.size := let ⟨_, _, _, _, s⟩ := s; s.below
def exS : Nat → Lv × Nat × Nat
  | 0 => ([], 0, 0)
  | i + 1 => pack 8 [1] (addN (exS i).1 ((i : Int) + 1) 1) (exS i).2.1 (exS i).2.2
theorem exS_9 : exS 9 = ([[9], [2, 4, 6, 8]], 1, 1) := by decide +kernel
theorem exS_ok : ∀ i, i ≤ 9 → (exS i).1.length ≤ 49 ∧ kept (exS i).1 ≤ 900000 ∧ Fine (exS i).1 (exS i).2.1 ∧ wtL (exS i).1 = i
  | 0, _ => ⟨by decide, by decide, ⟨trivial, by decide, by decide, (fun _ h => nomatch h), by decide⟩, rfl⟩
  | i + 1, hi => by
    obtain ⟨h1, h2, h3, h4⟩ := exS_ok i (by omega)
    have hf := fine_addN h3 ((i : Int) + 1) 1 (by omega) h2
    have hf2 : Fine (exS (i + 1)).1 (exS (i + 1)).2.1 := ⟨pack_top _ _ _ _ _ hf.top, by rw [exS, pack_wt]; exact hf.wt, Nat.le_trans (pack_kept _ _ _ _ _) hf.kept, pack_asc _ _ _ _ _ hf.asc, (pack_ledger _ _ _ _ _ hf.led).2⟩
    have hw : wtL (exS (i + 1)).1 = i + 1 := by rw [exS, pack_wt, addN_wt _ _ _ (by decide), h4]
    refine ⟨top_len hf2.top hf2.wt, ?_, hf2, hw⟩
    have := kept_wt (exS (i + 1)).1
    omega
structure Cx (w W : World) (g r k : Nat) (bs : List Nat) (L : Lv) (T E a : Nat) : Prop where
  ex : ∃ C D rr, KsS W g C D k L T E ∧ RdIs W r rr bs a ∧ Xap W r rr C D ∧ (∀ b, C b ∨ D b → w.heap.size ≤ b) ∧ w.heap.size ≤ r ∧ ∀ j, rr = some j → w.heap.size ≤ j
  fr : Fr S0 w W
theorem Cx.fr0 {w W W' : World} {g r k T E a : Nat} {bs : List Nat} {L : Lv} (x : Cx w W g r k bs L T E a) (f : Fr S0 W W') : Cx w W' g r k bs L T E a := by
  obtain ⟨C, D, rr, s, x1, ap, h1, h2, h3⟩ := x.ex
  exact ⟨⟨C, D, rr, s.fr f fun _ _ h => h, x1.fr0 f, ap.later f.size (fun _ h => .inl h) (fun _ h => .inl h), h1, h2, h3⟩, x.fr.trans0 f⟩
theorem Cx.turn {w W : World} {g r k T E a : Nat} {bs : List Nat} {L : Lv} (x : Cx w W g r k bs L T E a) : ∃ C D rr, KsS W g C D k L T E ∧ RdIs W r rr bs a ∧ Xap W r rr C D ∧ ∀ W' L' T' E' a', XpTurn W W' g r rr C D k L' T' E' bs a' → Cx w W' g r k bs L' T' E' a' := by
  obtain ⟨C, D, rr, s, x1, ap, h1, h2, h3⟩ := x.ex
  refine ⟨C, D, rr, s, x1, ap, fun W' L' T' E' a' t => ?_⟩
  obtain ⟨C', D', s', x', f', t1, t2⟩ := t
  refine ⟨⟨C', D', rr, s', x', ap.later f'.size t1 t2, fun b hb => ?_, h2, h3⟩, x.fr.trans f' fun y hy h => ?_⟩
  · have : (C b ∨ D b) ∨ W.heap.size ≤ b := by
      rcases hb with h | h
      · exact (t1 b h).imp .inl id
      · exact (t2 b h).imp .inr id
    rcases this with h | h
    · exact h1 b h
    · exact Nat.le_trans x.fr.size h
  · have := h.elim (fun h => h1 y (.inl h)) fun h => by rw [h]; exact h2
    omega
theorem Cx.start {w W1 W2 : World} {g r k : Nat} {rr : Option Nat} {C D : Nat → Prop} {bs : List Nat} (n : XNew w W1 g C D k [] 0 0) (x : RdNew W1 W2 r rr bs 0) : Cx w W2 g r k bs [] 0 0 0 := by
  obtain ⟨s, f1, h1⟩ := n
  obtain ⟨x1, f2, h2, h3⟩ := x
  have hs := f1.size
  refine ⟨⟨C, D, rr, s.fr f2 fun _ _ h => h, x1, ⟨fun h => ?_, fun h => ?_, x1.lt, fun j hj => ⟨fun h => ?_, x1.rlt j hj⟩⟩, h1, by omega, fun j hj => by have := h3 j hj; omega⟩, f1.trans0 f2⟩
  · have := s.below r (.inl h); omega
  · have := s.below r (.inr h); omega
  · have h4 := s.below j (.inl h)
    have h5 := h3 j hj
    omega
theorem sl_one (w : World) (t : TypeId) : SlI (w.alloc (.cells #[.int .u8 1] t)) .u8 (some ⟨w.heap.size, 0, none⟩) [1] := by
  refine ⟨by decide, fun _ => ⟨w.heap.size, 0, rfl, fun i hi => ?_⟩⟩
  obtain rfl : i = 0 := by simpa using hi
  have h := heap_alloc_new w (.cells #[.int .u8 1] t)
  unfold World.cell?
  rw [h]
  rfl
theorem sz_lit (w : World) (l : List Int) (n : Nat) (hn : l.length = n) (hm : n ≤ 1000) : Sz (w.alloc (.cells (zs l).toArray 2)) (some ⟨w.heap.size, 0, none⟩) n n l := by
  refine ⟨hn, fun _ => ⟨w.heap.size, 0, rfl, fun i hi => ?_⟩, Nat.le_refl _, by unfold maxLen; omega, fun h => (by cases h), fun _ => ⟨_, _, rfl⟩⟩
  have h := heap_alloc_new w (.cells (zs l).toArray 2)
  unfold World.cell?
  rw [h]
  simp [zs, hi]
theorem rows_lit (w : World) (a b : List Int) (n m : Nat) (hn : a.length = n) (hm : b.length = m) (h1 : n ≤ 1000) (h2 : m ≤ 1000) (t : TypeId) :
    Rows (((w.alloc (.cells (zs a).toArray 2)).alloc (.cells (zs b).toArray 2)).alloc (.cells #[.slice (some ⟨w.heap.size, 0, none⟩) n n, .slice (some ⟨w.heap.size + 1, 0, none⟩) m m] t)) (some ⟨w.heap.size + 1 + 1, 0, none⟩) 2 2 [a, b] := by
  have z1 := sz_lit w a n hn h1
  have z2 := sz_lit (w.alloc (.cells (zs a).toArray 2)) b m hm h2
  rw [World.size_alloc] at z2
  have f2 := Fr.alloc S0 (w.alloc (.cells (zs a).toArray 2)) (.cells (zs b).toArray 2)
  have f3 := Fr.alloc S0 ((w.alloc (.cells (zs a).toArray 2)).alloc (.cells (zs b).toArray 2)) (.cells #[.slice (some ⟨w.heap.size, 0, none⟩) n n, .slice (some ⟨w.heap.size + 1, 0, none⟩) m m] t)
  have hh := heap_alloc_new ((w.alloc (.cells (zs a).toArray 2)).alloc (.cells (zs b).toArray 2)) (.cells #[.slice (some ⟨w.heap.size, 0, none⟩) n n, .slice (some ⟨w.heap.size + 1, 0, none⟩) m m] t)
  rw [World.size_alloc, World.size_alloc] at hh
  refine ⟨rfl, fun h hl => ?_, Nat.le_refl _⟩
  rcases (by simpa using hl : h < 2) with hlt
  rcases (by omega : h = 0 ∨ h = 1) with rfl | rfl
  · exact ⟨_, 0, rfl, _, _, _, by unfold World.cell?; rw [hh]; rfl, (z1.fr0 f2).fr0 f3⟩
  · exact ⟨_, 0, rfl, _, _, _, by unfold World.cell?; rw [hh]; rfl, z2.fr0 f3⟩
theorem alive_any (w : World) : Calls Try.prog 12 #[] w fun e w' => e = .returned (.bool true) ∧ Fr S0 w w' := by
  have HNW := Lib.hid (xnew_yes 8 w (by omega) (by omega))
  rw [show ((8 : Nat) : Int) = 8 from rfl] at HNW
  go_enter Try.func12, Try.ntmps12
  go_wp2_with fail
  refine HNW.out.mono ?_
  rintro e w1 ⟨rfl, nw⟩
  obtain ⟨g, hg⟩ : ∃ g, w.heap.size = g := ⟨_, rfl⟩
  rw [hg] at nw ⊢
  have HN := Lib.hid nw
  have HG := Lib.hid hg
  have HNC := Lib.hid (fun W t (e : W = w1.alloc (.cells #[.int .u8 1] t)) => by
    have := xnewcoins_any (some ⟨w1.heap.size, 0, none⟩) 1 [1] W (by rw [e]; exact sl_one w1 t) (by decide) (fun h => by cases h) (by decide)
    exact this)
  clear nw hg HNW
  go_wp2_with fail
  refine (HNC.out _ _ rfl).mono ?_
  rintro e w2 ⟨r, rr, rfl, nx⟩
  have HX0 : Hid (Cx w w2 g r 8 [1] (exS 0).1 0 (exS 0).2.1 (exS 0).2.2) := Lib.hid (by
    obtain ⟨s, f1, h1⟩ := HN.out
    have fa := Fr.alloc S0 w1 (.cells #[.int .u8 1] 5)
    exact Cx.start ⟨s.fr fa fun _ _ h => h, f1.trans0 fa, h1⟩ nx)
  clear nx HNC HN
  go_wp2_with fail
  go_loopw [4] (fun z wr => ∃ i : Nat, z = .int .i64 ((i : Nat) + 1) ∧ i ≤ 9 ∧ Hid (Cx w wr g r 8 [1] (exS i).1 i (exS i).2.1 (exS i).2.2)) (fun z _ => (10 - intOf z).toNat)
  case atStart => exact ⟨0, rfl, by omega, HX0⟩
  case round =>
    obtain ⟨i, rfl, hi, hx⟩ := hrel
    by_cases hlt : i < 9
    · obtain ⟨C, D, rr1, s, x, ap, ht⟩ := hx.out.turn
      obtain ⟨h1, h2, h3, h4⟩ := exS_ok i hi
      have HA := Lib.hid (xadd_yes g r 8 i (exS i).2.1 (exS i).2.2 1 ((i : Int) + 1) rr1 C D (exS i).1 [1] wr s x ap (by omega) (by omega) h3 h2 (by decide) (by omega) h4.symm (by omega))
      rw [show ((1 : Nat) : Int) = 1 from rfl] at HA
      have HTT := Lib.hid ht
      have hi2 : (i : Int) + 1 < 10 := by omega
      clear s x ap ht h1 h2 h3 h4
      go_wp2_with fail
      refine HA.out.mono ?_
      rintro e w3 ⟨rfl, t3⟩
      have HX3 : Hid (Cx w w3 g r 8 [1] (exS (i + 1)).1 (i + 1) (exS (i + 1)).2.1 (exS (i + 1)).2.2) := Lib.hid (HTT.out _ _ _ _ _ t3)
      clear t3 HA HTT
      go_wp2_with fail
      go_roundw
      case rel => exact ⟨i + 1, by go_num, by omega, HX3⟩
      case measure => simp [intOf]; omega
    · obtain rfl : i = 9 := by omega
      rw [exS_9] at hx
      obtain ⟨C, D, rr1, s, x, -, -, -, -⟩ := hx.out.ex
      have hw9 : wtL [[9], [2, 4, 6, 8]] = 9 := by decide
      have HAT := Lib.hid (xat_yes g 8 9 1 1 2 C D [[9], [2, 4, 6, 8]] wr s hw9.symm (by omega) (by decide) (by decide) (by decide) (by decide))
      rw [show rkR 1 2 9 = 5 from by decide, show atV [[9], [2, 4, 6, 8]] 5 = 6 from by decide, show ((1 : Nat) : Int) = 1 from rfl, show ((2 : Nat) : Int) = 2 from rfl] at HAT
      have HLV := Lib.hid (fun W (f : Fr S0 wr W) => xlevels_any g 8 9 1 C D [[9], [2, 4, 6, 8]] W (s.fr f fun _ _ h => h) (by decide) (by decide))
      have HLE := Lib.hid (fun W (f : Fr S0 wr W) => xledger_any g 8 9 1 C D [[9], [2, 4, 6, 8]] W (s.fr f fun _ _ h => h))
      have HLF := Lib.hid (fun W (f : Fr S0 wr W) => xleft_any r rr1 [1] 1 W (x.fr0 f) (by decide))
      clear s x hw9
      go_wp2_with fail
      refine HAT.out.mono ?_
      rintro e w4 ⟨rfl, f4⟩
      have F4 := Lib.hid f4
      clear f4 HAT
      go_wp2_with fail
      refine (HLV.out _ F4.out).mono ?_
      rintro e w5 ⟨u, rfl, lo⟩
      obtain ⟨pl, cl, rfl, rw5⟩ := lo.rows
      have F5 := Lib.hid (F4.out.trans0 lo.fr)
      have RW5 := Lib.hid rw5
      clear lo rw5 HLV
      have HSM : Hid (∀ (W : World) (t : TypeId), W = ((w5.alloc (.cells (zs [9]).toArray 2)).alloc (.cells (zs [2, 4, 6, 8]).toArray 2)).alloc (.cells #[.slice (some ⟨w5.heap.size, 0, none⟩) 1 1, .slice (some ⟨w5.heap.size + 1, 0, none⟩) 4 4] t) →
          Calls Try.prog 42 #[.slice pl 2 cl, .slice (some ⟨w5.heap.size + 1 + 1, 0, none⟩) 2 2] W fun e w' => e = .returned (.bool true) ∧ Fr S0 wr w') := Lib.hid fun W t e => by
        subst e
        have fa := ((Fr.alloc S0 w5 (.cells (zs [9]).toArray 2)).trans0 (Fr.alloc S0 _ (.cells (zs [2, 4, 6, 8]).toArray 2))).trans0 (Fr.alloc S0 _ (.cells #[.slice (some ⟨w5.heap.size, 0, none⟩) 1 1, .slice (some ⟨w5.heap.size + 1, 0, none⟩) 4 4] t))
        have h := rsame_any pl (some ⟨w5.heap.size + 1 + 1, 0, none⟩) 2 2 cl 2 [[9], [2, 4, 6, 8]] [[9], [2, 4, 6, 8]] _ (RW5.out.fr0 fa) (rows_lit w5 [9] [2, 4, 6, 8] 1 4 rfl rfl (by decide) (by decide) t) (by decide) (by decide) (by decide) (by decide)
        refine h.mono fun e w' hq => ⟨hq.1, (F5.out.trans0 fa).trans0 hq.2⟩
      go_wp2_with fail
      refine (HSM.out _ _ rfl).mono ?_
      rintro e w6 ⟨rfl, f6⟩
      have F6 := Lib.hid f6
      clear f6 HSM
      go_wp2_with fail
      refine (HLE.out _ F6.out).mono ?_
      rintro e w7 ⟨rfl, rfl⟩
      go_wp2_with fail
      refine (HLF.out _ F6.out).mono ?_
      rintro e w8 ⟨rfl, f8⟩
      have F8 := Lib.hid (F6.out.trans0 f8)
      clear f8
      go_wp2_with fail
      go_ret
      exact ⟨rfl, hx.out.fr.trans0 F8.out⟩
end Go.Proofs.Ytbpfmjekpjfceaa
