/- DdLoad -/
import Derived.Test.YtaemgflhgdlmiaaGreatPw1
import Derived.Test.YtaemgflhgdlmiaaGreatPw2
import Derived.Test.YtaemgflhgdlmiaaGreatPw4
import Derived.Test.YtaemgflhgdlmiaaGreatPw5
import Derived.Test.YtaemgflhgdlmiaaGreatPw6
import Derived.Test.YtaemgflhgdlmiaaGreatPw7
import Derived.Test.YtaemgflhgdlmiaaGreatPw8
import Derived.Test.YtaemgflhgdlmiaaGreatPw9
import Derived.Test.YtaemgflhgdlmiaaGreatPw10
import Derived.Test.YtaemgflhgdlmiaaGreatPw11
import Derived.Test.YtaemgflhgdlmiaaGreatPw12
import Derived.Test.YtaemgflhgdlmiaaGreatPw13
import Derived.Test.YtaemgflhgdlmiaaGreatPw14
import Derived.Test.YtaemgflhgdlmiaaGreatPw15
import Derived.Test.YtaemgflhgdlmiaaGreatPw16
import Derived.Test.YtaemgflhgdlmiaaGreatPw17
import Derived.Test.YtaemgflhgdlmiaaGreatPw18
import Derived.Test.YtaemgflhgdlmiaaGreatPw19
import Derived.Test.YtaemgflhgdlmiaaGreatPw20
import Derived.Test.YtaemgflhgdlmiaaGreatPw21
import Derived.Test.YtaemgflhgdlmiaaGreatPw22
import Derived.Test.YtaemgflhgdlmiaaGreatPw23
import Derived.Test.YtaemgflhgdlmiaaGreatPw24
import Derived.Test.YtaemgflhgdlmiaaGreatPw25
import Derived.Test.YtaemgflhgdlmiaaGreatPw26
import Derived.Test.YtaemgflhgdlmiaaGreatPw27
import Derived.Test.YtaemgflhgdlmiaaGreatPw28
import Derived.WalkKit
import Derived.WalkSpells
import Derived.WalkLawsBesides
import Derived.Deep.QuietTactic
import Derived.BigQuiet
import Derived.RegionTactic
import Derived.Deep.AppendLies
import Derived.Deep.RegionLaw
import Derived.Laws.ResultCell
import Derived.Laws.EntriesVeiled
import Derived.Lib.Hide
import Derived.Test.YtaemgflhgdlmiaaGreatRows
import Derived.Deep.RegionHeld3
import Derived.Maps.AppendAt
import Derived.Lib.SliceRun
import Derived.StillTailTactics
import Derived.BigRegion
import Derived.Laws.BytesArg
import Derived.Lib.SlBytesConst
import Derived.Laws.AppendOwnNone
import Derived.Laws.Externs
import Derived.Shelf.Spec.BitsCarry
import Derived.Deep.CutBlock
import Derived.Deep.CutRange
import Derived.Deep.DeepCutAuto
import Derived.Lib.BitFns
import Derived.Shelf.Small.Bits
import Derived.Shelf.Strconv.Itoa0
import Derived.Shelf.Bits.Mul64
import Derived.Lib.AppendZeros
import Derived.Laws.CopyOwn
import Derived.Lib.Overlaps
import Derived.Lib.AppendZerosOnto
import Derived.Laws.OwnMore
import Derived.Shelf.SlSortCmp.WholeK
set_option maxRecDepth 100000
set_option maxHeartbeats 8000000
namespace Go.Proofs.YtaemgflhgdlmiaaGreat
open Go.RowKit
def SpanP (A : Nat) (l : List Pr) (f : Nat) : Prop := ∀ h : 0 < l.length, - (sN A : Int) ≤ l[0].1 - (if f = 0 then 0 else 1) ∧ (l[l.length - 1]'(by omega)).1 ≤ (sN A : Int)
structure DdOk (A m : Nat) (l : List Pr) (f : Nat) : Prop where
  a1 : 100 ≤ A
  a2 : A ≤ 5000
  ld : LdOk m l f
  sp : SpanP A l f
theorem SpanP.all {A f : Nat} {l : List Pr} (h : SpanP A l f) (hs : Srt l) : ∀ x ∈ l, - (sN A : Int) ≤ x.1 ∧ x.1 ≤ (sN A : Int) := by
  intro x hx
  obtain ⟨i, hi, rfl⟩ := List.getElem_of_mem hx
  have h1 := h (by omega)
  have h2 := srt_le hs (by omega : 0 < l.length) hi (Nat.zero_le i)
  have h3 := srt_le hs hi (by omega : l.length - 1 < l.length) (by omega)
  split at h1 <;> omega
theorem DdOk.made {A m f : Nat} {l : List Pr} (h : DdOk A m l f) : ∃ a, Good a ∧ cutN a m = l ∧ cutA a m = f ∧ ∀ x ∈ a, - (sN A : Int) ≤ x.1 ∧ x.1 ≤ (sN A : Int) := by
  obtain ⟨a, h1, h2, h3, h4⟩ := h.ld.made
  refine ⟨a, h1, h2, h3, h4 _ (h.sp.all h.ld.good.srt) fun hf x t e => ?_⟩
  subst e
  have := (h.sp (by simp)).1
  rw [if_neg hf] at this
  exact this
theorem DdOk.of {A m : Nat} {a : List Pr} (ok : Good a) (m2 : 2 ≤ m) (m3 : m ≤ 4096) (a1 : 100 ≤ A) (a2 : A ≤ 5000) (ks : ∀ x ∈ a, - (sN A : Int) ≤ x.1 ∧ x.1 ≤ (sN A : Int)) : DdOk A m (cutN a m) (cutA a m) := by
  refine ⟨a1, a2, LdOk.of ok m2 m3, fun h => ⟨?_, ?_⟩⟩
  · obtain ⟨y, hy, e⟩ := cut_mem ok.srt ok.pos (by omega : 1 ≤ m) (List.getElem_mem h)
    rw [← e]
    by_cases hf : cutA a m = 0
    · rw [if_pos hf]
      have := (ks y hy).1
      omega
    · rw [if_neg hf]
      obtain ⟨hlen, ⟨z, hz, hzk⟩, x, t, hcons, htk, htn⟩ := hk_above ok.srt ok.pos (by omega) hf
      have e2 : (cutN a m)[0].1 = x.1 := by
        have : (cutN a m)[0]? = some x := by rw [hcons]; rfl
        rw [Option.some.inj ((List.getElem?_eq_getElem h).symm.trans this)]
      have := (ks z hz).1
      omega
  · obtain ⟨y, hy, e⟩ := cut_mem ok.srt ok.pos (by omega : 1 ≤ m) (List.getElem_mem (by omega : (cutN a m).length - 1 < (cutN a m).length))
    rw [← e]
    exact (ks y hy).2
section
variable (g h s A m n c f : Nat) (p : Option Addr) (l : List Pr) (a : List Pr) (w : World)
theorem dspans_any (k : SkIs w g h s A m a) (hp : PrI w p l) (hn : l.length = n) (hg : Good l) :
    Calls Tryz.prog 90 #[.pointer (some ⟨g, 0, none⟩), .slice p n c, .int .u64 (f : Nat)] w fun e w' => ∃ b, e = .returned (.bool b) ∧ (b = true ↔ SpanP A l f) ∧ Fr S0 w w' := by
  obtain ⟨q, d, sc⟩ := k.sc
  have hN := sN_le k.a1 k.a2
  by_cases h0 : n = 0
  · subst h0
    have HS : Hid (SpanP A l f) := Lib.hid fun h => by omega
    clear k hp hn hg sc
    go_enter Tryz.func90, Tryz.ntmps90
    go_wp2_with fail
    go_ret
    exact ⟨true, rfl, ⟨fun _ => HS.out, fun _ => rfl⟩, Fr.refl _ _⟩
  · have hl0 : 0 < l.length := by omega
    have hl1 : l.length - 1 < l.length := by omega
    obtain ⟨b, o, rfl, d0, -⟩ := hp.at 0 hl0
    obtain ⟨b', o', hp', e0, -⟩ := hp.at (l.length - 1) hl1
    simp only [Option.some.injEq, Addr.mk.injEq] at hp'
    obtain ⟨rfl, rfl, -⟩ := hp'
    have hk0 := hg.all _ (List.getElem_mem hl0)
    have hk1 := hg.all _ (List.getElem_mem hl1)
    have HSP : Hid (SpanP A l f ↔ - (sN A : Int) ≤ l[0].1 - (if f = 0 then 0 else 1) ∧ (l[l.length - 1]'hl1).1 ≤ (sN A : Int)) := Lib.hid ⟨fun h => h hl0, fun h _ => h⟩
    have HL := Lib.hid (fun W (f : Fr S0 w W) => sclen_any g A d q W (sc.fr0 f))
    obtain ⟨LO, eLO⟩ : ∃ LO, l[0].1 = LO := ⟨_, rfl⟩
    obtain ⟨HI, eHI⟩ : ∃ HI, (l[l.length - 1]'hl1).1 = HI := ⟨_, rfl⟩
    rw [eLO] at d0 hk0 HSP
    rw [eHI] at e0 hk1 HSP
    obtain ⟨N, eN⟩ : ∃ N, sN A = N := ⟨_, rfl⟩
    rw [eN] at HSP HL hN
    obtain ⟨r, hr⟩ : ∃ r, l.length - 1 = r := ⟨_, rfl⟩
    rw [hr] at e0
    simp only [Nat.zero_mul, Nat.add_zero] at d0
    have hnr : (n : Int) - 1 = (r : Int) := by omega
    have hrn : (r : Int) < (n : Int) := by omega
    have hn0 : ((n : Int) == 0) = false := by rw [beq_eq_false_iff_ne]; omega
    have hnp : (0 : Int) < (n : Int) := by omega
    have hnb : (n : Int) < 9223372036854775808 := by have := hp.len; unfold maxLen at this; omega
    have hNb : (N : Int) ≤ 4410 := by omega
    obtain ⟨lo, elo⟩ : ∃ lo, LO - (if f = 0 then 0 else 1) = lo := ⟨_, rfl⟩
    rw [elo] at HSP
    have hlob : -1048577 ≤ lo ∧ lo ≤ 1048576 := by split at elo <;> omega
    obtain ⟨x, hx⟩ : ∃ x, decide (- (N : Int) ≤ lo) = x := ⟨_, rfl⟩
    obtain ⟨y, hy⟩ : ∃ y, decide (HI ≤ (N : Int)) = y := ⟨_, rfl⟩
    have HX := Lib.hid hx
    have HY := Lib.hid hy
    clear k hp hn hg sc eLO eHI eN hr h0
    by_cases hf : f = 0
    · subst hf
      rw [if_pos rfl] at elo
      obtain rfl : lo = LO := by omega
      clear elo
      cases x with
      | false =>
        have HE : Hid ((false = true) ↔ SpanP A l 0) := Lib.hid ⟨fun h => (by cases h), fun h => absurd (HSP.out.1 h).1 (of_decide_eq_false HX.out)⟩
        clear hy
        go_enter Tryz.func90, Tryz.ntmps90
        go_wp2_with fail
        go_quiet (fail)
        go_wp2_with fail
        refine (HL.out _ (Fr.drewN _ _ _)).mono ?_
        rintro e w1 ⟨rfl, rfl⟩
        go_wp2_with fail
        go_ret
        exact ⟨false, rfl, HE.out, Fr.drewN _ _ _⟩
      | true =>
        have HE : Hid ((y = true) ↔ SpanP A l 0) := Lib.hid (by rw [HSP.out, ← HY.out, decide_eq_true_iff]; exact ⟨fun h => ⟨of_decide_eq_true HX.out, h⟩, fun h => h.2⟩)
        go_enter Tryz.func90, Tryz.ntmps90
        go_wp2_with fail
        go_quiet (fail)
        go_wp2_with fail
        refine (HL.out _ (Fr.drewN _ _ _)).mono ?_
        rintro e w1 ⟨rfl, rfl⟩
        go_wp2_with fail
        refine (HL.out _ (Fr.drewN _ _ _)).mono ?_
        rintro e w1 ⟨rfl, rfl⟩
        go_wp2_with fail
        go_ret
        exact ⟨y, rfl, HE.out, Fr.drewN _ _ _⟩
    · rw [if_neg hf] at elo
      have hfp : (0 : Int) < (f : Int) := by omega
      have hfp2 : 0 < f := by omega
      cases x with
      | false =>
        have HE : Hid ((false = true) ↔ SpanP A l f) := Lib.hid ⟨fun h => (by cases h), fun h => absurd (HSP.out.1 h).1 (of_decide_eq_false HX.out)⟩
        clear hy
        go_enter Tryz.func90, Tryz.ntmps90
        go_wp2_with fail
        go_quiet (fail)
        go_wp2_with fail
        refine (HL.out _ (Fr.drewN _ _ _)).mono ?_
        rintro e w1 ⟨rfl, rfl⟩
        go_wp2_with fail
        go_ret
        exact ⟨false, rfl, HE.out, Fr.drewN _ _ _⟩
      | true =>
        have HE : Hid ((y = true) ↔ SpanP A l f) := Lib.hid (by rw [HSP.out, ← HY.out, decide_eq_true_iff]; exact ⟨fun h => ⟨of_decide_eq_true HX.out, h⟩, fun h => h.2⟩)
        go_enter Tryz.func90, Tryz.ntmps90
        go_wp2_with fail
        go_quiet (fail)
        go_wp2_with fail
        refine (HL.out _ (Fr.drewN _ _ _)).mono ?_
        rintro e w1 ⟨rfl, rfl⟩
        go_wp2_with fail
        refine (HL.out _ (Fr.drewN _ _ _)).mono ?_
        rintro e w1 ⟨rfl, rfl⟩
        go_wp2_with fail
        go_ret
        exact ⟨y, rfl, HE.out, Fr.drewN _ _ _⟩
end
section
variable (A m n c f : Nat) (p : Option Addr) (l : List Pr) (w : World)
theorem seven_set {w : World} {g : Nat} {v0 v1 v2 v3 v4 v5 v6 : Value} {t : TypeId} (h : w.heap[g]? = some (.cells #[v0, v1, v2, v3, v4, v5, v6] t (0, 0))) (x2 x3 x4 x5 x6 : Value) :
    (w.cell? ⟨g, 2, none⟩ = some v2 ∧ w.frozen? ⟨g, 2, none⟩ = false) ∧
    ((w.setCell ⟨g, 2, none⟩ x2).cell? ⟨g, 3, none⟩ = some v3 ∧ (w.setCell ⟨g, 2, none⟩ x2).frozen? ⟨g, 3, none⟩ = false) ∧
    (((w.setCell ⟨g, 2, none⟩ x2).setCell ⟨g, 3, none⟩ x3).cell? ⟨g, 4, none⟩ = some v4 ∧ ((w.setCell ⟨g, 2, none⟩ x2).setCell ⟨g, 3, none⟩ x3).frozen? ⟨g, 4, none⟩ = false) ∧
    ((((w.setCell ⟨g, 2, none⟩ x2).setCell ⟨g, 3, none⟩ x3).setCell ⟨g, 4, none⟩ x4).cell? ⟨g, 5, none⟩ = some v5 ∧ (((w.setCell ⟨g, 2, none⟩ x2).setCell ⟨g, 3, none⟩ x3).setCell ⟨g, 4, none⟩ x4).frozen? ⟨g, 5, none⟩ = false) ∧
    (((((w.setCell ⟨g, 2, none⟩ x2).setCell ⟨g, 3, none⟩ x3).setCell ⟨g, 4, none⟩ x4).setCell ⟨g, 5, none⟩ x5).cell? ⟨g, 6, none⟩ = some v6 ∧ ((((w.setCell ⟨g, 2, none⟩ x2).setCell ⟨g, 3, none⟩ x3).setCell ⟨g, 4, none⟩ x4).setCell ⟨g, 5, none⟩ x5).frozen? ⟨g, 6, none⟩ = false) ∧
    (((((w.setCell ⟨g, 2, none⟩ x2).setCell ⟨g, 3, none⟩ x3).setCell ⟨g, 4, none⟩ x4).setCell ⟨g, 5, none⟩ x5).setCell ⟨g, 6, none⟩ x6).heap[g]? = some (.cells #[v0, v1, x2, x3, x4, x5, x6] t (0, 0)) := by
  have h2 : (w.setCell ⟨g, 2, none⟩ x2).heap[g]? = some (.cells #[v0, v1, x2, v3, v4, v5, v6] t (0, 0)) := by rw [heap_setCell_same w g 2 _ _ _ h]; rfl
  have h3 : ((w.setCell ⟨g, 2, none⟩ x2).setCell ⟨g, 3, none⟩ x3).heap[g]? = some (.cells #[v0, v1, x2, x3, v4, v5, v6] t (0, 0)) := by rw [heap_setCell_same _ g 3 _ _ _ h2]; rfl
  have h4 : (((w.setCell ⟨g, 2, none⟩ x2).setCell ⟨g, 3, none⟩ x3).setCell ⟨g, 4, none⟩ x4).heap[g]? = some (.cells #[v0, v1, x2, x3, x4, v5, v6] t (0, 0)) := by rw [heap_setCell_same _ g 4 _ _ _ h3]; rfl
  have h5 : ((((w.setCell ⟨g, 2, none⟩ x2).setCell ⟨g, 3, none⟩ x3).setCell ⟨g, 4, none⟩ x4).setCell ⟨g, 5, none⟩ x5).heap[g]? = some (.cells #[v0, v1, x2, x3, x4, x5, v6] t (0, 0)) := by rw [heap_setCell_same _ g 5 _ _ _ h4]; rfl
  refine ⟨?_, ?_, ?_, ?_, ?_, by rw [heap_setCell_same _ g 6 _ _ _ h5]; rfl⟩
  · clear h2 h3 h4 h5
    simp [World.cell?, World.frozen?, h]
  · clear h h3 h4 h5
    generalize w.setCell ⟨g, 2, none⟩ x2 = W at *
    simp [World.cell?, World.frozen?, h2]
  · clear h h2 h4 h5
    generalize (w.setCell ⟨g, 2, none⟩ x2).setCell ⟨g, 3, none⟩ x3 = W at *
    simp [World.cell?, World.frozen?, h3]
  · clear h h2 h3 h5
    generalize ((w.setCell ⟨g, 2, none⟩ x2).setCell ⟨g, 3, none⟩ x3).setCell ⟨g, 4, none⟩ x4 = W at *
    simp [World.cell?, World.frozen?, h4]
  · clear h h2 h3 h4
    generalize (((w.setCell ⟨g, 2, none⟩ x2).setCell ⟨g, 3, none⟩ x3).setCell ⟨g, 4, none⟩ x4).setCell ⟨g, 5, none⟩ x5 = W at *
    simp [World.cell?, World.frozen?, h5]
def LoadEnds (A m : Nat) (l : List Pr) (f : Nat) (w w' : World) (e : Ending) : Prop :=
  (DdOk A m l f ∧ ∃ a g h s, e = .returned (.tuple #[.pointer (some ⟨g, 0, none⟩), .int .i64 0]) ∧ NewSk w w' g h s A m a ∧ cutN a m = l ∧ cutA a m = f) ∨ (¬ DdOk A m l f ∧ e = .returned (.tuple #[.pointer none, .int .i64 1]) ∧ Fr S0 w w')
theorem ddload_any (hp : PrI w p l) (hn : l.length = n) (hc : p = none → c = 0) (hs : Srt l) (h64 : ∀ x ∈ l, x.2 < 18446744073709551616) (hA : A < 9223372036854775808) (hm : m < 9223372036854775808) :
    Calls Tryz.prog 66 #[.int .i64 (A : Nat), .int .i64 (m : Nat), .slice p n c, .int .u64 (f : Nat)] w fun e w' => LoadEnds A m l f w w' e := by
  by_cases hbad : (A : Int) < 100 ∨ 5000 < (A : Int) ∨ (m : Int) < 2 ∨ 4096 < (m : Int)
  · have H := Lib.hid (ddnew_no A m w hbad)
    have HNO : Hid (¬ DdOk A m l f) := Lib.hid fun h => by
      have := h.a1
      have := h.a2
      have := h.ld.m2
      have := h.ld.m3
      omega
    clear hp hn hc hs h64 hA hm hbad
    go_enter Tryz.func66, Tryz.ntmps66
    go_wp2_with fail
    refine H.out.mono ?_
    rintro e w1 ⟨rfl, f1⟩
    have F1 := Lib.hid f1
    clear f1
    go_wp2_with fail
    go_ret2
    exact .inr ⟨HNO.out, rfl, F1.out⟩
  · have a1 : 100 ≤ A := by omega
    have a2 : A ≤ 5000 := by omega
    have H := Lib.hid (ddnew_yes A m w a1 a2 (by omega) (by omega))
    have HAA := Lib.hid (And.intro a1 a2)
    clear hbad hA a1 a2
    by_cases hld : LdOk m l f
    · obtain ⟨a, ha⟩ := hld.made
      have HM := Lib.hid ha
      have HL := Lib.hid (fun W (f9 : Fr S0 w W) => K.load_any p n c m a W ha.1 hld.m2 hld.m3 (by rw [ha.2.1]; exact hp.fr0 f9) (by rw [ha.2.1]; exact hn) hc)
      rw [ha.2.2.1] at HL
      have HSP := Lib.hid (fun g h s W (k : SkIs W g h s A m []) (f9 : Fr S0 w W) => dspans_any g h s A m n c f p l [] W k (hp.fr0 f9) hn hld.good)
      have HLD := Lib.hid hld
      clear hp hn hc hs h64 hm hld ha
      go_enter Tryz.func66, Tryz.ntmps66
      go_wp2_with fail
      refine H.out.mono ?_
      rintro e w1 ⟨g, h, s, rfl, hk⟩
      have HK := Lib.hid hk
      have HL1 := Lib.hid (HL.out _ hk.fr)
      clear hk HL H
      go_wp2_with fail
      refine HL1.out.mono ?_
      rintro e w2 ⟨gk, hh, rfl, hnew⟩
      have HW := Lib.hid hnew
      have HSP2 := Lib.hid (HSP.out g h s _ (HK.out.is.fr0 hnew.fr) (HK.out.fr.trans0 hnew.fr))
      clear hnew HL1 HSP
      go_wp2_with fail
      refine HSP2.out.mono ?_
      rintro e w3 ⟨b, rfl, hb, f3⟩
      have HB := Lib.hid hb
      have F3 := Lib.hid f3
      clear HSP2 hb
      cases b with
      | false =>
        have HNO : Hid (¬ DdOk A m l f) := Lib.hid fun h => by have := HB.out.2 h.sp; cases this
        have F9 := Lib.hid ((HK.out.fr.trans0 HW.out.fr).trans0 f3)
        clear f3 HB HK HW HM HLD
        go_wp2_with fail
        go_ret2
        exact .inr ⟨HNO.out, rfl, F9.out⟩
      | true =>
        have hok : DdOk A m l f := ⟨HAA.out.1, HAA.out.2, HLD.out, HB.out.1 rfl⟩
        have hks : ∀ x ∈ a, - (sN A : Int) ≤ x.1 ∧ x.1 ≤ (sN A : Int) := HM.out.2.2.2 _ (hok.sp.all hok.ld.good.srt) fun hf x t e => by
          have hsp := hok.sp
          rw [e] at hsp
          have := (hsp (by simp)).1
          rw [if_neg hf] at this
          exact this
        obtain ⟨sp, sc, ⟨k0, col⟩, ht, hsp⟩ := HK.out.is.ex
        obtain ⟨pz, nz, cz, Tz, rz⟩ := col.is.cells
        obtain ⟨k, ck⟩ := HW.out.is
        obtain ⟨q, N, d, so⟩ := ck.is
        have rk := so.raw.fr0 f3
        have r0 := rk.cb
        have r1 := rk.c0
        have r2 := rk.c1
        have r3 := rk.ck
        have r4 := rk.cf
        obtain ⟨T, hT⟩ : ∃ T, ltot (cutN a m) = T := ⟨_, rfl⟩
        have hF := HM.out.2.2.1
        rw [hT] at r2
        simp only [hF] at r0 r3 r4
        have hb7 := ((rz.fr0 HW.out.fr).fr0 f3).blk
        simp only at hb7
        obtain ⟨⟨x2, z2⟩, ⟨x3, z3⟩, ⟨x4, z4⟩, ⟨x5, z5⟩, ⟨x6, z6⟩, hb9⟩ := seven_set hb7 (.int .i64 (m : Int)) (.slice q N d) (.int .u64 (T : Int)) (.int .i64 k) (.int .u64 (f : Int))
        have HEND : Hid (NewSk w (((((w3.setCell ⟨g, 2, none⟩ (.int .i64 (m : Int))).setCell ⟨g, 3, none⟩ (.slice q N d)).setCell ⟨g, 4, none⟩ (.int .u64 (T : Int))).setCell ⟨g, 5, none⟩ (.int .i64 k)).setCell ⟨g, 6, none⟩ (.int .u64 (f : Int))) g hh s A m a) := Lib.hid (by
          have ff : Fr (· = g) w3 (((((w3.setCell ⟨g, 2, none⟩ (.int .i64 (m : Int))).setCell ⟨g, 3, none⟩ (.slice q N d)).setCell ⟨g, 4, none⟩ (.int .u64 (T : Int))).setCell ⟨g, 5, none⟩ (.int .i64 k)).setCell ⟨g, 6, none⟩ (.int .u64 (f : Int))) :=
            ((((Fr.setCell (· = g) _ _ _ rfl).trans (Fr.setCell (· = g) _ _ _ rfl) fun _ _ h => h).trans (Fr.setCell (· = g) _ _ _ rfl) fun _ _ h => h).trans (Fr.setCell (· = g) _ _ _ rfl) fun _ _ h => h).trans (Fr.setCell (· = g) _ _ _ rfl) fun _ _ h => h
          have hgl := HK.out.is.gl
          have hsl := HK.out.is.sl
          have hsg := HK.out.is.sg
          have g0 := HK.out.g0
          have s0 := HK.out.s0
          have hw0 := HW.out.h0
          have hws := HK.out.fr.size
          refine ⟨⟨⟨sp, sc, ⟨k, ?_, ck.key, ck.ok, ck.m2, ck.m3⟩, ((ht.fr0 HW.out.fr).fr0 f3).fr ff (fun y hy e => ?_), hsp⟩, hsg, by omega, HAA.out.1, HAA.out.2, hks⟩, g0, by omega, Nat.lt_of_lt_of_le HW.out.hl (Nat.le_trans f3.size ff.size), s0, ((HK.out.fr.trans0 HW.out.fr).trans0 f3).trans ff fun x hx e => (by have : x = g := e; omega)⟩
          · refine ⟨q, N, d, ⟨by rw [hT, hF]; exact hb9⟩, ff.owns (f3.owns so.own fun _ _ h => h) (fun b hb e => ?_), so.row, fun _ => by omega, so.ok⟩
            cases q with
            | none => cases hb
            | some x =>
              have e1 := so.row x rfl
              have e2 : x.block = b := Option.some.inj hb
              have e3 : b = g := e
              omega
          · have e1 := hsp y hy
            have e3 : y.block = g := e
            omega)
        have HOK := Lib.hid (And.intro hok (And.intro HM.out.2.1 hF))
        clear f3 HB HK HW HM HLD hok hks col rz ck so rk hb7 hb9 ht hsp hT hF F3 HAA
        go_wp2_with fail
        go_ret2
        exact .inl ⟨HOK.out.1, a, g, hh, s, rfl, HEND.out, HOK.out.2.1, HOK.out.2.2⟩
    · have HNO : Hid (¬ DdOk A m l f) := Lib.hid fun h => hld h.ld
      have HL := Lib.hid (fun W (f9 : Fr S0 w W) => kload_no p n c m f l W (hp.fr0 f9) hn hc hs h64 hm hld)
      clear hp hn hc hs h64 hm hld
      go_enter Tryz.func66, Tryz.ntmps66
      go_wp2_with fail
      refine H.out.mono ?_
      rintro e w1 ⟨g, h, s, rfl, hk⟩
      have F1 := Lib.hid hk.fr
      have HL1 := Lib.hid (HL.out _ hk.fr)
      clear hk HL H
      go_wp2_with fail
      refine HL1.out.mono ?_
      rintro e w2 ⟨rfl, f2⟩
      have F2 := Lib.hid (F1.out.trans0 f2)
      clear f2 HL1
      go_wp2_with fail
      go_ret2
      exact .inr ⟨HNO.out, rfl, F2.out⟩
end
end Go.Proofs.YtaemgflhgdlmiaaGreat
