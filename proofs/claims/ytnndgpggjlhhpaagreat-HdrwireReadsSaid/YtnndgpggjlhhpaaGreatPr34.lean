/- HwNext, HwPrs -/
import Derived.Test.YtnndgpggjlhhpaaGreatPr1
import Derived.Test.YtnndgpggjlhhpaaGreatPr2
import Derived.Test.YtnndgpggjlhhpaaGreatPr3
import Derived.Test.YtnndgpggjlhhpaaGreatPr4
import Derived.Test.YtnndgpggjlhhpaaGreatPr5
import Derived.Test.YtnndgpggjlhhpaaGreatPr6
import Derived.Test.YtnndgpggjlhhpaaGreatPr7
import Derived.Test.YtnndgpggjlhhpaaGreatPr8
import Derived.Test.YtnndgpggjlhhpaaGreatPr9
import Derived.Test.YtnndgpggjlhhpaaGreatPr10
import Derived.Test.YtnndgpggjlhhpaaGreatPr11
import Derived.Test.YtnndgpggjlhhpaaGreatPr12
import Derived.Test.YtnndgpggjlhhpaaGreatPr13
import Derived.Test.YtnndgpggjlhhpaaGreatPr14
import Derived.Test.YtnndgpggjlhhpaaGreatPr15
import Derived.Test.YtnndgpggjlhhpaaGreatPr16
import Derived.Lib.Repeat
import Derived.StillTailTactics
import Derived.WalkKit
import Derived.Laws.BitsAllLaws
import Derived.Laws.BytesArg
import Derived.Lib.SlBytesConst
import Derived.Maps.AppendAt
import Derived.Laws.AppendOwnNone
import Derived.WalkSpells
import Derived.WalkLawsBesides
import Derived.Deep.QuietTactic
import Derived.BigQuiet
import Derived.RegionTactic
import Derived.Deep.AppendLies
import Derived.Deep.RegionLaw
import Derived.Laws.ResultCell
import Derived.Laws.EntriesVeiled
import Derived.Lib.Hide
import Derived.Test.YtnndgpggjlhhpaaGreatRows
import Derived.Maps.RangeWalk
import Derived.BigRegion
import Derived.Deep.RegionHeld3
import Derived.Deep.CutBlock
import Derived.Deep.DeepCutAuto
import Derived.Deep.CutRange
import Derived.Lib.BitFns
import Derived.Shelf.Small.Bits
import Derived.Shelf.Strconv.Itoa0
import Derived.Shelf.Bits.Mul64
import Derived.Laws.Externs
import Derived.Shelf.Spec.BitsCarry
import Derived.Shelf.SlSortCmp.WholeK
set_option maxRecDepth 100000
set_option maxHeartbeats 8000000
namespace Go.Proofs.YtnndgpggjlhhpaaGreat
open Go.RowKit
def gup : List PanicEntry := [{ v := .iface 102 (.agg #[]), recovered := false }]
theorem hdemand_yes (w : World) :
    Calls Tryz.prog 61 #[.bool true] w fun e w' => e = .returned (.tuple #[]) ∧ w = w' := by
  go_enter Tryz.func61, Tryz.ntmps61
  go_wp2
  go_end0
  exact ⟨rfl, rfl⟩
theorem hdemand_no (w : World) :
    Calls Tryz.prog 61 #[.bool false] w fun e w' => e = Ending.panicked gup ∧ w = w' := by
  go_enter Tryz.func61, Tryz.ntmps61
  go_wp2
  exact ⟨rfl, rfl, rfl⟩
theorem rnew_any (q : Option Addr) (d n : Nat) (l : List Nat) (w : World) (hn : l.length = n) (hl : SlI w .u8 q l) (h8 : ∀ x ∈ l, x < 256) (hq : q = none → d = 0) (hL : n ≤ 1000000) :
    Calls Tryz.prog 64 #[.slice q n d] w fun e w' => ∃ g p c, e = .returned (.pointer (some ⟨g, 0, none⟩)) ∧ wRdIs w' g p c l 0 ∧ w.heap.size ≤ g ∧ Fr S0 w w' := by
  subst hn
  have HC := Lib.hid (clone_any q d l w hl hq (by omega))
  have H8 := Lib.hid h8
  clear hl h8 hq
  go_enter Tryz.func64, Tryz.ntmps64
  go_wp2_with fail
  refine HC.out.mono ?_
  rintro e w1 ⟨v, rfl, f1, r1⟩
  obtain ⟨p, c, rfl, -⟩ := slForm r1.own
  have HR := Lib.hid r1
  have F1 := Lib.hid f1
  clear f1 r1 HC
  go_wp2_with fail
  go_ret
  have hs : SlI w1 .u8 p l := SlI.ofOwns HR.out.own
  have hg : ∀ a, p = some a → a.block < w1.heap.size := fun a ha => by
    by_cases h0 : l = []
    · rcases HR.out.own.2 with ⟨h1, -⟩ | ⟨g', cap, cur, h1, h2⟩
      · subst ha
        simp at h1
      · have h3 := (HR.out.own.lt g' (by rw [h1]; rfl)).2
        subst ha
        simp only [Value.slice.injEq, Option.some.injEq] at h1
        rw [h1.1]
        exact h3
    · exact hs.lt h0 a ha
  exact ⟨w1.heap.size, p, c, rfl, ⟨heap_alloc_new w1 _, hs.fr0 (Fr.alloc _ _ _), fun _ a ha e => Nat.ne_of_lt (hg a ha) e, Nat.zero_le _, H8.out⟩, F1.out.size, F1.out.trans0 (Fr.alloc _ _ _)⟩
def NextEnds (w w' : World) (g : Nat) (p : Option Addr) (c : Nat) (l : List Nat) (at_ : Nat) (e : Ending) : Except Nat (Nat × Nat) → Prop
  | .ok (n, k) => e = .returned (.tuple #[.int .u64 n, .int .i64 0]) ∧ n < 18446744073709551616 ∧ wRdTo w w' g p c l (at_ + k)
  | .error x => e = .returned (.tuple #[.int .u64 0, .int .i64 x]) ∧ (x = 20 ∨ x = 21) ∧ Fr (· = g) w w'
theorem wnext_any (g at_ c : Nat) (p : Option Addr) (l : List Nat) (w : World) (h : wRdIs w g p c l at_) :
    Calls Tryz.prog 143 #[.pointer (some ⟨g, 0, none⟩), .int .u8 110] w fun e w' => NextEnds w w' g p c l at_ e (dec 9 (l.drop at_)) := by
  have HF := Lib.hid (formOf_yes' 9 110 (by decide) rfl w)
  have HG := Lib.hid (fun W (f : Fr S0 w W) => show Calls Tryz.prog 170 #[.pointer (some ⟨g, 0, none⟩), .int .i64 9] W fun e w' => RdPost W w' g p c l at_ e (dec 9 (l.drop at_)) from get_row g at_ c p l W (h.fr f (fun h => h) (fun _ => Off.s0 p)) 9 (by decide))
  have HI := Lib.hid h
  have hen := fun args w => enter_get 9 (by decide) args w
  simp only [show (fRow 9).1 = 110 from rfl, show (fRow 9).2.1 = 9 from rfl, show (fRow 9).2.2.1 = 169 from rfl, show (fRow 9).2.2.2 = 170 from rfl] at HF hen
  generalize dec 9 (l.drop at_) = R at HG ⊢
  clear h
  go_enter Tryz.func143, Tryz.ntmps143
  go_wp2_with fail
  refine HF.out.mono ?_
  rintro e w1 ⟨rfl, f1⟩
  have F1 := Lib.hid f1
  clear f1 HF
  have FA := Lib.hid (F1.out.trans0 (Fr.alloc S0 w1 (.cells #[.int .u8 110, .int .i64 9, .func (.func 169) #[] #[], .func (.func 170) #[] #[]] 99)))
  have hbx := heap_alloc_new w1 (.cells #[.int .u8 110, .int .i64 9, .func (.func 169) #[] #[], .func (.func 170) #[] #[]] 99)
  have c0 := (HI.out.fr FA.out (fun h => h) (fun _ => Off.s0 p)).c1
  rw [Nat.zero_add] at c0
  go_wp2_with fail
  refine (HG.out _ FA.out).mono ?_
  rintro e w3 hR
  cases R with
  | ok a =>
    obtain ⟨n, k⟩ := a
    obtain ⟨rfl, hn, ht⟩ := hR
    have HT := Lib.hid (And.intro hn ht)
    clear ht hn c0 hbx HG hen
    go_wp2_with fail
    go_ret2
    exact ⟨rfl, HT.out.1, HT.out.2.is, (FA.out.mono fun _ _ e => e.elim).trans HT.out.2.fr fun _ _ e => e⟩
  | error x =>
    obtain ⟨rfl, hx, a, ht⟩ := hR
    have HT := Lib.hid ht
    have c1 := ht.is.c1
    have z1 := ht.is.f1
    rw [Nat.zero_add] at c1
    have e1 : ((x : Int) != 0) = true := by rw [bne_iff_ne]; omega
    have HX := Lib.hid hx
    clear ht c0 hbx HG hen hx
    go_wp2_with fail
    go_ret2
    exact ⟨rfl, HX.out, ((FA.out.mono fun _ _ e => e.elim).trans HT.out.fr fun _ _ e => e).trans (Fr.setCell (· = g) _ ⟨g, 1, none⟩ _ rfl) fun _ _ e => e⟩
def ints (n : Nat) : Int := if n < 9223372036854775808 then n else (n : Int) - 18446744073709551616
def HNext (w w' : World) (g : Nat) (p : Option Addr) (c : Nat) (l : List Nat) (at_ : Nat) (e : Ending) : Except Nat (Nat × Nat) → Prop
  | .ok (n, k) => e = .returned (.int .i64 (ints n)) ∧ n < 18446744073709551616 ∧ wRdTo w w' g p c l (at_ + k)
  | .error _ => e = .panicked gup ∧ Fr (· = g) w w'
theorem hnext_any (g at_ c : Nat) (p : Option Addr) (l : List Nat) (w : World) (h : wRdIs w g p c l at_) :
    Calls Tryz.prog 100 #[.pointer (some ⟨g, 0, none⟩)] w fun e w' => HNext w w' g p c l at_ e (dec 9 (l.drop at_)) := by
  have HN := Lib.hid (wnext_any g at_ c p l w h)
  clear h
  generalize dec 9 (l.drop at_) = R at HN ⊢
  go_enter Tryz.func100, Tryz.ntmps100
  go_wp2_with fail
  refine HN.out.mono ?_
  rintro e w1 hR
  cases R with
  | ok a =>
    obtain ⟨n, k⟩ := a
    obtain ⟨rfl, hn, ht⟩ := hR
    have HT := Lib.hid (And.intro hn ht)
    obtain ⟨I, hI⟩ : ∃ I, ints n = I := ⟨_, rfl⟩
    have e1 : IntKind.i64.wrap (n : Int) = I := by rw [← hI, ints, IntKind.wrap_i64]; split <;> omega
    have HII := Lib.hid hI
    clear ht hn HN hI
    go_wp2_with fail
    refine (hdemand_yes _).mono ?_
    rintro e w2 ⟨rfl, rfl⟩
    go_wp2_with fail
    go_ret
    refine ⟨?_, HT.out.1, HT.out.2⟩
    rw [HII.out]
    rfl
  | error x =>
    obtain ⟨rfl, hx, ht⟩ := hR
    have HT := Lib.hid ht
    have e1 : ((x : Int) == 0) = false := by rw [beq_eq_false_iff_ne]; omega
    clear ht HN hx
    go_wp2_with fail
    refine (hdemand_no _).mono ?_
    rintro e w2 ⟨rfl, rfl⟩
    exact ⟨rfl, rfl, HT.out⟩
end Go.Proofs.YtnndgpggjlhhpaaGreat

namespace Go.Proofs.YtnndgpggjlhhpaaGreat
open Go.RowKit
theorem min_ints (n : Nat) (h : n < 18446744073709551616) : min (ints n) (-1) = -(stepN n : Int) ∧ stepN n ≤ 9223372036854775808 := by
  unfold ints stepN
  split <;> split <;> omega
theorem ints_pos (n : Nat) (h : n < 18446744073709551616) : (0 < n ∧ n < 9223372036854775808) ↔ 0 < ints n := by
  unfold ints
  split <;> omega
def rdAt (w : World) (g : Nat) : Nat := match w.cell? ⟨g, 1, none⟩ with
  | some (.int _ x) => x.toNat
  | _ => 0
theorem wRdIs.rdAt {w : World} {g : Nat} {p : Option Addr} {c : Nat} {l : List Nat} {a : Nat} (h : wRdIs w g p c l a) : rdAt w g = a := by
  have c1 := h.c1
  rw [Nat.zero_add] at c1
  unfold Go.Proofs.YtnndgpggjlhhpaaGreat.rdAt
  rw [c1]
  rfl
def ApR (v : Value) (g : Nat) (p : Option Addr) (l : List Nat) : Prop := ∀ k, v.ownBlock = some k → k ≠ g ∧ (l ≠ [] → ∀ a, p = some a → a.block ≠ k)
theorem ApR.app {w : World} {v : Value} {g : Nat} {p : Option Addr} {l : List Nat} {g3 c3 n : Nat} (h : ApR v g p l) (hat : v.ownBlock = some g3 ∨ g3 = w.heap.size + 1) (hg : g < w.heap.size) (hp : l ≠ [] → ∀ a, p = some a → a.block < w.heap.size) : ApR (.slice (some ⟨g3, 0, none⟩) n c3) g p l := fun k hk => by
  have e : g3 = k := by simpa [Value.ownBlock] using hk
  subst e
  rcases hat with h1 | h1
  · exact h _ h1
  · exact ⟨by omega, fun hl a ha => by have := hp hl a ha; omega⟩
theorem wRdIs.lt {w : World} {g : Nat} {p : Option Addr} {c : Nat} {l : List Nat} {a : Nat} (h : wRdIs w g p c l a) : g < w.heap.size := (Array.getElem?_eq_some_iff.1 h.blk).1
def PairsEnds (w0 w' : World) (e : Ending) : Option (List Pr) → Prop
  | some L => ∃ q N d, e = .returned (.slice q N d) ∧ Acc w0 w' (.slice q N d) N L
  | none => e = .panicked gup ∧ Fr S0 w0 w'
theorem map_cons (o : Option (List Pr)) (L : List Pr) (x : Pr) : (o.map fun l => x :: l).map (L ++ ·) = o.map ((L ++ [x]) ++ ·) := by
  cases o <;> simp
theorem hpairs_any (w0 w : World) (g c C : Nat) (p : Option Addr) (l : List Nat) (hr : wRdIs w g p c l 0) (hf : Fr S0 w0 w) (hg : w0.heap.size ≤ g) (hC : C ≤ 8519680) (hl : l.length ≤ 1000000) :
    Calls Tryz.prog 63 #[.pointer (some ⟨g, 0, none⟩), .int .i64 (C : Nat)] w fun e w' => PairsEnds w0 w' e (rdp C (l.length + 1) 0 l) := by
  have HROOM : Hid (∀ k, k ≤ 1000001 → Room k) := Lib.hid fun k hk => Room.mk (by omega)
  obtain ⟨T, hT⟩ : ∃ T, rdp C (l.length + 1) 0 l = T := ⟨_, rfl⟩
  rw [hT]
  obtain ⟨LN, hLN⟩ : ∃ LN, l.length = LN := ⟨_, rfl⟩
  rw [hLN] at hT hl
  have HI0 : Hid (wRdIs w g p c l 0 ∧ Fr S0 w0 w ∧ rdp C (LN + 1) 0 l = T ∧ l.length = LN ∧ w0.heap.size ≤ g) := Lib.hid ⟨hr, hf, hT, hLN, hg⟩
  clear hr hf hT hLN hg
  go_enter Tryz.func63, Tryz.ntmps63
  go_wp2_with fail
  go_loopw [5, 6] (fun v a wr => ∃ (off A N : Nat) (q : Option Addr) (d : Nat), a = .int .i64 (A : Nat) ∧ v = .slice q N d ∧ A ≤ C ∧ N ≤ off ∧ off ≤ LN ∧ Hid (wRdIs wr g p c l off ∧ (∃ f L, Acc w0 wr (.slice q N d) N L ∧ LN - off < f ∧ T = (rdp C f A (l.drop off)).map (L ++ ·)) ∧ ApR (.slice q N d) g p l)) (fun _ _ wr => LN - rdAt wr g)
  case atStart => exact ⟨0, 0, 0, none, 0, rfl, rfl, Nat.zero_le _, Nat.le_refl _, Nat.zero_le _, Lib.hid ⟨HI0.out.1, ⟨LN + 1, [], .nil HI0.out.2.1, by omega, by rw [List.drop_zero, HI0.out.2.2.1]; cases T <;> simp⟩, fun k hk => by simp [Value.ownBlock] at hk⟩⟩
  case round =>
    obtain ⟨off, A, N, q, d, rfl, rfl, hAC, hNo, hoL, HI⟩ := hrel
    have HL := Lib.hid (wleft_any g off c p l wr HI.out.1)
    rw [HI0.out.2.2.2.1] at HL
    go_wp2_with fail
    refine HL.out.mono ?_
    rintro e w1 ⟨rfl, k1, rfl⟩
    obtain ⟨R, hR⟩ : ∃ R, LN - off = R := ⟨_, rfl⟩
    have e1 : (LN : Int) - (off : Int) = (R : Int) := by omega
    have hRb : R ≤ 1000000 := by omega
    rw [e1]
    have HI1 : Hid (wRdIs (wr.drewN k1) g p c l off) := Lib.hid (HI.out.1.drewN k1).is
    have HM0 : Hid (LN - rdAt wr g = R) := Lib.hid (by rw [HI.out.1.rdAt, hR])
    by_cases hz : R = 0
    · have HF : Hid (∃ L, Acc w0 (wr.drewN k1) (.slice q N d) N L ∧ T = some L) := Lib.hid (by
        obtain ⟨f, L, ha, hf, ht⟩ := HI.out.2.1
        obtain ⟨f, rfl⟩ : ∃ f', f = f' + 1 := ⟨f - 1, by omega⟩
        refine ⟨L, ha.fr0 (Fr.drewN _ _ _), ?_⟩
        rw [ht, List.drop_eq_nil_of_le (by rw [HI0.out.2.2.2.1]; omega), rdp, if_pos rfl]
        simp)
      subst hz
      clear HL HM0 e1 hR
      go_wp2_with fail
      go_ret
      obtain ⟨L, ha, ht⟩ := HF.out
      rw [ht]
      exact ⟨q, N, d, rfl, ha⟩
    · have hp : decide (0 < R) = true := decide_eq_true (by omega)
      have HN := Lib.hid (hnext_any g off c p l (wr.drewN k1) HI1.out)
      have HD9 : Hid (∀ n u, dec 9 (l.drop off) = .ok (n, u) → 1 ≤ u ∧ off + u ≤ LN) := Lib.hid fun n u h => by
        have h1 := dec9_pos (fun x hx => HI.out.1.bd x (List.mem_of_mem_drop hx)) h
        rw [List.length_drop, HI0.out.2.2.2.1] at h1
        omega
      have HNE : Hid (l.drop off ≠ []) := Lib.hid (fun e => by
        have := congrArg List.length e
        rw [List.length_drop, HI0.out.2.2.2.1] at this
        simp only [List.length_nil] at this
        omega)
      obtain ⟨DC, hDC⟩ : ∃ DC, dec 9 (l.drop off) = DC := ⟨_, rfl⟩
      have HDC := Lib.hid hDC
      rw [hDC] at HN HD9
      clear HL hDC
      go_wp2_with fail
      refine HN.out.mono ?_
      rintro e w2 hE
      cases DC with
      | error x =>
        obtain ⟨rfl, f2⟩ := hE
        have HF : Hid (T = none) := Lib.hid (by
          obtain ⟨f, L, ha, hf, ht⟩ := HI.out.2.1
          obtain ⟨f, rfl⟩ : ∃ f', f = f' + 1 := ⟨f - 1, by omega⟩
          rw [ht, rdp, if_neg HNE.out, HDC.out]
          rfl)
        have HFR : Hid (Fr S0 w0 w2) := Lib.hid (by
          obtain ⟨f, L, ha, -⟩ := HI.out.2.1
          exact (ha.fr.trans0 (Fr.drewN _ _ _)).trans f2 fun j hj e => by
            have h1 := HI0.out.2.2.2.2
            have h2 : j = g := e
            omega)
        refine ⟨rfl, ?_⟩
        rw [HF.out]
        exact ⟨rfl, HFR.out⟩
      | ok a =>
        obtain ⟨n, u⟩ := a
        obtain ⟨rfl, hn, ht⟩ := hE
        have HT := Lib.hid ht
        have HU := Lib.hid (HD9.out n u rfl)
        have hmn := min_ints n hn
        have hpos := ints_pos n hn
        have hIN : 0 < ints n → ints n = (n : Int) := fun h => by unfold ints at h ⊢; split <;> split at h <;> omega
        have hIb : -9223372036854775808 ≤ ints n ∧ ints n < 9223372036854775808 := by unfold ints; split <;> omega
        obtain ⟨K, hK⟩ : ∃ K, stepN n = K := ⟨_, rfl⟩
        obtain ⟨I, hI⟩ : ∃ I, ints n = I := ⟨_, rfl⟩
        have HKS := Lib.hid hK
        have HST : Hid (∀ f, rdp C (f + 1) A (l.drop off) = if C < A + K then none else if 0 < n ∧ n < 9223372036854775808 then (rdp C f (A + K) (l.drop (off + u))).map fun l => ((A : Int), n) :: l else rdp C f (A + K) (l.drop (off + u))) := Lib.hid fun f => by
          rw [rdp, if_neg HNE.out, HDC.out]
          simp only [hK, List.drop_drop]
        rw [hK, hI] at hmn
        rw [hI] at hpos hIN hIb ⊢
        obtain ⟨MN, hMN⟩ : ∃ MN : Int, -(K : Int) = MN := ⟨_, rfl⟩
        obtain ⟨DD, hDD⟩ : ∃ DD : Int, (A : Int) - (C : Int) = DD := ⟨_, rfl⟩
        rw [hMN] at hmn
        obtain ⟨em, hKb⟩ := hmn
        have em2 : (if I < -1 then I else -1) = MN := by split <;> omega
        have hFR : Hid (Fr S0 w0 w2 ∧ Fr (· = g) wr w2) := Lib.hid (by
          have f2 : Fr (· = g) wr w2 := ((Fr.drewN S0 wr k1).mono fun _ _ e => e.elim).trans HT.out.fr fun _ _ e => e
          obtain ⟨f, L, ha, -⟩ := HI.out.2.1
          exact ⟨ha.fr.trans f2 fun j hj e => by
            have h1 := HI0.out.2.2.2.2
            have h2 : j = g := e
            omega, f2⟩)
        have hMb : -9223372036854775808 ≤ MN ∧ MN ≤ 0 := by omega
        have hDb : -8519680 ≤ DD ∧ DD ≤ 0 := by omega
        by_cases hc : C < A + K
        · have e5 : decide (DD ≤ MN) = false := decide_eq_false (by omega)
          have HF : Hid (T = none) := Lib.hid (by
            obtain ⟨f, L, ha, hf, ht⟩ := HI.out.2.1
            obtain ⟨f, rfl⟩ : ∃ f', f = f' + 1 := ⟨f - 1, by omega⟩
            rw [ht, HST.out, if_pos hc]
            rfl)
          clear hpos hIN HN hK hI ht hMN hc hKb hn
          go_wp2_with fail
          refine (hdemand_no _).mono ?_
          rintro e w3 ⟨rfl, rfl⟩
          refine ⟨rfl, ?_⟩
          rw [HF.out]
          exact ⟨rfl, hFR.out.1⟩
        · have e5 : decide (DD ≤ MN) = true := decide_eq_true (by omega)
          obtain ⟨A2, hA2⟩ : ∃ A2, A + K = A2 := ⟨_, rfl⟩
          have e6 : (A : Int) - MN = (A2 : Int) := by omega
          have hA2C : A2 ≤ C := by omega
          have hMb2 : -8519680 ≤ MN ∧ MN ≤ 0 := by omega
          have HG2 := Lib.hid hFR.out.2
          have HOL : Hid (off + u ≤ LN ∧ 1 ≤ u) := Lib.hid ⟨HU.out.2, HU.out.1⟩
          have HM2 : Hid (LN - rdAt w2 g < R) := Lib.hid (by rw [HT.out.is.rdAt]; have := HU.out; omega)
          by_cases hp0 : 0 < n ∧ n < 9223372036854775808
          · have hI0 : 0 < I := hpos.1 hp0
            have e7 : decide (0 < I) = true := decide_eq_true hI0
            have eIn := hIN hI0
            have HNX : Hid (∃ f L, Acc w0 w2 (.slice q N d) N L ∧ LN - (off + u) < f ∧ T = (rdp C f A2 (l.drop (off + u))).map ((L ++ [((A : Int), n)]) ++ ·)) := Lib.hid (by
              obtain ⟨f, L, ha, hf, ht⟩ := HI.out.2.1
              obtain ⟨f, rfl⟩ : ∃ f', f = f' + 1 := ⟨f - 1, by omega⟩
              refine ⟨f, L, ⟨HG2.out.owns ha.own fun k hk e => ?_, ha.fresh, hFR.out.1⟩, by have := HU.out; omega, ?_⟩
              · have h2 : k = g := e
                exact (HI.out.2.2 k hk).1 h2
              · rw [ht, HST.out, if_neg hc, if_pos hp0, map_cons, hA2])
            have HRM : Hid (Room (N + 1)) := Lib.hid (HROOM.out _ (by omega))
            have HAP := Lib.hid HI.out.2.2
            obtain ⟨f, L, ha, hf, ht2⟩ := HNX.out
            have HA := Lib.hid ha
            have HFT := Lib.hid (And.intro hf ht2)
            clear hpos hIN HN hI ht hMN hKb hp0 hI0 HNX ha hf ht2
            have e8 : IntKind.u64.wrap (I : Int) = (n : Int) := by rw [IntKind.wrap_u64, eIn]; omega
            have hng : 0 ≤ I := by omega
            clear eIn hn
            go_wp2_with fail
            refine (hdemand_yes _).mono ?_
            rintro e w2' ⟨rfl, rfl⟩
            go_wp2_with (at_builtin; refine app_one elPr (.tmp 24) (.tmp 29) rfl HA.out.own rfl rfl rfl rfl rfl (one_pr _ _) HRM.out ?_; intro g3 cap3 w3 hown hgrow hat hlt3)
            have HA3 := Lib.hid (HA.out.app (n := n) (k := (A : Int)) hown hgrow hat)
            have HR3 : Hid (wRdIs w3 g p c l (off + u)) := Lib.hid ((HT.out.is.fr (Fr.alloc S0 _ _) (fun h => h) (fun _ => Off.s0 p)).fr (Fr.grown hgrow) (fun e => (HAP.out g e).1 rfl) (fun hl a ha e => (HAP.out _ e).2 hl a ha rfl))
            have HP3 : Hid (ApR (.slice (some ⟨g3, 0, none⟩) (N + 1) cap3) g p l) := Lib.hid (HAP.out.app hat HT.out.is.lt (fun hl => HT.out.is.sl.lt hl))
            have HM3 : Hid (LN - rdAt w3 g < R) := Lib.hid (by rw [HR3.out.rdAt]; have := HU.out; omega)
            clear hown hgrow hat hlt3
            go_wp2_with fail
            go_roundw
            case rel => exact ⟨off + u, A2, N + 1, some ⟨g3, 0, none⟩, cap3, by first | rfl | go_num, rfl, hA2C, by have := HOL.out; omega, HOL.out.1, Lib.hid ⟨HR3.out, ⟨f, L ++ [((A : Int), n)], HA3.out, HFT.out.1, HFT.out.2⟩, HP3.out⟩⟩
            case measure => have h1 := HM3.out; have h2 := HM0.out; omega
          · have hI0 : ¬ 0 < I := fun h => hp0 (hpos.2 h)
            have e7 : decide (0 < I) = false := decide_eq_false hI0
            have HNX : Hid (∃ f L, Acc w0 w2 (.slice q N d) N L ∧ LN - (off + u) < f ∧ T = (rdp C f A2 (l.drop (off + u))).map (L ++ ·)) := Lib.hid (by
              obtain ⟨f, L, ha, hf, ht⟩ := HI.out.2.1
              obtain ⟨f, rfl⟩ : ∃ f', f = f' + 1 := ⟨f - 1, by omega⟩
              refine ⟨f, L, ⟨HG2.out.owns ha.own fun k hk e => ?_, ha.fresh, hFR.out.1⟩, by have := HU.out; omega, ?_⟩
              · have h2 : k = g := e
                exact (HI.out.2.2 k hk).1 h2
              · rw [ht, HST.out, if_neg hc, if_neg hp0, hA2])
            have HAP := Lib.hid HI.out.2.2
            clear hpos hIN HN hI ht hMN hKb hp0 hI0 hn
            go_wp2_with fail
            refine (hdemand_yes _).mono ?_
            rintro e w2' ⟨rfl, rfl⟩
            go_wp2_with fail
            go_roundw
            case rel => exact ⟨off + u, A2, N, q, d, by first | rfl | go_num, rfl, hA2C, by have := HOL.out; omega, HOL.out.1, Lib.hid ⟨HT.out.is, HNX.out, HAP.out⟩⟩
            case measure => have h1 := HM2.out; have h2 := HM0.out; omega
end Go.Proofs.YtnndgpggjlhhpaaGreat
