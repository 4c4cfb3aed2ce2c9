/- DgLoad -/
import Derived.Test.YtmieeoceckcnkaaPn1
import Derived.Test.YtmieeoceckcnkaaPn2
import Derived.Test.YtmieeoceckcnkaaPn4
import Derived.Test.YtmieeoceckcnkaaPn5
import Derived.Test.YtmieeoceckcnkaaPn6
import Derived.Test.YtmieeoceckcnkaaPn7
import Derived.Test.YtmieeoceckcnkaaPn8
import Derived.Test.YtmieeoceckcnkaaPn9
import Derived.Test.YtmieeoceckcnkaaPn10
import Derived.Deep.RegionLaw
import Derived.Deep.RegionHeld3
import Derived.BigRegion
import Derived.Maps.AppendAt
import Derived.Laws.AppendOwnNone
import Derived.Laws.OwnMore
import Derived.Lib.AppendZerosOnto
import Derived.Lib.SliceRun
import Derived.Lib.Walk
import Derived.Laws.Externs
import Derived.Shelf.Spec.BitsCarry
import Derived.Deep.CutBlock
import Derived.Deep.CutRange
import Derived.Deep.DeepCutAuto
import Derived.Lib.BitFns
import Derived.Shelf.Small.Bits
import Derived.Shelf.Strconv.Itoa0
import Derived.Shelf.Bits.Mul64
import Derived.Test.YtmieeoceckcnkaaRows
import Derived.WalkKit
import Derived.WalkSpells
import Derived.WalkLawsBesides
import Derived.Deep.QuietTactic
import Derived.BigQuiet
import Derived.RegionTactic
import Derived.Deep.AppendLies
import Derived.Laws.ResultCell
import Derived.Laws.EntriesVeiled
import Derived.Lib.Hide
import Derived.Laws.BytesArg
import Derived.Lib.SlBytesConst
import Derived.StillTailTactics
set_option maxRecDepth 100000
set_option maxHeartbeats 8000000
namespace Go.Proofs.Ytmieeoceckcnkaa
open Go.RowKit
structure LoadOk (D : Nat) (lo hi : Int) (L W : List Tm) : Prop where
  len : W.length < D
  ris : Ris L
  fit : ∀ t ∈ L ++ W, Fit lo hi t
  tot : wts (L ++ W) ≤ 281474976710656
  emp : L ++ W = [] → lo = 0 ∧ hi = 0
def LoadEnds (D : Nat) (lo hi : Int) (L W : List Tm) (w : World) (e : Ending) (w' : World) : Prop :=
  (LoadOk D lo hi L W ∧ ∃ g, e = .returned (.tuple #[.pointer (some ⟨g, 0, none⟩), .int .i64 0]) ∧ NewD w w' g { d := D, L := L, W := W, lo := lo, hi := hi }) ∨
    (¬ LoadOk D lo hi L W ∧ e = .returned (.tuple #[.pointer none, .int .i64 1]) ∧ Fr S0 w w')
section
variable (g : Nat) (p : Option Addr) (n c : Nat) (q : Option Addr) (m e : Nat) (A B : List Tm) (w : World)
theorem means_raw (h1 : w.cell? ⟨g, 1, none⟩ = some (.slice p n c)) (h2 : w.cell? ⟨g, 2, none⟩ = some (.slice q m e)) (hA : Sl w p n c A) (hB : Sl w q m e B) (hN : n + m ≤ 1000000000000) :
    Calls Try.prog 51 #[.pointer (some ⟨g, 0, none⟩)] w fun e w' => ∃ v, e = .returned v ∧ Acc 68 w w' v (n + m) (A ++ B) := by
  have HC := Lib.hid (fun W (f : Fr S0 w W) => And.intro (f.cell h1 fun h => h) (f.cell h2 fun h => h))
  have HCA := Lib.hid (fun W (f : Fr S0 (w.alloc (.cells #[.slice p n c, .slice q m e] 57)) W) => show Calls Try.prog 58 #[.slice (some ⟨w.heap.size, 0, none⟩) 2 2] W (fun e w' => ∃ v, e = .returned v ∧ Acc 68 w w' v (n + m) (A ++ B)) from by
    have hb := heap_alloc_new w (.cells #[.slice p n c, .slice q m e] 57)
    obtain ⟨k0, k1, -, -⟩ := two_facts (f.row hb fun h => h)
    have f2 := (Fr.alloc S0 w (.cells #[.slice p n c, .slice q m e] 57)).trans0 f
    refine (concat_any w.heap.size n m c e p q A B _ k0 k1 (hA.fr0 f2) (hB.fr0 f2) hN).mono ?_
    rintro e1 w' ⟨v, rfl, ha⟩
    exact ⟨v, rfl, ha.from f2⟩)
  obtain ⟨k0, k1⟩ := HC.out _ (Fr.refl _ _)
  clear hN hA hB h1 h2
  go_enter Try.func51, Try.ntmps51
  go_wp2_with fail
  go_region_law (first
    | (go_simp; go_at_call 58; (with_reducible refine (HCA.out _ (Fr.drew S0 _)).mono ?_); rintro _ w5 ⟨v5, rfl, a5⟩; have A5 := Lib.hid a5; clear a5; dsimp only))
  all_goals
    go_wp2_with fail
    go_ret
    exact ⟨_, rfl, A5.out⟩
end
structure Six (W : World) (g D n c m e T : Nat) (p q : Option Addr) (lo hi : Int) : Prop where
  blk : W.heap[g]? = some (.cells #[.int .i64 (D : Nat), .slice p n c, .slice q m e, .int .i64 lo, .int .i64 hi, .int .u64 (T : Nat)] 59 (0, 0))
section
variable {W W' : World} {g D n c m e T : Nat} {p q : Option Addr} {lo hi : Int}
theorem Six.fr (s : Six W g D n c m e T p q lo hi) (f : Fr S0 W W') : Six W' g D n c m e T p q lo hi := ⟨f.row s.blk fun h => h⟩
theorem Six.c1 (s : Six W g D n c m e T p q lo hi) : W.cell? ⟨g, 1, none⟩ = some (.slice p n c) := by simp [World.cell?, s.blk]
theorem Six.c2 (s : Six W g D n c m e T p q lo hi) : W.cell? ⟨g, 2, none⟩ = some (.slice q m e) := by simp [World.cell?, s.blk]
theorem Six.c3 (s : Six W g D n c m e T p q lo hi) : W.cell? ⟨g, 3, none⟩ = some (.int .i64 lo) := by simp [World.cell?, s.blk]
theorem Six.c4 (s : Six W g D n c m e T p q lo hi) : W.cell? ⟨g, 4, none⟩ = some (.int .i64 hi) := by simp [World.cell?, s.blk]
theorem Six.c5 (s : Six W g D n c m e T p q lo hi) : W.cell? ⟨g, 5, none⟩ = some (.int .u64 (T : Nat)) := by simp [World.cell?, s.blk]
theorem Six.z (s : Six W g D n c m e T p q lo hi) (k : Nat) : W.frozen? ⟨g, k, none⟩ = false := by simp [World.frozen?, s.blk]
theorem Six.sum (s : Six W g D n c m e T p q lo hi) (U : Nat) : Six (W.setCell ⟨g, 5, none⟩ (.int .u64 (U : Nat))) g D n c m e U p q lo hi := ⟨by rw [heap_setCell_same W g 5 _ _ _ s.blk]; rfl⟩
theorem Six.ends (s : Six W g D n c m e T p q lo hi) (a b : Int) : Six ((W.setCell ⟨g, 3, none⟩ (.int .i64 a)).setCell ⟨g, 4, none⟩ (.int .i64 b)) g D n c m e T p q a b := ⟨by
  rw [heap_setCell_same _ g 4 _ _ _ (heap_setCell_same W g 3 _ _ _ s.blk)]; rfl⟩
end
theorem fr_two (w : World) (g i j : Nat) (x y : Value) : Fr (· = g) w ((w.setCell ⟨g, i, none⟩ x).setCell ⟨g, j, none⟩ y) := (Fr.setCell (· = g) _ _ _ rfl).trans (Fr.setCell (· = g) _ _ _ rfl) fun _ _ h => h
section
variable (D : Nat) (lo hi : Int) (p : Option Addr) (n c : Nat) (q : Option Addr) (m e : Nat) (L W : List Tm) (w : World)
theorem load_any (hD1 : 10 ≤ D) (hD2 : D ≤ 1000) (hL : Sl w p n c L) (hW : Sl w q m e W) (hN : n + m ≤ 400000000000) (hu : ∀ t ∈ L ++ W, t.2 < 18446744073709551616)
    (l1 : -9223372036854775808 ≤ lo) (l2 : lo ≤ 9223372036854775807) (h1 : -9223372036854775808 ≤ hi) (h2 : hi ≤ 9223372036854775807) :
    Calls Try.prog 41 #[.int .i64 (D : Nat), .int .i64 lo, .int .i64 hi, .slice p n c, .slice q m e] w fun e w' => LoadEnds D lo hi L W w e w' := by
  have HNEW := Lib.hid (new_yes D w hD1 hD2)
  have hlW := hW.len
  have hlL := hL.len
  by_cases hmd : D ≤ m
  · have hno : Hid (¬ LoadOk D lo hi L W) := Lib.hid fun h => by have := h.len; omega
    have i1 : (D : Int) ≤ (m : Int) := by omega
    have d1 : decide (D ≤ m) = true := decide_eq_true hmd
    clear hL hW hu hlW hlL hN
    go_enter Try.func41, Try.ntmps41
    go_wp2_with fail
    refine HNEW.out.mono ?_
    rintro e1 w1 ⟨g, rfl, -, -, f1⟩
    have F1 := Lib.hid f1
    clear f1 HNEW
    go_wp2_with fail
    go_ret2
    exact .inr ⟨hno.out, rfl, F1.out⟩
  · have i1 : ¬ (D : Int) ≤ (m : Int) := by omega
    have d1 : decide (D ≤ m) = false := decide_eq_false hmd
    have HMD := Lib.hid hmd
    have HOL := Lib.hid (fun W1 (f : Fr S0 w W1) => own_any p n c L W1 (hL.fr0 f) (by omega))
    have HOW := Lib.hid (fun W1 (f : Fr S0 w W1) => own_any q m e W W1 (hW.fr0 f) (by omega))
    have HNM := Lib.hid hN
    have HU := Lib.hid hu
    have HLW := Lib.hid (And.intro hlL hlW)
    have HB := Lib.hid (And.intro (And.intro l1 l2) (And.intro h1 h2))
    have HDD := Lib.hid (And.intro hD1 hD2)
    clear hL hW hu hlW hlL hN hmd
    go_enter Try.func41, Try.ntmps41
    go_wp2_with fail
    refine HNEW.out.mono ?_
    rintro e1 w1 ⟨g, rfl, s1, hg, f1⟩
    have F1 := Lib.hid f1
    have HG := Lib.hid hg
    have HS1 : Hid (Six w1 g D 0 0 0 0 0 none none 0 0) := Lib.hid ⟨s1.blk⟩
    have HGL := Lib.hid s1.lt
    clear f1 HNEW s1 hg
    go_wp2_with fail
    refine (HOL.out _ F1.out).mono ?_
    rintro e2 w2 ⟨v2, rfl, a2⟩
    obtain ⟨p2, c2, rfl⟩ := slFormN a2.own
    have A2 := Lib.hid a2
    clear a2 HOL
    go_wp2_with fail
    refine (HOW.out _ (F1.out.trans0 A2.out.fr)).mono ?_
    rintro e3 w3 ⟨v3, rfl, a3⟩
    obtain ⟨p3, c3, rfl⟩ := slFormN a3.own
    have A3 := Lib.hid a3
    have HS3 := Lib.hid ((HS1.out.fr A2.out.fr).fr a3.fr)
    clear a3 HOW HS1
    have z1 := HS3.out.z 1
    have z2 := HS3.out.z 2
    have c1 := HS3.out.c1
    have c2' := HS3.out.c2
    have hf4 := fr_two w3 g 1 2 (.slice p2 n c2) (.slice p3 m c3)
    have HF4 := Lib.hid hf4
    have HS4 : Hid (Six ((w3.setCell ⟨g, 1, none⟩ (.slice p2 n c2)).setCell ⟨g, 2, none⟩ (.slice p3 m c3)) g D n c2 m c3 0 p2 p3 0 0) := Lib.hid ⟨(six_set HS3.out.blk _ _ (.int .u64 0)).1⟩
    have HNG : Hid ((∀ y, Value.ownBlock (.slice p2 n c2) = some y → w1.heap.size ≤ y ∧ y < w2.heap.size) ∧ ∀ y, Value.ownBlock (.slice p3 m c3) = some y → w2.heap.size ≤ y) := Lib.hid ⟨fun y hy => ⟨A2.out.fresh y hy, (A2.out.own.lt y hy).2⟩, fun y hy => A3.out.fresh y hy⟩
    have HWD : Hid (w.heap.size ≤ w1.heap.size ∧ w1.heap.size ≤ w2.heap.size ∧ w2.heap.size ≤ w3.heap.size) := Lib.hid ⟨F1.out.size, A2.out.fr.size, A3.out.fr.size⟩
    have HO2 : Hid (((w3.setCell ⟨g, 1, none⟩ (.slice p2 n c2)).setCell ⟨g, 2, none⟩ (.slice p3 m c3)).ownsRow 0 68 2 (.slice p2 n c2) n (prs L)) := Lib.hid (hf4.owns (A3.out.fr.owns A2.out.own fun _ _ h => h) fun y hy (e : y = g) => by have := (HNG.out.1 y hy).1; have := HGL.out; omega)
    have HO3 : Hid (((w3.setCell ⟨g, 1, none⟩ (.slice p2 n c2)).setCell ⟨g, 2, none⟩ (.slice p3 m c3)).ownsRow 0 68 2 (.slice p3 m c3) m (prs W)) := Lib.hid (hf4.owns A3.out.own fun y hy (e : y = g) => by have := HNG.out.2 y hy; have := HGL.out; have := HWD.out; omega)
    have HF4W : Hid (Fr S0 w ((w3.setCell ⟨g, 1, none⟩ (.slice p2 n c2)).setCell ⟨g, 2, none⟩ (.slice p3 m c3))) := Lib.hid (((F1.out.trans0 A2.out.fr).trans0 A3.out.fr).trans hf4 fun j hj (e : j = g) => by have := HG.out; omega)
    obtain ⟨w4, e4⟩ : ∃ w4, (w3.setCell ⟨g, 1, none⟩ (.slice p2 n c2)).setCell ⟨g, 2, none⟩ (.slice p3 m c3) = w4 := ⟨_, rfl⟩
    rw [e4] at HS4 HO2 HO3 HF4W
    have HE4 := Lib.hid e4
    clear hf4 e4
    go_wp2_with fail
    rw [HE4.out]
    have k1 := HS4.out.c1
    have HIS := Lib.hid (issorted_any p2 n c2 L w4 (Sl.ofOwns HO2.out) (by have := HNM.out; omega))
    go_wp2_with fail
    refine HIS.out.mono ?_
    rintro e5 w5 ⟨rfl, f5⟩
    have HS5 := Lib.hid (HS4.out.fr f5)
    have HO25 := Lib.hid (f5.owns HO2.out fun _ _ h => h)
    have HO35 := Lib.hid (f5.owns HO3.out fun _ _ h => h)
    have HF5 := Lib.hid (HF4W.out.trans0 f5)
    have HZ5 : Hid (w3.heap.size ≤ w5.heap.size) := Lib.hid (Nat.le_trans HF4.out.size (by rw [HE4.out]; exact f5.size))
    clear f5 HIS HO2 HO3 HF4W HS4 k1
    by_cases hri : Ris L
    · have hrb := risB_yes hri
      have HRI := Lib.hid hri
      have HME := Lib.hid (means_raw g p2 n c2 p3 m c3 L W w5 HS5.out.c1 HS5.out.c2 (Sl.ofOwns HO25.out) (Sl.ofOwns HO35.out) (by have := HNM.out; omega))
      rw [hrb]
      clear hri hrb
      go_wp2_with fail
      refine HME.out.mono ?_
      rintro e6 w6 ⟨v6, rfl, a6⟩
      obtain ⟨p6, c6, rfl⟩ := slFormN a6.own
      have hS6 := Sl.ofOwns a6.own
      have HS6 := Lib.hid hS6
      have HSX := Lib.hid (HS5.out.fr a6.fr)
      have HF6 := Lib.hid (HF5.out.trans0 a6.fr)
      have HFT := Lib.hid a6.fr
      have HZ6 : Hid (w5.heap.size ≤ w6.heap.size) := Lib.hid a6.fr.size
      have HOFF : Hid (Off (· = g) p6) := Lib.hid fun b hb => by
        have h9 := a6.fresh b.block (by rw [hb]; rfl)
        intro (e9 : b.block = g)
        have := HZ5.out
        have := HGL.out
        have := HWD.out
        omega
      have HFW : Hid (∀ X, Fr (· = g) w6 X → Fr S0 w X) := Lib.hid fun X f => HF6.out.trans f fun j hj (e : j = g) => by have := HG.out; have := HWD.out; omega
      have HO26 := Lib.hid (a6.fr.owns HO25.out fun _ _ h => h)
      have HO36 := Lib.hid (a6.fr.owns HO35.out fun _ _ h => h)
      obtain ⟨N, eN⟩ : ∃ N, n + m = N := ⟨_, rfl⟩
      obtain ⟨A, eA⟩ : ∃ A, L ++ W = A := ⟨_, rfl⟩
      rw [eN, eA] at HS6
      have HEA := Lib.hid eA
      have HEN := Lib.hid eN
      have hNN : N ≤ 400000000000 := by have := HNM.out; omega
      rw [eA] at HU
      rw [eN]
      clear a6 hS6 HME HO25 HO35 HS5 eA eN
      go_wp2_with fail
      go_loopw [15, 48] (fun _ i wr => ∃ j T : Nat, j ≤ N ∧ i = .int .i64 (j : Int) ∧ Hid (wts (A.take j) = T) ∧ T ≤ 281474976710656 ∧ Hid (Six wr g D n c2 m c3 T p2 p3 0 0) ∧ Hid (Fr (· = g) w6 wr) ∧ Hid (∀ t ∈ A.take j, Fit lo hi t)) (fun _ i _ => N - (intOf i).toNat)
      case atStart => exact ⟨0, 0, by omega, rfl, Lib.hid rfl, by omega, HSX, Lib.hid (Fr.refl _ _), Lib.hid fun t ht => by simp at ht⟩
      case round =>
        obtain ⟨j, T, hj, rfl, hT, hT2, hsx, hfr, hfit⟩ := hrel
        by_cases hjn : (j : Int) < (N : Int)
        · have hjl : j < A.length := by rw [HS6.out.len]; omega
          obtain ⟨b, o, rfl, k0, k1⟩ := (HS6.out.fr hfr.out HOFF.out).at j hjl
          obtain ⟨ht1, -⟩ := wts_take A j hjl
          have ht2 := wts_take_le A (j + 1)
          have hmem : A[j] ∈ A := List.getElem_mem hjl
          have hub := HU.out _ hmem
          have htk := List.take_succ_eq_append_getElem hjl
          rw [hT.out] at ht1
          obtain ⟨⟨v, u⟩, hx⟩ : ∃ t, A[j] = t := ⟨_, rfl⟩
          rw [hx] at k0 k1 ht1 hmem hub htk
          simp only at k0 k1 ht1 hub
          have HMEM := Lib.hid hmem
          have HTK := Lib.hid htk
          have HT1 := Lib.hid ht1
          have HT2 := Lib.hid ht2
          have HBX : Hid (∀ X, Fr S0 (wr.alloc (.cells #[.int .i64 v, .int .u64 (u : Nat)] 68)) X → X.cell? ⟨wr.heap.size, 0, none⟩ = some (.int .i64 v) ∧ X.cell? ⟨wr.heap.size, 1, none⟩ = some (.int .u64 (u : Nat)) ∧ Six X g D n c2 m c3 T p2 p3 0 0 ∧ Fr (· = g) w6 X) := Lib.hid fun X f => by
            have hb := heap_alloc_new wr (.cells #[.int .i64 v, .int .u64 (u : Nat)] 68)
            obtain ⟨x0, x1, -, -⟩ := two_facts (f.row hb fun h => h)
            exact ⟨x0, x1, (hsx.out.fr (Fr.alloc S0 _ _)).fr f, hfr.out.trans ((Fr.alloc S0 wr _).trans0 f |>.mono fun _ _ h => h.elim) fun _ _ h => h⟩
          have HRF := Lib.hid (fun X (f : Fr S0 (wr.alloc (.cells #[.int .i64 v, .int .u64 (u : Nat)] 68)) X) => refusal_any g X T u (HBX.out X f).2.2.1.c5 hT2)
          obtain ⟨y0, y1, -, -⟩ := HBX.out _ (Fr.refl _ _)
          have HTB : Hid (u = 0 → ¬ LoadOk D lo hi L W) := Lib.hid fun h hk => by
            have h9 := (hk.fit (v, u) (by rw [HEA.out]; exact HMEM.out)).n
            simp only at h9
            omega
          have HTC : Hid (281474976710656 < T + u → ¬ LoadOk D lo hi L W) := Lib.hid fun h hk => by
            have h9 := hk.tot
            rw [HEA.out] at h9
            have := HT1.out
            have := HT2.out
            omega
          have HTD : Hid (¬ (lo ≤ v ∧ v ≤ hi) → ¬ LoadOk D lo hi L W) := Lib.hid fun h hk => by
            have h9 := hk.fit (v, u) (by rw [HEA.out]; exact HMEM.out)
            exact h ⟨h9.lo, h9.hi⟩
          clear hx hmem htk ht1 ht2 hsx hfr
          obtain ⟨R, eR⟩ : ∃ R, (if u = 0 then 4 else if 281474976710656 < T + u then 6 else 0 : Nat) = R := ⟨_, rfl⟩
          rw [eR] at HRF
          by_cases hR : R = 0
          · have hur : 0 < u ∧ T + u ≤ 281474976710656 := by
              rw [hR] at eR
              split at eR
              · cases eR
              · split at eR
                · cases eR
                · omega
            subst hR
            obtain ⟨U, eU⟩ : ∃ U, T + u = U := ⟨_, rfl⟩
            have iU : (T : Int) + (u : Int) = (U : Int) := by omega
            have bU : (U : Int) < 18446744073709551616 := by omega
            have hU2 : U ≤ 281474976710656 := by omega
            have HU0 := Lib.hid hur.1
            have HSU : Hid (wts (A.take (j + 1)) = U) := Lib.hid (by rw [HT1.out]; exact eU)
            clear eR eU hur HTB HTC
            go_wp2_with fail
            refine (HRF.out _ (Fr.refl _ _)).mono ?_
            rintro e7 w7 ⟨rfl, f7⟩
            obtain ⟨x0, x1, x2, x3⟩ := HBX.out w7 f7
            have c5 := x2.c5
            have z5 := x2.z 5
            have HX3 := Lib.hid x3
            have HX9 : Hid (∀ X, Fr S0 w7 X → Six (X.setCell ⟨g, 5, none⟩ (.int .u64 (U : Nat))) g D n c2 m c3 U p2 p3 0 0 ∧ Fr (· = g) w6 (X.setCell ⟨g, 5, none⟩ (.int .u64 (U : Nat)))) := Lib.hid fun X f => ⟨(x2.fr f).sum U, (HX3.out.trans (f.mono fun _ _ h => h.elim) fun _ _ h => h).trans (Fr.setCell (· = g) _ _ _ rfl) fun _ _ h => h⟩
            clear f7 HRF HBX x2 x3
            by_cases hv1 : v < lo
            · have hno := Lib.hid (HTD.out (by omega))
              have dv : decide (v < lo) = true := decide_eq_true hv1
              go_wp2_with fail
              go_ret2
              exact .inr ⟨hno.out, rfl, HFW.out _ HX3.out⟩
            · have dv : decide (v < lo) = false := decide_eq_false hv1
              by_cases hv2 : hi < v
              · have hno := Lib.hid (HTD.out (by omega))
                have dv2 : decide (hi < v) = true := decide_eq_true hv2
                go_wp2_with fail
                go_ret2
                exact .inr ⟨hno.out, rfl, HFW.out _ HX3.out⟩
              · have dv2 : decide (hi < v) = false := decide_eq_false hv2
                have HFN : Hid (∀ t ∈ A.take (j + 1), Fit lo hi t) := Lib.hid fun t ht => by
                  rw [HTK.out] at ht
                  rcases List.mem_append.1 ht with h | h
                  · exact hfit.out t h
                  · rw [List.mem_singleton.1 h]
                    exact ⟨by simp only; omega, by simp only; omega, HU0.out⟩
                go_wp2_with fail
                go_region
                obtain ⟨q1, q2⟩ := HX9.out w7.drew (Fr.drew _ _)
                have HQ1 := Lib.hid q1
                have HQ2 := Lib.hid q2
                clear q1 q2
                go_wp2_with fail
                go_roundw
                case rel => exact ⟨j + 1, U, by omega, by go_num, HSU, hU2, HQ1, HQ2, HFN⟩
                case measure => first | (simp [intOf]; done) | (simp [intOf]; omega)
          · have hno : Hid (¬ LoadOk D lo hi L W) := Lib.hid (by
              by_cases h0 : u = 0
              · exact HTB.out h0
              · rw [if_neg h0] at eR
                by_cases h2 : 281474976710656 < T + u
                · exact HTC.out h2
                · rw [if_neg h2] at eR
                  omega)
            have dR : ((R : Int) == 0) = false := by rw [beq_eq_false_iff_ne]; omega
            have dR2 : ((R : Int) != 0) = true := by rw [bne, dR]; rfl
            clear eR HTB HTC HTD
            go_wp2_with fail
            refine (HRF.out _ (Fr.refl _ _)).mono ?_
            rintro e7 w7 ⟨rfl, f7⟩
            have HF7 := Lib.hid (HFW.out _ (HBX.out w7 f7).2.2.2)
            clear f7 HRF HBX
            go_wp2_with fail
            go_ret2
            exact .inr ⟨hno.out, rfl, HF7.out⟩
        · obtain rfl : j = N := by omega
          have htN : A.take j = A := by rw [← HS6.out.len]; exact List.take_length
          have HFA : Hid (∀ t ∈ A, Fit lo hi t) := Lib.hid (by have := hfit.out; rwa [htN] at this)
          have HTA : Hid (wts A = T) := Lib.hid (by have := hT.out; rwa [htN] at this)
          have HLK : Hid ((A = [] → lo = 0 ∧ hi = 0) → LoadOk D lo hi L W) := Lib.hid fun h => ⟨by have := HMD.out; have := HLW.out.2; omega, HRI.out, by rw [HEA.out]; exact HFA.out, by rw [HEA.out, HTA.out]; exact hT2, by rw [HEA.out]; exact h⟩
          have HNE : Hid (T = 0 → A = []) := Lib.hid fun h => by
            cases A with
            | nil => rfl
            | cons t r =>
              have h1 := HTA.out
              have h2 := (HFA.out t List.mem_cons_self).n
              rw [wts_cons] at h1
              omega
          have HEND : Hid (∀ X, Fr (· = g) w6 X → Six X g D n c2 m c3 T p2 p3 lo hi → LoadOk D lo hi L W → NewD w X g { d := D, L := L, W := W, lo := lo, hi := hi }) := Lib.hid fun X f s ok => by
            have hg1 := HG.out
            have hg2 := HGL.out
            have hwd := HWD.out
            have hz5 := HZ5.out
            have hz6 := HZ6.out
            have hxs := f.size
            have n2 := HNG.out.1
            have n3 := HNG.out.2
            have l3 := fun y hy => (A3.out.own.lt y hy).2
            refine ⟨⟨fun b => b = g ∨ Value.ownBlock (.slice p2 n c2) = some b ∨ Value.ownBlock (.slice p3 m c3) = some b, ⟨p2, n, c2, p3, m, c3, ⟨?_, ?_, ?_, fun k hk => ⟨?_, .inr (.inl hk), fun hk3 => ?_⟩, fun k hk => ⟨?_, .inr (.inr hk)⟩, .inl rfl, fun b hb => ?_, ⟨HDD.out.1, HDD.out.2, ok.ris, ok.fit, HB.out.1.1, HB.out.1.2, HB.out.2.1, HB.out.2.2, ok.tot, ok.emp⟩⟩⟩, fun b hb => ?_⟩, HFW.out X f⟩
            · have h9 := s.blk
              rw [h9]
              unfold Dg.tot Dg.all
              simp only [HEA.out, HTA.out]
            · exact f.owns HO26.out fun y hy (e9 : y = g) => by have := n2 y hy; omega
            · exact f.owns HO36.out fun y hy (e9 : y = g) => by have := n3 y hy; omega
            · have := n2 k hk; omega
            · have := n2 k hk; have := n3 k hk3; omega
            · have := n3 k hk; omega
            · rcases hb with rfl | hb | hb
              · omega
              · have := n2 b hb; omega
              · have := l3 b hb; omega
            · rcases hb with rfl | hb | hb
              · exact hg1
              · have := n2 b hb; omega
              · have := n3 b hb; omega
          have HNX := Lib.hid (HFW.out _ hfr.out)
          have HE9 : Hid (Six ((wr.setCell ⟨g, 3, none⟩ (.int .i64 lo)).setCell ⟨g, 4, none⟩ (.int .i64 hi)) g D n c2 m c3 T p2 p3 lo hi ∧ Fr (· = g) w6 ((wr.setCell ⟨g, 3, none⟩ (.int .i64 lo)).setCell ⟨g, 4, none⟩ (.int .i64 hi))) := Lib.hid ⟨hsx.out.ends lo hi, hfr.out.trans (fr_two _ _ _ _ _ _) fun _ _ h => h⟩
          have k3 := hsx.out.c3
          have k4 := hsx.out.c4
          have k5 := hsx.out.c5
          have z3 := hsx.out.z 3
          have z4 := hsx.out.z 4
          clear htN
          by_cases hT0 : T = 0
          · subst hT0
            have hA0 := HNE.out rfl
            by_cases hlo : lo = 0
            · subst hlo
              by_cases hhi : hi = 0
              · subst hhi
                have HOK := Lib.hid (HLK.out fun _ => ⟨rfl, rfl⟩)
                clear hA0
                go_wp2_with fail
                go_ret2
                exact .inl ⟨HOK.out, g, rfl, HEND.out _ HE9.out.2 HE9.out.1 HOK.out⟩
              · have hno : Hid (¬ LoadOk D 0 hi L W) := Lib.hid fun h => hhi (h.emp (by rw [HEA.out]; exact hA0)).2
                have dh : (hi == 0) = false := by rw [beq_eq_false_iff_ne]; exact hhi
                have dh2 : (hi != 0) = true := by rw [bne, dh]; rfl
                clear hA0
                go_wp2_with fail
                go_ret2
                exact .inr ⟨hno.out, rfl, HNX.out⟩
            · have hno : Hid (¬ LoadOk D lo hi L W) := Lib.hid fun h => hlo (h.emp (by rw [HEA.out]; exact hA0)).1
              have dl : (lo == 0) = false := by rw [beq_eq_false_iff_ne]; exact hlo
              have dl2 : (lo != 0) = true := by rw [bne, dl]; rfl
              clear hA0
              go_wp2_with fail
              go_ret2
              exact .inr ⟨hno.out, rfl, HNX.out⟩
          · have dT : ((T : Int) == 0) = false := by rw [beq_eq_false_iff_ne]; omega
            have HOK := Lib.hid (HLK.out fun h => by
              have h1 := HTA.out
              rw [h] at h1
              exact absurd h1.symm hT0)
            go_wp2_with fail
            go_ret2
            exact .inl ⟨HOK.out, g, rfl, HEND.out _ HE9.out.2 HE9.out.1 HOK.out⟩
    · have hrb := risB_no hri
      have hno : Hid (¬ LoadOk D lo hi L W) := Lib.hid fun h => hri h.ris
      rw [hrb]
      clear hri hrb
      go_wp2_with fail
      go_ret2
      exact .inr ⟨hno.out, rfl, HF5.out⟩
end
end Go.Proofs.Ytmieeoceckcnkaa
