/- KlMeanMath -/
import Derived.Test.YtbpfmjekpjfceaaPm1
import Derived.Test.YtbpfmjekpjfceaaPm2
import Derived.Test.YtbpfmjekpjfceaaPm3
import Derived.Test.YtbpfmjekpjfceaaPm4
import Derived.Test.YtbpfmjekpjfceaaPm6
import Derived.Test.YtbpfmjekpjfceaaPm7
import Derived.Test.YtbpfmjekpjfceaaPm8
import Derived.Test.YtbpfmjekpjfceaaPm9
import Derived.Test.YtbpfmjekpjfceaaPm10
import Derived.Test.YtbpfmjekpjfceaaPm11
import Derived.Test.YtbpfmjekpjfceaaPm12
import Derived.Test.YtbpfmjekpjfceaaPm13
import Derived.Test.YtbpfmjekpjfceaaPm14
import Derived.Test.YtbpfmjekpjfceaaPm15
import Derived.Test.YtbpfmjekpjfceaaPm16
import Derived.Test.YtbpfmjekpjfceaaPm17
import Derived.Test.YtbpfmjekpjfceaaPm18
import Derived.Test.YtbpfmjekpjfceaaPm19
import Derived.Test.YtbpfmjekpjfceaaPm20
import Derived.Test.YtbpfmjekpjfceaaPm21
import Derived.Test.YtbpfmjekpjfceaaPm22
import Derived.Test.YtbpfmjekpjfceaaPm23
import Derived.Test.YtbpfmjekpjfceaaPm24
import Derived.Test.YtbpfmjekpjfceaaPm25
import Derived.Test.YtbpfmjekpjfceaaPm26
import Derived.Test.YtbpfmjekpjfceaaPm27
import Derived.Test.YtbpfmjekpjfceaaPm28
import Derived.Test.YtbpfmjekpjfceaaPm29
import Derived.Test.YtbpfmjekpjfceaaPm30
import Derived.Deep.LoopGhost
import Derived.BigQuiet
import Derived.Deep.CutRange
import Derived.Maps.AppendAt
import Derived.Laws.AppendOwnNone
import Derived.Laws.OwnMore
import Derived.Lib.AppendZerosOnto
import Derived.Lib.SliceRun
import Derived.Lib.Walk
import Derived.WalkKit
import Derived.Laws.BytesArg
import Derived.Lib.SlBytesConst
import Derived.WalkSpells
import Derived.WalkLawsBesides
import Derived.Deep.QuietTactic
import Derived.RegionTactic
import Derived.Deep.AppendLies
import Derived.Deep.RegionLaw
import Derived.Laws.ResultCell
import Derived.Laws.EntriesVeiled
import Derived.Lib.Hide
import Derived.Test.YtbpfmjekpjfceaaRows
import Derived.Laws.BitsAllLaws
import Derived.Deep.RegionHeld3
import Derived.BigRegion
import Derived.RangeFuncNested
import Derived.RangeFuncBound
import Derived.RangeFuncCalls
import Derived.RangeFuncLeaves
import Derived.Shelf.Abstract
import Derived.Shelf.RegionOpen
import Derived.OwnWalkIn
import Derived.TacticsInMore
import Derived.LoopNIn
import Derived.LoopIn
import Derived.StillTailTactics
import Derived.Laws.Externs
import Derived.Shelf.Spec.BitsCarry
import Derived.Deep.CutBlock
import Derived.Deep.DeepCutAuto
import Derived.Lib.BitFns
import Derived.Shelf.Small.Bits
import Derived.Shelf.Strconv.Itoa0
import Derived.Shelf.Bits.Mul64
import Derived.Shelf.SlSortCmp.WholeK
set_option maxRecDepth 100000
set_option maxHeartbeats 8000000
namespace Go.Proofs.Ytbpfmjekpjfceaa
def sumL (f : Int → Nat) : Lv → Nat
  | [] => 0
  | l :: r => (l.map f).sum + 2 * sumL f r
theorem insZ_sum (f : Int → Nat) (v : Int) (l : List Int) : ((insZ v l).map f).sum = f v + (l.map f).sum := by
  have h := ((insZ_perm v l).map f).sum_nat
  simpa using h
theorem putL_sum (f : Int → Nat) (v : Int) : ∀ L h, sumL f (putL L h v) = sumL f L + 2 ^ h * f v
  | [], 0 => by simp [putL, sumL]
  | [], h + 1 => by
    show ([].map f).sum + 2 * sumL f (putL [] h v) = _
    rw [putL_sum f v [] h, Nat.pow_succ, Nat.mul_comm (2 ^ h) 2, Nat.mul_assoc]
    simp [sumL]
  | l :: r, 0 => by
    rw [putL, sumL, sumL, insZ_sum]
    simp
    omega
  | l :: r, h + 1 => by rw [putL_succ, sumL, sumL, putL_sum f v r h, Nat.pow_succ, Nat.mul_add, Nat.mul_comm (2 ^ h) 2, Nat.mul_assoc, Nat.add_assoc]
theorem addB_sum (f : Int → Nat) (L : Lv) (v : Int) (n : Nat) : ∀ h, sumL f (addB L v n h) = sumL f L + f v * (n % 2 ^ h)
  | 0 => by simp [addB, Nat.mod_one]
  | h + 1 => by
    have e : n % 2 ^ (h + 1) = n % 2 ^ h + 2 ^ h * (n / 2 ^ h % 2) := Nat.mod_pow_succ
    rw [addB]
    split
    · rename_i hb
      rw [putL_sum, addB_sum f L v n h, e, hb, Nat.mul_one, Nat.mul_add, Nat.mul_comm (2 ^ h) (f v), Nat.add_assoc]
    · rename_i hb
      have h0 : n / 2 ^ h % 2 = 0 := by omega
      rw [addB_sum f L v n h, e, h0, Nat.mul_zero, Nat.add_zero]
theorem addN_sum (f : Int → Nat) (L : Lv) (v : Int) (n : Nat) (hn : n ≤ 281474976710656) : sumL f (addN L v n) = sumL f L + f v * n := by
  rw [addN, addB_sum, Nat.mod_eq_of_lt (by show n < 562949953421312; omega)]
theorem lsm_app (a b : List Tm) : lsm (a ++ b) = lsm a + lsm b := by simp [lsm]
theorem lsm_map (X : Nat) : ∀ l : List Int, lsm (l.map fun v => (v, X)) = X * (l.map lft).sum
  | [] => by simp [lsm]
  | a :: r => by
    have ih := lsm_map X r
    have e : ∀ (t : Tm) s, lsm (t :: s) = lft t.1 * t.2 + lsm s := fun t s => by simp [lsm]
    rw [List.map_cons, e, ih, List.map_cons, List.sum_cons, Nat.mul_add, Nat.mul_comm]
theorem lsm_trms : ∀ (L : Lv) (h : Nat), lsm (trms h L) = 2 ^ h * sumL lft L
  | [], h => by simp [trms, lsm, sumL]
  | l :: r, h => by
    rw [trms, lsm_app, lsm_map, lsm_trms r (h + 1), sumL, Nat.pow_succ, Nat.mul_add, Nat.mul_assoc]
theorem pack_zero {k : Nat} {bs : List Nat} {L : Lv} {E a : Nat} (hE : E ≤ 4611686018427387904) (h : (pack k bs L E a).2.1 = 0) : pack k bs L E a = (L, E, a) := by
  cases ho : over k L with
  | none => exact pack_none ho
  | some x =>
    rw [pack_some ho] at h
    have h1 := (ledg_le E (2 ^ x) hE)
    have h2 := (pack_ledger k bs (comp L x (coin bs a)) (ledg E (2 ^ x)) (nxt bs a) h1.2).1
    have h3 : 0 < 2 ^ x := Nat.pow_pos (by decide)
    have h4 : 0 < ledg E (2 ^ x) := by unfold ledg; omega
    omega
def asum (vs : List Int) (ns : List Nat) : Nat → Nat
  | 0 => 0
  | i + 1 => asum vs ns i + lft (vs.getD i 0) * wgt ns i
theorem sum_adds {k n : Nat} {bs : List Nat} (hk : 8 ≤ k) (hk2 : k ≤ 4096) (hl : bs.length = n) (vs : List Int) (ns : List Nat) : ∀ i, i ≤ 1000000 → (adds k bs vs ns i).2.1 = 0 → sumL lft (adds k bs vs ns i).1 = asum vs ns i
  | 0, _, _ => rfl
  | i + 1, hi, h0 => by
    obtain ⟨h1, h2, h3⟩ := adds_ok hk hk2 hl vs ns i (by omega)
    have hb := wgt_bd ns i
    rw [adds, adS, if_pos h3] at h0 ⊢
    have h4 := (pack_ledger k bs (addN (adds k bs vs ns i).1 (vs.getD i 0) (wgt ns i)) (adds k bs vs ns i).2.1 (adds k bs vs ns i).2.2 h1.good.fine.led).1
    rw [pack_zero h1.good.fine.led h0]
    show sumL lft (addN (adds k bs vs ns i).1 (vs.getD i 0) (wgt ns i)) = _
    rw [addN_sum _ _ _ _ (by omega), sum_adds hk hk2 hl vs ns i (by omega) (by omega), asum]
def tmsA (vs : List Int) (ns : List Nat) : Nat → List Tm
  | 0 => []
  | i + 1 => tmsA vs ns i ++ [(vs.getD i 0, wgt ns i)]
theorem tmsA_len (vs : List Int) (ns : List Nat) : ∀ i, (tmsA vs ns i).length = i
  | 0 => rfl
  | i + 1 => by rw [tmsA, List.length_append, tmsA_len vs ns i]; rfl
theorem tmsA_lsm (vs : List Int) (ns : List Nat) : ∀ i, lsm (tmsA vs ns i) = asum vs ns i
  | 0 => rfl
  | i + 1 => by rw [tmsA, lsm_snoc, tmsA_lsm vs ns i, asum]
theorem tmsA_wts (vs : List Int) (ns : List Nat) : ∀ i, wts (tmsA vs ns i) = wsum ns i
  | 0 => rfl
  | i + 1 => by rw [tmsA, wts_snoc, tmsA_wts vs ns i, wsum]
theorem getD_fit {vs : List Int} (h : ∀ v ∈ vs, -9223372036854775808 ≤ v ∧ v ≤ 9223372036854775807) (j : Nat) : -9223372036854775808 ≤ vs.getD j 0 ∧ vs.getD j 0 ≤ 9223372036854775807 := by
  by_cases hj : j < vs.length
  · have := h _ (List.getElem_mem hj)
    simpa [hj] using this
  · simp [hj]
theorem tmsA_ok {vs : List Int} (h : ∀ v ∈ vs, -9223372036854775808 ≤ v ∧ v ≤ 9223372036854775807) (ns : List Nat) : ∀ i, ∀ t ∈ tmsA vs ns i, TmOk t
  | 0, _, ht => nomatch ht
  | i + 1, t, ht => by
    rcases List.mem_append.1 ht with ht | ht
    · exact tmsA_ok h ns i t ht
    · rw [List.mem_singleton] at ht
      subst ht
      have h1 := getD_fit h i
      have h2 := wgt_bd ns i
      exact ⟨h1.1, h1.2, by show wgt ns i < _; omega⟩
def lowA (vs : List Int) : Nat → Int
  | 0 => vs.getD 0 0
  | i + 1 => min (lowA vs i) (vs.getD i 0)
def highA (vs : List Int) : Nat → Int
  | 0 => vs.getD 0 0
  | i + 1 => max (highA vs i) (vs.getD i 0)
theorem lowA_le (vs : List Int) : ∀ i j, j < i → lowA vs i ≤ vs.getD j 0 ∧ vs.getD j 0 ≤ highA vs i
  | i + 1, j, h => by
    rw [lowA, highA]
    rcases (by omega : j < i ∨ j = i) with h1 | rfl
    · have := lowA_le vs i j h1
      omega
    · omega
theorem lowA_fit {vs : List Int} (h : ∀ v ∈ vs, -9223372036854775808 ≤ v ∧ v ≤ 9223372036854775807) : ∀ i, -9223372036854775808 ≤ lowA vs i ∧ -9223372036854775808 ≤ highA vs i
  | 0 => ⟨(getD_fit h 0).1, (getD_fit h 0).1⟩
  | i + 1 => by
    have h1 := lowA_fit h i
    have h2 := getD_fit h i
    rw [lowA, highA]
    omega
theorem lft_mono {a b : Int} (h : a ≤ b) : lft a ≤ lft b := by unfold lft; omega
theorem lsm_in (lo hi : Int) : ∀ l : List Tm, (∀ t ∈ l, lo ≤ t.1 ∧ t.1 ≤ hi) → lft lo * wts l ≤ lsm l ∧ lsm l ≤ lft hi * wts l
  | [], _ => by simp [lsm, wts]
  | t :: r, h => by
    have ih := lsm_in lo hi r fun u hu => h u (List.mem_cons_of_mem _ hu)
    have ht := h t List.mem_cons_self
    have e1 : lsm (t :: r) = lft t.1 * t.2 + lsm r := by simp [lsm]
    have e2 : wts (t :: r) = t.2 + wts r := by simp [wts]
    have h1 := Nat.mul_le_mul_right t.2 (lft_mono ht.1)
    have h2 := Nat.mul_le_mul_right t.2 (lft_mono ht.2)
    rw [e1, e2, Nat.mul_add, Nat.mul_add]
    omega
theorem fit_adds {k n : Nat} {bs : List Nat} (hk : 8 ≤ k) (hk2 : k ≤ 4096) (hl : bs.length = n) {vs : List Int} (hv : ∀ v ∈ vs, -9223372036854775808 ≤ v ∧ v ≤ 9223372036854775807) (ns : List Nat) {i : Nat} (hi : i ≤ 1000000) : FitL (adds k bs vs ns i).1 := fun x hx => by
  obtain ⟨j, -, rfl⟩ := in_adds hk hk2 hl vs ns i hi x hx
  exact getD_fit hv j
theorem mean_adds {k n : Nat} {bs : List Nat} (hk : 8 ≤ k) (hk2 : k ≤ 4096) (hl : bs.length = n) {vs : List Int} (hv : ∀ v ∈ vs, -9223372036854775808 ≤ v ∧ v ≤ 9223372036854775807) (ns : List Nat) {i : Nat} (hi : i ≤ 1000000) (h0 : 0 < wtL (adds k bs vs ns i).1) :
    lowA vs i ≤ mnV (adds k bs vs ns i).1 ∧ mnV (adds k bs vs ns i).1 ≤ highA vs i ∧ ((adds k bs vs ns i).2.1 = 0 → mnV (adds k bs vs ns i).1 = ((asum vs ns i / wsum ns i : Nat) : Int) - 9223372036854775808) := by
  obtain ⟨-, h2, -⟩ := adds_ok hk hk2 hl vs ns i hi
  have h3 := lsm_in (lowA vs i) (highA vs i) (trms 0 (adds k bs vs ns i).1) fun t ht => by
    obtain ⟨j, hj, e⟩ := in_adds hk hk2 hl vs ns i hi _ (trms_mem _ 0 t ht)
    rw [← e]
    exact lowA_le vs i j hj
  have h4 := lowA_fit hv i
  rw [wts_trms] at h3
  have h5 : lft (lowA vs i) ≤ lsm (trms 0 (adds k bs vs ns i).1) / wtL (adds k bs vs ns i).1 := (Nat.le_div_iff_mul_le h0).2 h3.1
  have h6 : lsm (trms 0 (adds k bs vs ns i).1) / wtL (adds k bs vs ns i).1 ≤ lft (highA vs i) := Nat.div_le_of_le_mul (by rw [Nat.mul_comm]; exact h3.2)
  rw [mnV, if_neg (by omega)]
  unfold lft at h5 h6
  refine ⟨by omega, by omega, fun hE => ?_⟩
  rw [lsm_trms, sum_adds hk hk2 hl vs ns i hi hE, h2, Nat.pow_zero, Nat.one_mul]
end Go.Proofs.Ytbpfmjekpjfceaa
