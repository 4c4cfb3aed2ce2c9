/- RgRight -/
import Derived.Test.YtmieeoceckcnkaaPn1
import Derived.Test.YtmieeoceckcnkaaPn2
import Derived.Test.YtmieeoceckcnkaaPn4
import Derived.Test.YtmieeoceckcnkaaPn5
import Derived.Test.YtmieeoceckcnkaaPn6
import Derived.Test.YtmieeoceckcnkaaPn7
import Derived.Test.YtmieeoceckcnkaaPn8
import Derived.Test.YtmieeoceckcnkaaPn9
import Derived.Test.YtmieeoceckcnkaaPn10
import Derived.Test.YtmieeoceckcnkaaPn11
import Derived.Test.YtmieeoceckcnkaaPn15
import Derived.Test.YtmieeoceckcnkaaPn16
import Derived.Test.YtmieeoceckcnkaaPn17
import Derived.Deep.RegionLaw
import Derived.Deep.RegionHeld3
import Derived.BigRegion
import Derived.Maps.AppendAt
import Derived.Laws.AppendOwnNone
import Derived.Laws.OwnMore
import Derived.Lib.AppendZerosOnto
import Derived.Lib.SliceRun
import Derived.Lib.Walk
import Derived.Laws.Externs
import Derived.Shelf.Spec.BitsCarry
import Derived.Deep.CutBlock
import Derived.Deep.CutRange
import Derived.Deep.DeepCutAuto
import Derived.Lib.BitFns
import Derived.Shelf.Small.Bits
import Derived.Shelf.Strconv.Itoa0
import Derived.Shelf.Bits.Mul64
import Derived.Test.YtmieeoceckcnkaaRows
import Derived.WalkKit
import Derived.WalkSpells
import Derived.WalkLawsBesides
import Derived.Deep.QuietTactic
import Derived.BigQuiet
import Derived.RegionTactic
import Derived.Deep.AppendLies
import Derived.Laws.ResultCell
import Derived.Laws.EntriesVeiled
import Derived.Lib.Hide
import Derived.Laws.BytesArg
import Derived.Lib.SlBytesConst
import Derived.StillTailTactics
set_option maxRecDepth 100000
set_option maxHeartbeats 8000000
namespace Go.Proofs.Ytmieeoceckcnkaa
open Go.RowKit
noncomputable def okB (P : Prop) : Bool := @decide P (Classical.propDecidable _)
theorem okB_yes {P : Prop} (h : P) : okB P = true := by unfold okB; simp [h]
theorem okB_no {P : Prop} (h : ¬ P) : okB P = false := by unfold okB; simp [h]
def RightP (d : Int) (lo hi : Int) (L W : List Tm) : Prop := 10 ≤ d ∧ d ≤ 1000 ∧ LoadOk d.toNat lo hi L W
section
variable (d lo hi : Int) (p : Option Addr) (n c : Nat) (q : Option Addr) (m e : Nat) (L W : List Tm) (w : World)
theorem rright_any (hL : Sl w p n c L) (hW : Sl w q m e W) (hN : n + m ≤ 400000000000) (hu : ∀ t ∈ L ++ W, t.2 < 18446744073709551616) :
    Calls Try.prog 13 #[.int .i64 d, .int .i64 lo, .int .i64 hi, .slice p n c, .slice q m e] w fun e w' => e = .returned (.bool (okB (RightP d lo hi L W))) ∧ Fr S0 w w' := by
  have hlW := hW.len
  have hlL := hL.len
  by_cases h1 : d < 10
  · have hno := okB_no (fun h : RightP d lo hi L W => by have := h.1; omega)
    rw [hno]
    clear hL hW hu hlW hlL hN hno
    go_enter Try.func13, Try.ntmps13
    go_wp2_with fail
    go_ret
    exact ⟨rfl, Fr.refl _ _⟩
  have d1 : decide (d < 10) = false := decide_eq_false h1
  by_cases h2 : 1000 < d
  · have hno := okB_no (fun h : RightP d lo hi L W => by have := h.2.1; omega)
    rw [hno]
    clear hL hW hu hlW hlL hN hno
    go_enter Try.func13, Try.ntmps13
    go_wp2_with fail
    go_ret
    exact ⟨rfl, Fr.refl _ _⟩
  have d2 : decide (1000 < d) = false := decide_eq_false h2
  by_cases h3 : d ≤ (m : Int)
  · have hno := okB_no (fun h : RightP d lo hi L W => by have := h.2.2.len; omega)
    rw [hno]
    have d3 : decide (d ≤ (m : Int)) = true := decide_eq_true h3
    clear hL hW hu hlW hlL hN hno
    go_enter Try.func13, Try.ntmps13
    go_wp2_with fail
    go_ret
    exact ⟨rfl, Fr.refl _ _⟩
  have d3 : decide (d ≤ (m : Int)) = false := decide_eq_false h3
  have HC := Lib.hid (fun X (f : Fr S0 w X) => And.intro (hL.fr0 f) (hW.fr0 f))
  have HR1 : Hid (Room n) := Lib.hid (Room.mk (by omega))
  have HR2 : Hid (Room (n + m)) := Lib.hid (Room.mk (by omega))
  have HA0 : Hid (Acc 44 w w (.slice none 0 0) 0 []) := Lib.hid (Acc.nil (Fr.refl _ _))
  have HLEN : Hid (10 ≤ d ∧ d ≤ 1000 ∧ W.length < d.toNat) := Lib.hid ⟨by omega, by omega, by omega⟩
  have HLL := Lib.hid (And.intro hlL hlW)
  have HU := Lib.hid hu
  have HNM := Lib.hid hN
  obtain ⟨Z, eZ⟩ : ∃ Z, okB (RightP d lo hi L W) = Z := ⟨_, rfl⟩
  have HYES : Hid (LoadOk d.toNat lo hi L W → Z = true) := Lib.hid fun h => by rw [← eZ]; exact okB_yes ⟨HLEN.out.1, HLEN.out.2.1, h⟩
  have HNO : Hid (¬ LoadOk d.toNat lo hi L W → Z = false) := Lib.hid fun h => by rw [← eZ]; exact okB_no fun h9 => h h9.2.2
  rw [eZ]
  clear hL hW hu hlW hlL hN eZ
  go_enter Try.func13, Try.ntmps13
  go_wp2_with (first
    | ((with_reducible show wpList _ _ _ (Oper.mk (some 28) _ _ _ _ _ :: _) _ _); refine app_two elAm (.tmp 26) (.tmp 27) HA0.out (HC.out w (Fr.refl _ _)).1 (Nat.zero_add _) HR1.out rfl rfl rfl rfl ?_; intro q5 d5 w5 ha5; have HA5 := Lib.hid ha5; clear ha5)
    | ((with_reducible show wpList _ _ _ (Oper.mk (some 31) _ _ _ _ _ :: _) _ _); refine app_two elAm (.tmp 29) (.tmp 30) HA5.out (HC.out _ HA5.out.fr).2 rfl HR2.out rfl rfl rfl rfl ?_; intro q6 d6 w6 ha6; have HA6 := Lib.hid ha6; clear ha6)
    | fail)
  obtain ⟨N, eN⟩ : ∃ N, n + m = N := ⟨_, rfl⟩
  have HEN := Lib.hid eN
  have HS6A := Lib.hid (Sl.ofOwns HA6.out.own)
  rw [eN] at HS6A ⊢
  have hNN : N ≤ 400000000000 := by have := HNM.out; omega
  obtain ⟨A, eA⟩ : ∃ A, L ++ W = A := ⟨_, rfl⟩
  have HEA := Lib.hid eA
  have HS6 : Hid (Sl w6 q6 N d6 A) := Lib.hid (by have h9 := HS6A.out; rw [List.nil_append, eA] at h9; exact h9)
  have HF6 := Lib.hid HA6.out.fr
  rw [eA] at HU
  clear eN eA HA5 HA6 HS6A HA0
  go_wp2_with fail
  go_loopw [11, 13] (fun t i wr => ∃ j T : Nat, j ≤ N ∧ i = .int .i64 (j : Int) ∧ t = .int .u64 (T : Int) ∧ Hid (wts (A.take j) = T) ∧ T ≤ 281474976710656 ∧ Hid (Fr S0 w6 wr) ∧ Hid (∀ t ∈ A.take j, Fit lo hi t) ∧ Hid (∀ i, (hi : i + 1 < L.length) → i + 1 < j → L[i].1 ≤ L[i + 1].1)) (fun _ i _ => N - (intOf i).toNat)
  case atStart => exact ⟨0, 0, by omega, rfl, rfl, Lib.hid rfl, by omega, Lib.hid (Fr.refl _ _), Lib.hid fun t ht => by simp at ht, Lib.hid fun i _ h => by omega⟩
  case round =>
    obtain ⟨j, T, hj, rfl, rfl, hT, hT2, hfr, hfit, hris⟩ := hrel
    by_cases hjn : (j : Int) < (N : Int)
    · have hjl : j < A.length := by rw [HS6.out.len]; omega
      obtain ⟨b, o, rfl, k0, k1⟩ := (HS6.out.fr0 hfr.out).at j hjl
      obtain ⟨ht1, -⟩ := wts_take A j hjl
      have ht2 := wts_take_le A (j + 1)
      have hmem : A[j] ∈ A := List.getElem_mem hjl
      have hub := HU.out _ hmem
      have htk := List.take_succ_eq_append_getElem hjl
      rw [hT.out] at ht1
      have HAL : Hid (∀ h : j < L.length, L[j] = A[j]) := Lib.hid fun h => by simp only [← HEA.out]; rw [List.getElem_append_left h]
      obtain ⟨⟨v, u⟩, hx⟩ : ∃ t, A[j] = t := ⟨_, rfl⟩
      rw [hx] at k0 k1 ht1 hmem hub htk HAL
      simp only at k0 k1 ht1 hub
      have HMEM := Lib.hid hmem
      have HTK := Lib.hid htk
      have HT1 := Lib.hid ht1
      have HT2 := Lib.hid ht2
      have HTB : Hid (u = 0 → ¬ LoadOk d.toNat lo hi L W) := Lib.hid fun h hk => by
        have h9 := (hk.fit (v, u) (by rw [HEA.out]; exact HMEM.out)).n
        simp only at h9
        omega
      have HTC : Hid (281474976710656 < T + u → ¬ LoadOk d.toNat lo hi L W) := Lib.hid fun h hk => by
        have h9 := hk.tot
        rw [HEA.out] at h9
        have := HT1.out
        have := HT2.out
        omega
      have HTD : Hid (¬ (lo ≤ v ∧ v ≤ hi) → ¬ LoadOk d.toNat lo hi L W) := Lib.hid fun h hk => by
        have h9 := hk.fit (v, u) (by rw [HEA.out]; exact HMEM.out)
        exact h ⟨h9.lo, h9.hi⟩
      have iS : (281474976710656 : Int) - (T : Int) = ((281474976710656 - T : Nat) : Int) := by omega
      obtain ⟨SS, eSS⟩ : ∃ SS, 281474976710656 - T = SS := ⟨_, rfl⟩
      rw [eSS] at iS
      have bSS : (SS : Int) < 18446744073709551616 := by omega
      clear hx hmem htk ht1 ht2
      by_cases hu0 : u = 0
      · have hz := HNO.out (HTB.out hu0)
        subst hz hu0
        go_wp2_with fail
        go_ret
        exact ⟨rfl, HF6.out.trans0 hfr.out⟩
      have dU : ((u : Int) == 0) = false := by rw [beq_eq_false_iff_ne]; omega
      by_cases hts : SS < u
      · have hz := HNO.out (HTC.out (by omega))
        subst hz
        have dS : decide (SS < u) = true := decide_eq_true hts
        go_wp2_with fail
        go_ret
        exact ⟨rfl, HF6.out.trans0 hfr.out⟩
      have dS : decide (SS < u) = false := decide_eq_false hts
      have iSU : ¬ (SS : Int) < (u : Int) := by omega
      by_cases hv1 : v < lo
      · have hz := HNO.out (HTD.out (by omega))
        subst hz
        have dv : decide (v < lo) = true := decide_eq_true hv1
        go_wp2_with fail
        go_ret
        exact ⟨rfl, HF6.out.trans0 hfr.out⟩
      have dv : decide (v < lo) = false := decide_eq_false hv1
      by_cases hv2 : hi < v
      · have hz := HNO.out (HTD.out (by omega))
        subst hz
        have dv2 : decide (hi < v) = true := decide_eq_true hv2
        go_wp2_with fail
        go_ret
        exact ⟨rfl, HF6.out.trans0 hfr.out⟩
      have dv2 : decide (hi < v) = false := decide_eq_false hv2
      obtain ⟨U, eU⟩ : ∃ U, T + u = U := ⟨_, rfl⟩
      have iU : (T : Int) + (u : Int) = (U : Int) := by omega
      have bU : (U : Int) < 18446744073709551616 := by omega
      have hU2 : U ≤ 281474976710656 := by omega
      have HSU : Hid (wts (A.take (j + 1)) = U) := Lib.hid (by rw [HT1.out]; exact eU)
      have HFN : Hid (∀ t ∈ A.take (j + 1), Fit lo hi t) := Lib.hid fun t ht => by
        rw [HTK.out] at ht
        rcases List.mem_append.1 ht with h | h
        · exact hfit.out t h
        · rw [List.mem_singleton.1 h]
          exact ⟨by simp only; omega, by simp only; omega, by simp only; omega⟩
      clear eU HTB HTC HTD eSS
      by_cases hj0 : j = 0
      · have HRN : Hid (∀ i, (hi : i + 1 < L.length) → i + 1 < j + 1 → L[i].1 ≤ L[i + 1].1) := Lib.hid fun i _ h => by omega
        have dj : decide (0 < j) = false := decide_eq_false (by omega)
        have ij : ¬ (0 : Int) < (j : Int) := by omega
        clear hris hj0
        go_wp2_with fail
        go_quiet (fail)
        have HFQ := Lib.hid (hfr.out.trans0 (Fr.drewN S0 wr nq))
        obtain ⟨c0, c1⟩ := And.intro ((Fr.drewN S0 wr nq).cell k0 fun h => h) ((Fr.drewN S0 wr nq).cell k1 fun h => h)
        go_wp2_with fail
        go_roundw
        case rel => exact ⟨j + 1, U, by omega, by go_num, rfl, HSU, hU2, HFQ, HFN, HRN⟩
        case measure => first | (simp [intOf]; done) | (simp [intOf]; omega)
      have dj : decide (0 < j) = true := decide_eq_true (by omega)
      have ij : (0 : Int) < (j : Int) := by omega
      by_cases hjL : n ≤ j
      · have HRN : Hid (∀ i, (hi : i + 1 < L.length) → i + 1 < j + 1 → L[i].1 ≤ L[i + 1].1) := Lib.hid fun i hi h => hris.out i hi (by have := HLL.out.1; omega)
        have dn : decide (j < n) = false := decide_eq_false (by omega)
        have inn : ¬ (j : Int) < (n : Int) := by omega
        clear hris hj0
        go_wp2_with fail
        go_quiet (fail)
        have HFQ := Lib.hid (hfr.out.trans0 (Fr.drewN S0 wr nq))
        obtain ⟨c0, c1⟩ := And.intro ((Fr.drewN S0 wr nq).cell k0 fun h => h) ((Fr.drewN S0 wr nq).cell k1 fun h => h)
        go_wp2_with fail
        go_roundw
        case rel => exact ⟨j + 1, U, by omega, by go_num, rfl, HSU, hU2, HFQ, HFN, HRN⟩
        case measure => first | (simp [intOf]; done) | (simp [intOf]; omega)
      have dn : decide (j < n) = true := decide_eq_true (by omega)
      have inn : (j : Int) < (n : Int) := by omega
      obtain ⟨i, eI⟩ : ∃ i, j - 1 = i := ⟨_, rfl⟩
      have eJ : (j : Int) - 1 = (i : Int) := by omega
      have hiL : i + 1 < L.length := by have := HLL.out.1; omega
      have hil : i < A.length := by omega
      obtain ⟨b2, o2, hp2, m0, -⟩ := (HS6.out.fr0 hfr.out).at i hil
      simp only [Option.some.injEq, Addr.mk.injEq] at hp2
      obtain ⟨rfl, rfl, -⟩ := hp2
      have HAI : Hid (L[i] = A[i]) := Lib.hid (by simp only [← HEA.out]; rw [List.getElem_append_left (by omega)])
      have HAJ : Hid (L[i + 1].1 = v) := Lib.hid (by
        have h9 := HAL.out (by omega)
        have e9 : j = i + 1 := by omega
        subst e9
        rw [h9])
      obtain ⟨⟨v0, u0⟩, hx0⟩ : ∃ t, A[i] = t := ⟨_, rfl⟩
      rw [hx0] at m0 HAI
      simp only at m0
      have HJ : Hid (IntKind.i64.wrap (i : Int) = (i : Int) ∧ (0 : Int) ≤ (i : Int) ∧ (i : Int) < (N : Int) ∧ (0 : Int) ≤ (j : Int) ∧ (j : Int) < (N : Int)) := Lib.hid ⟨by rw [IntKind.wrap_i64]; omega, by omega, by omega, by omega, by omega⟩
      have HIJ : Hid (i + 1 = j) := Lib.hid (by omega)
      have hiN : (i : Int) < (N : Int) := by omega
      have hi0 : (0 : Int) ≤ (i : Int) := by omega
      by_cases hvv : v < v0
      · have hz := HNO.out fun hk => by
          have h9 := ris_at hk.ris hiL
          rw [HAI.out, HAJ.out] at h9
          simp only at h9
          omega
        subst hz
        have dvv : decide (v < v0) = true := decide_eq_true hvv
        clear eI hx0 hris hj0
        go_wp2_with fail
        obtain ⟨y1, y2, y3, y4, y5⟩ := HJ.out
        go_quiet (fail)
        go_wp2_with fail
        go_ret
        exact ⟨rfl, HF6.out.trans0 (hfr.out.trans0 (Fr.drewN S0 wr _))⟩
      · have dvv : decide (v < v0) = false := decide_eq_false hvv
        have HRN : Hid (∀ i, (hi : i + 1 < L.length) → i + 1 < j + 1 → L[i].1 ≤ L[i + 1].1) := Lib.hid fun i2 hi2 h => by
          rcases Nat.lt_or_ge (i2 + 1) j with h9 | h9
          · exact hris.out i2 hi2 h9
          · have := HIJ.out
            obtain rfl : i2 = i := by omega
            rw [HAI.out, HAJ.out]
            simp only
            omega
        clear eI hx0 hris hj0
        go_wp2_with fail
        obtain ⟨y1, y2, y3, y4, y5⟩ := HJ.out
        go_quiet (fail)
        have HFQ := Lib.hid (hfr.out.trans0 (Fr.drewN S0 wr nq))
        obtain ⟨c0, c1⟩ := And.intro ((Fr.drewN S0 wr nq).cell k0 fun h => h) ((Fr.drewN S0 wr nq).cell k1 fun h => h)
        go_wp2_with fail
        go_roundw
        case rel => exact ⟨j + 1, U, by omega, by go_num, rfl, HSU, hU2, HFQ, HFN, HRN⟩
        case measure => first | (simp [intOf]; done) | (simp [intOf]; omega)
    · obtain rfl : j = N := by omega
      have htN : A.take j = A := by rw [← HS6.out.len]; exact List.take_length
      have HFA : Hid (∀ t ∈ A, Fit lo hi t) := Lib.hid (by have := hfit.out; rwa [htN] at this)
      have HTA : Hid (wts A = T) := Lib.hid (by have := hT.out; rwa [htN] at this)
      have HLK : Hid ((A = [] → lo = 0 ∧ hi = 0) → LoadOk d.toNat lo hi L W) := Lib.hid fun h => ⟨HLEN.out.2.2, ris_near fun i hi9 => hris.out i hi9 (by have := HLL.out.1; have := HEN.out; omega), by rw [HEA.out]; exact HFA.out, by rw [HEA.out, HTA.out]; exact hT2, by rw [HEA.out]; exact h⟩
      have HNE : Hid (T = 0 → A = []) := Lib.hid fun h => by
        cases A with
        | nil => rfl
        | cons t r =>
          have h1 := HTA.out
          have h2 := (HFA.out t List.mem_cons_self).n
          rw [wts_cons] at h1
          omega
      have HNX := Lib.hid (HF6.out.trans0 hfr.out)
      clear htN
      by_cases hT0 : T = 0
      · subst hT0
        have hA0 := HNE.out rfl
        by_cases hlo : lo = 0
        · subst hlo
          by_cases hhi : hi = 0
          · subst hhi
            have hz := HYES.out (HLK.out fun _ => ⟨rfl, rfl⟩)
            subst hz
            clear hA0
            go_wp2_with fail
            go_ret
            exact ⟨rfl, HNX.out⟩
          · have hz := HNO.out fun h => hhi (h.emp (by rw [HEA.out]; exact hA0)).2
            subst hz
            have dh : (hi == 0) = false := by rw [beq_eq_false_iff_ne]; exact hhi
            clear hA0
            go_wp2_with fail
            go_ret
            exact ⟨rfl, HNX.out⟩
        · have hz := HNO.out fun h => hlo (h.emp (by rw [HEA.out]; exact hA0)).1
          subst hz
          have dl : (lo == 0) = false := by rw [beq_eq_false_iff_ne]; exact hlo
          clear hA0
          go_wp2_with fail
          go_ret
          exact ⟨rfl, HNX.out⟩
      · have hz := HYES.out (HLK.out fun h => by
          have h1 := HTA.out
          rw [h] at h1
          exact absurd h1.symm hT0)
        subst hz
        have iT : (0 : Int) < (T : Int) := by omega
        have dT : decide (0 < T) = true := decide_eq_true (by omega)
        go_wp2_with fail
        go_ret
        exact ⟨rfl, HNX.out⟩
end
end Go.Proofs.Ytmieeoceckcnkaa
