/- KcAt -/
import Derived.Test.YtbpfmjekpjfceaaPa1
import Derived.Test.YtbpfmjekpjfceaaPa2
import Derived.Test.YtbpfmjekpjfceaaPa3
import Derived.Test.YtbpfmjekpjfceaaPa4
import Derived.Test.YtbpfmjekpjfceaaPa6
import Derived.Test.YtbpfmjekpjfceaaPa7
import Derived.Test.YtbpfmjekpjfceaaPa8
import Derived.Test.YtbpfmjekpjfceaaPa9
import Derived.Test.YtbpfmjekpjfceaaPa16
import Derived.Test.YtbpfmjekpjfceaaPa17
import Derived.Test.YtbpfmjekpjfceaaPa18
import Derived.Test.YtbpfmjekpjfceaaPa19
import Derived.Test.YtbpfmjekpjfceaaPa20
import Derived.Test.YtbpfmjekpjfceaaPa21
import Derived.Test.YtbpfmjekpjfceaaPa22
import Derived.Test.YtbpfmjekpjfceaaPa23
import Derived.Test.YtbpfmjekpjfceaaPa24
import Derived.Maps.AppendAt
import Derived.Laws.AppendOwnNone
import Derived.Laws.OwnMore
import Derived.Lib.AppendZerosOnto
import Derived.Lib.SliceRun
import Derived.Lib.Walk
import Derived.WalkKit
import Derived.Laws.BytesArg
import Derived.Lib.SlBytesConst
import Derived.WalkSpells
import Derived.WalkLawsBesides
import Derived.Deep.QuietTactic
import Derived.BigQuiet
import Derived.RegionTactic
import Derived.Deep.AppendLies
import Derived.Deep.RegionLaw
import Derived.Laws.ResultCell
import Derived.Laws.EntriesVeiled
import Derived.Lib.Hide
import Derived.Test.YtbpfmjekpjfceaaRows
import Derived.Laws.Externs
import Derived.Shelf.Spec.BitsCarry
import Derived.Deep.CutBlock
import Derived.Deep.CutRange
import Derived.Deep.DeepCutAuto
import Derived.Lib.BitFns
import Derived.Shelf.Small.Bits
import Derived.Shelf.Strconv.Itoa0
import Derived.Shelf.Bits.Mul64
import Derived.Deep.RegionHeld3
import Derived.BigRegion
import Derived.Shelf.SlSortCmp.WholeK
set_option maxRecDepth 100000
set_option maxHeartbeats 8000000
namespace Go.Proofs.Ytbpfmjekpjfceaa
open Go.RowKit
theorem KsS.fr0 {w w' : World} {g k T E : Nat} {C D : Nat → Prop} {L : Lv} (s : KsS w g C D k L T E) (f : Fr S0 w w') : KsS w' g C D k L T E := let ⟨p, n, c, rs, s⟩ := s; ⟨p, n, c, rs, s.fr0 f⟩
theorem wts_take_all (l : List Tm) (i : Nat) (hi : i < l.length) : wts (l.take (i + 1)) = wts (l.take i) + l[i].2 := (wts_take l i hi).1
section
variable (g k T E num den : Nat) (C D : Nat → Prop) (L : Lv) (w : World)
theorem xat_no (s : KsS w g C D k L T E) (hT : T ≤ 281474976710656) (hd : den < 18446744073709551616) (he : rkE num den T ≠ 0) : Calls Try.prog 27 #[.pointer (some ⟨g, 0, none⟩), .int .u64 (num : Nat), .int .u64 (den : Nat)] w fun e w' => e = .returned (.tuple #[.int .i64 0, .int .u64 0, .int .i64 (rkE num den T : Nat)]) ∧ Fr S0 w w' := by
  obtain ⟨p, n, c, rs, s⟩ := s
  have c2 := s.c2
  have HR := Lib.hid (rank_any num den T w (by omega) hd)
  obtain ⟨R, hR⟩ : ∃ R, rkR num den T = R := ⟨_, rfl⟩
  obtain ⟨X, hX⟩ : ∃ X, rkE num den T = X := ⟨_, rfl⟩
  rw [hR, hX] at HR
  rw [hX] at he ⊢
  have k1 : ((X : Int) != 0) = true := by rw [bne_iff_ne]; omega
  clear s hR hX hT hd
  go_enter Try.func27, Try.ntmps27
  go_wp2_with fail
  refine HR.out.mono ?_
  rintro e w1 ⟨rfl, f1⟩
  go_wp2_with fail
  go_ret3
  exact ⟨rfl, f1⟩
theorem xat_yes (s : KsS w g C D k L T E) (hTw : T = wtL L) (hT : T ≤ 281474976710656) (hd : den < 18446744073709551616) (he : rkE num den T = 0) (hk : kept L ≤ 1000000) (hL : L.length ≤ 60) :
    Calls Try.prog 27 #[.pointer (some ⟨g, 0, none⟩), .int .u64 (num : Nat), .int .u64 (den : Nat)] w fun e w' => e = .returned (.tuple #[.int .i64 (atV L (rkR num den T)), .int .u64 (E : Nat), .int .i64 0]) ∧ Fr S0 w w' := by
  have HTM := Lib.hid (fun W (f : Fr S0 w W) => xterms_any g k T E C D L W (KsS.fr0 s f) (by omega) hL)
  obtain ⟨p, n, c, rs, s⟩ := s
  have c2 := s.c2
  have HS := Lib.hid s
  have HR := Lib.hid (rank_any num den T w (by omega) hd)
  have hr : 1 ≤ rkR num den T ∧ rkR num den T ≤ T := by
    unfold rkE at he
    unfold rkR
    by_cases h : den = 0 ∨ den < num
    · rw [if_pos h] at he; omega
    · rw [if_neg h] at he ⊢
      by_cases h2 : T = 0
      · rw [if_pos h2] at he; omega
      · rw [if_neg h2]
        exact rnk_all (by omega) (by omega)
  rw [he] at HR
  obtain ⟨R, hR⟩ : ∃ R, rkR num den T = R := ⟨_, rfl⟩
  rw [hR] at HR hr ⊢
  have HRT := Lib.hid hr
  have HTW := Lib.hid hTw
  have hRi : (R : Int) ≤ 281474976710656 := by omega
  have HKP := Lib.hid hk
  clear s hR he hd hr hTw hk hL
  go_enter Try.func27, Try.ntmps27
  go_wp2_with fail
  refine HR.out.mono ?_
  rintro e w1 ⟨rfl, f1⟩
  have HT1 := Lib.hid (HTM.out w1 f1)
  have F1 := Lib.hid f1
  clear f1 HTM HR
  go_wp2_with fail
  refine HT1.out.mono ?_
  rintro e w2 ⟨u, rfl, acc⟩
  obtain ⟨q, d, rfl⟩ := slFormN acc.own
  have HSO := Lib.hid (sort_any w1 w2 q (kept L) d (trms 0 L) acc HKP.out)
  obtain ⟨N, hN⟩ : ∃ N, kept L = N := ⟨_, rfl⟩
  have HNL : Hid ((trms 0 L).length = N) := Lib.hid (by rw [trms_len, hN])
  rw [hN] at HSO ⊢
  have hNb : (N : Int) ≤ 1000000 := by have := HKP.out; omega
  clear acc HT1 hN
  go_wp2_with fail
  refine HSO.out.mono ?_
  rintro e w3 ⟨rfl, l, hperm, hsrt, tm, f3⟩
  have HTM := Lib.hid tm
  have HPM := Lib.hid hperm
  have HSRT := Lib.hid hsrt
  have HLN : Hid (l.length = N) := Lib.hid (by rw [hperm.length_eq, HNL.out])
  have HWL : Hid (wts l = wtL L) := Lib.hid (by rw [wts_perm hperm, wts_trms])
  have F3 := Lib.hid (F1.out.trans0 f3)
  have c3 := (HS.out.fr0 (F1.out.trans0 f3)).c3
  clear tm hperm hsrt f3 HSO
  go_wp2_with fail
  go_loopw [9, 12] (fun a z wr => ∃ i A : Nat, z = .int .i64 (i : Nat) ∧ a = .int .u64 (A : Nat) ∧ i < N ∧ 1 ≤ A ∧ A ≤ R ∧ Hid (A + wts (l.take i) = R) ∧ wr = w3) (fun _ z _ => N - (intOf z).toNat)
  case atStart =>
    refine ⟨0, R, rfl, rfl, ?_, HRT.out.1, Nat.le_refl _, Lib.hid (by simp [wts]), rfl⟩
    rcases Nat.eq_zero_or_pos N with h0 | h0
    · exfalso
      have h1 := HLN.out
      rw [h0] at h1
      have h2 := HWL.out
      rw [List.eq_nil_of_length_eq_zero h1] at h2
      have h3 := HRT.out
      have h4 := HTW.out
      simp only [wts, List.map_nil, List.sum_nil] at h2
      omega
    · exact h0
  case round =>
    obtain ⟨i, A, rfl, rfl, hi, hA1, hAR, hAw, rfl⟩ := hrel
    have hil : i < l.length := by rw [HLN.out]; exact hi
    obtain ⟨b, o, rfl, d0, d1⟩ := HTM.out.at i hil
    have htk := wts_take_all l i hil
    obtain ⟨⟨tv, tn⟩, ht⟩ : ∃ t, l[i] = t := ⟨_, rfl⟩
    rw [ht] at d0 d1 htk
    simp only at d0 d1 htk
    have hi0 : (0 : Int) ≤ (i : Int) := by omega
    have hiN : (i : Int) < (N : Int) := by omega
    have HT := Lib.hid ht
    have HTK := Lib.hid htk
    clear ht htk
    by_cases hgt : tn < A
    · have kg : decide (tn < A) = true := decide_eq_true hgt
      have hs : (A : Int) - (tn : Int) = ((A - tn : Nat) : Int) := by omega
      have HW : Hid (A - tn + wts (l.take (i + 1)) = R) := Lib.hid (by have := hAw.out; rw [HTK.out]; omega)
      have hi2 : i + 1 < N := by
        rcases Nat.lt_or_ge (i + 1) N with h | h
        · exact h
        · exfalso
          have e : l.take (i + 1) = l := List.take_of_length_le (by rw [HLN.out]; exact h)
          have h1 := HTK.out
          rw [e, HWL.out] at h1
          have h2 := hAw.out
          have h3 := HRT.out
          have h4 := HTW.out
          omega
      have hsub : (tn : Int) < (A : Int) := by omega
      clear hAw
      go_wp2_with fail
      go_roundw
      case rel => exact ⟨i + 1, A - tn, by go_num, by go_num, hi2, by omega, by omega, HW, trivial⟩
      case measure => simp [intOf]; omega
    · have kg : decide (tn < A) = false := decide_eq_false hgt
      have HY : Hid (atV L R = tv) := Lib.hid (by
        have h := isAt_sorted HPM.out HSRT.out (i := i) (by rw [HLN.out]; exact hi) (r := R) (by have := hAw.out; omega) (by have := hAw.out; rw [HTK.out]; omega)
        have h2 := h.atV
        rw [HT.out] at h2
        exact h2)
      clear hAw hgt
      go_wp2_with fail
      go_quiet (fail)
      go_wp2_with fail
      go_ret3
      exact ⟨by rw [HY.out]; rfl, F3.out.trans0 (Fr.drewN S0 _ _)⟩
theorem xbetween_any (v : Int) (s : KsS w g C D k L T E) (hw : wtL L ≤ 281474976710656) (hk : kept L ≤ 1000000) (hL : L.length ≤ 60) :
    Calls Try.prog 31 #[.pointer (some ⟨g, 0, none⟩), .int .i64 v] w fun e w' => e = .returned (.tuple #[.int .u64 (cntL (loB v) L : Nat), .int .u64 (cntL (upB v) L : Nat)]) ∧ Fr S0 w w' := by
  have HTM := Lib.hid (xterms_any g k T E C D L w s (by omega) hL)
  have HW : Hid (∀ P i, wcnt P ((trms 0 L).take i) ≤ 281474976710656) := Lib.hid fun P i => by
    have h1 := wcnt_le P ((trms 0 L).take i)
    have h2 := wts_take_le (trms 0 L) i
    rw [wts_trms] at h2
    omega
  obtain ⟨N, hN⟩ : ∃ N, kept L = N := ⟨_, rfl⟩
  have HNL : Hid ((trms 0 L).length = N) := Lib.hid (by rw [trms_len, hN])
  rw [hN] at HTM hk
  have hNi : (N : Int) ≤ 1000000 := by omega
  clear s hN hk hL hw
  go_enter Try.func31, Try.ntmps31
  go_wp2_with fail
  refine HTM.out.mono ?_
  rintro e w1 ⟨u, rfl, acc⟩
  obtain ⟨q, d, rfl⟩ := slFormN acc.own
  have HT1 := Lib.hid (Sl.ofOwns acc.own)
  have F1 := Lib.hid acc.fr
  clear acc HTM
  go_wp2_with fail
  go_loopw [6, 7, 9, 13] (fun a b _ z wr => ∃ i A B : Nat, z = .int .i64 (i : Nat) ∧ a = .int .u64 (A : Nat) ∧ b = .int .u64 (B : Nat) ∧ i ≤ N ∧ Hid (A = wcnt (loB v) ((trms 0 L).take i)) ∧ Hid (B = wcnt (upB v) ((trms 0 L).take i)) ∧ Hid (Fr S0 w1 wr)) (fun _ _ _ z _ => N - (intOf z).toNat)
  case atStart => exact ⟨0, 0, 0, rfl, rfl, rfl, by omega, Lib.hid (by simp [wcnt]), Lib.hid (by simp [wcnt]), Lib.hid (Fr.refl _ _)⟩
  case round =>
    obtain ⟨i, A, B, rfl, rfl, rfl, hi, hA, hB, hf⟩ := hrel
    by_cases hlt : (i : Int) < (N : Int)
    · have hil : i < (trms 0 L).length := by rw [HNL.out]; omega
      obtain ⟨b, o, rfl, d0, d1⟩ := (HT1.out.fr0 hf.out).at i hil
      have htk := List.take_succ_eq_append_getElem hil
      obtain ⟨⟨tv, tn⟩, ht⟩ : ∃ t, (trms 0 L)[i] = t := ⟨_, rfl⟩
      rw [ht] at d0 d1 htk
      simp only at d0 d1
      have hlo : wcnt (loB v) ((trms 0 L).take (i + 1)) = A + (if loB v tv then tn else 0) := by rw [htk, wcnt_app, ← hA.out]; simp [wcnt]
      have hup : wcnt (upB v) ((trms 0 L).take (i + 1)) = B + (if upB v tv then tn else 0) := by rw [htk, wcnt_app, ← hB.out]; simp [wcnt]
      have hb1 := HW.out (loB v) (i + 1)
      have hb2 := HW.out (upB v) (i + 1)
      have hi0 : (0 : Int) ≤ (i : Int) := by omega
      have HF := Lib.hid (fun o => hf.out.trans0 (Fr.alloc S0 wr o))
      have HFD := Lib.hid (fun o => (hf.out.trans0 (Fr.alloc S0 wr o)).trans0 (Fr.drew S0 _))
      clear ht htk hA hB hil
      by_cases h1 : tv < v
      · have k1 : decide (tv < v) = true := decide_eq_true h1
        have h2 : tv ≤ v := by omega
        have k2 : decide (tv ≤ v) = true := decide_eq_true h2
        rw [show loB v tv = true from k1, if_pos rfl] at hlo
        rw [show upB v tv = true from k2, if_pos rfl] at hup
        rw [hlo] at hb1
        rw [hup] at hb2
        have HLO : Hid (A + tn = wcnt (loB v) ((trms 0 L).take (i + 1))) := Lib.hid hlo.symm
        have HUP : Hid (B + tn = wcnt (upB v) ((trms 0 L).take (i + 1))) := Lib.hid hup.symm
        clear hlo hup
        go_wp2_with fail
        go_roundw
        case rel => exact ⟨i + 1, A + tn, B + tn, by go_num, by go_num, by go_num, by omega, HLO, HUP, by first | exact Lib.hid (HF.out _) | exact Lib.hid (HFD.out _)⟩
        case measure => simp [intOf]; omega
      · have k1 : decide (tv < v) = false := decide_eq_false h1
        rw [show loB v tv = false from k1, if_neg (by decide)] at hlo
        have HLO : Hid (A = wcnt (loB v) ((trms 0 L).take (i + 1))) := Lib.hid (by omega)
        by_cases h2 : tv ≤ v
        · have k2 : decide (tv ≤ v) = true := decide_eq_true h2
          rw [show upB v tv = true from k2, if_pos rfl] at hup
          rw [hup] at hb2
          have HUP : Hid (B + tn = wcnt (upB v) ((trms 0 L).take (i + 1))) := Lib.hid hup.symm
          clear hlo hup hb1
          go_wp2_with fail
          go_roundw
          case rel => exact ⟨i + 1, A, B + tn, by go_num, rfl, by go_num, by omega, HLO, HUP, by first | exact Lib.hid (HF.out _) | exact Lib.hid (HFD.out _)⟩
          case measure => simp [intOf]; omega
        · have k2 : decide (tv ≤ v) = false := decide_eq_false h2
          rw [show upB v tv = false from k2, if_neg (by decide)] at hup
          have HUP : Hid (B = wcnt (upB v) ((trms 0 L).take (i + 1))) := Lib.hid (by omega)
          clear hlo hup hb1 hb2
          go_wp2_with fail
          go_roundw
          case rel => exact ⟨i + 1, A, B, by go_num, rfl, rfl, by omega, HLO, HUP, by first | exact Lib.hid (HF.out _) | exact Lib.hid (HFD.out _)⟩
          case measure => simp [intOf]; omega
    · obtain rfl : i = N := by omega
      have hall : (trms 0 L).take i = trms 0 L := List.take_of_length_le (by rw [HNL.out]; exact Nat.le_refl _)
      have HA : Hid (cntL (loB v) L = A) := Lib.hid (by rw [hA.out, hall, wcnt_trms]; simp)
      have HB : Hid (cntL (upB v) L = B) := Lib.hid (by rw [hB.out, hall, wcnt_trms]; simp)
      clear hall hA hB
      go_wp2_with fail
      go_ret2
      exact ⟨by rw [HA.out, HB.out]; rfl, F1.out.trans0 hf.out⟩
end
end Go.Proofs.Ytbpfmjekpjfceaa
