/- KcAt, KcMean -/
import Derived.Test.YtbpfmjekpjfceaaPm1
import Derived.Test.YtbpfmjekpjfceaaPm2
import Derived.Test.YtbpfmjekpjfceaaPm3
import Derived.Test.YtbpfmjekpjfceaaPm4
import Derived.Test.YtbpfmjekpjfceaaPm6
import Derived.Test.YtbpfmjekpjfceaaPm7
import Derived.Test.YtbpfmjekpjfceaaPm8
import Derived.Test.YtbpfmjekpjfceaaPm9
import Derived.Test.YtbpfmjekpjfceaaPm16
import Derived.Test.YtbpfmjekpjfceaaPm17
import Derived.Test.YtbpfmjekpjfceaaPm18
import Derived.Test.YtbpfmjekpjfceaaPm19
import Derived.Test.YtbpfmjekpjfceaaPm20
import Derived.Test.YtbpfmjekpjfceaaPm21
import Derived.Test.YtbpfmjekpjfceaaPm22
import Derived.Test.YtbpfmjekpjfceaaPm23
import Derived.Test.YtbpfmjekpjfceaaPm24
import Derived.Maps.AppendAt
import Derived.Laws.AppendOwnNone
import Derived.Laws.OwnMore
import Derived.Lib.AppendZerosOnto
import Derived.Lib.SliceRun
import Derived.Lib.Walk
import Derived.WalkKit
import Derived.Laws.BytesArg
import Derived.Lib.SlBytesConst
import Derived.WalkSpells
import Derived.WalkLawsBesides
import Derived.Deep.QuietTactic
import Derived.BigQuiet
import Derived.RegionTactic
import Derived.Deep.AppendLies
import Derived.Deep.RegionLaw
import Derived.Laws.ResultCell
import Derived.Laws.EntriesVeiled
import Derived.Lib.Hide
import Derived.Test.YtbpfmjekpjfceaaRows
import Derived.Laws.Externs
import Derived.Shelf.Spec.BitsCarry
import Derived.Deep.CutBlock
import Derived.Deep.CutRange
import Derived.Deep.DeepCutAuto
import Derived.Lib.BitFns
import Derived.Shelf.Small.Bits
import Derived.Shelf.Strconv.Itoa0
import Derived.Shelf.Bits.Mul64
import Derived.Deep.RegionHeld3
import Derived.BigRegion
import Derived.Shelf.SlSortCmp.WholeK
set_option maxRecDepth 100000
set_option maxHeartbeats 8000000
namespace Go.Proofs.Ytbpfmjekpjfceaa
open Go.RowKit
theorem KsS.fr0 {w w' : World} {g k T E : Nat} {C D : Nat → Prop} {L : Lv} (s : KsS w g C D k L T E) (f : Fr S0 w w') : KsS w' g C D k L T E := let ⟨p, n, c, rs, s⟩ := s; ⟨p, n, c, rs, s.fr0 f⟩
theorem wts_take_all (l : List Tm) (i : Nat) (hi : i < l.length) : wts (l.take (i + 1)) = wts (l.take i) + l[i].2 := (wts_take l i hi).1
section
variable (g k T E num den : Nat) (C D : Nat → Prop) (L : Lv) (w : World)
theorem xat_yes (s : KsS w g C D k L T E) (hTw : T = wtL L) (hT : T ≤ 281474976710656) (hd : den < 18446744073709551616) (he : rkE num den T = 0) (hk : kept L ≤ 1000000) (hL : L.length ≤ 60) :
    Calls Try.prog 27 #[.pointer (some ⟨g, 0, none⟩), .int .u64 (num : Nat), .int .u64 (den : Nat)] w fun e w' => e = .returned (.tuple #[.int .i64 (atV L (rkR num den T)), .int .u64 (E : Nat), .int .i64 0]) ∧ Fr S0 w w' := by
  have HTM := Lib.hid (fun W (f : Fr S0 w W) => xterms_any g k T E C D L W (KsS.fr0 s f) (by omega) hL)
  obtain ⟨p, n, c, rs, s⟩ := s
  have c2 := s.c2
  have HS := Lib.hid s
  have HR := Lib.hid (rank_any num den T w (by omega) hd)
  have hr : 1 ≤ rkR num den T ∧ rkR num den T ≤ T := by
    unfold rkE at he
    unfold rkR
    by_cases h : den = 0 ∨ den < num
    · rw [if_pos h] at he; omega
    · rw [if_neg h] at he ⊢
      by_cases h2 : T = 0
      · rw [if_pos h2] at he; omega
      · rw [if_neg h2]
        exact rnk_all (by omega) (by omega)
  rw [he] at HR
  obtain ⟨R, hR⟩ : ∃ R, rkR num den T = R := ⟨_, rfl⟩
  rw [hR] at HR hr ⊢
  have HRT := Lib.hid hr
  have HTW := Lib.hid hTw
  have hRi : (R : Int) ≤ 281474976710656 := by omega
  have HKP := Lib.hid hk
  clear s hR he hd hr hTw hk hL
  go_enter Try.func27, Try.ntmps27
  go_wp2_with fail
  refine HR.out.mono ?_
  rintro e w1 ⟨rfl, f1⟩
  have HT1 := Lib.hid (HTM.out w1 f1)
  have F1 := Lib.hid f1
  clear f1 HTM HR
  go_wp2_with fail
  refine HT1.out.mono ?_
  rintro e w2 ⟨u, rfl, acc⟩
  obtain ⟨q, d, rfl⟩ := slFormN acc.own
  have HSO := Lib.hid (sort_any w1 w2 q (kept L) d (trms 0 L) acc HKP.out)
  obtain ⟨N, hN⟩ : ∃ N, kept L = N := ⟨_, rfl⟩
  have HNL : Hid ((trms 0 L).length = N) := Lib.hid (by rw [trms_len, hN])
  rw [hN] at HSO ⊢
  have hNb : (N : Int) ≤ 1000000 := by have := HKP.out; omega
  clear acc HT1 hN
  go_wp2_with fail
  refine HSO.out.mono ?_
  rintro e w3 ⟨rfl, l, hperm, hsrt, tm, f3⟩
  have HTM := Lib.hid tm
  have HPM := Lib.hid hperm
  have HSRT := Lib.hid hsrt
  have HLN : Hid (l.length = N) := Lib.hid (by rw [hperm.length_eq, HNL.out])
  have HWL : Hid (wts l = wtL L) := Lib.hid (by rw [wts_perm hperm, wts_trms])
  have F3 := Lib.hid (F1.out.trans0 f3)
  have c3 := (HS.out.fr0 (F1.out.trans0 f3)).c3
  clear tm hperm hsrt f3 HSO
  go_wp2_with fail
  go_loopw [9, 12] (fun a z wr => ∃ i A : Nat, z = .int .i64 (i : Nat) ∧ a = .int .u64 (A : Nat) ∧ i < N ∧ 1 ≤ A ∧ A ≤ R ∧ Hid (A + wts (l.take i) = R) ∧ wr = w3) (fun _ z _ => N - (intOf z).toNat)
  case atStart =>
    refine ⟨0, R, rfl, rfl, ?_, HRT.out.1, Nat.le_refl _, Lib.hid (by simp [wts]), rfl⟩
    rcases Nat.eq_zero_or_pos N with h0 | h0
    · exfalso
      have h1 := HLN.out
      rw [h0] at h1
      have h2 := HWL.out
      rw [List.eq_nil_of_length_eq_zero h1] at h2
      have h3 := HRT.out
      have h4 := HTW.out
      simp only [wts, List.map_nil, List.sum_nil] at h2
      omega
    · exact h0
  case round =>
    obtain ⟨i, A, rfl, rfl, hi, hA1, hAR, hAw, rfl⟩ := hrel
    have hil : i < l.length := by rw [HLN.out]; exact hi
    obtain ⟨b, o, rfl, d0, d1⟩ := HTM.out.at i hil
    have htk := wts_take_all l i hil
    obtain ⟨⟨tv, tn⟩, ht⟩ : ∃ t, l[i] = t := ⟨_, rfl⟩
    rw [ht] at d0 d1 htk
    simp only at d0 d1 htk
    have hi0 : (0 : Int) ≤ (i : Int) := by omega
    have hiN : (i : Int) < (N : Int) := by omega
    have HT := Lib.hid ht
    have HTK := Lib.hid htk
    clear ht htk
    by_cases hgt : tn < A
    · have kg : decide (tn < A) = true := decide_eq_true hgt
      have hs : (A : Int) - (tn : Int) = ((A - tn : Nat) : Int) := by omega
      have HW : Hid (A - tn + wts (l.take (i + 1)) = R) := Lib.hid (by have := hAw.out; rw [HTK.out]; omega)
      have hi2 : i + 1 < N := by
        rcases Nat.lt_or_ge (i + 1) N with h | h
        · exact h
        · exfalso
          have e : l.take (i + 1) = l := List.take_of_length_le (by rw [HLN.out]; exact h)
          have h1 := HTK.out
          rw [e, HWL.out] at h1
          have h2 := hAw.out
          have h3 := HRT.out
          have h4 := HTW.out
          omega
      have hsub : (tn : Int) < (A : Int) := by omega
      clear hAw
      go_wp2_with fail
      go_roundw
      case rel => exact ⟨i + 1, A - tn, by go_num, by go_num, hi2, by omega, by omega, HW, trivial⟩
      case measure => simp [intOf]; omega
    · have kg : decide (tn < A) = false := decide_eq_false hgt
      have HY : Hid (atV L R = tv) := Lib.hid (by
        have h := isAt_sorted HPM.out HSRT.out (i := i) (by rw [HLN.out]; exact hi) (r := R) (by have := hAw.out; omega) (by have := hAw.out; rw [HTK.out]; omega)
        have h2 := h.atV
        rw [HT.out] at h2
        exact h2)
      clear hAw hgt
      go_wp2_with fail
      go_quiet (fail)
      go_wp2_with fail
      go_ret3
      exact ⟨by rw [HY.out]; rfl, F3.out.trans0 (Fr.drewN S0 _ _)⟩
end
end Go.Proofs.Ytbpfmjekpjfceaa

namespace Go.Proofs.Ytbpfmjekpjfceaa
open Go.RowKit
def mnE (L : Lv) : Nat := if wtL L = 0 then 8 else 0
def mnV (L : Lv) : Int := if wtL L = 0 then 0 else ((lsm (trms 0 L) / wtL L : Nat) : Int) - 9223372036854775808
theorem wts_in {l : List Tm} {t : Tm} (h : t ∈ l) : t.2 ≤ wts l := by
  induction l with
  | nil => cases h
  | cons a r ih =>
    have e : wts (a :: r) = a.2 + wts r := by simp [wts]
    rw [e]
    rcases List.mem_cons.1 h with rfl | h
    · omega
    · have := ih h
      omega
def FitL (L : Lv) : Prop := ∀ x, InL L x → -9223372036854775808 ≤ x ∧ x ≤ 9223372036854775807
theorem FitL.ok {L : Lv} (h : FitL L) (hw : wtL L ≤ 281474976710656) : ∀ t ∈ trms 0 L, TmOk t := fun t ht => by
  obtain ⟨h1, h2⟩ := h _ (trms_mem L 0 t ht)
  have h3 := wts_in ht
  rw [wts_trms] at h3
  exact ⟨h1, h2, by omega⟩
section
variable (g k T E : Nat) (C D : Nat → Prop) (L : Lv) (w : World)
theorem xmean_any (s : KsS w g C D k L T E) (hw : wtL L ≤ 281474976710656) (hk : kept L ≤ 1000000) (hL : L.length ≤ 60) (hf : FitL L) :
    Calls Try.prog 40 #[.pointer (some ⟨g, 0, none⟩)] w fun e w' => e = .returned (.tuple #[.int .i64 (mnV L), .int .i64 (mnE L : Nat)]) ∧ Fr S0 w w' := by
  have HTM := Lib.hid (xterms_any g k T E C D L w s (by omega) hL)
  have hok := hf.ok hw
  have hwt : wts (trms 0 L) = wtL L := by rw [wts_trms]
  have hno : MeanNo (trms 0 L) ↔ wtL L = 0 := by
    unfold MeanNo
    rw [hwt]
    omega
  have HMN := Lib.hid (fun q' m' e' W (h : Sl W q' m' e' (trms 0 L)) => show Calls Try.prog 65 #[.slice q' m' e'] W fun e w' => e = .returned (.tuple #[.int .i64 (mnV L), .int .i64 (if wtL L = 0 then 100 else 0)]) ∧ Fr S0 W w' from by
    have h1 := h.len
    subst h1
    refine (mean_any q' e' (trms 0 L) W h.tmi hok).mono fun e w' he => ?_
    obtain ⟨he1, he2⟩ := he
    refine ⟨?_, he2⟩
    rw [mnV]
    by_cases h0 : wtL L = 0
    · rw [if_pos (hno.2 h0)] at he1
      rw [if_pos h0, if_pos h0]
      exact he1
    · rw [if_neg (fun h => h0 (hno.1 h)), hwt] at he1
      rw [if_neg h0, if_neg h0]
      exact he1)
  by_cases h0 : wtL L = 0
  · have e1 : mnV L = 0 := by rw [mnV, if_pos h0]
    have e2 : mnE L = 8 := by rw [mnE, if_pos h0]
    rw [if_pos h0, e1] at HMN
    rw [e1, e2]
    clear s hok hwt hno hf h0 e1 e2
    go_enter Try.func40, Try.ntmps40
    go_wp2_with fail
    refine HTM.out.mono ?_
    rintro e w1 ⟨v, rfl, a1⟩
    obtain ⟨p1, c1, rfl, hs1⟩ := a1.sl
    have S1 := Lib.hid hs1
    have F1 := Lib.hid a1.fr
    clear a1 hs1 HTM
    go_wp2_with fail
    refine (HMN.out _ _ _ _ S1.out).mono ?_
    rintro e w2 ⟨rfl, f2⟩
    go_wp2_with fail
    go_ret2
    exact ⟨rfl, F1.out.trans0 f2⟩
  · have e2 : mnE L = 0 := by rw [mnE, if_neg h0]
    rw [if_neg h0] at HMN
    rw [e2]
    obtain ⟨V, eV⟩ : ∃ V, mnV L = V := ⟨_, rfl⟩
    rw [eV] at HMN ⊢
    clear s hok hwt hno hf h0 e2 eV
    go_enter Try.func40, Try.ntmps40
    go_wp2_with fail
    refine HTM.out.mono ?_
    rintro e w1 ⟨v, rfl, a1⟩
    obtain ⟨p1, c1, rfl, hs1⟩ := a1.sl
    have S1 := Lib.hid hs1
    have F1 := Lib.hid a1.fr
    clear a1 hs1 HTM
    go_wp2_with fail
    refine (HMN.out _ _ _ _ S1.out).mono ?_
    rintro e w2 ⟨rfl, f2⟩
    go_wp2_with fail
    go_ret2
    exact ⟨rfl, F1.out.trans0 f2⟩
end
end Go.Proofs.Ytbpfmjekpjfceaa
