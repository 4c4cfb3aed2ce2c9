/- RgAt, RgUpto -/
import Derived.Test.YticagdppjknlaaaPp1
import Derived.Test.YticagdppjknlaaaPp2
import Derived.Test.YticagdppjknlaaaPp3
import Derived.Test.YticagdppjknlaaaPp4
import Derived.Test.YticagdppjknlaaaPp5
import Derived.Test.YticagdppjknlaaaPp6
import Derived.Test.YticagdppjknlaaaPp7
import Derived.Test.YticagdppjknlaaaPp8
import Derived.Test.YticagdppjknlaaaPp9
import Derived.Test.YticagdppjknlaaaPp10
import Derived.Test.YticagdppjknlaaaPp11
import Derived.Test.YticagdppjknlaaaPp12
import Derived.Test.YticagdppjknlaaaPp13
import Derived.Test.YticagdppjknlaaaPp14
import Derived.Test.YticagdppjknlaaaPp15
import Derived.Test.YticagdppjknlaaaPp16
import Derived.Test.YticagdppjknlaaaPp17
import Derived.Test.YticagdppjknlaaaPp18
import Derived.Test.YticagdppjknlaaaPp19
import Derived.Test.YticagdppjknlaaaPp20
import Derived.BigQuiet
import Derived.BigRegion
import Derived.Deep.RegionLaw
import Derived.Deep.RegionHeld3
import Derived.StillTailTactics
import Derived.Maps.AppendAt
import Derived.Laws.AppendOwnNone
import Derived.Laws.OwnMore
import Derived.Lib.AppendZerosOnto
import Derived.Lib.SliceRun
import Derived.Lib.Walk
import Derived.Laws.Externs
import Derived.Shelf.Spec.BitsCarry
import Derived.Deep.CutBlock
import Derived.Deep.CutRange
import Derived.Deep.DeepCutAuto
import Derived.Lib.BitFns
import Derived.Shelf.Small.Bits
import Derived.Shelf.Strconv.Itoa0
import Derived.Shelf.Bits.Mul64
import Derived.Test.YticagdppjknlaaaRows
import Derived.WalkKit
import Derived.WalkSpells
import Derived.WalkLawsBesides
import Derived.Deep.QuietTactic
import Derived.RegionTactic
import Derived.Deep.AppendLies
import Derived.Laws.ResultCell
import Derived.Laws.EntriesVeiled
import Derived.Lib.Hide
import Derived.Laws.BytesArg
import Derived.Lib.SlBytesConst
set_option maxRecDepth 100000
set_option maxHeartbeats 8000000
namespace Go.Proofs.Yticagdppjknlaaa
open Go.RowKit
theorem mids_get {l : List Tm} {i L : Nat} (h : i < l.length) : (mids L l)[i]'(by rw [mids_len]; exact h) = (l[i].1, 2 * (L + wts (l.take i)) + l[i].2) := by
  induction l generalizing i L with
  | nil => simp at h
  | cons t r ih =>
    cases i with
    | zero => simp [mids, wts]
    | succ i =>
      have := ih (i := i) (L := L + t.2) (by simpa using h)
      simp only [mids, List.getElem_cons_succ, List.take_succ_cons]
      rw [this, wts_cons, Nat.add_assoc]
theorem gpt_zero (x : Dg) : x.pts.getD 0 (0, 0) = (x.lo, 0) := rfl
theorem gpt_mid (x : Dg) {i : Nat} (h : i < (press x.d x.all).length) : x.pts.getD (i + 1) (0, 0) = ((press x.d x.all)[i].1, 2 * wts ((press x.d x.all).take i) + (press x.d x.all)[i].2) := by
  have hl : i < (mids 0 (press x.d x.all)).length := by rw [mids_len]; exact h
  unfold Dg.pts
  have e : ((x.lo, 0) :: (mids 0 (press x.d x.all) ++ [(x.hi, 2 * x.tot)])).getD (i + 1) (0, 0) = (mids 0 (press x.d x.all))[i] := by
    rw [List.getD_eq_getElem?_getD, List.getElem?_cons_succ, List.getElem?_append_left hl, List.getElem?_eq_getElem hl]
    rfl
  rw [e, mids_get h, Nat.zero_add]
theorem gpt_end (x : Dg) : x.pts.getD ((press x.d x.all).length + 1) (0, 0) = (x.hi, 2 * x.tot) := by
  unfold Dg.pts
  rw [List.getD_eq_getElem?_getD, List.getElem?_cons_succ, List.getElem?_append_right (by rw [mids_len]; exact Nat.le_refl _), mids_len, Nat.sub_self]
  rfl
theorem gpts_len (x : Dg) : x.pts.length = (press x.d x.all).length + 2 := by
  unfold Dg.pts
  rw [List.length_cons, List.length_append, mids_len]
  rfl
section
variable (g : Nat) (C : Nat → Prop) (p : Option Addr) (n c : Nat) (q : Option Addr) (m e : Nat) (x : Dg) (w : World)
theorem rpr_any (s : RgIs w g C p n c q m e x) (hN : x.all.length ≤ 500000000000) : (∀ W, Fr S0 w W → Calls Try.prog 22 #[.pointer (some ⟨g, 0, none⟩)] W fun e w' => ∃ v, e = .returned v ∧ Acc 61 W w' v x.all.length x.all) ∧
    ∀ W v, Acc 61 w W v x.all.length x.all → Calls Try.prog 32 #[.int .i64 (x.d : Nat), v] W fun e w' => ∃ pv cv, e = .returned (.slice pv (press x.d x.all).length cv) ∧ Sl w' pv (press x.d x.all).length cv (press x.d x.all) ∧ Fr S0 w w' := by
  refine ⟨fun W f => rall_any g C p n c q m e x W (s.fr0 f) hN, fun W v a => ?_⟩
  obtain ⟨pv, cv, rfl⟩ := slFormN a.own
  refine (rpressed_any x.d x.lo x.hi pv _ cv x.all W (Sl.ofOwns a.own) hN s.good.d2 s.good.fit s.good.l1 s.good.h2 s.good.tot).mono ?_
  rintro e1 w' ⟨v, k, rfl, ha⟩
  have hk := ha.len
  subst hk
  obtain ⟨p2, c2, rfl⟩ := slFormN ha.own
  exact ⟨p2, c2, rfl, Sl.ofOwns ha.own, a.fr.trans0 ha.fr⟩
end
end Go.Proofs.Yticagdppjknlaaa

namespace Go.Proofs.Yticagdppjknlaaa
open Go.RowKit
theorem upto_found {x : Dg} {v : Int} {i : Nat} (hi : i + 1 < x.pts.length) (h1 : ∀ j, j ≤ i → (x.pts.getD j (0, 0)).1 ≤ v) (h2 : v < (x.pts.getD (i + 1) (0, 0)).1) (hlo : x.lo ≤ v) (hhi : v < x.hi) : x.upto v = lerpU (x.pts.getD i (0, 0)) (x.pts.getD (i + 1) (0, 0)) v := by
  have hp : Parts (fun p => decide (v < p.1)) x.pts (i + 1) := ⟨by omega, hi, fun j hj hji => by
    have := h1 j (by omega)
    rw [getD_lt hj] at this
    simp only [decide_eq_false_iff_not]
    omega, by
    rw [getD_lt hi] at h2
    simpa using h2⟩
  unfold Dg.upto uptoL
  rw [if_neg (by omega), if_neg (by omega), hp.idx]
  rfl
theorem nil_upto {x : Dg} (h : x.Good) (h0 : x.tot = 0) (v : Int) : x.upto v = 0 := by
  obtain ⟨a1, a2⟩ := h.emp (h.allNil.2 h0)
  unfold Dg.upto
  split
  · rfl
  · rename_i h1
    rw [if_pos (by omega)]
    exact h0
section
variable (g : Nat) (C : Nat → Prop) (p : Option Addr) (n c : Nat) (q : Option Addr) (m e : Nat) (x : Dg) (w : World)
theorem rupto_any (v : Int) (k : RgIs w g C p n c q m e x) (hN : x.all.length ≤ 500000000000) (hv1 : -9223372036854775808 ≤ v) (hv2 : v ≤ 9223372036854775807) :
    Calls Try.prog 25 #[.pointer (some ⟨g, 0, none⟩), .int .i64 v] w fun e w' => e = .returned (.int .u64 (x.upto v : Nat)) ∧ Fr S0 w w' := by
  obtain ⟨hal, hpr⟩ := rpr_any g C p n c q m e x w k hN
  have HAL := Lib.hid hal
  have HPR := Lib.hid hpr
  have hg := k.good
  have htot := hg.tot
  have HC := Lib.hid (fun W (f : Fr S0 w W) => And.intro (k.fr0 f).c0 (And.intro (k.fr0 f).c3 (k.fr0 f).c4))
  have k0 := k.c0
  have HTWO := Lib.hid (fun (h0 : 0 < x.tot) i (hi : i + 1 < x.pts.length) => hg.two h0 (i := i + 1) (by omega) hi)
  have HFND := Lib.hid (fun i hi h1 h2 a b => upto_found (x := x) (v := v) (i := i) hi h1 h2 a b)
  have HMID := Lib.hid (fun i (h : i < (press x.d x.all).length) => gpt_mid x h)
  have HEND := Lib.hid (gpt_end x)
  have HZ := Lib.hid (gpt_zero x)
  have HPL := Lib.hid (gpts_len x)
  have HW : Hid (wts (press x.d x.all) = x.tot) := Lib.hid (press_wts x.d hg.l1 x.all hg.fit)
  have HB := Lib.hid (And.intro hg.l1 hg.h2)
  have hlen := press_len x.d hg.l1 x.all hg.fit
  have HLOW : Hid (v < x.lo → x.upto v = 0) := Lib.hid fun h => by unfold Dg.upto; rw [if_pos h]
  have HNIL : Hid (x.tot = 0 → x.upto v = 0) := Lib.hid fun h => by exact nil_upto hg h v
  have HTOP : Hid (x.lo ≤ v → x.hi ≤ v → x.upto v = x.tot) := Lib.hid fun h h2 => by unfold Dg.upto; rw [if_neg (by omega), if_pos h2]
  obtain ⟨P, eP⟩ : ∃ P, press x.d x.all = P := ⟨_, rfl⟩
  rw [eP] at HPR HMID HEND HPL HW hlen
  obtain ⟨N, eN⟩ : ∃ N, P.length = N := ⟨_, rfl⟩
  rw [eN] at HPR HEND HPL hlen
  obtain ⟨L, eL⟩ : ∃ L, x.pts = L := ⟨_, rfl⟩
  rw [eL] at HTWO HFND HMID HEND HZ HPL
  obtain ⟨T, eT⟩ : ∃ T, x.tot = T := ⟨_, rfl⟩
  rw [eT] at HTWO HEND HW HTOP HNIL htot
  have HTT := Lib.hid eT
  obtain ⟨HI, eHI⟩ : ∃ HI, x.hi = HI := ⟨_, rfl⟩
  rw [eHI] at HC HEND HFND HTOP HB
  obtain ⟨LO, eLO⟩ : ∃ LO, x.lo = LO := ⟨_, rfl⟩
  rw [eLO] at HC HZ HFND HLOW HTOP HB
  have HLH := Lib.hid (And.intro eLO eHI)
  obtain ⟨Z, eZ⟩ : ∃ Z, x.upto v = Z := ⟨_, rfl⟩
  rw [eZ] at HFND HLOW HNIL HTOP ⊢
  obtain ⟨D, eD⟩ : ∃ D, x.d = D := ⟨_, rfl⟩
  rw [eD] at HPR HC k0
  obtain ⟨A, eA⟩ : ∃ A, x.all = A := ⟨_, rfl⟩
  rw [eA] at HAL HPR hlen hN
  have HN := Lib.hid eN
  have hNb : N ≤ 500000000000 := by omega
  have HSB := Lib.hid htot
  have HV := Lib.hid (And.intro hv1 hv2)
  clear k hal hpr hg hlen eP eN eL eT eHI eLO eZ eD eA hN
  go_enter Try.func25, Try.ntmps25
  go_wp2_with fail
  go_region_held3 (fun w' => w'.cell? ⟨g, 0, none⟩ = some (.int .i64 (D : Nat)))
    (first
      | exact (HC.out _ F2.out).1
      | exact (HC.out _ (Acc.fr A1.out)).1
      | exact (HC.out _ (Fr.drew S0 _)).1
      | exact (HC.out _ (Fr.refl S0 _)).1
      | fail)
    (first
      | (go_at_call 22; ((with_reducible refine (HAL.out _ (Fr.drew S0 _)).mono ?_); rintro _ w1 ⟨v1, rfl, a1⟩; have A1 := Lib.hid (a1.from (Fr.drew S0 w)); clear a1))
      | (go_at_call 32; ((with_reducible refine (HPR.out _ _ A1.out).mono ?_); rintro _ w2 ⟨pv, cv, rfl, s2, f2⟩; have S2x := Lib.hid s2; have F2 := Lib.hid f2; clear s2 f2))
      | fail)
  clear HAL HPR k0
  have HTO := Lib.hid (rtotal_any pv N cv P w2 S2x.out (by rw [HW.out]; have := HSB.out; omega))
  rw [HW.out] at HTO
  go_wp2_with fail
  refine HTO.out.mono ?_
  rintro e9 w9 ⟨rfl, rfl⟩
  have k3 := (HC.out _ F2.out).2.1
  have k4 := (HC.out _ F2.out).2.2
  clear HTO
  by_cases hT0 : T = 0
  · subst hT0
    have hz := HNIL.out rfl
    subst hz
    go_wp2_with fail
    go_ret
    exact ⟨rfl, F2.out⟩
  by_cases hvl : v < LO
  · have hz := HLOW.out hvl
    subst hz
    have hT9 : ((T : Int) == 0) = false := by rw [beq_eq_false_iff_ne]; omega
    go_wp2_with fail
    go_ret
    exact ⟨rfl, F2.out⟩
  have hT9 : ((T : Int) == 0) = false := by rw [beq_eq_false_iff_ne]; omega
  have HVL1 : Hid (LO ≤ v) := Lib.hid (by omega)
  have hd2 : decide (v < LO) = false := decide_eq_false hvl
  by_cases hvh : HI ≤ v
  · have hz := HTOP.out HVL1.out hvh
    subst hz
    go_wp2_with fail
    go_ret
    exact ⟨rfl, F2.out⟩
  have hd3 : decide (HI ≤ v) = false := decide_eq_false hvh
  have HVL : Hid (LO ≤ v ∧ v < HI) := Lib.hid (And.intro HVL1.out (by omega))
  obtain ⟨T2, eT2⟩ : ∃ T2, 2 * T = T2 := ⟨_, rfl⟩
  have iT2 : 2 * (T : Int) = (T2 : Int) := by omega
  have bT2 : (T2 : Int) < 18446744073709551616 := by omega
  rw [eT2] at HEND
  have HT0 : Hid (0 < T) := Lib.hid (by omega)
  clear hT0 hvl eT2
  go_wp2_with fail
  clear hvh hd2 hd3 hT9
  go_loopw [7, 8, 9, 10] (fun v1 at_ dn i wr => ∃ (j Q V : Nat), j ≤ N ∧ i = .int .i64 j ∧ v1 = .int .i64 (L.getD j (0, 0)).1 ∧ at_ = .int .u64 (Q : Nat) ∧ dn = .int .u64 (V : Nat) ∧ Hid ((L.getD j (0, 0)).2 = Q) ∧ Hid (wts (P.take j) = V) ∧ Hid (∀ i, i ≤ j → (L.getD i (0, 0)).1 ≤ v) ∧ w2 = wr) (fun _ _ _ i _ => N + 1 - (intOf i).toNat)
  case atStart =>
    have hz := HZ.out
    have HS0 : Hid (∀ i, i ≤ 0 → (L.getD i (0, 0)).1 ≤ v) := Lib.hid fun i hi => by
      have h9 : i = 0 := by omega
      rw [h9, hz]
      exact HVL.out.1
    have hz1 : (L.getD 0 (0, 0)).1 = LO := by rw [hz]
    have HZ2 : Hid ((L.getD 0 (0, 0)).2 = 0) := Lib.hid (by rw [hz])
    exact ⟨0, 0, 0, by omega, rfl, by rw [hz1], rfl, rfl, HZ2, Lib.hid rfl, HS0, rfl⟩
  case round =>
    obtain ⟨j, Q, V, hj, rfl, rfl, rfl, rfl, hQ, hV, hle, hw⟩ := hrel
    obtain rfl := hw
    have hpl := HPL.out
    have hsb := HSB.out
    have hvv := HV.out
    have hjN : (j : Int) ≤ (N : Int) := by omega
    have htw := HTWO.out HT0.out j (by omega)
    obtain ⟨⟨av, an⟩, hA⟩ : ∃ t, L.getD j (0, 0) = t := ⟨_, rfl⟩
    obtain ⟨⟨dv, dn⟩, hD⟩ : ∃ t, L.getD (j + 1) (0, 0) = t := ⟨_, rfl⟩
    rw [show j + 1 - 1 = j from rfl, hA, hD] at htw
    obtain ⟨q1, q2, q3, q4, q5⟩ := htw
    rw [hA] at hQ ⊢
    have hQ2 : an = Q := hQ.out
    subst hQ2
    have hlj := hle.out j (Nat.le_refl _)
    rw [hA] at hlj
    have htt := HTT.out
    have hll := HLH.out
    have hbb := HB.out
    simp only at q1 q2 q3 q4 q5 hlj
    rw [htt] at q5
    have hdn : dn ≤ 562949953421312 := by omega
    have HDJ := Lib.hid hD
    have bdn : (dn : Int) < 18446744073709551616 := by omega
    obtain ⟨V2, eV2⟩ : ∃ V2, 2 * V = V2 := ⟨_, rfl⟩
    have iV2 : 2 * (V : Int) = (V2 : Int) := by omega
    by_cases hsd : v < dv
    · have hz := HFND.out j (by omega) hle.out (by rw [hD]; exact hsd) HVL.out.1 HVL.out.2
      rw [hA, hD] at hz
      obtain ⟨S2, eS2⟩ : ∃ S2, dn - an = S2 := ⟨_, rfl⟩
      obtain ⟨K1, eK1⟩ : ∃ K1, (v - av).toNat = K1 := ⟨_, rfl⟩
      obtain ⟨K2, eK2⟩ : ∃ K2, (dv - av).toNat = K2 := ⟨_, rfl⟩
      have iS2 : (dn : Int) - (an : Int) = (S2 : Int) := by omega
      have bS2 : (S2 : Int) < 18446744073709551616 := by omega
      obtain ⟨U, eU⟩ : ∃ U : Nat, (v % 18446744073709551616) = (U : Int) := ⟨(v % 18446744073709551616).toNat, by omega⟩
      obtain ⟨UA, eUA⟩ : ∃ U : Nat, (av % 18446744073709551616) = (U : Int) := ⟨(av % 18446744073709551616).toNat, by omega⟩
      obtain ⟨UD, eUD⟩ : ∃ U : Nat, (dv % 18446744073709551616) = (U : Int) := ⟨(dv % 18446744073709551616).toNat, by omega⟩
      have wU : IntKind.u64.wrap v = (U : Int) := by rw [IntKind.wrap_u64]; exact eU
      have wUA : IntKind.u64.wrap av = (UA : Int) := by rw [IntKind.wrap_u64]; exact eUA
      have wUD : IntKind.u64.wrap dv = (UD : Int) := by rw [IntKind.wrap_u64]; exact eUD
      have iK1 : ((U : Int) - (UA : Int)) % 18446744073709551616 = (K1 : Int) := by omega
      have iK2 : ((UD : Int) - (UA : Int)) % 18446744073709551616 = (K2 : Int) := by omega
      have wK1 : IntKind.u64.wrap ((U : Int) - (UA : Int)) = (K1 : Int) := by rw [IntKind.wrap_u64]; exact iK1
      have wK2 : IntKind.u64.wrap ((UD : Int) - (UA : Int)) = (K2 : Int) := by rw [IntKind.wrap_u64]; exact iK2
      have hpart : S2 * K1 / K2 ≤ S2 := part_le S2 K1 K2 (by omega)
      have HMD := Lib.hid (fun W => rmuldiv_yes S2 K1 K2 W (by omega) (by omega) (by omega) (by omega) (by omega))
      have hzv : Z = (an + S2 * K1 / K2) / 2 := by rw [hz, ← eS2, ← eK1, ← eK2]; rfl
      obtain ⟨R, eR⟩ : ∃ R, S2 * K1 / K2 = R := ⟨_, rfl⟩
      obtain ⟨R2, eR2⟩ : ∃ R2, S2 * K1 % K2 = R2 := ⟨_, rfl⟩
      rw [eR] at hpart HMD hzv
      rw [eR2] at HMD
      obtain ⟨Y, eY⟩ : ∃ Y, an + R = Y := ⟨_, rfl⟩
      have iY : (an : Int) + (R : Int) = (Y : Int) := by omega
      have bY : (Y : Int) < 18446744073709551616 := by omega
      rw [eY] at hzv
      have iH : (Y : Int) / 2 = (Z : Int) := by omega
      by_cases hjl : j < N
      · obtain ⟨b, o, rfl, c0, c1⟩ := S2x.out.at j (by rw [HN.out]; exact hjl)
        have hmd := HMID.out j (by rw [HN.out]; exact hjl)
        obtain ⟨ht1, -⟩ := wts_take P j (by rw [HN.out]; exact hjl)
        have ht2 := wts_take_le P (j + 1)
        rw [HW.out] at ht2
        rw [hD, hV.out, Prod.mk.injEq] at hmd
        rw [hV.out] at ht1
        obtain ⟨⟨pv1, pn1⟩, hp1⟩ : ∃ t, P[j]'(by rw [HN.out]; exact hjl) = t := ⟨_, rfl⟩
        rw [hp1] at hmd c0 c1 ht1
        simp only at hmd c0 c1 ht1
        obtain ⟨rfl, hmd2⟩ := hmd
        have iD : (V2 : Int) + (pn1 : Int) = (dn : Int) := by omega
        have bV2 : (V2 : Int) < 18446744073709551616 := by omega
        have hjNi : (j : Int) < (N : Int) := by omega
        obtain ⟨V3, eV3⟩ : ∃ V3, V + pn1 = V3 := ⟨_, rfl⟩
        have iV3 : (V : Int) + (pn1 : Int) = (V3 : Int) := by omega
        have bV3 : (V3 : Int) < 18446744073709551616 := by omega
        clear hA hD q1 q2 q3 q4 q5 hlj htt hll hbb hz eS2 eK1 eK2 hpart hzv eR eR2 hp1 hmd2 eV2 ht1 ht2 eV3 eY eU eUA eUD
        go_wp2_with fail
        refine (HMD.out _).mono ?_
        rintro e5 w5 ⟨rfl, f5⟩
        have F5 := Lib.hid (F2.out.trans0 f5)
        clear f5 HMD
        go_wp2_with fail
        go_ret
        exact ⟨rfl, F5.out⟩
      · obtain rfl : j = N := by omega
        have hend := HEND.out
        rw [hD, Prod.mk.injEq] at hend
        obtain ⟨rfl, rfl⟩ := hend
        clear hA hD q1 q2 q3 q4 q5 hlj htt hll hbb hz eS2 eK1 eK2 hpart hzv eR eR2 eV2 eY eU eUA eUD
        go_wp2_with fail
        refine (HMD.out _).mono ?_
        rintro e5 w5 ⟨rfl, f5⟩
        have F5 := Lib.hid (F2.out.trans0 f5)
        clear f5 HMD
        go_wp2_with fail
        go_ret
        exact ⟨rfl, F5.out⟩
    · have hd5 : decide (v < dv) = false := decide_eq_false hsd
      have HLE2 : Hid (∀ i, i ≤ j + 1 → (L.getD i (0, 0)).1 ≤ v) := Lib.hid fun i hi => by
        rcases Nat.lt_or_ge i (j + 1) with h | h
        · exact hle.out i (by omega)
        · obtain rfl : i = j + 1 := by omega
          rw [HDJ.out]
          simp only
          omega
      by_cases hjl : j < N
      · obtain ⟨b, o, rfl, c0, c1⟩ := S2x.out.at j (by rw [HN.out]; exact hjl)
        have hmd := HMID.out j (by rw [HN.out]; exact hjl)
        obtain ⟨ht1, -⟩ := wts_take P j (by rw [HN.out]; exact hjl)
        have ht2 := wts_take_le P (j + 1)
        rw [HW.out] at ht2
        rw [hD, hV.out, Prod.mk.injEq] at hmd
        rw [hV.out] at ht1
        obtain ⟨⟨pv1, pn1⟩, hp1⟩ : ∃ t, P[j]'(by rw [HN.out]; exact hjl) = t := ⟨_, rfl⟩
        rw [hp1] at hmd c0 c1 ht1
        simp only at hmd c0 c1 ht1
        obtain ⟨rfl, hmd2⟩ := hmd
        have iD : (V2 : Int) + (pn1 : Int) = (dn : Int) := by omega
        have bV2 : (V2 : Int) < 18446744073709551616 := by omega
        have hjNi : (j : Int) < (N : Int) := by omega
        obtain ⟨V3, eV3⟩ : ∃ V3, V + pn1 = V3 := ⟨_, rfl⟩
        have iV3 : (V : Int) + (pn1 : Int) = (V3 : Int) := by omega
        have bV3 : (V3 : Int) < 18446744073709551616 := by omega
        rw [eV3] at ht1
        have HV3 := Lib.hid ht1
        clear hA q1 q2 q3 q4 q5 hlj htt hll hbb hp1 hmd2 eV2 ht1 ht2 eV3 hD
        go_wp2_with fail
        go_roundw
        case rel => exact ⟨j + 1, dn, V3, by omega, by go_num, by rw [HDJ.out], rfl, by go_num, Lib.hid (by rw [HDJ.out]), HV3, HLE2, by trivial⟩
        case measure => first | (simp [intOf]; done) | (simp [intOf]; omega)
      · obtain rfl : j = N := by omega
        have hend := HEND.out
        rw [hD, Prod.mk.injEq] at hend
        obtain ⟨rfl, hdT⟩ := hend
        exact absurd HVL.out.2 hsd
end
end Go.Proofs.Yticagdppjknlaaa
