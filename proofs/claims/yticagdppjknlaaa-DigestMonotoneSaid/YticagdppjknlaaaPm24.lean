/- DgLawMono -/
import Derived.Test.YticagdppjknlaaaPm1
import Derived.Test.YticagdppjknlaaaPm2
import Derived.Test.YticagdppjknlaaaPm3
import Derived.Test.YticagdppjknlaaaPm4
import Derived.Test.YticagdppjknlaaaPm5
import Derived.Test.YticagdppjknlaaaPm6
import Derived.Test.YticagdppjknlaaaPm7
import Derived.Test.YticagdppjknlaaaPm8
import Derived.Test.YticagdppjknlaaaPm9
import Derived.Test.YticagdppjknlaaaPm10
import Derived.Test.YticagdppjknlaaaPm11
import Derived.Test.YticagdppjknlaaaPm12
import Derived.Test.YticagdppjknlaaaPm13
import Derived.Test.YticagdppjknlaaaPm14
import Derived.Test.YticagdppjknlaaaPm15
import Derived.Test.YticagdppjknlaaaPm16
import Derived.Test.YticagdppjknlaaaPm17
import Derived.Test.YticagdppjknlaaaPm18
import Derived.Test.YticagdppjknlaaaPm19
import Derived.Test.YticagdppjknlaaaPm20
import Derived.Test.YticagdppjknlaaaPm21
import Derived.Test.YticagdppjknlaaaPm23
import Derived.BigQuiet
import Derived.BigRegion
import Derived.Deep.RegionLaw
import Derived.Deep.RegionHeld3
import Derived.StillTailTactics
import Derived.Maps.AppendAt
import Derived.Laws.AppendOwnNone
import Derived.Laws.OwnMore
import Derived.Lib.AppendZerosOnto
import Derived.Lib.SliceRun
import Derived.Lib.Walk
import Derived.Laws.Externs
import Derived.Shelf.Spec.BitsCarry
import Derived.Deep.CutBlock
import Derived.Deep.CutRange
import Derived.Deep.DeepCutAuto
import Derived.Lib.BitFns
import Derived.Shelf.Small.Bits
import Derived.Shelf.Strconv.Itoa0
import Derived.Shelf.Bits.Mul64
import Derived.Test.YticagdppjknlaaaRows
import Derived.WalkKit
import Derived.WalkSpells
import Derived.WalkLawsBesides
import Derived.Deep.QuietTactic
import Derived.RegionTactic
import Derived.Deep.AppendLies
import Derived.Laws.ResultCell
import Derived.Laws.EntriesVeiled
import Derived.Lib.Hide
import Derived.Laws.BytesArg
import Derived.Lib.SlBytesConst
set_option maxRecDepth 100000
set_option maxHeartbeats 8000000
namespace Go.Proofs.Yticagdppjknlaaa
open Go.RowKit
theorem sp_zero {n : Nat} (h : 0 < n) (h2 : n ≤ 281474976710656) : spE 0 1 n = 0 ∧ spR 0 1 n = 0 := by
  unfold spE spR
  rw [if_neg (by omega), if_neg (by omega), if_neg (by omega), if_neg (by omega), if_neg (by omega), if_neg (by omega)]
  exact ⟨rfl, by unfold spt; simp⟩
theorem sp_one {n : Nat} (h : 0 < n) (h2 : n ≤ 281474976710656) : spE 1 1 n = 0 ∧ spR 1 1 n = 2 * n := by
  unfold spE spR
  rw [if_neg (by omega), if_neg (by omega), if_neg (by omega), if_neg (by omega), if_neg (by omega), if_neg (by omega)]
  exact ⟨rfl, by unfold spt; simp⟩
theorem sp_none {a d : Nat} (hd : 0 < d) (h : a ≤ d) : spE a d 0 = 8 := by
  unfold spE
  rw [if_neg (by omega), if_pos rfl]
theorem sp_den {a d n : Nat} (h : spE a d n = 0) : 0 < d ∧ spR a d n = spt a d n := by
  unfold spE at h
  unfold spR
  split at h
  · cases h
  · rename_i h1
    split at h
    · cases h
    · rename_i h2
      split at h
      · cases h
      · rename_i h3
        rw [if_neg h1, if_neg h2, if_neg h3]
        exact ⟨by omega, rfl⟩
structure Ways (x : Dg) (a b c e : Nat) : Prop where
  lt : cmpF a b c e < 0 → x.atV a b ≤ x.atV c e
  gt : 0 < cmpF a b c e → x.atV c e ≤ x.atV a b
  eq : cmpF a b c e = 0 → x.atV a b = x.atV c e
theorem ways_any {x : Dg} (h : x.Good) (h0 : 0 < x.tot) {a b c e : Nat} (h1 : spE a b x.tot = 0) (h2 : spE c e x.tot = 0) : Ways x a b c e := by
  obtain ⟨hb, r1⟩ := sp_den h1
  obtain ⟨he, r2⟩ := sp_den h2
  have l1 := (sp_le h1).2
  have l2 := (sp_le h2).2
  have e1 : x.atV a b = x.at (spR a b x.tot) := by unfold Dg.atV; rw [if_pos h1]
  have e2 : x.atV c e = x.at (spR c e x.tot) := by unfold Dg.atV; rw [if_pos h2]
  have hc : cmpF a b c e = cmpI (a * e) (c * b) := by unfold cmpF; rw [if_neg (by omega)]
  have up : a * e ≤ c * b → x.atV a b ≤ x.atV c e := fun hh => by
    rw [e1, e2]
    exact h.at_rise h0 (by rw [r1, r2]; exact spt_mono hb he hh) l2
  have dn : c * b ≤ a * e → x.atV c e ≤ x.atV a b := fun hh => by
    rw [e1, e2]
    exact h.at_rise h0 (by rw [r1, r2]; exact spt_mono he hb hh) l1
  refine ⟨fun hh => up ?_, fun hh => dn ?_, fun hh => ?_⟩
  · rw [hc] at hh; unfold cmpI at hh; split at hh <;> first | omega | (split at hh <;> omega)
  · rw [hc] at hh; unfold cmpI at hh; split at hh <;> first | omega | (split at hh <;> omega)
  · rw [hc] at hh
    have : a * e = c * b := by unfold cmpI at hh; split at hh <;> first | assumption | (split at hh <;> omega)
    exact Int.le_antisymm (up (by omega)) (dn (by omega))
theorem cmpF_bd (a b c d : Nat) : -1 ≤ cmpF a b c d ∧ cmpF a b c d ≤ 1 := by
  unfold cmpF cmpI
  split
  · omega
  · split
    · omega
    · split <;> omega
section
variable (d : Nat) (p : Option Addr) (n c : Nat) (vs : List Int) (q : Option Addr) (k c2 : Nat) (ns : List Nat) (a b cc ee : Nat) (v u : Int) (w : World)
theorem law_monotone (hd : d < 65536) (hn : vs.length = n) (hz : ZI w p vs) (hvb : ∀ v ∈ vs, -9223372036854775808 ≤ v ∧ v ≤ 9223372036854775807) (hk : ns.length = k) (hq : SlI w .u16 q ns) (hnb : ∀ n ∈ ns, n < 65536)
    (ha : a < 18446744073709551616) (hb : b < 18446744073709551616) (hc : cc < 18446744073709551616) (he : ee < 18446744073709551616) (hv1 : -9223372036854775808 ≤ v) (hv2 : v ≤ 9223372036854775807) (hu1 : -9223372036854775808 ≤ u) (hu2 : u ≤ 9223372036854775807) :
    Calls Try.prog 6 #[.int .u16 (d : Nat), .slice p n c, .slice q k c2, .int .u64 (a : Nat), .int .u64 (b : Nat), .int .u64 (cc : Nat), .int .u64 (ee : Nat), .int .i64 v, .int .i64 u] w fun e w' => e = .returned (.bool true) ∧ Fr S0 w w' := by
  have HAL := Lib.hid (alive_any w)
  have HAD := Lib.hid (fun W (f : Fr S0 w W) => added_any d p n c vs q k c2 ns W hd hn (hz.fr0 f) hvb hk (hq.fr0 f) hnb)
  obtain ⟨d1, d2⟩ := fineD_in d
  have hok := adds_ok (ns := ns) d1 d2 hvb (min n 80) (by omega)
  obtain ⟨X, eX⟩ : ∃ X, adds (fineD d) vs ns (min n 80) = X := ⟨_, rfl⟩
  rw [eX] at HAD hok
  have hlen : X.all.length ≤ 400000000000 := by have := hok.len; omega
  have htot := hok.good.tot
  have HAT := Lib.hid (fun a d h64 w W g r (b : Both w W g r X X) => nd_at b.nd a d (by omega) h64)
  have HUP := Lib.hid (fun v h1 h2 w W g r (b : Both w W g r X X) => nd_upto b.nd v (by omega) h1 h2)
  have HTO := Lib.hid (fun w W g r (b : Both w W g r X X) => nd_total b.nd)
  have HC := Lib.hid (fun W => rcmpf_any a b cc ee W ha hb hc he)
  by_cases hn0 : n = 0
  · subst hn0
    have hX : X = Dg.new (fineD d) := by rw [← eX]; rfl
    have ht0 : X.tot = 0 := by rw [hX]; rfl
    have HA0 := Lib.hid (fun w W g r b => HAT.out 0 1 (by decide) w W g r b)
    have hU : X.upto v = 0 := by
      rw [hX]
      unfold Dg.upto
      split
      · rfl
      · split
        · rfl
        · rename_i h1 h2
          have h3 : ¬ v < 0 := h1
          have h4 : ¬ 0 ≤ v := h2
          omega
    have HUV := Lib.hid (fun w W g r b => HUP.out v hv1 hv2 w W g r b)
    rw [hU] at HUV
    have hA : X.atV 0 1 = 0 := by unfold Dg.atV; rw [ht0, sp_none (by decide) (by decide)]; rfl
    rw [ht0, sp_none (by decide) (by decide), hA] at HA0
    clear hz hvb hq hnb hd hk hn hok d1 d2 eX HUP HAT HC hlen htot hX ht0 hU hA HTO
    go_enter Try.func6, Try.ntmps6
    go_wp2_with fail
    refine HAL.out.mono ?_
    rintro e1 w1 ⟨rfl, f1⟩
    have HAD1 := Lib.hid (HAD.out w1 f1)
    have F1 := Lib.hid f1
    clear f1 HAL HAD
    go_wp2_with fail
    refine HAD1.out.mono ?_
    rintro e2 w2 ⟨g, r, rfl, bo⟩
    have HB := Lib.hid bo
    clear bo HAD1
    go_wp2_with fail
    refine (HA0.out _ _ _ _ HB.out).mono ?_
    rintro e3 w3 ⟨rfl, f3⟩
    have HB3 := Lib.hid (HB.out.fr0 f3)
    clear f3
    go_wp2_with fail
    refine (HUV.out _ _ _ _ HB3.out).mono ?_
    rintro e4 w4 ⟨rfl, f4⟩
    have HB4 := Lib.hid (HB3.out.fr0 f4)
    clear f4
    go_wp2_with fail
    go_ret
    exact ⟨rfl, F1.out.trans0 HB4.out.fr⟩
  · have h0 : 0 < X.tot := hok.pos (by omega)
    have hg := hok.good
    obtain ⟨z1, z2⟩ := sp_zero h0 htot
    obtain ⟨o1, o2⟩ := sp_one h0 htot
    have hv0 : X.atV 0 1 = X.lo := by unfold Dg.atV; rw [z1, z2, if_pos rfl]; exact hg.at_zero h0
    have hv9 : X.atV 1 1 = X.hi := by unfold Dg.atV; rw [o1, o2, if_pos rfl]; unfold Dg.at; rw [if_pos rfl]
    have HA0 := Lib.hid (fun w W g r b => HAT.out 0 1 (by decide) w W g r b)
    have HA1 := Lib.hid (fun w W g r b => HAT.out 1 1 (by decide) w W g r b)
    rw [hv0, z1] at HA0
    rw [hv9, o1] at HA1
    have HAP := Lib.hid (fun w W g r bb => HAT.out a b hb w W g r bb)
    have HAQ := Lib.hid (fun w W g r bb => HAT.out cc ee he w W g r bb)
    have hm1 : min v u ≤ max v u := by omega
    have HU1 := Lib.hid (fun w W g r bb => HUP.out (min v u) (by omega) (by omega) w W g r bb)
    have HU2 := Lib.hid (fun w W g r bb => HUP.out (max v u) (by omega) (by omega) w W g r bb)
    have HU3 := Lib.hid (fun w W g r bb => HUP.out X.hi hg.h1 hg.h2 w W g r bb)
    rw [hg.upto_last h0] at HU3
    have HU4A := Lib.hid (fun (hl : X.lo ≠ -9223372036854775808) => Lib.hid (fun w W g r bb => HUP.out (X.lo - 1) (by have := hg.l1; omega) (by have := hg.l2; omega) w W g r bb))
    rw [Dg.upto_before] at HU4A
    have hup : X.upto (min v u) ≤ X.upto (max v u) := hg.upto_rise h0 hm1
    have hle : X.upto (max v u) ≤ X.tot := hg.upto_le h0 _
    have HPB : spE a b X.tot = 0 → X.lo ≤ X.atV a b ∧ X.atV a b ≤ X.hi := fun h => by
      unfold Dg.atV
      rw [if_pos h]
      exact hg.at_in h0 (sp_le h).2
    have HWA : spE a b X.tot = 0 → spE cc ee X.tot = 0 → Ways X a b cc ee := fun h1 h2 => ways_any hg h0 h1 h2
    have hwb := cmpF_bd a b cc ee
    have hl1 := hg.l1
    have hl2 := hg.l2
    have HREF := Lib.hid (fun w W g r (bb : Both w W g r X X) => show W.cell? ⟨r, 3, none⟩ = some (.int .i64 X.lo) ∧ W.cell? ⟨r, 4, none⟩ = some (.int .i64 X.hi) from by
      obtain ⟨_, _, _, ⟨_, _, _, _, _, _, s⟩, _⟩ := bb.ex
      exact ⟨s.c3, s.c4⟩)
    obtain ⟨LO, eLO⟩ : ∃ LO, X.lo = LO := ⟨_, rfl⟩
    obtain ⟨HI, eHI⟩ : ∃ HI, X.hi = HI := ⟨_, rfl⟩
    obtain ⟨T, eT⟩ : ∃ T, X.tot = T := ⟨_, rfl⟩
    obtain ⟨P, eP⟩ : ∃ P, X.atV a b = P := ⟨_, rfl⟩
    obtain ⟨Q, eQ⟩ : ∃ Q, X.atV cc ee = Q := ⟨_, rfl⟩
    obtain ⟨U1, eU1⟩ : ∃ U, X.upto (min v u) = U := ⟨_, rfl⟩
    obtain ⟨U2, eU2⟩ : ∃ U, X.upto (max v u) = U := ⟨_, rfl⟩
    obtain ⟨MN, eMN⟩ : ∃ M, min v u = M := ⟨_, rfl⟩
    obtain ⟨MX, eMX⟩ : ∃ M, max v u = M := ⟨_, rfl⟩
    rw [eP, eT] at HAP
    rw [eQ, eT] at HAQ
    rw [eU1, eMN] at HU1
    rw [eU2, eMX] at HU2
    rw [eHI, eT] at HU3
    rw [eLO] at HU4A hl1 hl2
    rw [eT] at HTO HPB HWA
    rw [eLO, eHI] at HREF
    rw [eP, eLO, eHI] at HPB
    rw [eU1, eU2] at hup
    rw [eU2, eT] at hle
    rw [eLO] at HA0
    rw [eHI] at HA1
    have hwl : spE a b T = 0 → spE cc ee T = 0 → (cmpF a b cc ee < 0 → P ≤ Q) ∧ (0 < cmpF a b cc ee → Q ≤ P) ∧ (cmpF a b cc ee = 0 → P = Q) := fun h1 h2 => by
      have := HWA h1 h2
      refine ⟨fun h => ?_, fun h => ?_, fun h => ?_⟩
      · rw [← eP, ← eQ]; exact this.lt h
      · rw [← eP, ← eQ]; exact this.gt h
      · rw [← eP, ← eQ]; exact this.eq h
    obtain ⟨WY, eWY⟩ : ∃ W, cmpF a b cc ee = W := ⟨_, rfl⟩
    rw [eWY] at HC hwb hwl
    obtain ⟨EH, eEH⟩ : ∃ E, spE a b T = E := ⟨_, rfl⟩
    obtain ⟨EK, eEK⟩ : ∃ E, spE cc ee T = E := ⟨_, rfl⟩
    rw [eEH] at HAP HPB hwl
    rw [eEK] at HAQ hwl
    have hnz : ((n : Int) == 0) = false := by rw [beq_eq_false_iff_ne]; omega
    have hlb : (LO != LO) = false := by simp
    have hhb : (HI != HI) = false := by simp
    have hU12 : decide (U1 ≤ U2) = true := decide_eq_true hup
    have hU2T : decide (U2 ≤ T) = true := decide_eq_true hle
    clear hz hvb hq hnb hd hk hn hok d1 d2 eX HUP HAT hlen htot hn0 hg h0 z1 z2 o1 o2 hv0 hv9 eLO eHI eT eP eQ eU1 eU2 hm1 HWA eWY eEH eEK
    go_enter Try.func6, Try.ntmps6
    go_wp2_with fail
    refine HAL.out.mono ?_
    rintro e1 w1 ⟨rfl, f1⟩
    have HAD1 := Lib.hid (HAD.out w1 f1)
    have F1 := Lib.hid f1
    clear f1 HAL HAD
    go_wp2_with fail
    refine HAD1.out.mono ?_
    rintro e2 w2 ⟨g, r, rfl, bo⟩
    have HB0 := Lib.hid (show Both w w2 g r X X from let ⟨C, R, x1, x2, x3, x4, x5⟩ := bo.ex; ⟨⟨C, R, x1, x2, x3, fun b hb => Nat.le_trans F1.out.size (x4 b hb), fun b hb => Nat.le_trans F1.out.size (x5 b hb)⟩, F1.out.trans0 bo.fr⟩)
    clear bo HAD1 F1
    go_wp2_with fail
    refine (HA0.out _ _ _ _ HB0.out).mono ?_
    rintro e3 w3 ⟨rfl, f3⟩
    have HB3 := Lib.hid (HB0.out.fr0 f3)
    clear f3 HA0 HB0
    go_wp2_with fail
    refine (HA1.out _ _ _ _ HB3.out).mono ?_
    rintro e4 w4 ⟨rfl, f4⟩
    have HB4 := Lib.hid (HB3.out.fr0 f4)
    obtain ⟨r3, r4⟩ := HREF.out _ _ _ _ HB4.out
    clear f4 HA1 HB3
    go_wp2_with fail
    refine (HAP.out _ _ _ _ HB4.out).mono ?_
    rintro e5 w5 ⟨rfl, f5⟩
    have HB5 := Lib.hid (HB4.out.fr0 f5)
    clear f5 HAP HB4 r3 r4
    go_wp2_with fail
    refine (HAQ.out _ _ _ _ HB5.out).mono ?_
    rintro e6 w6 ⟨rfl, f6⟩
    have HB6 := Lib.hid (HB5.out.fr0 f6)
    clear f6 HAQ HB5
    by_cases hEH : EH = 0
    · subst hEH
      obtain ⟨hP1, hP2⟩ := HPB rfl
      have dP1 : decide (P < LO) = false := decide_eq_false (by omega)
      have dP2 : decide (HI < P) = false := decide_eq_false (by omega)
      by_cases hEK : EK = 0
      · subst hEK
        obtain ⟨w1x, w2x, w3x⟩ := hwl rfl rfl
        go_wp2_with fail
        refine (HC.out _).mono ?_
        rintro e7 w7 ⟨rfl, f7⟩
        have HB := Lib.hid (HB6.out.fr0 f7)
        clear f7 HC HB6
        rcases (by omega : WY = -1 ∨ WY = 0 ∨ WY = 1) with rfl | rfl | rfl
        · have dq : decide (Q < P) = false := decide_eq_false (by have := w1x (by decide); omega)
          have hq : P ≤ Q := w1x (by decide)
          clear w1x w2x w3x
          go_wp2_with fail
          refine (HU1.out _ _ _ _ HB.out).mono ?_
          rintro e1 t1 ⟨rfl, f1⟩
          have HBa := Lib.hid (HB.out.fr0 f1)
          clear f1
          go_wp2_with fail
          refine (HU2.out _ _ _ _ HBa.out).mono ?_
          rintro e2 t2 ⟨rfl, f2⟩
          have HBb := Lib.hid (HBa.out.fr0 f2)
          clear f2
          go_wp2_with fail
          refine (HTO.out _ _ _ _ HBb.out).mono ?_
          rintro e3 t3 ⟨rfl, rfl⟩
          go_wp2_with fail
          refine (HU3.out _ _ _ _ HBb.out).mono ?_
          rintro e4 t4 ⟨rfl, f4⟩
          have HBd := Lib.hid (HBb.out.fr0 f4)
          clear f4
          go_wp2_with fail
          refine (HTO.out _ _ _ _ HBd.out).mono ?_
          rintro e5 t5 ⟨rfl, rfl⟩
          by_cases hlo : LO = -9223372036854775808
          · have hlob : (LO == -9223372036854775808) = true := by rw [beq_iff_eq]; exact hlo
            go_wp2_with fail
            go_ret
            exact ⟨rfl, HBd.out.fr⟩
          · have hlob : (LO == -9223372036854775808) = false := by rw [beq_eq_false_iff_ne]; exact hlo
            have HU4 := Lib.hid (HU4A.out hlo)
            have hl9 : -9223372036854775808 ≤ LO - 1 := by omega
            have wl9 : IntKind.i64.wrap (LO - 1) = LO - 1 := by rw [IntKind.wrap_i64]; omega
            go_wp2_with fail
            refine (HU4.out _ _ _ _ HBd.out).mono ?_
            rintro e6 t6 ⟨rfl, f6⟩
            have HBe := Lib.hid (HBd.out.fr0 f6)
            clear f6
            go_wp2_with fail
            go_ret
            exact ⟨rfl, HBe.out.fr⟩
        · have hq : P = Q := w3x rfl
          subst hq
          have dq : (P != P) = false := by simp
          clear w1x w2x w3x
          go_wp2_with fail
          refine (HU1.out _ _ _ _ HB.out).mono ?_
          rintro e1 t1 ⟨rfl, f1⟩
          have HBa := Lib.hid (HB.out.fr0 f1)
          clear f1
          go_wp2_with fail
          refine (HU2.out _ _ _ _ HBa.out).mono ?_
          rintro e2 t2 ⟨rfl, f2⟩
          have HBb := Lib.hid (HBa.out.fr0 f2)
          clear f2
          go_wp2_with fail
          refine (HTO.out _ _ _ _ HBb.out).mono ?_
          rintro e3 t3 ⟨rfl, rfl⟩
          go_wp2_with fail
          refine (HU3.out _ _ _ _ HBb.out).mono ?_
          rintro e4 t4 ⟨rfl, f4⟩
          have HBd := Lib.hid (HBb.out.fr0 f4)
          clear f4
          go_wp2_with fail
          refine (HTO.out _ _ _ _ HBd.out).mono ?_
          rintro e5 t5 ⟨rfl, rfl⟩
          by_cases hlo : LO = -9223372036854775808
          · have hlob : (LO == -9223372036854775808) = true := by rw [beq_iff_eq]; exact hlo
            go_wp2_with fail
            go_ret
            exact ⟨rfl, HBd.out.fr⟩
          · have hlob : (LO == -9223372036854775808) = false := by rw [beq_eq_false_iff_ne]; exact hlo
            have HU4 := Lib.hid (HU4A.out hlo)
            have hl9 : -9223372036854775808 ≤ LO - 1 := by omega
            have wl9 : IntKind.i64.wrap (LO - 1) = LO - 1 := by rw [IntKind.wrap_i64]; omega
            go_wp2_with fail
            refine (HU4.out _ _ _ _ HBd.out).mono ?_
            rintro e6 t6 ⟨rfl, f6⟩
            have HBe := Lib.hid (HBd.out.fr0 f6)
            clear f6
            go_wp2_with fail
            go_ret
            exact ⟨rfl, HBe.out.fr⟩
        · have dq : decide (P < Q) = false := decide_eq_false (by have := w2x (by decide); omega)
          have hq : Q ≤ P := w2x (by decide)
          clear w1x w2x w3x
          go_wp2_with fail
          refine (HU1.out _ _ _ _ HB.out).mono ?_
          rintro e1 t1 ⟨rfl, f1⟩
          have HBa := Lib.hid (HB.out.fr0 f1)
          clear f1
          go_wp2_with fail
          refine (HU2.out _ _ _ _ HBa.out).mono ?_
          rintro e2 t2 ⟨rfl, f2⟩
          have HBb := Lib.hid (HBa.out.fr0 f2)
          clear f2
          go_wp2_with fail
          refine (HTO.out _ _ _ _ HBb.out).mono ?_
          rintro e3 t3 ⟨rfl, rfl⟩
          go_wp2_with fail
          refine (HU3.out _ _ _ _ HBb.out).mono ?_
          rintro e4 t4 ⟨rfl, f4⟩
          have HBd := Lib.hid (HBb.out.fr0 f4)
          clear f4
          go_wp2_with fail
          refine (HTO.out _ _ _ _ HBd.out).mono ?_
          rintro e5 t5 ⟨rfl, rfl⟩
          by_cases hlo : LO = -9223372036854775808
          · have hlob : (LO == -9223372036854775808) = true := by rw [beq_iff_eq]; exact hlo
            go_wp2_with fail
            go_ret
            exact ⟨rfl, HBd.out.fr⟩
          · have hlob : (LO == -9223372036854775808) = false := by rw [beq_eq_false_iff_ne]; exact hlo
            have HU4 := Lib.hid (HU4A.out hlo)
            have hl9 : -9223372036854775808 ≤ LO - 1 := by omega
            have wl9 : IntKind.i64.wrap (LO - 1) = LO - 1 := by rw [IntKind.wrap_i64]; omega
            go_wp2_with fail
            refine (HU4.out _ _ _ _ HBd.out).mono ?_
            rintro e6 t6 ⟨rfl, f6⟩
            have HBe := Lib.hid (HBd.out.fr0 f6)
            clear f6
            go_wp2_with fail
            go_ret
            exact ⟨rfl, HBe.out.fr⟩
      · have dEK : ((EK : Int) == 0) = false := by rw [beq_eq_false_iff_ne]; omega
        have HB := HB6
        clear hwl
        go_wp2_with fail
        refine (HU1.out _ _ _ _ HB.out).mono ?_
        rintro e1 t1 ⟨rfl, f1⟩
        have HBa := Lib.hid (HB.out.fr0 f1)
        clear f1
        go_wp2_with fail
        refine (HU2.out _ _ _ _ HBa.out).mono ?_
        rintro e2 t2 ⟨rfl, f2⟩
        have HBb := Lib.hid (HBa.out.fr0 f2)
        clear f2
        go_wp2_with fail
        refine (HTO.out _ _ _ _ HBb.out).mono ?_
        rintro e3 t3 ⟨rfl, rfl⟩
        go_wp2_with fail
        refine (HU3.out _ _ _ _ HBb.out).mono ?_
        rintro e4 t4 ⟨rfl, f4⟩
        have HBd := Lib.hid (HBb.out.fr0 f4)
        clear f4
        go_wp2_with fail
        refine (HTO.out _ _ _ _ HBd.out).mono ?_
        rintro e5 t5 ⟨rfl, rfl⟩
        by_cases hlo : LO = -9223372036854775808
        · have hlob : (LO == -9223372036854775808) = true := by rw [beq_iff_eq]; exact hlo
          go_wp2_with fail
          go_ret
          exact ⟨rfl, HBd.out.fr⟩
        · have hlob : (LO == -9223372036854775808) = false := by rw [beq_eq_false_iff_ne]; exact hlo
          have HU4 := Lib.hid (HU4A.out hlo)
          have hl9 : -9223372036854775808 ≤ LO - 1 := by omega
          have wl9 : IntKind.i64.wrap (LO - 1) = LO - 1 := by rw [IntKind.wrap_i64]; omega
          go_wp2_with fail
          refine (HU4.out _ _ _ _ HBd.out).mono ?_
          rintro e6 t6 ⟨rfl, f6⟩
          have HBe := Lib.hid (HBd.out.fr0 f6)
          clear f6
          go_wp2_with fail
          go_ret
          exact ⟨rfl, HBe.out.fr⟩
    · have dEH : ((EH : Int) == 0) = false := by rw [beq_eq_false_iff_ne]; omega
      have HB := HB6
      clear hwl HPB
      go_wp2_with fail
      refine (HU1.out _ _ _ _ HB.out).mono ?_
      rintro e1 t1 ⟨rfl, f1⟩
      have HBa := Lib.hid (HB.out.fr0 f1)
      clear f1
      go_wp2_with fail
      refine (HU2.out _ _ _ _ HBa.out).mono ?_
      rintro e2 t2 ⟨rfl, f2⟩
      have HBb := Lib.hid (HBa.out.fr0 f2)
      clear f2
      go_wp2_with fail
      refine (HTO.out _ _ _ _ HBb.out).mono ?_
      rintro e3 t3 ⟨rfl, rfl⟩
      go_wp2_with fail
      refine (HU3.out _ _ _ _ HBb.out).mono ?_
      rintro e4 t4 ⟨rfl, f4⟩
      have HBd := Lib.hid (HBb.out.fr0 f4)
      clear f4
      go_wp2_with fail
      refine (HTO.out _ _ _ _ HBd.out).mono ?_
      rintro e5 t5 ⟨rfl, rfl⟩
      by_cases hlo : LO = -9223372036854775808
      · have hlob : (LO == -9223372036854775808) = true := by rw [beq_iff_eq]; exact hlo
        go_wp2_with fail
        go_ret
        exact ⟨rfl, HBd.out.fr⟩
      · have hlob : (LO == -9223372036854775808) = false := by rw [beq_eq_false_iff_ne]; exact hlo
        have HU4 := Lib.hid (HU4A.out hlo)
        have hl9 : -9223372036854775808 ≤ LO - 1 := by omega
        have wl9 : IntKind.i64.wrap (LO - 1) = LO - 1 := by rw [IntKind.wrap_i64]; omega
        go_wp2_with fail
        refine (HU4.out _ _ _ _ HBd.out).mono ?_
        rintro e6 t6 ⟨rfl, f6⟩
        have HBe := Lib.hid (HBd.out.fr0 f6)
        clear f6
        go_wp2_with fail
        go_ret
        exact ⟨rfl, HBe.out.fr⟩
end
end Go.Proofs.Yticagdppjknlaaa
