/- DgAt, DgUpto -/
import Derived.Test.YticagdppjknlaaaPl1
import Derived.Test.YticagdppjknlaaaPl2
import Derived.Test.YticagdppjknlaaaPl3
import Derived.Test.YticagdppjknlaaaPl4
import Derived.Test.YticagdppjknlaaaPl5
import Derived.Test.YticagdppjknlaaaPl6
import Derived.Test.YticagdppjknlaaaPl7
import Derived.Test.YticagdppjknlaaaPl8
import Derived.Test.YticagdppjknlaaaPl9
import Derived.Test.YticagdppjknlaaaPl10
import Derived.BigQuiet
import Derived.BigRegion
import Derived.Deep.RegionLaw
import Derived.Deep.RegionHeld3
import Derived.StillTailTactics
import Derived.Maps.AppendAt
import Derived.Laws.AppendOwnNone
import Derived.Laws.OwnMore
import Derived.Lib.AppendZerosOnto
import Derived.Lib.SliceRun
import Derived.Lib.Walk
import Derived.Laws.Externs
import Derived.Shelf.Spec.BitsCarry
import Derived.Deep.CutBlock
import Derived.Deep.CutRange
import Derived.Deep.DeepCutAuto
import Derived.Lib.BitFns
import Derived.Shelf.Small.Bits
import Derived.Shelf.Strconv.Itoa0
import Derived.Shelf.Bits.Mul64
import Derived.Test.YticagdppjknlaaaRows
import Derived.WalkKit
import Derived.WalkSpells
import Derived.WalkLawsBesides
import Derived.Deep.QuietTactic
import Derived.RegionTactic
import Derived.Deep.AppendLies
import Derived.Laws.ResultCell
import Derived.Laws.EntriesVeiled
import Derived.Lib.Hide
import Derived.Laws.BytesArg
import Derived.Lib.SlBytesConst
set_option maxRecDepth 100000
set_option maxHeartbeats 8000000
namespace Go.Proofs.Yticagdppjknlaaa
open Go.RowKit
def Dg.atV (x : Dg) (a d : Nat) : Int := if spE a d x.tot = 0 then x.at (spR a d x.tot) else 0
theorem sp_le {a d n : Nat} (h : spE a d n = 0) : 0 < n ∧ spR a d n ≤ 2 * n := by
  unfold spE at h
  unfold spR
  split at h
  · cases h
  · rename_i h1
    split at h
    · cases h
    · rename_i h2
      split at h
      · cases h
      · rename_i h3
        rw [if_neg h1, if_neg h2, if_neg h3]
        exact ⟨by omega, spt_all (by omega)⟩
section
variable (g : Nat) (C : Nat → Prop) (p : Option Addr) (n c : Nat) (q : Option Addr) (m e : Nat) (x : Dg) (w : World)
theorem at_any (a d : Nat) (s : DgIs w g C p n c q m e x) (hN : x.all.length ≤ 500000000000) (h64 : d < 18446744073709551616) :
    Calls Try.prog 19 #[.pointer (some ⟨g, 0, none⟩), .int .u64 (a : Nat), .int .u64 (d : Nat)] w fun e w' => e = .returned (.tuple #[.int .i64 (x.atV a d), .int .i64 (spE a d x.tot : Nat)]) ∧ Fr S0 w w' := by
  have HSP := Lib.hid (spot_any a d x.tot w h64)
  have hle := fun h => sp_le (a := a) (d := d) (n := x.tot) h
  have htot := s.good.tot
  have hl1 := s.good.l1
  have hh2 := s.good.h2
  unfold Dg.atV Dg.at
  obtain ⟨R, eR⟩ : ∃ R, spR a d x.tot = R := ⟨_, rfl⟩
  obtain ⟨E, eE⟩ : ∃ E, spE a d x.tot = E := ⟨_, rfl⟩
  rw [eR, eE] at HSP hle
  rw [eR, eE]
  have HC := Lib.hid (fun W (f : Fr S0 w W) => And.intro (s.fr0 f).c5 (s.fr0 f).c4)
  have c5 := s.c5
  by_cases hE : E = 0
  · subst hE
    obtain ⟨h0, hR⟩ := hle rfl
    rw [if_pos rfl]
    by_cases hs : R = 2 * x.tot
    · rw [if_pos hs]
      obtain ⟨T, eT⟩ : ∃ T, x.tot = T := ⟨_, rfl⟩
      obtain ⟨X, eX⟩ : ∃ X, x.hi = X := ⟨_, rfl⟩
      rw [eT] at HSP HC c5 hs htot
      rw [eX] at HC ⊢
      have wR : IntKind.u64.wrap (2 * (T : Int)) = (R : Int) := by rw [IntKind.wrap_u64]; omega
      have iR : 2 * (T : Int) = (R : Int) := by omega
      have wR2 : IntKind.u64.wrap (R : Int) = (R : Int) := by rw [IntKind.wrap_u64]; omega
      clear s hle h0 hR hl1 hh2 eT eX eR eE hs htot
      go_enter Try.func19, Try.ntmps19
      go_wp2_with fail
      refine HSP.out.mono ?_
      rintro e1 w1 ⟨rfl, f1⟩
      have F1 := Lib.hid f1
      have hb := heap_alloc_new w1 (.cells #[.int .u64 (R : Nat)] 37)
      have hbc : (w1.alloc (.cells #[.int .u64 (R : Nat)] 37)).cell? ⟨w1.heap.size, 0, none⟩ = some (.int .u64 (R : Nat)) := by rw [World.cell?, hb]; rfl
      obtain ⟨k5, k4⟩ := HC.out _ (f1.trans0 (Fr.alloc S0 w1 (.cells #[.int .u64 (R : Nat)] 37)))
      clear c5 f1 hb HSP
      go_wp2_with fail
      go_quiet (fail)
      go_wp2_with fail
      go_ret2
      exact ⟨rfl, (F1.out.trans0 (Fr.alloc S0 w1 _)).trans0 (Fr.drewN _ _ _)⟩
    · rw [if_neg hs]
      have hRl : R < 2 * x.tot := by omega
      have hmono := s.good.at_mono h0 hRl
      have HTW := Lib.hid (fun i (h : Parts (fun p => decide (R < p.2)) x.pts i) => s.good.two h0 h.pos h.lt)
      have HAR := Lib.hid (fun b W (f : Fr S0 w W) (hk : W.cell? ⟨b, 0, none⟩ = some (.int .u64 (R : Nat))) => around_any g C p n c q m e x W 48 b (.int .u64 (R : Nat)) (fun p => decide (R < p.2)) (s.fr0 f) hN has_at (asks_at R) hk hmono)
      have HLO : Hid (∀ i, Parts (fun p => decide (R < p.2)) x.pts i → (x.pts.getD (i - 1) (0, 0)).2 ≤ R ∧ R < (x.pts.getD i (0, 0)).2) := Lib.hid fun i h => by
        have h1 := h.yes
        have h2 := h.no (i - 1) (by have := h.lt; omega) (by have := h.pos; omega)
        rw [show x.pts.getD (i - 1) (0, 0) = x.pts[i - 1]'(by have := h.lt; omega) by simp [show i - 1 < x.pts.length by have := h.lt; omega], show x.pts.getD i (0, 0) = x.pts[i]'h.lt by simp [h.lt]]
        simp only [decide_eq_true_eq, decide_eq_false_iff_not] at h1 h2
        omega
      unfold atL
      obtain ⟨L, eL⟩ : ∃ L, x.pts = L := ⟨_, rfl⟩
      rw [eL] at HTW HAR HLO
      rw [eL]
      obtain ⟨T, eT⟩ : ∃ T, x.tot = T := ⟨_, rfl⟩
      have HTT := Lib.hid eT
      rw [eT] at HSP HC c5 hs htot hRl
      obtain ⟨T2, eT2⟩ : ∃ T2, 2 * T = T2 := ⟨_, rfl⟩
      have iR : 2 * (T : Int) = (T2 : Int) := by omega
      have wR : IntKind.u64.wrap (T2 : Int) = (T2 : Int) := by rw [IntKind.wrap_u64]; omega
      have hne : ((R : Int) == (T2 : Int)) = false := by rw [beq_eq_false_iff_ne]; omega
      have HRT : Hid (R < T2 ∧ T2 ≤ 562949953421312) := Lib.hid (by omega)
      have HET := Lib.hid eT2
      have HL1 := Lib.hid (And.intro hl1 hh2)
      clear s hle h0 hR eT eR eE hs htot hmono eL eT2 hRl hl1 hh2
      go_enter Try.func19, Try.ntmps19
      go_wp2_with fail
      refine HSP.out.mono ?_
      rintro e1 w1 ⟨rfl, f1⟩
      have hb := heap_alloc_new w1 (.cells #[.int .u64 (R : Nat)] 37)
      have hbc : (w1.alloc (.cells #[.int .u64 (R : Nat)] 37)).cell? ⟨w1.heap.size, 0, none⟩ = some (.int .u64 (R : Nat)) := by rw [World.cell?, hb]; rfl
      have F2 := Lib.hid (f1.trans0 (Fr.alloc S0 w1 (.cells #[.int .u64 (R : Nat)] 37)))
      obtain ⟨k5, k4⟩ := HC.out _ F2.out
      have HBC := Lib.hid hbc
      clear c5 f1 hb HSP
      go_wp2_with fail
      go_quiet (fail)
      have HAW := Lib.hid (HAR.out w1.heap.size ((w1.alloc (.cells #[.int .u64 (R : Nat)] 37)).drewN nq) (F2.out.trans0 (Fr.drewN S0 _ _)) HBC.out)
      have hbc2 : ((w1.alloc (.cells #[.int .u64 (R : Nat)] 37)).drewN nq).cell? ⟨w1.heap.size, 0, none⟩ = some (.int .u64 (R : Nat)) := HBC.out
      have F3 := Lib.hid (F2.out.trans0 (Fr.drewN S0 _ nq))
      generalize (w1.alloc (.cells #[.int .u64 (R : Nat)] 37)).drewN nq = w3 at *
      clear HAR k5 k4 hbc HBC F2
      go_wp2_with fail
      refine HAW.out.mono ?_
      rintro e4 w4 ⟨i, hpa, rfl, f4⟩
      have hbc2b := f4.cell hbc2 (fun h => h)
      have htw := HTW.out i hpa
      have hlo := HLO.out i hpa
      have hidx := hpa.idx
      have HIX := Lib.hid hidx
      obtain ⟨⟨av, an⟩, hA⟩ : ∃ t, L.getD (i - 1) (0, 0) = t := ⟨_, rfl⟩
      obtain ⟨⟨dv, dn⟩, hD⟩ : ∃ t, L.getD i (0, 0) = t := ⟨_, rfl⟩
      have HAD := Lib.hid (And.intro hA hD)
      rw [hA, hD] at htw hlo
      rw [hA, hD]
      obtain ⟨q1, q2, q3, q4, q5⟩ := htw
      simp only at q1 q2 q3 q4 q5 hlo
      have hrt := HRT.out
      have het := HET.out
      have htt := HTT.out
      have hll := HL1.out
      obtain ⟨S1, eS1⟩ : ∃ S1, R - an = S1 := ⟨_, rfl⟩
      obtain ⟨S2, eS2⟩ : ∃ S2, dn - an = S2 := ⟨_, rfl⟩
      have iS1 : (R : Int) - (an : Int) = (S1 : Int) := by omega
      have iS2 : (dn : Int) - (an : Int) = (S2 : Int) := by omega
      have bS1 : (S1 : Int) < 18446744073709551616 := by omega
      have bS2 : (S2 : Int) < 18446744073709551616 := by omega
      have HLP := Lib.hid (fun W => lerp_yes av dv S1 S2 W ⟨by simp only; omega, by simp only; omega, by simp only; omega⟩ ⟨by simp only; omega, by simp only; omega, by simp only; omega⟩ q1 (by omega) (by omega))
      have HV : Hid (lerp (L.getD (L.findIdx (fun p => decide (R < p.2)) - 1) (0, 0)) (L.getD (L.findIdx (fun p => decide (R < p.2))) (0, 0)) R = av + (((dv - av).toNat * S1 / S2 : Nat) : Int)) := Lib.hid (by rw [hidx, hA, hD, ← eS1, ← eS2]; rfl)
      obtain ⟨Z, eZ⟩ : ∃ Z, av + (((dv - av).toNat * S1 / S2 : Nat) : Int) = Z := ⟨_, rfl⟩
      rw [eZ] at HLP HV
      have F4 := Lib.hid (F3.out.trans0 f4)
      have hbc5 := fun x1 x2 x3 x4 => (((Fr.alloc S0 w4 (.cells #[.int .i64 x1, .int .u64 x2] 89)).trans0 (Fr.alloc _ _ (.cells #[.int .i64 x3, .int .u64 x4] 89))).cell hbc2b (fun h => h))
      clear hpa hlo hidx hA hD q1 q2 q3 q4 q5 hrt het htt hll eS1 eS2 eZ f4
      go_wp2_with fail
      refine (HLP.out _).mono ?_
      rintro e5 w5 ⟨rfl, f5⟩
      have F5 := Lib.hid f5
      clear f5 HLP
      go_wp2_with fail
      go_ret2
      exact ⟨by first | (rw [HV.out]; done) | (rw [HV.out]; rfl), ((F4.out.trans0 (Fr.alloc S0 w4 _)).trans0 (Fr.alloc _ _ _)).trans0 F5.out⟩
  · rw [if_neg hE]
    have hne : ((E : Int) == 0) = false := by rw [beq_eq_false_iff_ne]; omega
    clear s hle hl1 hh2 eR eE hE
    go_enter Try.func19, Try.ntmps19
    go_wp2_with fail
    refine HSP.out.mono ?_
    rintro e1 w1 ⟨rfl, f1⟩
    have F1 := Lib.hid f1
    clear f1 HSP
    go_wp2_with fail
    go_ret2
    exact ⟨rfl, F1.out.trans0 (Fr.alloc S0 w1 _)⟩
end
end Go.Proofs.Yticagdppjknlaaa

namespace Go.Proofs.Yticagdppjknlaaa
open Go.RowKit
section
variable (g : Nat) (C : Nat → Prop) (p : Option Addr) (n c : Nat) (q : Option Addr) (m e : Nat) (x : Dg) (w : World)
theorem upto_any (v : Int) (s : DgIs w g C p n c q m e x) (hN : x.all.length ≤ 500000000000) (hv1 : -9223372036854775808 ≤ v) (hv2 : v ≤ 9223372036854775807) :
    Calls Try.prog 24 #[.pointer (some ⟨g, 0, none⟩), .int .i64 v] w fun e w' => e = .returned (.int .u64 (x.upto v : Nat)) ∧ Fr S0 w w' := by
  have htot := s.good.tot
  have hl1 := s.good.l1
  have hh2 := s.good.h2
  have hb := heap_alloc_new w (.cells #[.int .i64 v] 2)
  have hbc : (w.alloc (.cells #[.int .i64 v] 2)).cell? ⟨w.heap.size, 0, none⟩ = some (.int .i64 v) := by rw [World.cell?, hb]; rfl
  have HBC := Lib.hid hbc
  have s1 := s.fr0 (Fr.alloc S0 w (.cells #[.int .i64 v] 2))
  have c3 := s1.c3
  have c4 := s1.c4
  have c5 := s1.c5
  have F1 : Hid (Fr S0 w (w.alloc (.cells #[.int .i64 v] 2))) := Lib.hid (Fr.alloc _ _ _)
  unfold Dg.upto
  by_cases h1 : v < x.lo
  · rw [if_pos h1]
    clear s s1 hb c4 c5 htot hl1 hh2
    go_enter Try.func24, Try.ntmps24
    go_wp2_with fail
    go_quiet (fail)
    go_wp2_with fail
    go_ret
    exact ⟨rfl, F1.out.trans0 (Fr.drewN _ _ _)⟩
  · rw [if_neg h1]
    by_cases h2 : x.hi ≤ v
    · rw [if_pos h2]
      clear s s1 hb htot hl1 hh2
      go_enter Try.func24, Try.ntmps24
      go_wp2_with fail
      go_quiet (fail)
      go_wp2_with fail
      go_quiet (fail)
      go_wp2_with fail
      go_ret
      first | exact ⟨rfl, F1.out.trans0 (Fr.drewN _ _ _)⟩ | exact ⟨rfl, (F1.out.trans0 (Fr.drewN _ _ _)).trans0 (Fr.drewN _ _ _)⟩
    · rw [if_neg h2]
      have h0 : 0 < x.tot := by
        rcases Nat.eq_zero_or_pos x.tot with h | h
        · obtain ⟨a1, a2⟩ := s.good.emp (s.good.allNil.2 h)
          omega
        · exact h
      have hmono := s.good.upto_mono h0 (v := v) (by omega) (by omega)
      have HTW := Lib.hid (fun i (h : Parts (fun p => decide (v < p.1)) x.pts i) => s.good.two h0 h.pos h.lt)
      have HAR := Lib.hid (fun b W (f : Fr S0 w W) (hk : W.cell? ⟨b, 0, none⟩ = some (.int .i64 v)) => around_any g C p n c q m e x W 52 b (.int .i64 v) (fun p => decide (v < p.1)) (s.fr0 f) hN has_upto (asks_upto v) hk hmono)
      have HLO : Hid (∀ i, Parts (fun p => decide (v < p.1)) x.pts i → (x.pts.getD (i - 1) (0, 0)).1 ≤ v ∧ v < (x.pts.getD i (0, 0)).1) := Lib.hid fun i h => by
        have h1 := h.yes
        have h2 := h.no (i - 1) (by have := h.lt; omega) (by have := h.pos; omega)
        rw [show x.pts.getD (i - 1) (0, 0) = x.pts[i - 1]'(by have := h.lt; omega) by simp [show i - 1 < x.pts.length by have := h.lt; omega], show x.pts.getD i (0, 0) = x.pts[i]'h.lt by simp [h.lt]]
        simp only [decide_eq_true_eq, decide_eq_false_iff_not] at h1 h2
        omega
      have HTT : Hid (x.tot ≤ 281474976710656 ∧ -9223372036854775808 ≤ x.lo ∧ x.hi ≤ 9223372036854775807) := Lib.hid ⟨htot, hl1, hh2⟩
      unfold uptoL
      obtain ⟨L, eL⟩ : ∃ L, x.pts = L := ⟨_, rfl⟩
      rw [eL] at HTW HAR HLO ⊢
      have hd2 : decide (v < x.lo) = false := decide_eq_false h1
      have hd3 : decide (x.hi ≤ v) = false := decide_eq_false h2
      clear s s1 hb htot hl1 hh2 h0 hmono eL c5
      go_enter Try.func24, Try.ntmps24
      go_wp2_with fail
      go_quiet (fail)
      have c4q : ((w.alloc (.cells #[.int .i64 v] 2)).drewN nq).cell? ⟨g, 4, none⟩ = some (.int .i64 x.hi) := c4
      have HBQ : Hid (((w.alloc (.cells #[.int .i64 v] 2)).drewN nq).cell? ⟨w.heap.size, 0, none⟩ = some (.int .i64 v)) := HBC
      have F2 := Lib.hid (F1.out.trans0 (Fr.drewN S0 _ nq))
      clear c3 c4 hbc HBC F1
      have hbq := HBQ.out
      generalize (w.alloc (.cells #[.int .i64 v] 2)).drewN nq = w2 at *
      go_wp2_with fail
      go_quiet (fail)
      have hbc3 : (w2.drewN nq).cell? ⟨w.heap.size, 0, none⟩ = some (.int .i64 v) := HBQ.out
      have F3 := Lib.hid (F2.out.trans0 (Fr.drewN S0 _ nq))
      have HAW := Lib.hid (HAR.out w.heap.size (w2.drewN nq) F3.out hbc3)
      clear HAR c4q hbq HBQ F2
      generalize w2.drewN nq = w3 at *
      go_wp2_with fail
      refine HAW.out.mono ?_
      rintro e4 w4 ⟨i, hpa, rfl, f4⟩
      have hbc4 := f4.cell hbc3 (fun h => h)
      have htw := HTW.out i hpa
      have hlo := HLO.out i hpa
      have hidx := hpa.idx
      obtain ⟨⟨av, an⟩, hA⟩ : ∃ t, L.getD (i - 1) (0, 0) = t := ⟨_, rfl⟩
      obtain ⟨⟨dv, dn⟩, hD⟩ : ∃ t, L.getD i (0, 0) = t := ⟨_, rfl⟩
      rw [hA, hD] at htw hlo
      rw [hA, hD]
      obtain ⟨q1, q2, q3, q4, q5⟩ := htw
      simp only at q1 q2 q3 q4 q5 hlo
      have htt := HTT.out
      obtain ⟨S2, eS2⟩ : ∃ S2, dn - an = S2 := ⟨_, rfl⟩
      obtain ⟨K1, eK1⟩ : ∃ K1, (v - av).toNat = K1 := ⟨_, rfl⟩
      obtain ⟨K2, eK2⟩ : ∃ K2, (dv - av).toNat = K2 := ⟨_, rfl⟩
      have iS2 : (dn : Int) - (an : Int) = (S2 : Int) := by omega
      have bS2 : (S2 : Int) < 18446744073709551616 := by omega
      obtain ⟨U, eU⟩ : ∃ U : Nat, (v % 18446744073709551616) = (U : Int) := ⟨(v % 18446744073709551616).toNat, by omega⟩
      obtain ⟨UA, eUA⟩ : ∃ U : Nat, (av % 18446744073709551616) = (U : Int) := ⟨(av % 18446744073709551616).toNat, by omega⟩
      obtain ⟨UD, eUD⟩ : ∃ U : Nat, (dv % 18446744073709551616) = (U : Int) := ⟨(dv % 18446744073709551616).toNat, by omega⟩
      have wU : IntKind.u64.wrap v = (U : Int) := by rw [IntKind.wrap_u64]; exact eU
      have wUA : IntKind.u64.wrap av = (UA : Int) := by rw [IntKind.wrap_u64]; exact eUA
      have wUD : IntKind.u64.wrap dv = (UD : Int) := by rw [IntKind.wrap_u64]; exact eUD
      have iK1 : ((U : Int) - (UA : Int)) % 18446744073709551616 = (K1 : Int) := by omega
      have iK2 : ((UD : Int) - (UA : Int)) % 18446744073709551616 = (K2 : Int) := by omega
      have wK1 : IntKind.u64.wrap ((U : Int) - (UA : Int)) = (K1 : Int) := by rw [IntKind.wrap_u64]; exact iK1
      have wK2 : IntKind.u64.wrap ((UD : Int) - (UA : Int)) = (K2 : Int) := by rw [IntKind.wrap_u64]; exact iK2
      have hpart : S2 * K1 / K2 ≤ S2 := part_le S2 K1 K2 (by omega)
      have HMD := Lib.hid (fun W => muldiv_yes S2 K1 K2 W (by omega) (by omega) (by omega) (by omega) (by omega))
      have HV : Hid (lerpU (L.getD (L.findIdx (fun p => decide (v < p.1)) - 1) (0, 0)) (L.getD (L.findIdx (fun p => decide (v < p.1))) (0, 0)) v = (an + S2 * K1 / K2) / 2) := Lib.hid (by rw [hidx, hA, hD, ← eS2, ← eK1, ← eK2]; rfl)
      obtain ⟨Z, eZ⟩ : ∃ Z, S2 * K1 / K2 = Z := ⟨_, rfl⟩
      obtain ⟨Z2, eZ2⟩ : ∃ Z2, S2 * K1 % K2 = Z2 := ⟨_, rfl⟩
      rw [eZ] at hpart HMD HV
      rw [eZ2] at HMD
      obtain ⟨Y, eY⟩ : ∃ Y, an + Z = Y := ⟨_, rfl⟩
      have iY : (an : Int) + (Z : Int) = (Y : Int) := by omega
      have bY : (Y : Int) < 18446744073709551616 := by omega
      rw [eY] at HV
      obtain ⟨H, eH⟩ : ∃ H, Y / 2 = H := ⟨_, rfl⟩
      rw [eH] at HV
      have iH : (Y : Int) / 2 = (H : Int) := by omega
      have F4 := Lib.hid (F3.out.trans0 f4)
      have hbc5 := fun x1 x2 x3 x4 => (((Fr.alloc S0 w4 (.cells #[.int .i64 x1, .int .u64 x2] 89)).trans0 (Fr.alloc _ _ (.cells #[.int .i64 x3, .int .u64 x4] 89))).cell hbc4 (fun h => h))
      have HP := Lib.hid (fun W (f : Fr S0 ((w4.alloc (.cells #[.int .i64 av, .int .u64 (an : Nat)] 89)).alloc (.cells #[.int .i64 dv, .int .u64 (dn : Nat)] 89)) W) => show W.cell? ⟨w4.heap.size, 1, none⟩ = some (.int .u64 (an : Nat)) from by
        have h1 := heap_alloc_new w4 (.cells #[.int .i64 av, .int .u64 (an : Nat)] 89)
        rw [World.cell?, f.row ((Fr.alloc S0 _ _).row h1 (fun h => h)) (fun h => h)]
        rfl)
      clear hpa hlo hidx hA hD q1 q2 q3 q4 q5 htt eS2 eK1 eK2 eZ eZ2 eY eH f4 eU eUA eUD hpart
      go_wp2_with fail
      refine (HMD.out _).mono ?_
      rintro e5 w5 ⟨rfl, f5⟩
      have F5 := Lib.hid f5
      have hp5 := HP.out w5 f5
      clear f5 HMD HP
      go_wp2_with fail
      go_ret
      exact ⟨by first | (rw [HV.out]; done) | (rw [HV.out]; rfl), ((F4.out.trans0 (Fr.alloc S0 w4 _)).trans0 (Fr.alloc _ _ _)).trans0 F5.out⟩
end
end Go.Proofs.Yticagdppjknlaaa
