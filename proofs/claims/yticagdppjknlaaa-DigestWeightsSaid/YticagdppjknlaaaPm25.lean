/- DgLawWeights -/
import Derived.Test.YticagdppjknlaaaPm1
import Derived.Test.YticagdppjknlaaaPm2
import Derived.Test.YticagdppjknlaaaPm3
import Derived.Test.YticagdppjknlaaaPm4
import Derived.Test.YticagdppjknlaaaPm5
import Derived.Test.YticagdppjknlaaaPm6
import Derived.Test.YticagdppjknlaaaPm7
import Derived.Test.YticagdppjknlaaaPm8
import Derived.Test.YticagdppjknlaaaPm9
import Derived.Test.YticagdppjknlaaaPm10
import Derived.Test.YticagdppjknlaaaPm11
import Derived.Test.YticagdppjknlaaaPm12
import Derived.Test.YticagdppjknlaaaPm13
import Derived.Test.YticagdppjknlaaaPm14
import Derived.Test.YticagdppjknlaaaPm15
import Derived.Test.YticagdppjknlaaaPm16
import Derived.Test.YticagdppjknlaaaPm17
import Derived.Test.YticagdppjknlaaaPm18
import Derived.Test.YticagdppjknlaaaPm19
import Derived.Test.YticagdppjknlaaaPm20
import Derived.Test.YticagdppjknlaaaPm21
import Derived.BigQuiet
import Derived.BigRegion
import Derived.Deep.RegionLaw
import Derived.Deep.RegionHeld3
import Derived.StillTailTactics
import Derived.Maps.AppendAt
import Derived.Laws.AppendOwnNone
import Derived.Laws.OwnMore
import Derived.Lib.AppendZerosOnto
import Derived.Lib.SliceRun
import Derived.Lib.Walk
import Derived.Laws.Externs
import Derived.Shelf.Spec.BitsCarry
import Derived.Deep.CutBlock
import Derived.Deep.CutRange
import Derived.Deep.DeepCutAuto
import Derived.Lib.BitFns
import Derived.Shelf.Small.Bits
import Derived.Shelf.Strconv.Itoa0
import Derived.Shelf.Bits.Mul64
import Derived.Test.YticagdppjknlaaaRows
import Derived.WalkKit
import Derived.WalkSpells
import Derived.WalkLawsBesides
import Derived.Deep.QuietTactic
import Derived.RegionTactic
import Derived.Deep.AppendLies
import Derived.Laws.ResultCell
import Derived.Laws.EntriesVeiled
import Derived.Lib.Hide
import Derived.Laws.BytesArg
import Derived.Lib.SlBytesConst
set_option maxRecDepth 100000
set_option maxHeartbeats 8000000
namespace Go.Proofs.Yticagdppjknlaaa
open Go.RowKit
theorem sp0 {n : Nat} (h : 0 < n) (h2 : n ≤ 281474976710656) : spE 0 1 n = 0 ∧ spR 0 1 n = 0 := by
  unfold spE spR
  rw [if_neg (by omega), if_neg (by omega), if_neg (by omega), if_neg (by omega), if_neg (by omega), if_neg (by omega)]
  exact ⟨rfl, by unfold spt; simp⟩
theorem both_press {w W : World} {g r : Nat} {x y : Dg} (k : Both w W g r x y) (hN : x.all.length ≤ 500000000000) :
    Calls Try.prog 28 #[.pointer (some ⟨g, 0, none⟩)] W fun e w' => e = .returned (.tuple #[]) ∧ Both w w' g r x.press y := by
  obtain ⟨C, ⟨p, n, c, q, m, e, s⟩, ht⟩ := k.left (x2 := x.press)
  exact (press_any g C p n c q m e x W s hN).mono fun e w' he => ⟨he.1, ht _ he.2⟩
theorem both_list {w W : World} {g r : Nat} {x y : Dg} (k : Both w W g r x y) (hN : x.all.length ≤ 500000000000) :
    Calls Try.prog 29 #[.pointer (some ⟨g, 0, none⟩)] W fun e w' => ∃ v, e = .returned v ∧ Acc 61 W w' v x.L.length x.L := by
  obtain ⟨C, R, ⟨p, n, c, q, m, e, s⟩, -⟩ := k.ex
  exact list_any g C p n c q m e x W s hN
theorem both_waits {w W : World} {g r : Nat} {x y : Dg} (k : Both w W g r x y) (hN : x.all.length ≤ 500000000000) :
    Calls Try.prog 30 #[.pointer (some ⟨g, 0, none⟩)] W fun e w' => ∃ v, e = .returned v ∧ Acc 61 W w' v x.W.length x.W := by
  obtain ⟨C, R, ⟨p, n, c, q, m, e, s⟩, -⟩ := k.ex
  exact waits_any g C p n c q m e x W s hN
theorem both_all {w W : World} {g r : Nat} {x y : Dg} (k : Both w W g r x y) (hN : y.all.length ≤ 500000000000) :
    Calls Try.prog 22 #[.pointer (some ⟨r, 0, none⟩)] W fun e w' => ∃ v, e = .returned v ∧ Acc 61 W w' v y.all.length y.all := by
  obtain ⟨C, R, -, ⟨p, n, c, q, m, e, s⟩, -⟩ := k.ex
  exact rall_any r R p n c q m e y W s hN
theorem acc_total {w W : World} {v : Value} {l : List Tm} {T : Nat} (a : Acc 61 w W v l.length l) (hT : wts l = T) (h : T < 18446744073709551616) :
    Calls Try.prog 21 #[v] W fun e w' => e = .returned (.int .u64 (T : Nat)) ∧ W = w' := by
  obtain ⟨pv, cv, rfl⟩ := slFormN a.own
  subst hT
  exact rtotal_any pv _ cv l W (Sl.ofOwns a.own) h
theorem both_cells {w W : World} {g r : Nat} {x y : Dg} (k : Both w W g r x y) : W.cell? ⟨r, 3, none⟩ = some (.int .i64 y.lo) ∧ W.cell? ⟨r, 4, none⟩ = some (.int .i64 y.hi) := by
  obtain ⟨_, _, _, ⟨_, _, _, _, _, _, s⟩, _⟩ := k.ex
  exact ⟨s.c3, s.c4⟩
theorem Both.back {w0 w W : World} {g r : Nat} {x y : Dg} (bo : Both w W g r x y) (f : Fr S0 w0 w) : Both w0 W g r x y :=
  let ⟨C, R, x1, x2, x3, x4, x5⟩ := bo.ex
  ⟨⟨C, R, x1, x2, x3, fun b hb => Nat.le_trans f.size (x4 b hb), fun b hb => Nat.le_trans f.size (x5 b hb)⟩, f.trans0 bo.fr⟩
section
variable (d : Nat) (p : Option Addr) (n c : Nat) (vs : List Int) (q : Option Addr) (k c2 : Nat) (ns : List Nat) (w : World)
theorem law_weights (hd : d < 65536) (hn : vs.length = n) (hz : ZI w p vs) (hvb : ∀ v ∈ vs, -9223372036854775808 ≤ v ∧ v ≤ 9223372036854775807) (hk : ns.length = k) (hq : SlI w .u16 q ns) (hnb : ∀ n ∈ ns, n < 65536) :
    Calls Try.prog 7 #[.int .u16 (d : Nat), .slice p n c, .slice q k c2] w fun e w' => e = .returned (.bool true) ∧ Fr S0 w w' := by
  have HAL := Lib.hid (alive_any w)
  have HAD := Lib.hid (fun W (f : Fr S0 w W) => added_any d p n c vs q k c2 ns W hd hn (hz.fr0 f) hvb hk (hq.fr0 f) hnb)
  obtain ⟨d1, d2⟩ := fineD_in d
  have hok := adds_ok (ns := ns) d1 d2 hvb (min n 80) (by omega)
  obtain ⟨X, eX⟩ : ∃ X, adds (fineD d) vs ns (min n 80) = X := ⟨_, rfl⟩
  rw [eX] at HAD hok
  have hlen : X.all.length ≤ 80 := by have := hok.len; omega
  have hg := hok.good
  have htot := hg.tot
  have hgp := hg.press
  have htp := Dg.press_tot hg
  have hlp := Dg.press_len hg
  have HPR := Lib.hid (fun W g r (b : Both w W g r X X) => both_press b (by omega))
  have HLI := Lib.hid (fun W g r (b : Both w W g r X.press X) => both_list b (by omega))
  have HWA := Lib.hid (fun W g r (b : Both w W g r X.press X) => both_waits b (by omega))
  have HRA := Lib.hid (fun W g r (b : Both w W g r X.press X) => both_all b (by omega))
  have HAT := Lib.hid (fun W g r (b : Both w W g r X.press X) => nd_at b.nd 0 1 (by omega) (by decide))
  have HREF := Lib.hid (fun W g r (b : Both w W g r X.press X) => both_cells b)
  have hall : X.press.all = X.press.L := by simp [Dg.all, Dg.press]
  have hwp : wts X.press.L = X.tot := by rw [← hall]; exact htp
  have hT1 := Lib.hid (fun w0 W v (a : Acc 61 w0 W v X.all.length X.all) => acc_total (T := X.tot) a rfl (by omega))
  have hT2 := Lib.hid (fun w0 W v (a : Acc 61 w0 W v X.press.L.length X.press.L) => acc_total (T := X.tot) a hwp (by omega))
  have hW0 : X.press.W = [] := rfl
  rw [hW0] at HWA
  obtain ⟨PL, ePL⟩ : ∃ L, X.press.L = L := ⟨_, rfl⟩
  have hfit : ∀ t ∈ PL, Fit X.lo X.hi t := fun t ht => hgp.fit t (by rw [hall, ePL]; exact ht)
  have hris : Ris PL := by rw [← ePL]; exact hgp.ris
  have hatv : PL ≠ [] → X.press.atV 0 1 = X.lo := fun hne => by
    have h0 : 0 < X.press.tot := by
      rcases Nat.eq_zero_or_pos X.press.tot with h | h
      · have := hgp.allNil.2 h
        rw [hall, ePL] at this
        exact absurd this hne
      · exact h
    obtain ⟨z1, z2⟩ := sp0 h0 hgp.tot
    unfold Dg.atV
    rw [z1, z2, if_pos rfl]
    exact hgp.at_zero h0
  rw [ePL] at HLI hT2 hwp
  have hPLl : PL.length ≤ 80 := by rw [← ePL, ← hall]; omega
  obtain ⟨N, eN⟩ : ∃ N, PL.length = N := ⟨_, rfl⟩
  rw [eN] at HLI hT2 hPLl
  obtain ⟨T, eT⟩ : ∃ T, X.tot = T := ⟨_, rfl⟩
  rw [eT] at hT1 hT2 hwp htot
  obtain ⟨A, eA⟩ : ∃ A, X.press.atV 0 1 = A := ⟨_, rfl⟩
  obtain ⟨E, eE⟩ : ∃ E, spE 0 1 X.press.tot = E := ⟨_, rfl⟩
  rw [eA, eE] at HAT
  rw [eA] at hatv
  obtain ⟨LO, eLO⟩ : ∃ LO, X.lo = LO := ⟨_, rfl⟩
  obtain ⟨HI, eHI⟩ : ∃ HI, X.hi = HI := ⟨_, rfl⟩
  rw [eLO, eHI] at HREF hfit
  rw [eLO] at hatv
  have HFIT := Lib.hid hfit
  have HRIS := Lib.hid hris
  have HWP := Lib.hid hwp
  have HN := Lib.hid eN
  have HAV := Lib.hid hatv
  have hTT : ((T : Int) != (T : Int)) = false := by simp
  clear hz hvb hq hnb hd hk hn hok d1 d2 eX hlen hg hgp htp hlp hall hW0 ePL hfit hris hatv hwp eN eT eA eE eLO eHI
  go_enter Try.func7, Try.ntmps7
  go_wp2_with fail
  refine HAL.out.mono ?_
  rintro e1 w1 ⟨rfl, f1⟩
  have HAD1 := Lib.hid (HAD.out w1 f1)
  have F1 := Lib.hid f1
  clear f1 HAL HAD
  go_wp2_with fail
  refine HAD1.out.mono ?_
  rintro e2 w2 ⟨g, r, rfl, bo⟩
  have HB0 := Lib.hid (bo.back F1.out)
  clear bo HAD1 F1
  go_wp2_with fail
  refine (HPR.out _ _ _ HB0.out).mono ?_
  rintro e3 w3 ⟨rfl, b3⟩
  have HB3 := Lib.hid b3
  clear b3 HPR HB0
  go_wp2_with fail
  refine (HLI.out _ _ _ HB3.out).mono ?_
  rintro e4 w4 ⟨v4, rfl, a4⟩
  obtain ⟨pl, cl, rfl, hs4⟩ := a4.sl
  have HB4 := Lib.hid (HB3.out.fr0 a4.fr)
  have A4 := Lib.hid a4
  have S4 := Lib.hid hs4
  clear a4 hs4 HLI HB3
  go_wp2_with fail
  refine (HRA.out _ _ _ HB4.out).mono ?_
  rintro e5 w5 ⟨v5, rfl, a5⟩
  obtain ⟨pa, ca, rfl⟩ := slFormN a5.own
  have HB5 := Lib.hid (HB4.out.fr0 a5.fr)
  have A5 := Lib.hid a5
  have S5 := Lib.hid (S4.out.fr0 a5.fr)
  have A45 := Lib.hid (A4.out.fr0 a5.fr)
  clear a5 HRA HB4 S4 A4
  go_wp2_with fail
  refine (hT1.out _ _ _ A5.out).mono ?_
  rintro e6 w6 ⟨rfl, rfl⟩
  clear hT1 A5
  go_wp2_with fail
  refine (hT2.out _ _ _ A45.out).mono ?_
  rintro e6 w6 ⟨rfl, rfl⟩
  clear hT2 A45
  go_wp2_with fail
  refine (HWA.out _ _ _ HB5.out).mono ?_
  rintro e7 w7 ⟨v7, rfl, a7⟩
  obtain ⟨pw, cw, rfl⟩ := slFormN a7.own
  have HB7 := Lib.hid (HB5.out.fr0 a7.fr)
  have S7 := Lib.hid (S5.out.fr0 a7.fr)
  clear a7 HWA HB5 S5
  go_wp2_with fail
  go_loopw [11, 12] (fun dn i wr => ∃ j D : Nat, j ≤ N ∧ i = .int .i64 j ∧ dn = .int .u64 D ∧ Hid (wts (PL.take j) = D) ∧ Hid (Fr S0 w7 wr)) (fun _ i _ => N - (intOf i).toNat)
  case atStart => exact ⟨0, 0, by omega, rfl, rfl, Lib.hid rfl, Lib.hid (Fr.refl _ _)⟩
  case round =>
    obtain ⟨j, D, hj, rfl, rfl, hD, hfr⟩ := hrel
    obtain ⟨r3, r4⟩ := HREF.out _ _ _ (HB7.out.fr0 hfr.out)
    by_cases hjN : (j : Int) < (N : Int)
    · have hjl : j < PL.length := by rw [HN.out]; omega
      obtain ⟨b, o, rfl, c0, c1⟩ := (S7.out.fr0 hfr.out).at j hjl
      have hf := HFIT.out _ (List.getElem_mem hjl)
      obtain ⟨ht1, -⟩ := wts_take PL j hjl
      have ht2 := wts_take_le PL (j + 1)
      rw [HWP.out] at ht2
      obtain ⟨⟨tv, tn⟩, ht⟩ : ∃ t, PL[j] = t := ⟨_, rfl⟩
      have HT := Lib.hid ht
      rw [ht] at c0 c1 hf ht1
      rw [hD.out] at ht1
      simp only at c0 c1 ht1
      obtain ⟨D2, eD2⟩ : ∃ D2, D + tn = D2 := ⟨_, rfl⟩
      rw [eD2] at ht1
      have iD2 : (D : Int) + (tn : Int) = (D2 : Int) := by omega
      have bD2 : (D2 : Int) ≤ 281474976710656 := by omega
      have dT : decide (T < D2) = false := decide_eq_false (by omega)
      have iT : ¬ (T : Int) < (D2 : Int) := by omega
      have f1 : ¬ tv < LO := by have := hf.lo; simp only at this; omega
      have f2 : ¬ HI < tv := by have := hf.hi; simp only at this; omega
      have g1 : decide (tv < LO) = false := decide_eq_false f1
      have g2 : decide (HI < tv) = false := decide_eq_false f2
      have HD2 := Lib.hid ht1
      by_cases hj0 : j = 0
      · subst hj0
        rw [Nat.zero_mul, Nat.add_zero] at c0 c1
        clear ht hf ht1 ht2 eD2
        go_wp2_with fail
        go_quiet (fail)
        have c1q : (wr.drewN nq).cell? ⟨b, o + 1, none⟩ = some (.int .u64 (tn : Nat)) := c1
        have HFQ := Lib.hid (hfr.out.trans0 (Fr.drewN S0 wr nq))
        clear c0 c1 r3 r4
        generalize wr.drewN nq = wq at *
        go_wp2_with fail
        go_roundw
        case rel => exact ⟨0 + 1, D2, by omega, by go_num, by go_num, HD2, HFQ⟩
        case measure => simp [intOf]; omega
      · obtain ⟨j1, rfl⟩ : ∃ j1, j = j1 + 1 := ⟨j - 1, by omega⟩
        obtain ⟨b', o', hpe, e0, e1⟩ := (S7.out.fr0 hfr.out).at j1 (by omega)
        simp only [Option.some.injEq, Addr.mk.injEq] at hpe
        obtain ⟨rfl, rfl, -⟩ := hpe
        have hup : PL[j1].1 ≤ tv := by
          have := List.pairwise_iff_getElem.1 HRIS.out j1 (j1 + 1) (by omega) hjl (by omega)
          rw [ht] at this
          exact this
        obtain ⟨⟨uv, un⟩, hu⟩ : ∃ t, PL[j1] = t := ⟨_, rfl⟩
        rw [hu] at e0 hup
        simp only at e0 hup
        have g3 : decide (tv < uv) = false := decide_eq_false (by omega)
        have f3 : ¬ tv < uv := by omega
        have iM : ((j1 + 1 : Nat) : Int) - 1 = (j1 : Int) := by omega
        have i1 : (0 : Int) < (j1 : Int) + 1 := by omega
        have i2 : (j1 : Int) < (N : Int) := by omega
        have i3 : (j1 : Int) + 1 < (N : Int) := by omega
        have i4 : (j1 : Int) + 1 ≤ 100 := by omega
        clear ht hf ht1 ht2 eD2 hu e1
        go_wp2_with fail
        go_quiet (fail)
        have c1q : (wr.drewN nq).cell? ⟨b, o + (j1 + 1) * 2 + 1, none⟩ = some (.int .u64 (tn : Nat)) := c1
        have HFQ := Lib.hid (hfr.out.trans0 (Fr.drewN S0 wr nq))
        clear c0 c1 r3 r4 e0
        generalize wr.drewN nq = wq at *
        go_wp2_with fail
        go_roundw
        case rel => exact ⟨j1 + 1 + 1, D2, by omega, by go_num, by go_num, HD2, HFQ⟩
        case measure => simp [intOf]; omega
    · obtain rfl : j = N := by omega
      have hD9 : D = T := by
        have := hD.out
        rw [List.take_of_length_le (by rw [HN.out]; exact Nat.le_refl _), HWP.out] at this
        omega
      subst hD9
      by_cases hN0 : j = 0
      · subst hN0
        go_wp2_with fail
        go_quiet (fail)
        have HFQ := Lib.hid (hfr.out.trans0 (Fr.drewN S0 wr nq))
        clear r3 r4
        generalize wr.drewN nq = wq at *
        go_wp2_with fail
        refine (HAT.out _ _ _ (HB7.out.fr0 HFQ.out)).mono ?_
        rintro e8 w8 ⟨rfl, f8⟩
        have HB8 := Lib.hid ((HB7.out.fr0 HFQ.out).fr0 f8)
        clear f8
        go_wp2_with fail
        go_ret
        exact ⟨rfl, HB8.out.fr⟩
      · have hne : PL ≠ [] := by intro e; rw [e] at HN; exact hN0 HN.out.symm
        obtain rfl := HAV.out hne
        obtain ⟨b, o, rfl, c0, c1⟩ := (S7.out.fr0 hfr.out).at 0 (by rw [HN.out]; omega)
        have hf := HFIT.out _ (List.getElem_mem (show 0 < PL.length by rw [HN.out]; omega))
        obtain ⟨⟨tv, tn⟩, ht⟩ : ∃ t, PL[0]'(by rw [HN.out]; omega) = t := ⟨_, rfl⟩
        rw [ht] at c0 hf
        rw [Nat.zero_mul, Nat.add_zero] at c0
        simp only at c0
        have f1 : ¬ tv < A := by have := hf.lo; simp only at this; omega
        have g1 : decide (tv < A) = false := decide_eq_false f1
        have i0 : 0 < j := by omega
        have d0 : decide (0 < j) = true := decide_eq_true i0
        have i1 : (0 : Int) < (j : Int) := by omega
        have i2 : ((j : Int) == 0) = false := by rw [beq_eq_false_iff_ne]; omega
        clear hf ht c1 hne
        go_wp2_with fail
        go_quiet (fail)
        have HFQ := Lib.hid (hfr.out.trans0 (Fr.drewN S0 wr nq))
        clear r3 r4 c0
        generalize wr.drewN nq = wq at *
        go_wp2_with fail
        refine (HAT.out _ _ _ (HB7.out.fr0 HFQ.out)).mono ?_
        rintro e8 w8 ⟨rfl, f8⟩
        have HB8 := Lib.hid ((HB7.out.fr0 HFQ.out).fr0 f8)
        obtain ⟨r3, r4⟩ := HREF.out _ _ _ HB8.out
        clear f8
        go_wp2_with fail
        go_ret
        exact ⟨rfl, HB8.out.fr⟩
end
end Go.Proofs.Yticagdppjknlaaa
