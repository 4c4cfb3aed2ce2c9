/- DgLawMeans -/
import Derived.Test.YticagdppjknlaaaPm1
import Derived.Test.YticagdppjknlaaaPm2
import Derived.Test.YticagdppjknlaaaPm3
import Derived.Test.YticagdppjknlaaaPm4
import Derived.Test.YticagdppjknlaaaPm5
import Derived.Test.YticagdppjknlaaaPm6
import Derived.Test.YticagdppjknlaaaPm7
import Derived.Test.YticagdppjknlaaaPm8
import Derived.Test.YticagdppjknlaaaPm9
import Derived.Test.YticagdppjknlaaaPm10
import Derived.Test.YticagdppjknlaaaPm11
import Derived.Test.YticagdppjknlaaaPm12
import Derived.Test.YticagdppjknlaaaPm13
import Derived.Test.YticagdppjknlaaaPm14
import Derived.Test.YticagdppjknlaaaPm15
import Derived.Test.YticagdppjknlaaaPm16
import Derived.Test.YticagdppjknlaaaPm17
import Derived.Test.YticagdppjknlaaaPm18
import Derived.Test.YticagdppjknlaaaPm19
import Derived.Test.YticagdppjknlaaaPm20
import Derived.Test.YticagdppjknlaaaPm21
import Derived.Test.YticagdppjknlaaaPm25
import Derived.Test.YticagdppjknlaaaPm26
import Derived.Test.YticagdppjknlaaaPm27
import Derived.Lib.AppendZerosOnto
import Derived.Lib.SliceRun
import Derived.Lib.Walk
import Derived.StillTailTactics
import Derived.Deep.RegionLaw
import Derived.Deep.RegionHeld3
import Derived.BigRegion
import Derived.Maps.AppendAt
import Derived.Laws.AppendOwnNone
import Derived.Laws.OwnMore
import Derived.Laws.Externs
import Derived.Shelf.Spec.BitsCarry
import Derived.Deep.CutBlock
import Derived.Deep.CutRange
import Derived.Deep.DeepCutAuto
import Derived.Lib.BitFns
import Derived.Shelf.Small.Bits
import Derived.Shelf.Strconv.Itoa0
import Derived.Shelf.Bits.Mul64
import Derived.Test.YticagdppjknlaaaRows
import Derived.WalkKit
import Derived.WalkSpells
import Derived.WalkLawsBesides
import Derived.Deep.QuietTactic
import Derived.BigQuiet
import Derived.RegionTactic
import Derived.Deep.AppendLies
import Derived.Laws.ResultCell
import Derived.Laws.EntriesVeiled
import Derived.Lib.Hide
import Derived.Laws.BytesArg
import Derived.Lib.SlBytesConst
set_option maxRecDepth 100000
set_option maxHeartbeats 8000000
namespace Go.Proofs.Yticagdppjknlaaa
open Go.RowKit
theorem info_i64 : (Try.prog.info? 2).map (fun i => (i.zero, i.size, i.bytes)) = some (some (.int .i64 0), 1, 8) := by kernel_rfl
theorem eli64 : ElemOk Try.prog 44 2 (.int .i64 0) 1 8 := ⟨Try.underlying44, info_i64, rfl, by decide, by decide⟩
def i64s (l : List Int) : List Value := l.map fun x => Value.int .i64 x
theorem ZsI.ofOwns {w : World} {q : Option Addr} {n d : Nat} {l : List Int} (h : w.ownsRow 0 2 1 (.slice q n d) n (i64s l)) (hm : n ≤ maxLen) : ZsI w q l := by
  have hlen : l.length = n := by have h1 := h.1; simpa [i64s] using h1
  refine ⟨by omega, fun hl => ?_⟩
  rcases h.2 with ⟨hv, hn⟩ | ⟨g, cap, cur, hv, _⟩
  · exact absurd (List.eq_nil_of_length_eq_zero (by omega)) hl
  · simp only [Value.slice.injEq] at hv
    obtain ⟨rfl, -, rfl⟩ := hv
    refine ⟨g, 0, rfl, fun i hi => ?_⟩
    rw [Nat.zero_add, h.cellAt _ (by omega)]
    simp [i64s, hi]
theorem keep_row {w w1 : World} {o : Obj} {e e' : TypeId} {s s' n n' : Nat} {v v' : Value} {xs xs' : List Value} (h : w.ownsRow 0 e s v n xs) (h' : w.ownsRow 0 e' s' v' n' xs') (hne : e ≠ e') (g : (w.alloc o).grownBy w1 v.ownBlock) :
    w1.ownsRow 0 e' s' v' n' xs' := by
  refine (h'.alloc o).kept g ?_
  rcases h'.2 with ⟨rfl, -⟩ | ⟨b', cap', cur', rfl, -, hb', -⟩
  · exact .inl rfl
  · refine .inr fun hv => ?_
    rcases h.2 with ⟨rfl, -⟩ | ⟨b, cap, cur, rfl, -, hb, -⟩
    · simp [Value.ownBlock] at hv
    · simp only [Value.ownBlock, Option.some.injEq] at hv
      subst hv
      rw [hb'] at hb
      simp only [Option.some.injEq, Obj.cells.injEq] at hb
      exact hne hb.2.1.symm
structure Acc2 (w W : World) (v u : Value) (k : Nat) (l : List Tm) : Prop where
  ov : W.ownsRow 0 2 1 v k (i64s (l.map fun t => t.1))
  ou : W.ownsRow 0 37 1 u k (u64s (l.map fun t => t.2))
  fv : Fresh w v
  fu : Fresh w u
  fr : Fr S0 w W
theorem one_i (x : Int) : ∀ u ∈ (#[Value.int .i64 x]).toList, u.oneCell' = true := by
  intro u hu
  simp only [List.mem_cons, List.not_mem_nil, or_false] at hu
  rw [hu]
  rfl
theorem one_u (x : Nat) : ∀ u ∈ (#[Value.int .u64 (x : Int)]).toList, u.oneCell' = true := by
  intro u hu
  simp only [List.mem_cons, List.not_mem_nil, or_false] at hu
  rw [hu]
  rfl
section
variable (d : Nat) (p : Option Addr) (n c : Nat) (vs : List Int) (q : Option Addr) (k c2 : Nat) (ns : List Nat) (w : World)
theorem law_means (hd : d < 65536) (hn : vs.length = n) (hz : ZI w p vs) (hvb : ∀ v ∈ vs, -9223372036854775808 ≤ v ∧ v ≤ 9223372036854775807) (hk : ns.length = k) (hq : SlI w .u16 q ns) (hnb : ∀ n ∈ ns, n < 65536) :
    Calls Try.prog 11 #[.int .u16 (d : Nat), .slice p n c, .slice q k c2] w fun e w' => e = .returned (.bool true) ∧ Fr S0 w w' := by
  have HAL := Lib.hid (alive_any w)
  have HAD := Lib.hid (fun W (f : Fr S0 w W) => added_any d p n c vs q k c2 ns W hd hn (hz.fr0 f) hvb hk (hq.fr0 f) hnb)
  obtain ⟨d1, d2⟩ := fineD_in d
  have hok := adds_ok (ns := ns) d1 d2 hvb (min n 80) (by omega)
  obtain ⟨X, eX⟩ : ∃ X, adds (fineD d) vs ns (min n 80) = X := ⟨_, rfl⟩
  rw [eX] at HAD hok
  have hlen : X.all.length ≤ 80 := by have := hok.len; omega
  have hg := hok.good
  have htot := hg.tot
  have htp := Dg.press_tot hg
  have hlp := Dg.press_len hg
  have HME := Lib.hid (fun W g r (b : Both w W g r X X) => show Calls Try.prog 37 #[.pointer (some ⟨g, 0, none⟩)] W (fun e w' => e = .returned (.tuple #[.int .i64 X.meanV, .int .i64 (X.meanE : Nat)]) ∧ Fr S0 W w') from by
    obtain ⟨C, R, ⟨p, n, c, q, m, e, s⟩, -⟩ := b.ex
    exact dmean_any g C p n c q m e X W s (by omega))
  have HMP := Lib.hid (fun W g r (b : Both w W g r X.press X) => show Calls Try.prog 37 #[.pointer (some ⟨g, 0, none⟩)] W (fun e w' => e = .returned (.tuple #[.int .i64 X.press.meanV, .int .i64 (X.press.meanE : Nat)]) ∧ Fr S0 W w') from by
    obtain ⟨C, R, ⟨p, n, c, q, m, e, s⟩, -⟩ := b.ex
    exact dmean_any g C p n c q m e X.press W s (by omega))
  have HPR := Lib.hid (fun W g r (b : Both w W g r X X) => both_press b (by omega))
  have HRA := Lib.hid (fun W g r (b : Both w W g r X X) => both_all b (by omega))
  have HREF := Lib.hid (fun W g r (b : Both w W g r X.press X) => both_cells b)
  have hokm : ∀ t ∈ X.all, TmOk t := fun t ht => (hg.fit t ht).ok hg.l1 hg.h2 (by have := wts_mem ht; have h2 : wts X.all = X.tot := rfl; omega)
  have HRM : Hid (∀ W v u, ∀ {W0}, Acc2 W0 W v u X.all.length X.all → 0 < X.tot → Calls Try.prog 38 #[v, u] W fun e w' => e = .returned (.tuple #[.int .i64 (meanV X.all), .bool true]) ∧ Fr S0 W w') := Lib.hid fun W v u {W0} a h0 => by
    obtain ⟨p1, c1, rfl⟩ := slFormN a.ov
    obtain ⟨p2, c2, rfl⟩ := slFormN a.ou
    have h1 := (rmean_any p1 p2 c1 c2 X.all.length X.all W rfl (ZsI.ofOwns a.ov (by unfold maxLen; omega)) (SlI.ofOwns a.ou) hokm)
    refine h1.mono fun e w' he => ?_
    unfold RMeanEnds at he
    rw [if_neg (by unfold MeanNo; have h2 : wts X.all = X.tot := rfl; omega)] at he
    exact he
  by_cases h0 : X.tot = 0
  · have hall : X.all = [] := hg.allNil.2 h0
    have e1 : X.meanV = 0 := by unfold Dg.meanV; rw [if_pos h0]
    have e2 : X.meanE = 8 := by unfold Dg.meanE; rw [if_pos h0]
    rw [e1, e2] at HME
    rw [hall] at HRA
    clear hz hvb hq hnb hd hk hn hok d1 d2 eX hlen hg htot htp hlp HMP HPR HREF hokm HRM h0 hall e1 e2
    go_enter Try.func11, Try.ntmps11
    go_wp2_with fail
    refine HAL.out.mono ?_
    rintro e1 w1 ⟨rfl, f1⟩
    have HAD1 := Lib.hid (HAD.out w1 f1)
    have F1 := Lib.hid f1
    clear f1 HAL HAD
    go_wp2_with fail
    refine HAD1.out.mono ?_
    rintro e2 w2 ⟨g, r, rfl, bo⟩
    have HB0 := Lib.hid (bo.back F1.out)
    clear bo HAD1 F1
    go_wp2_with fail
    refine (HME.out _ _ _ HB0.out).mono ?_
    rintro e3 w3 ⟨rfl, f3⟩
    have HB3 := Lib.hid (HB0.out.fr0 f3)
    clear f3 HME HB0
    go_wp2_with fail
    refine (HRA.out _ _ _ HB3.out).mono ?_
    rintro e5 w5 ⟨v5, rfl, a5⟩
    obtain ⟨pa, ca, rfl⟩ := slFormN a5.own
    have HB5 := Lib.hid (HB3.out.fr0 a5.fr)
    clear a5 HRA HB3
    go_wp2_with fail
    go_ret
    exact ⟨rfl, HB5.out.fr⟩
  · have h0p : 0 < X.tot := by omega
    have hm1 := press_mean hg h0p
    have hm2 := mean_in hg h0p
    have e1 : X.meanE = 0 := by unfold Dg.meanE; rw [if_neg h0]
    have e2 : X.press.meanE = 0 := by unfold Dg.meanE; rw [if_neg (by rw [htp]; exact h0)]
    have e3 : meanV X.all = X.meanV := by unfold Dg.meanV; rw [if_neg h0]
    have hne : X.all.length ≠ 0 := fun h => h0 (hg.allNil.1 (List.eq_nil_of_length_eq_zero h))
    rw [e1] at HME
    rw [e2] at HMP
    rw [e3] at HRM
    have HRM2 : Hid (∀ W v u, ∀ {W0}, Acc2 W0 W v u X.all.length X.all → Calls Try.prog 38 #[v, u] W fun e w' => e = .returned (.tuple #[.int .i64 X.meanV, .bool true]) ∧ Fr S0 W w') := Lib.hid fun W v u {W0} a => HRM.out W v u a h0p
    have hl1 := hg.l1
    have hh2 := hg.h2
    obtain ⟨Y, eY⟩ : ∃ Y, X.meanV = Y := ⟨_, rfl⟩
    obtain ⟨Z, eZ⟩ : ∃ Z, X.press.meanV = Z := ⟨_, rfl⟩
    rw [eY] at HME HRM2 hm1 hm2
    rw [eZ] at HMP hm1
    have hpl1 : -9223372036854775808 ≤ Z := by
      rw [← eZ]
      unfold Dg.meanV Go.Proofs.Yticagdppjknlaaa.meanV
      split
      · omega
      · generalize lsm X.press.all / wts X.press.all = A
        omega
    obtain ⟨LL, eLL⟩ : ∃ LL, X.all = LL := ⟨_, rfl⟩
    obtain ⟨N, eN⟩ : ∃ N, LL.length = N := ⟨_, rfl⟩
    obtain ⟨LO, eLO⟩ : ∃ LO, X.lo = LO := ⟨_, rfl⟩
    obtain ⟨HI, eHI⟩ : ∃ HI, X.hi = HI := ⟨_, rfl⟩
    rw [eLL] at HRA HRM2 hm1 hne hlen
    rw [eN] at HRA HRM2 hm1 hne hlen
    rw [eLO, eHI] at HREF hm2
    rw [eLO] at hl1
    rw [eHI] at hh2
    have HN := Lib.hid eN
    have hN0 : ((N : Int) == 0) = false := by rw [beq_eq_false_iff_ne]; omega
    obtain ⟨U, eU⟩ : ∃ U : Nat, (Y % 18446744073709551616) = (U : Int) := ⟨(Y % 18446744073709551616).toNat, by omega⟩
    obtain ⟨V, eV⟩ : ∃ V : Nat, (Z % 18446744073709551616) = (V : Int) := ⟨(Z % 18446744073709551616).toNat, by omega⟩
    obtain ⟨K, eK⟩ : ∃ K : Nat, Y - Z = (K : Int) := ⟨(Y - Z).toNat, by omega⟩
    have wU : IntKind.u64.wrap Y = (U : Int) := by rw [IntKind.wrap_u64]; exact eU
    have wV : IntKind.u64.wrap Z = (V : Int) := by rw [IntKind.wrap_u64]; exact eV
    have iK : ((U : Int) - (V : Int)) % 18446744073709551616 = (K : Int) := by omega
    have wK : IntKind.u64.wrap ((U : Int) - (V : Int)) = (K : Int) := by rw [IntKind.wrap_u64]; exact iK
    have iKN : (K : Int) ≤ (N : Int) := by omega
    have dKN : decide (K ≤ N) = true := decide_eq_true (by omega)
    have c1 : LO ≤ Y := hm2.1
    have c2 : Y ≤ HI := hm2.2
    have c3 : Z ≤ Y := hm1.1
    have b1 : decide (LO ≤ Y) = true := decide_eq_true c1
    have b2 : decide (Y ≤ HI) = true := decide_eq_true c2
    have b3 : decide (Z ≤ Y) = true := decide_eq_true c3
    have b4 : (Y == Y) = true := by simp
    clear hz hvb hq hnb hd hk hn hok d1 d2 eX hg htot htp hlp hokm HRM h0 h0p hm1 hm2 e1 e2 e3 hne eY eZ eLL eN eLO eHI hl1 hh2 hpl1
    go_enter Try.func11, Try.ntmps11
    go_wp2_with fail
    refine HAL.out.mono ?_
    rintro e1 w1 ⟨rfl, f1⟩
    have HAD1 := Lib.hid (HAD.out w1 f1)
    have F1 := Lib.hid f1
    clear f1 HAL HAD
    go_wp2_with fail
    refine HAD1.out.mono ?_
    rintro e2 w2 ⟨g, r, rfl, bo⟩
    have HB0 := Lib.hid (bo.back F1.out)
    clear bo HAD1 F1
    go_wp2_with fail
    refine (HME.out _ _ _ HB0.out).mono ?_
    rintro e3 w3 ⟨rfl, f3⟩
    have HB3 := Lib.hid (HB0.out.fr0 f3)
    clear f3 HME HB0
    go_wp2_with fail
    refine (HRA.out _ _ _ HB3.out).mono ?_
    rintro e5 w5 ⟨v5, rfl, a5⟩
    obtain ⟨pa, ca, rfl, hs5⟩ := a5.sl
    have HB5 := Lib.hid (HB3.out.fr0 a5.fr)
    have S5 := Lib.hid hs5
    clear a5 HRA HB3 hs5
    go_wp2_with fail
    go_loopw [12, 13, 14] (fun v u i wr => ∃ j : Nat, j ≤ N ∧ i = .int .i64 j ∧ Hid (Acc2 w5 wr v u j (LL.take j))) (fun _ _ i _ => N - (intOf i).toNat)
    case atStart => exact ⟨0, by omega, rfl, Lib.hid ⟨World.ownsRow_nil _ _ _ _, World.ownsRow_nil _ _ _ _, fresh_nil _ _, fresh_nil _ _, Fr.refl _ _⟩⟩
    case round =>
      obtain ⟨j, hj, rfl, hacc⟩ := hrel
      obtain ⟨pv, cv, rfl⟩ := slFormN hacc.out.ov
      obtain ⟨pu, cu, rfl⟩ := slFormN hacc.out.ou
      by_cases hjn : (j : Int) < (N : Int)
      · have hjl : j < LL.length := by rw [HN.out]; omega
        obtain ⟨b, o, rfl, k0, k1⟩ := (S5.out.fr0 hacc.out.fr).at j hjl
        have HCN := Lib.hid (fun W (f : Fr S0 w5 W) => (S5.out.fr0 f).at j hjl)
        have HT : Hid (LL.take (j + 1) = LL.take j ++ [LL[j]]) := Lib.hid (List.take_succ_eq_append_getElem hjl)
        have HR : Hid (Room (j + 1)) := Lib.hid (Room.mk (by omega))
        obtain ⟨⟨tk, tn⟩, ht⟩ : ∃ t, LL[j] = t := ⟨_, rfl⟩
        rw [ht] at k0 k1 HT HCN
        simp only at k0 k1 HCN
        clear ht
        go_wp2_with (first
          | ((with_reducible show wpList _ _ _ (Oper.mk (some 59) _ _ _ _ _ :: _) _ _); refine app_one eli64 (.tmp 52) (.tmp 58) rfl hacc.out.ov rfl rfl rfl rfl rfl (one_i tk) HR.out ?_; intro g1 cap1 w7 hown hgrow hat hlt; have HOU := Lib.hid (keep_row hacc.out.ov hacc.out.ou (by decide) hgrow); have HOV := Lib.hid hown; have HF7 := Lib.hid ((hacc.out.fr.trans0 (Fr.alloc S0 wr _)).append hgrow hacc.out.fv); have HV7 := Lib.hid (fresh_app (n := j + 1) (c := cap1) hacc.out.fr hacc.out.fv hat); obtain ⟨b9, o9, hp9, -, k9⟩ := HCN.out w7 HF7.out; simp only [Option.some.injEq, Addr.mk.injEq] at hp9; obtain ⟨rfl, rfl, -⟩ := hp9; clear hown hgrow hat hlt)
          | ((with_reducible show wpList _ _ _ (Oper.mk (some 67) _ _ _ _ _ :: _) _ _); refine app_one el64 (.tmp 60) (.tmp 66) rfl HOU.out rfl rfl rfl rfl rfl (one_u tn) HR.out ?_; intro g2 cap2 w8 hown2 hgrow2 hat2 hlt2; have HOV8 := Lib.hid (keep_row HOU.out HOV.out (by decide) hgrow2); have HOU8 := Lib.hid hown2; have HF8 := Lib.hid ((HF7.out.trans0 (Fr.alloc S0 w7 _)).append hgrow2 hacc.out.fu); have HV8 := Lib.hid (fresh_app (n := j + 1) (c := cap2) HF7.out hacc.out.fu hat2); clear hown2 hgrow2 hat2 hlt2)
          | fail)
        go_roundw
        case rel => exact ⟨j + 1, by omega, by go_num, Lib.hid (by rw [HT.out]; exact ⟨by rw [List.map_append]; unfold i64s; rw [List.map_append]; exact HOV8.out, by rw [List.map_append]; unfold u64s; rw [List.map_append]; exact HOU8.out, HV7.out, HV8.out, HF8.out⟩)⟩
        case measure => simp [intOf]; omega
      · obtain rfl : j = N := by omega
        have HE : Hid (LL.take j = LL) := Lib.hid (by rw [← HN.out]; exact List.take_length)
        have HA : Hid (Acc2 w5 wr (.slice pv j cv) (.slice pu j cu) j LL) := Lib.hid (by have h9 := hacc.out; rw [HE.out] at h9; exact h9)
        have HB6 := Lib.hid (HB5.out.fr0 hacc.out.fr)
        clear hacc
        go_wp2_with fail
        refine (HRM2.out _ _ _ HA.out).mono ?_
        rintro e7 w7 ⟨rfl, f7⟩
        have HB7 := Lib.hid (HB6.out.fr0 f7)
        clear f7 HRM2 HA HB6
        go_wp2_with fail
        refine (HPR.out _ _ _ HB7.out).mono ?_
        rintro e8 w8 ⟨rfl, b8⟩
        have HB8 := Lib.hid b8
        clear b8 HPR HB7
        go_wp2_with fail
        refine (HMP.out _ _ _ HB8.out).mono ?_
        rintro e9 w9 ⟨rfl, f9⟩
        have HB9 := Lib.hid (HB8.out.fr0 f9)
        obtain ⟨r3, r4⟩ := HREF.out _ _ _ HB9.out
        clear f9 HMP HB8
        go_wp2_with fail
        go_ret
        exact ⟨rfl, HB9.out.fr⟩
end
end Go.Proofs.Yticagdppjknlaaa
