/- KlLawMeans -/
import Derived.Test.YtbpfmjekpjfceaaPm1
import Derived.Test.YtbpfmjekpjfceaaPm2
import Derived.Test.YtbpfmjekpjfceaaPm3
import Derived.Test.YtbpfmjekpjfceaaPm4
import Derived.Test.YtbpfmjekpjfceaaPm6
import Derived.Test.YtbpfmjekpjfceaaPm7
import Derived.Test.YtbpfmjekpjfceaaPm8
import Derived.Test.YtbpfmjekpjfceaaPm9
import Derived.Test.YtbpfmjekpjfceaaPm10
import Derived.Test.YtbpfmjekpjfceaaPm11
import Derived.Test.YtbpfmjekpjfceaaPm12
import Derived.Test.YtbpfmjekpjfceaaPm13
import Derived.Test.YtbpfmjekpjfceaaPm14
import Derived.Test.YtbpfmjekpjfceaaPm15
import Derived.Test.YtbpfmjekpjfceaaPm16
import Derived.Test.YtbpfmjekpjfceaaPm17
import Derived.Test.YtbpfmjekpjfceaaPm18
import Derived.Test.YtbpfmjekpjfceaaPm19
import Derived.Test.YtbpfmjekpjfceaaPm20
import Derived.Test.YtbpfmjekpjfceaaPm21
import Derived.Test.YtbpfmjekpjfceaaPm22
import Derived.Test.YtbpfmjekpjfceaaPm23
import Derived.Test.YtbpfmjekpjfceaaPm24
import Derived.Test.YtbpfmjekpjfceaaPm25
import Derived.Test.YtbpfmjekpjfceaaPm26
import Derived.Test.YtbpfmjekpjfceaaPm27
import Derived.Test.YtbpfmjekpjfceaaPm28
import Derived.Test.YtbpfmjekpjfceaaPm29
import Derived.Test.YtbpfmjekpjfceaaPm30
import Derived.Test.YtbpfmjekpjfceaaPm31
import Derived.Test.YtbpfmjekpjfceaaPm32
import Derived.Test.YtbpfmjekpjfceaaPm33
import Derived.Test.YtbpfmjekpjfceaaPm34
import Derived.Test.YtbpfmjekpjfceaaPm35
import Derived.Test.YtbpfmjekpjfceaaPm36
import Derived.Deep.LoopGhost
import Derived.BigQuiet
import Derived.Deep.CutRange
import Derived.Maps.AppendAt
import Derived.Laws.AppendOwnNone
import Derived.Laws.OwnMore
import Derived.Lib.AppendZerosOnto
import Derived.Lib.SliceRun
import Derived.Lib.Walk
import Derived.WalkKit
import Derived.Laws.BytesArg
import Derived.Lib.SlBytesConst
import Derived.WalkSpells
import Derived.WalkLawsBesides
import Derived.Deep.QuietTactic
import Derived.RegionTactic
import Derived.Deep.AppendLies
import Derived.Deep.RegionLaw
import Derived.Laws.ResultCell
import Derived.Laws.EntriesVeiled
import Derived.Lib.Hide
import Derived.Test.YtbpfmjekpjfceaaRows
import Derived.Laws.BitsAllLaws
import Derived.Deep.RegionHeld3
import Derived.BigRegion
import Derived.RangeFuncNested
import Derived.RangeFuncBound
import Derived.RangeFuncCalls
import Derived.RangeFuncLeaves
import Derived.Shelf.Abstract
import Derived.Shelf.RegionOpen
import Derived.OwnWalkIn
import Derived.TacticsInMore
import Derived.LoopNIn
import Derived.LoopIn
import Derived.StillTailTactics
import Derived.Laws.Externs
import Derived.Shelf.Spec.BitsCarry
import Derived.Deep.CutBlock
import Derived.Deep.DeepCutAuto
import Derived.Lib.BitFns
import Derived.Shelf.Small.Bits
import Derived.Shelf.Strconv.Itoa0
import Derived.Shelf.Bits.Mul64
import Derived.Shelf.SlSortCmp.WholeK
set_option maxRecDepth 100000
set_option maxHeartbeats 8000000
namespace Go.Proofs.Ytbpfmjekpjfceaa
open Go.RowKit
section
variable (d : Nat) (q : Option Addr) (n c : Nat) (bs : List Nat) (p : Option Addr) (m cm : Nat) (vs : List Int) (pn : Option Addr) (nn cn : Nat) (ns : List Nat) (w : World)
theorem law_means (hn : bs.length = n) (hs : SlI w .u8 q bs) (h8 : ∀ x ∈ bs, x < 256) (hq : q = none → c = 0) (hm : vs.length = m) (hz : ZI w p vs) (hnn : ns.length = nn) (hns : SlI w .u16 pn ns) (hv : ∀ v ∈ vs, -9223372036854775808 ≤ v ∧ v ≤ 9223372036854775807) :
    Calls Try.prog 11 #[.int .u16 (d : Nat), .slice q n c, .slice p m cm, .slice pn nn cn] w fun e w' => e = .returned (.bool true) ∧ Fr S0 w w' := by
  have HAL := Lib.hid (alive_any w)
  by_cases hbig : 500 < n
  · have k1 : decide (500 < n) = true := decide_eq_true hbig
    have k1i : decide ((500 : Int) < (n : Int)) = true := decide_eq_true (by omega)
    clear hn hs h8 hq hbig hm hz hnn hns hv
    go_enter Try.func11, Try.ntmps11
    go_wp2_with fail
    refine HAL.out.mono ?_
    rintro e w1 ⟨rfl, f1⟩
    go_wp2_with fail
    go_ret
    exact ⟨rfl, f1⟩
  have k1 : decide (500 < n) = false := decide_eq_false hbig
  have k1i : decide ((500 : Int) < (n : Int)) = false := decide_eq_false (by omega)
  obtain ⟨d1, d2⟩ := siz_in d
  have HAD := Lib.hid (fun W (f : Fr S0 w W) => added_any d q n c bs p m cm vs pn nn cn ns W ⟨hs.fr0 f, hn, h8, by omega⟩ hq hm (hz.fr0 f) hnn (hns.fr0 f))
  obtain ⟨K, eK⟩ : ∃ K, siz d = K := ⟨_, rfl⟩
  rw [eK] at d1 d2 HAD
  have HMA := Lib.hid (fun (h0 : 0 < wtL (adds K bs vs ns (min m 120)).1) => mean_adds d1 d2 hn hv ns (by omega : min m 120 ≤ 1000000) h0)
  have HFI := Lib.hid (fit_adds d1 d2 hn hv ns (by omega : min m 120 ≤ 1000000))
  have HTT := Lib.hid (adds_ok d1 d2 hn vs ns (min m 120) (by omega)).2.1
  have HWT := Lib.hid (fun i W (f : Fr S0 w W) => weight_any pn nn cn ns i W hnn (hns.fr0 f))
  have HOK := Lib.hid (fun i => tmsA_ok hv ns i)
  have HZ := Lib.hid hz
  have HML := Lib.hid hm
  obtain ⟨s, es⟩ : ∃ s, adds K bs vs ns (min m 120) = s := ⟨_, rfl⟩
  rw [es] at HAD HMA HFI HTT
  clear hn hs h8 hq hbig hm hz hnn hns hv eK es d1 d2
  go_enter Try.func11, Try.ntmps11
  go_wp2_with fail
  refine HAL.out.mono ?_
  rintro e w1 ⟨rfl, f1⟩
  have F1 := Lib.hid f1
  clear f1 HAL
  go_wp2_with fail
  refine (HAD.out _ F1.out).mono ?_
  rintro e w2 ⟨g, r, gr, r2, rfl, hbo⟩
  have HBO := Lib.hid hbo
  have F2 := Lib.hid (F1.out.trans0 hbo.fr)
  clear hbo HAD
  obtain ⟨hln, hkp, hwt⟩ := HBO.out.lens.1
  have HME := Lib.hid (fun W (f : Fr S0 w2 W) => by
    obtain ⟨C, D, h1⟩ := (HBO.out.fr0 f).code
    exact xmean_any g K (wtL s.1) s.2.1 C D s.1 W h1 hwt (by omega) (by omega) HFI.out)
  have HLE := Lib.hid (fun W (f : Fr S0 w2 W) => bo_ledger (HBO.out.fr0 f))
  obtain ⟨C2, D2, p2, n2, c2, rs, href⟩ := HBO.out.ref
  have HCE : Hid (∀ W, Fr S0 w2 W → W.cell? ⟨gr, 1, none⟩ = some (.slice p2 n2 c2)) := Lib.hid fun W f => (href.fr0 f).c1
  have HRW := Lib.hid href.rows
  have hl2 := HRW.out.len
  have HKM : Hid (∀ h (hh : h < s.1.length), kept (s.1.take (h + 1)) = kept (s.1.take h) + s.1[h].length ∧ kept (s.1.take (h + 1)) ≤ kept s.1) := Lib.hid (kept_take s.1)
  have HTK := Lib.hid (HFI.out.ok hwt)
  have HMN : Hid (0 < wtL s.1 → ¬ MeanNo (trms 0 s.1)) := Lib.hid fun h => by
    unfold MeanNo
    rw [wts_trms]
    omega
  have HMV : Hid (0 < wtL s.1 → ((lsm (trms 0 s.1) / wts (trms 0 s.1) : Nat) : Int) - 9223372036854775808 = mnV s.1) := Lib.hid fun h => by rw [mnV, if_neg (by omega), wts_trms]
  have HK0 : Hid (kept s.1 = 0 ↔ wtL s.1 = 0) := Lib.hid ⟨fun h => cntL_non _ _ fun x ⟨l, hl, hx⟩ => by
      have h1 := kept_mem s.1 l hl
      have h2 := List.length_pos_of_mem hx
      omega, fun h => by have := kept_wt s.1; omega⟩
  have HKL : Hid ((trms 0 s.1).length = kept s.1) := Lib.hid (trms_len s.1 0)
  obtain ⟨s1, s2⟩ := s
  simp only at HME HLE HRW hl2 HKM HMN HMV HK0 HKL hkp hln hwt HTK HTT HMA HFI
  obtain ⟨E, eE⟩ : ∃ E, s2.1 = E := ⟨_, rfl⟩
  rw [eE] at HLE HMA
  have hn49 : (n2 : Int) ≤ 49 := by omega
  have HLN := Lib.hid hl2
  obtain ⟨kp, ekp⟩ : ∃ kp, kept s1 = kp := ⟨_, rfl⟩
  rw [ekp] at HKM HK0 HKL hkp
  have HKP := Lib.hid ekp
  obtain ⟨V, eV⟩ : ∃ V, mnV s1 = V := ⟨_, rfl⟩
  rw [eV] at HME HMA HMV
  obtain ⟨X, eX⟩ : ∃ X, mnE s1 = X := ⟨_, rfl⟩
  rw [eX] at HME
  have HVX := Lib.hid (And.intro eV eX)
  have hkpi : (kp : Int) ≤ 20000 := by omega
  clear eE ekp eV eX href hl2 hln hwt HBO HFI
  go_wp2_with fail
  refine (HME.out _ (Fr.refl _ _)).mono ?_
  rintro e w4 ⟨rfl, f4⟩
  have F4 := Lib.hid f4
  clear f4 HME
  go_wp2_with fail
  go_loopw [13, 15, 17, 18, 19] (fun v u x z _ wr => ∃ h : Nat, z = .int .i64 (h : Nat) ∧ x = .int .u64 ((2 ^ h : Nat) : Int) ∧ h ≤ n2 ∧ Hid (Acc2 w4 wr v u (kept (s1.take h)) (trms 0 (s1.take h)))) (fun _ _ _ z _ _ => n2 - (intOf z).toNat)
  case atStart => exact ⟨0, rfl, rfl, by omega, Lib.hid (Acc2.nil _)⟩
  case round =>
    obtain ⟨h, rfl, rfl, hh, hacc⟩ := hrel
    have e1 := HCE.out _ (F4.out.trans0 hacc.out.fr)
    by_cases hlt : (h : Int) < (n2 : Int)
    · have hhL : h < s1.length := by rw [HLN.out]; omega
      obtain ⟨bb, oo, rfl, q1, m1, dd1, ec, z1⟩ := HRW.out.cel h hhL
      have HCL : Hid (∀ W, Fr S0 w4 W → W.cell? ⟨bb, oo + h, none⟩ = some (.slice q1 m1 dd1)) := Lib.hid fun W f => (F4.out.trans0 f).cell ec (fun h => h)
      obtain ⟨hk1, hk2⟩ := HKM.out h hhL
      have HSN : Hid (trms 0 (s1.take (h + 1)) = trms 0 (s1.take h) ++ s1[h].map fun v => (v, 2 ^ h)) := Lib.hid (by
        rw [List.take_succ_eq_append_getElem hhL, trms_snoc, List.length_take, Nat.min_eq_left (by omega), Nat.zero_add])
      have HZ1 := Lib.hid (fun W (f : Fr S0 w4 W) => z1.fr0 (F4.out.trans0 f))
      obtain ⟨l, el⟩ : ∃ l, s1[h] = l := ⟨_, rfl⟩
      rw [el] at HSN HZ1 z1 hk1
      have hlm := z1.len
      rw [hlm] at hk1
      have HLM := Lib.hid hlm
      obtain ⟨TM, eT⟩ : ∃ TM, trms 0 (s1.take h) = TM := ⟨_, rfl⟩
      obtain ⟨A, eA⟩ : ∃ A, kept (s1.take h) = A := ⟨_, rfl⟩
      obtain ⟨Y, eY⟩ : ∃ Y, 2 ^ h = Y := ⟨_, rfl⟩
      have hYb : Y ≤ 281474976710656 := by
        rw [← eY]
        exact Nat.le_trans (Nat.pow_le_pow_right (by decide) (by omega : h ≤ 48)) (by decide)
      have HY2 : Hid (2 ^ (h + 1) = 2 * Y) := Lib.hid (by rw [Nat.pow_succ, eY, Nat.mul_comm])
      rw [eT, eA] at hacc
      rw [eT, eY] at HSN
      rw [eA] at hk1
      rw [eY]
      have HK1 := Lib.hid hk1
      have hAm : A + m1 ≤ 20000 := by omega
      have kW : IntKind.u64.wrap (2 * (Y : Int)) = 2 * (Y : Int) := by rw [IntKind.wrap_u64]; omega
      have hh0 : (0 : Int) ≤ (h : Int) := by omega
      have e2 := HCL.out _ hacc.out.fr
      clear ec z1 hk1 hk2 el hlm eT eA eY
      go_wp2_with fail
      go_loopw [13, 15, 19] (fun v u z wr => ∃ i : Nat, z = .int .i64 (i : Nat) ∧ i ≤ m1 ∧ Hid (Acc2 w4 wr v u (A + i) (TM ++ (l.take i).map fun v => (v, Y)))) (fun _ _ z _ => m1 - (intOf z).toNat)
      case atStart => exact ⟨0, rfl, by omega, Lib.hid (by rw [List.take_zero, List.map_nil, List.append_nil]; exact hacc.out)⟩
      case round =>
        clear hacc e1 e2
        obtain ⟨i, rfl, hi, hacc⟩ := hrel
        have e1 := HCE.out _ (F4.out.trans0 hacc.out.fr)
        have e2 := HCL.out _ hacc.out.fr
        by_cases hil : (i : Int) < (m1 : Int)
        · have hivl : i < l.length := by rw [HLM.out]; omega
          obtain ⟨pv, cv, rfl⟩ := slFormN hacc.out.ov
          obtain ⟨pu, cu, rfl⟩ := slFormN hacc.out.ou
          obtain ⟨b1, o1, rfl, e3⟩ := (HZ1.out _ hacc.out.fr).at i hivl
          have HR : Hid (Room (A + i + 1)) := Lib.hid (Room.mk (by omega))
          have HT : Hid (l.take (i + 1) = l.take i ++ [l[i]]) := Lib.hid (List.take_succ_eq_append_getElem hivl)
          obtain ⟨x, ex⟩ : ∃ x, l[i] = x := ⟨_, rfl⟩
          rw [ex] at e3 HT
          have hi0 : (0 : Int) ≤ (i : Int) := by omega
          clear ex hivl
          go_wp2_with (first
            | ((with_reducible show wpList _ _ _ (Oper.mk (some 80) _ _ _ _ _ :: _) _ _); refine app_one elj64 (.tmp 68) (.tmp 79) rfl hacc.out.ov rfl rfl rfl rfl rfl (one_j x) HR.out ?_; intro g1 cap1 w7 hown hgrow hat hlt; have HOU := Lib.hid (keep_row2 hacc.out.ov hacc.out.ou (by decide) hgrow); have HOV := Lib.hid hown; have HF7 := Lib.hid ((hacc.out.fr.trans0 (Fr.alloc S0 wr _)).append hgrow hacc.out.fv); have HV7 := Lib.hid (fresh_app (n := A + i + 1) (c := cap1) hacc.out.fr hacc.out.fv hat); clear hown hgrow hat hlt)
            | ((with_reducible show wpList _ _ _ (Oper.mk (some 84) _ _ _ _ _ :: _) _ _); refine app_one el64 (.tmp 81) (.tmp 83) rfl HOU.out rfl rfl rfl rfl rfl (one_v Y) HR.out ?_; intro g2 cap2 w8 hown2 hgrow2 hat2 hlt2; have HOV8 := Lib.hid (keep_row2 HOU.out HOV.out (by decide) hgrow2); have HOU8 := Lib.hid hown2; have HF8 := Lib.hid ((HF7.out.trans0 (Fr.alloc S0 w7 _)).append hgrow2 hacc.out.fu); have HV8 := Lib.hid (fresh_app (n := A + i + 1) (c := cap2) HF7.out hacc.out.fu hat2); clear hown2 hgrow2 hat2 hlt2)
            | fail)
          have HA9 : Hid (Acc2 w4 w8 (.slice (some ⟨g1, 0, none⟩) (A + i + 1) cap1) (.slice (some ⟨g2, 0, none⟩) (A + i + 1) cap2) (A + (i + 1)) (TM ++ (l.take (i + 1)).map fun v => (v, Y))) := Lib.hid (by
            rw [HT.out, List.map_append, ← List.append_assoc]
            exact ⟨by rw [List.map_append]; unfold j64s; rw [List.map_append]; exact HOV8.out, by rw [List.map_append]; unfold u64s; rw [List.map_append]; exact HOU8.out, HV7.out, HV8.out, HF8.out⟩)
          go_roundw
          case rel => exact ⟨i + 1, by go_num, by omega, HA9⟩
          case measure => simp [intOf]; omega
        · have e5 : i = m1 := by omega
          subst e5
          have HA9 : Hid (Acc2 w4 wr _ _ (kept (s1.take (h + 1))) (trms 0 (s1.take (h + 1)))) := Lib.hid (by
            have h9 := hacc.out
            rw [show l.take i = l from by rw [← HLM.out]; exact List.take_length] at h9
            rw [HK1.out, HSN.out]
            exact h9)
          clear hacc
          go_wp2_with fail
          go_roundw
          case rel => exact ⟨h + 1, by go_num, by rw [HY2.out, Int.natCast_mul]; rfl, by omega, HA9⟩
          case measure => simp [intOf]; omega
    · have e5 : h = n2 := by omega
      subst e5
      have HA4 : Hid (Acc2 w4 wr _ _ kp (trms 0 s1)) := Lib.hid (by
        have h9 := hacc.out
        rw [show s1.take h = s1 from by rw [← HLN.out]; exact List.take_length, HKP.out] at h9
        exact h9)
      clear hacc
      obtain ⟨pv, cv, rfl⟩ := slFormN HA4.out.ov
      obtain ⟨pu, cu, rfl⟩ := slFormN HA4.out.ou
      by_cases h0 : wtL s1 = 0
      · have ekp : kp = 0 := HK0.out.2 h0
        subst ekp
        have eV : V = 0 := by rw [← HVX.out.1, mnV, if_pos h0]
        have eX : X = 8 := by rw [← HVX.out.2, mnE, if_pos h0]
        subst eV
        subst eX
        clear h0 HK0 HVX HMA HMN HMV HTT
        go_wp2_with fail
        go_ret
        exact ⟨rfl, (F2.out.trans0 F4.out).trans0 HA4.out.fr⟩
      · have h0p : 0 < wtL s1 := by omega
        have eX : X = 0 := by rw [← HVX.out.2, mnE, if_neg h0]
        subst eX
        have hk0 : kp ≠ 0 := fun h => h0 (HK0.out.1 h)
        have kk : ((kp : Int) == 0) = false := by simp; omega
        obtain ⟨ma1, ma2, ma3⟩ := HMA.out h0p
        have hMp : 0 < wsum ns (min m 120) := by rw [← HTT.out]; exact h0p
        have hm0 : 0 < m := by
          rcases Nat.eq_zero_or_pos m with h | h
          · rw [h] at hMp
            exact absurd hMp (Nat.lt_irrefl 0)
          · exact h
        obtain ⟨W5, rfl⟩ : ∃ W5, W5 = wr := ⟨_, rfl⟩
        have HRM := Lib.hid (fun W (f : Fr S0 W5 W) => by
          have h9 := (HA4.out.fr0 f).mean HKL.out (by omega) HTK.out (HMN.out h0p)
          rw [HMV.out h0p] at h9
          exact h9)
        have F5 := Lib.hid (F4.out.trans0 HA4.out.fr)
        have hl0 : 0 < vs.length := by rw [HML.out]; exact hm0
        obtain ⟨b0, o0, ep, z0⟩ := (HZ.out.fr0 (F2.out.trans0 F5.out)) 0 hl0
        have HM3 := Lib.hid (And.intro ma1 (And.intro ma2 ma3))
        have HMP := Lib.hid hMp
        have hx0 : vs.getD 0 0 = vs[0] := by simp [hl0]
        obtain ⟨x0, ex0⟩ : ∃ x0, vs[0] = x0 := ⟨_, rfl⟩
        rw [ex0] at hx0 z0
        have HX0 : Hid (lowA vs 0 = x0 ∧ highA vs 0 = x0) := Lib.hid ⟨hx0, hx0⟩
        have HCZ : Hid (∀ W, Fr S0 W5 W → W.cell? ⟨b0, o0 + 0, none⟩ = some (.int .i64 x0)) := Lib.hid fun W f => f.cell z0 (fun h => h)
        subst ep
        have z1 := z0
        rw [Nat.add_zero] at z1
        have hmi : (0 : Int) < (m : Int) := by omega
        clear h0 HK0 HVX HMA HMN HMV HTT ma1 ma2 ma3 hMp h0p hk0 hx0 ex0 HTK HKL HKP HLN HKM HRW HA4
        go_wp2_with fail
        go_quiet (fail)
        go_wp2_with fail
        go_loopw [14, 16, 20, 21, 22] (fun v u lo hi z wr => ∃ i : Nat, lo = .int .i64 (lowA vs i) ∧ hi = .int .i64 (highA vs i) ∧ z = .int .i64 (i : Nat) ∧ i ≤ m ∧ i ≤ 120 ∧ Hid (Acc2 W5 wr v u i (tmsA vs ns i))) (fun _ _ _ _ z _ => 120 - (intOf z).toNat)
        case atStart => exact ⟨0, by rw [HX0.out.1], by rw [HX0.out.2], rfl, by omega, by omega, Lib.hid ((Acc2.nil W5).fr0 (Fr.drewN _ _ _))⟩
        case round =>
          obtain ⟨i, rfl, rfl, rfl, him, hi, hacc⟩ := hrel
          obtain ⟨LO, eLO⟩ : ∃ LO, lowA vs i = LO := ⟨_, rfl⟩
          obtain ⟨HI, eHI⟩ : ∃ HI, highA vs i = HI := ⟨_, rfl⟩
          obtain ⟨pv3, cv3, rfl⟩ := slFormN hacc.out.ov
          obtain ⟨pu3, cu3, rfl⟩ := slFormN hacc.out.ou
          by_cases hin : i < m ∧ i < 120
          · obtain ⟨him2, hi2⟩ := hin
            have hil : (i : Int) < (m : Int) := by omega
            have hi12 : (i : Int) < 120 := by omega
            have hi0 : (0 : Int) ≤ (i : Int) := by omega
            have hivl : i < vs.length := by rw [HML.out]; exact him2
            have hgd : vs.getD i 0 = vs[i] := by simp [hivl]
            obtain ⟨b', o', hp, hc⟩ := HZ.out i hivl
            obtain ⟨x, ex⟩ : ∃ x, vs[i] = x := ⟨_, rfl⟩
            rw [ex] at hgd hc
            simp only [Option.some.injEq, Addr.mk.injEq, and_true] at hp
            obtain ⟨rfl, rfl⟩ := hp
            have e3 := ((F2.out.trans0 F5.out).trans0 hacc.out.fr).cell hc (fun h => h)
            have HCI : Hid (∀ W, Fr S0 W5 W → W.cell? ⟨b0, o0 + i, none⟩ = some (.int .i64 x)) := Lib.hid fun W f => ((F2.out.trans0 F5.out).trans0 f).cell hc (fun h => h)
            have HL2 : Hid (lowA vs (i + 1) = min LO x) := Lib.hid (by rw [lowA, hgd, eLO])
            have HH2 : Hid (highA vs (i + 1) = max HI x) := Lib.hid (by rw [highA, hgd, eHI])
            have HTM : Hid (tmsA vs ns (i + 1) = tmsA vs ns i ++ [(x, wgt ns i)]) := Lib.hid (by rw [tmsA, hgd])
            have HW := Lib.hid (fun W (f : Fr S0 W5 W) => HWT.out i W ((F2.out.trans0 F5.out).trans0 f))
            obtain ⟨U, eU⟩ : ∃ U, wgt ns i = U := ⟨_, rfl⟩
            rw [eU] at HTM HW
            rw [eLO, eHI]
            have HR : Hid (Room (i + 1)) := Lib.hid (Room.mk (by omega))
            clear ex hgd hc eU eLO eHI hivl
            go_wp2_with (first
              | ((with_reducible show wpList _ _ _ (Oper.mk (some 130) _ _ _ _ _ :: _) _ _); refine app_one elj64 (.tmp 124) (.tmp 129) rfl hacc.out.ov rfl rfl rfl rfl rfl (one_j x) HR.out ?_; intro g1 cap1 w7 hown hgrow hat hlt; have HOU := Lib.hid (keep_row2 hacc.out.ov hacc.out.ou (by decide) hgrow); have HOV := Lib.hid hown; have HF7 := Lib.hid ((hacc.out.fr.trans0 (Fr.alloc S0 wr _)).append hgrow hacc.out.fv); have HV7 := Lib.hid (fresh_app (n := i + 1) (c := cap1) hacc.out.fr hacc.out.fv hat); clear hown hgrow hat hlt)
              | fail)
            refine (HW.out _ HF7.out).mono ?_
            rintro e w9 ⟨rfl, rfl⟩
            go_wp2_with (first
              | ((with_reducible show wpList _ _ _ (Oper.mk (some 136) _ _ _ _ _ :: _) _ _); refine app_one el64 (.tmp 131) (.tmp 135) rfl HOU.out rfl rfl rfl rfl rfl (one_v U) HR.out ?_; intro g2 cap2 w8 hown2 hgrow2 hat2 hlt2; have HOV8 := Lib.hid (keep_row2 HOU.out HOV.out (by decide) hgrow2); have HOU8 := Lib.hid hown2; have HF8 := Lib.hid ((HF7.out.trans0 (Fr.alloc S0 _ _)).append hgrow2 hacc.out.fu); have HV8 := Lib.hid (fresh_app (n := i + 1) (c := cap2) HF7.out hacc.out.fu hat2); clear hown2 hgrow2 hat2 hlt2)
              | fail)
            have HA9 : Hid (Acc2 W5 w8 (.slice (some ⟨g1, 0, none⟩) (i + 1) cap1) (.slice (some ⟨g2, 0, none⟩) (i + 1) cap2) (i + 1) (tmsA vs ns (i + 1))) := Lib.hid (by
              rw [HTM.out]
              exact ⟨by rw [List.map_append]; unfold j64s; rw [List.map_append]; exact HOV8.out, by rw [List.map_append]; unfold u64s; rw [List.map_append]; exact HOU8.out, HV7.out, HV8.out, HF8.out⟩)
            go_roundw
            case rel => exact ⟨i + 1, by rw [HL2.out], by rw [HH2.out], by go_num, by omega, by omega, HA9⟩
            case measure => simp [intOf]; omega
          · have HMI : Hid (min m 120 = i) := Lib.hid (by omega)
            have hm3 := HM3.out
            have hmp := HMP.out
            rw [HMI.out] at hm3 hmp
            obtain ⟨q1, q2, q3⟩ := hm3
            rw [eLO] at q1 ⊢
            rw [eHI] at q2 ⊢
            have hwl := wsum_le ns i
            have HRW := Lib.hid (fun W (f : Fr S0 wr W) => by
              have h9 := (hacc.out.fr0 f).mean (tmsA_len vs ns i) (by omega) (HOK.out i) (by unfold MeanNo; rw [tmsA_wts]; omega)
              rw [tmsA_lsm, tmsA_wts] at h9
              exact h9)
            obtain ⟨WH, eWH⟩ : ∃ WH, ((asum vs ns i / wsum ns i : Nat) : Int) - 9223372036854775808 = WH := ⟨_, rfl⟩
            rw [eWH] at q3 HRW
            have F6 := Lib.hid hacc.out.fr
            have HQ3 := Lib.hid q3
            have kV : (V == V) = true := by simp
            have kL : decide (LO ≤ V) = true := decide_eq_true q1
            have kH : decide (V ≤ HI) = true := decide_eq_true q2
            have hor : (i = m) ∨ ((i : Int) < (m : Int) ∧ i = 120) := by omega
            clear hin HMI hmp hwl eWH q1 q2 q3 hacc eLO eHI
            by_cases hE : E = 0
            · have eWV := HQ3.out hE
              subst eWV
              subst hE
              rcases hor with hor | ⟨hlt, hor⟩
              all_goals
                subst hor
                go_wp2_with fail
                refine (HRM.out _ F6.out).mono ?_
                rintro e w7 ⟨rfl, f7⟩
                have F7 := Lib.hid f7
                clear f7
                go_wp2_with fail
                refine (HRW.out _ F7.out).mono ?_
                rintro e w8 ⟨rfl, f8⟩
                have F8 := Lib.hid (((F5.out.trans0 F6.out).trans0 F7.out).trans0 f8)
                clear f8
                go_wp2_with fail
                refine (HLE.out _ F8.out).mono ?_
                rintro e w9 ⟨rfl, rfl⟩
                go_wp2_with fail
                go_ret
                exact ⟨rfl, F2.out.trans0 F8.out⟩
            · have kE : decide ((0 : Int) < (E : Int)) = true := decide_eq_true (by omega)
              have kE2 : decide (0 < E) = true := decide_eq_true (by omega)
              clear hE
              rcases hor with hor | ⟨hlt, hor⟩
              all_goals
                subst hor
                go_wp2_with fail
                refine (HRM.out _ F6.out).mono ?_
                rintro e w7 ⟨rfl, f7⟩
                have F7 := Lib.hid f7
                clear f7
                go_wp2_with fail
                refine (HRW.out _ F7.out).mono ?_
                rintro e w8 ⟨rfl, f8⟩
                have F8 := Lib.hid (((F5.out.trans0 F6.out).trans0 F7.out).trans0 f8)
                clear f8
                go_wp2_with fail
                refine (HLE.out _ F8.out).mono ?_
                rintro e w9 ⟨rfl, rfl⟩
                go_wp2_with fail
                go_ret
                exact ⟨rfl, F2.out.trans0 F8.out⟩
end
end Go.Proofs.Ytbpfmjekpjfceaa
