/- KlLawKeeps -/
import Derived.Test.YtbpfmjekpjfceaaPk1
import Derived.Test.YtbpfmjekpjfceaaPk2
import Derived.Test.YtbpfmjekpjfceaaPk3
import Derived.Test.YtbpfmjekpjfceaaPk4
import Derived.Test.YtbpfmjekpjfceaaPk6
import Derived.Test.YtbpfmjekpjfceaaPk7
import Derived.Test.YtbpfmjekpjfceaaPk8
import Derived.Test.YtbpfmjekpjfceaaPk9
import Derived.Test.YtbpfmjekpjfceaaPk10
import Derived.Test.YtbpfmjekpjfceaaPk11
import Derived.Test.YtbpfmjekpjfceaaPk12
import Derived.Test.YtbpfmjekpjfceaaPk13
import Derived.Test.YtbpfmjekpjfceaaPk14
import Derived.Test.YtbpfmjekpjfceaaPk15
import Derived.Test.YtbpfmjekpjfceaaPk16
import Derived.Test.YtbpfmjekpjfceaaPk17
import Derived.Test.YtbpfmjekpjfceaaPk18
import Derived.Test.YtbpfmjekpjfceaaPk19
import Derived.Test.YtbpfmjekpjfceaaPk20
import Derived.Test.YtbpfmjekpjfceaaPk21
import Derived.Test.YtbpfmjekpjfceaaPk22
import Derived.Test.YtbpfmjekpjfceaaPk23
import Derived.Test.YtbpfmjekpjfceaaPk24
import Derived.Test.YtbpfmjekpjfceaaPk25
import Derived.Test.YtbpfmjekpjfceaaPk26
import Derived.Test.YtbpfmjekpjfceaaPk27
import Derived.Test.YtbpfmjekpjfceaaPk28
import Derived.Test.YtbpfmjekpjfceaaPk29
import Derived.Deep.LoopGhost
import Derived.BigQuiet
import Derived.Deep.CutRange
import Derived.Maps.AppendAt
import Derived.Laws.AppendOwnNone
import Derived.Laws.OwnMore
import Derived.Lib.AppendZerosOnto
import Derived.Lib.SliceRun
import Derived.Lib.Walk
import Derived.WalkKit
import Derived.Laws.BytesArg
import Derived.Lib.SlBytesConst
import Derived.WalkSpells
import Derived.WalkLawsBesides
import Derived.Deep.QuietTactic
import Derived.RegionTactic
import Derived.Deep.AppendLies
import Derived.Deep.RegionLaw
import Derived.Laws.ResultCell
import Derived.Laws.EntriesVeiled
import Derived.Lib.Hide
import Derived.Test.YtbpfmjekpjfceaaRows
import Derived.Laws.BitsAllLaws
import Derived.Deep.RegionHeld3
import Derived.BigRegion
import Derived.RangeFuncNested
import Derived.RangeFuncBound
import Derived.RangeFuncCalls
import Derived.RangeFuncLeaves
import Derived.Shelf.Abstract
import Derived.Shelf.RegionOpen
import Derived.OwnWalkIn
import Derived.TacticsInMore
import Derived.LoopNIn
import Derived.LoopIn
import Derived.StillTailTactics
import Derived.Laws.Externs
import Derived.Shelf.Spec.BitsCarry
import Derived.Deep.CutBlock
import Derived.Deep.DeepCutAuto
import Derived.Lib.BitFns
import Derived.Shelf.Small.Bits
import Derived.Shelf.Strconv.Itoa0
import Derived.Shelf.Bits.Mul64
import Derived.Shelf.SlSortCmp.WholeK
set_option maxRecDepth 100000
set_option maxHeartbeats 8000000
namespace Go.Proofs.Ytbpfmjekpjfceaa
open Go.RowKit
def plB (K m : Nat) (ns : List Nat) : Nat → Bool
  | 0 => decide (m ≤ K)
  | i + 1 => plB K m ns i && decide (wgt ns i = 1)
theorem plB_le {K m : Nat} {ns : List Nat} : ∀ i, plB K m ns i = true → m ≤ K
  | 0, h => of_decide_eq_true h
  | i + 1, h => by
    rw [plB, Bool.and_eq_true] at h
    exact plB_le i h.1
theorem addN_one (L : Lv) (v : Int) : addN L v 1 = putL L 0 v := by
  show addB L v 1 (1 + 48) = _
  rw [addB_same L v 1 1 (by decide) 48]
  show addB L v 1 (0 + 1) = _
  rw [addB, if_pos (by decide)]
  rfl
theorem plain_is {K m : Nat} {bs : List Nat} {vs : List Int} {ns : List Nat} (hK : 8 ≤ K) : ∀ i, i ≤ m → i ≤ 120 → plB K m ns i = true → (i = 0 ∧ adds K bs vs ns i = ([], 0, 0)) ∨ ∃ l : List Int, l.length = i ∧ adds K bs vs ns i = ([l], 0, 0)
  | 0, _, _, _ => .inl ⟨rfl, rfl⟩
  | i + 1, him, hi, h => by
    have hmK := plB_le _ h
    rw [plB, Bool.and_eq_true] at h
    have hw : wgt ns i = 1 := of_decide_eq_true h.2
    have hone : ∀ l : List Int, l.length ≤ K → ∀ (bs : List Nat), pack K bs [l] 0 0 = ([l], 0, 0) := fun l hl bs => pack_none (over_no fun j hj => by
      have : j = 0 := by simpa using hj
      subst this
      show l.length ≤ max (cr K 0) 2
      rw [cr]
      omega)
    have hs : ∀ M : Lv, adR M 1 = 0 → wtL M ≤ 120 → adds K bs vs ns i = (M, 0, 0) → adds K bs vs ns (i + 1) = pack K bs (putL M 0 (vs.getD i 0)) 0 0 := fun M hr _ e => by
      rw [adds, e, hw, adS, if_pos hr, addN_one]
    rcases plain_is hK i (by omega) (by omega) h.1 with ⟨h0, e⟩ | ⟨l, hl, e⟩
    · subst h0
      refine .inr ⟨[vs.getD 0 0], rfl, ?_⟩
      rw [hs [] (adR_zero (by omega) (by decide)) (by decide) e]
      exact hone [vs.getD 0 0] (by simp; omega) bs
    · have hwl : wtL [l] = i := by rw [wtL_cons, hl]; rfl
      refine .inr ⟨insZ (vs.getD i 0) l, by rw [insZ_len, hl], ?_⟩
      rw [hs [l] (adR_zero (by omega) (by omega)) (by omega) e]
      exact hone _ (by rw [insZ_len, hl]; omega) bs
theorem plain_nil {K m : Nat} {bs : List Nat} {vs : List Int} {ns : List Nat} (hK : 8 ≤ K) {i : Nat} (him : i ≤ m) (hi : i ≤ 120) (h : plB K m ns i = true) : (adds K bs vs ns i).2.1 = 0 := by
  rcases plain_is (bs := bs) (vs := vs) hK i him hi h with ⟨-, e⟩ | ⟨l, -, e⟩ <;> rw [e]
section
variable (d : Nat) (q : Option Addr) (n c : Nat) (bs : List Nat) (p : Option Addr) (m cm : Nat) (vs : List Int) (pn : Option Addr) (nn cn : Nat) (ns : List Nat) (w : World)
theorem law_keeps (hn : bs.length = n) (hs : SlI w .u8 q bs) (h8 : ∀ x ∈ bs, x < 256) (hq : q = none → c = 0) (hm : vs.length = m) (hz : ZI w p vs) (hnn : ns.length = nn) (hns : SlI w .u16 pn ns) :
    Calls Try.prog 7 #[.int .u16 (d : Nat), .slice q n c, .slice p m cm, .slice pn nn cn] w fun e w' => e = .returned (.bool true) ∧ Fr S0 w w' := by
  have HAL := Lib.hid (alive_any w)
  by_cases hbig : 500 < n
  · have k1 : decide (500 < n) = true := decide_eq_true hbig
    have k1i : decide ((500 : Int) < (n : Int)) = true := decide_eq_true (by omega)
    clear hn hs h8 hq hbig hm hz hnn hns
    go_enter Try.func7, Try.ntmps7
    go_wp2_with fail
    refine HAL.out.mono ?_
    rintro e w1 ⟨rfl, f1⟩
    go_wp2_with fail
    go_ret
    exact ⟨rfl, f1⟩
  have k1 : decide (500 < n) = false := decide_eq_false hbig
  have k1i : decide ((500 : Int) < (n : Int)) = false := decide_eq_false (by omega)
  obtain ⟨d1, d2⟩ := siz_in d
  have HSI := Lib.hid (fun W => size_any d W)
  have HAD := Lib.hid (fun W (f : Fr S0 w W) => added_any d q n c bs p m cm vs pn nn cn ns W ⟨hs.fr0 f, hn, h8, by omega⟩ hq hm (hz.fr0 f) hnn (hns.fr0 f))
  have HOK := Lib.hid (fun i hi => adds_ok d1 d2 hn vs ns i hi)
  have HWT := Lib.hid (fun i W (f : Fr S0 w W) => weight_any pn nn cn ns i W hnn (hns.fr0 f))
  obtain ⟨K, eK⟩ : ∃ K, siz d = K := ⟨_, rfl⟩
  rw [eK] at d1 d2 HSI HAD HOK
  have HPL := Lib.hid (fun i (h1 : i ≤ m) h2 h3 => plain_nil (bs := bs) (vs := vs) (ns := ns) d1 (i := i) h1 h2 h3)
  have HKK := Lib.hid (And.intro d1 d2)
  have kP : decide (m ≤ K) = plB K m ns 0 := rfl
  have kPi : decide ((m : Int) ≤ (K : Int)) = plB K m ns 0 := by rw [plB]; exact decide_eq_decide.2 (by omega)
  obtain ⟨B0, hB0⟩ : ∃ B0, plB K m ns 0 = B0 := ⟨_, rfl⟩
  rw [hB0] at kP kPi
  have HB0 := Lib.hid hB0
  have hKi : (K : Int) ≤ 4096 := by omega
  clear hn hs h8 hq hbig hm hz hnn hns eK hB0
  go_enter Try.func7, Try.ntmps7
  go_wp2_with fail
  refine HAL.out.mono ?_
  rintro e w1 ⟨rfl, f1⟩
  have F1 := Lib.hid f1
  clear f1 HAL
  go_wp2_with fail
  refine (HAD.out _ F1.out).mono ?_
  rintro e w2 ⟨g, r, gr, r2, rfl, hbo⟩
  have HBO := Lib.hid hbo
  clear hbo HAD
  go_wp2_with fail
  refine (HSI.out _).mono ?_
  rintro e w3 ⟨rfl, rfl⟩
  clear HSI
  have F2 : Hid (Fr S0 w w3) := Lib.hid (F1.out.trans0 HBO.out.fr)
  go_wp2_with fail
  clear kP kPi
  go_loopw [11, 12, 13] (fun zt zp z wr => ∃ i : Nat, zt = .int .u64 (wsum ns i : Nat) ∧ zp = .bool (plB K m ns i) ∧ z = .int .i64 (i : Nat) ∧ i ≤ m ∧ i ≤ 120 ∧ wr = w3) (fun _ _ z _ => 120 - (intOf z).toNat)
  case atStart => exact ⟨0, rfl, by rw [HB0.out], rfl, by omega, by omega, rfl⟩
  case round =>
    obtain ⟨i, rfl, rfl, rfl, him, hi, rfl⟩ := hrel
    by_cases hin : i < m ∧ i < 120
    · obtain ⟨him2, hi2⟩ := hin
      have hil : (i : Int) < (m : Int) := by omega
      have hi12 : (i : Int) < 120 := by omega
      have hi0 : (0 : Int) ≤ (i : Int) := by omega
      have HW := Lib.hid (HWT.out i wr F2.out)
      have hb := wgt_bd ns i
      have hsl := wsum_le ns i
      have HSU : Hid (wsum ns (i + 1) = wsum ns i + wgt ns i) := Lib.hid (by rw [wsum])
      have HPU : Hid (plB K m ns (i + 1) = (plB K m ns i && decide (wgt ns i = 1))) := Lib.hid (by rw [plB])
      obtain ⟨U, eU⟩ : ∃ U, wgt ns i = U := ⟨_, rfl⟩
      obtain ⟨A, eA⟩ : ∃ A, wsum ns i = A := ⟨_, rfl⟩
      obtain ⟨B, eB⟩ : ∃ B, plB K m ns i = B := ⟨_, rfl⟩
      rw [eU] at HW HSU HPU hb
      rw [eA] at HSU hsl ⊢
      rw [eB] at HPU ⊢
      have kW : IntKind.u64.wrap ((A : Int) + (U : Int)) = ((A + U : Nat) : Int) := by rw [IntKind.wrap_u64]; omega
      clear eU eA eB
      cases B
      · clear hb hsl
        go_wp2_with fail
        refine HW.out.mono ?_
        rintro e w5 ⟨rfl, rfl⟩
        go_wp2_with fail
        go_roundw
        case rel => exact ⟨i + 1, by rw [HSU.out, Int.natCast_add], by rw [HPU.out]; rfl, by go_num, by omega, by omega, (by first | trivial | rfl)⟩
        case measure => simp [intOf]; omega
      · by_cases hU : U = 1
        · subst hU
          have kW2 : IntKind.u64.wrap ((A : Int) + 1) = (A : Int) + 1 := by rw [IntKind.wrap_u64]; omega
          clear kW
          clear hb hsl
          go_wp2_with fail
          refine HW.out.mono ?_
          rintro e w5 ⟨rfl, rfl⟩
          go_wp2_with fail
          refine HW.out.mono ?_
          rintro e w6 ⟨rfl, rfl⟩
          go_wp2_with fail
          go_roundw
          case rel => exact ⟨i + 1, by rw [HSU.out, Int.natCast_add]; rfl, by rw [HPU.out]; rfl, by go_num, by omega, by omega, (by first | trivial | rfl)⟩
          case measure => simp [intOf]; omega
        · have kU : ((U : Int) == 1) = false := by simp; omega
          have kU2 : decide ((U : Int) = 1) = false := decide_eq_false (by omega)
          clear hb hsl
          go_wp2_with fail
          refine HW.out.mono ?_
          rintro e w5 ⟨rfl, rfl⟩
          go_wp2_with fail
          refine HW.out.mono ?_
          rintro e w6 ⟨rfl, rfl⟩
          go_wp2_with fail
          go_roundw
          case rel => exact ⟨i + 1, by rw [HSU.out, Int.natCast_add], by rw [HPU.out]; simp [hU], by go_num, by omega, by omega, (by first | trivial | rfl)⟩
          case measure => simp [intOf]; omega
    · have HMI : Hid (min m 120 = i) := Lib.hid (by omega)
      have HBO2 := HBO.out
      rw [HMI.out] at HBO2
      obtain ⟨-, HT, -⟩ := HOK.out i (by omega)
      have HPN := Lib.hid (HPL.out i him hi)
      obtain ⟨s, es⟩ : ∃ s, adds K bs vs ns i = s := ⟨_, rfl⟩
      rw [es] at HBO2 HT HPN
      have HBN := Lib.hid HBO2
      have hover := HBO2.gs.good.room
      have hkf := kept_few (by omega) hover
      have hln := HBO2.gs.good.len
      have HOV := Lib.hid (over_none hover)
      have HTO := Lib.hid (fun W (f : Fr S0 wr W) => bo_total (HBN.out.fr0 f))
      have HSZ := Lib.hid (fun W (f : Fr S0 wr W) => bo_size (HBN.out.fr0 f))
      have HKE := Lib.hid (fun W (f : Fr S0 wr W) => bo_kept (HBN.out.fr0 f))
      have HLE := Lib.hid (fun W (f : Fr S0 wr W) => bo_ledger (HBN.out.fr0 f))
      have HRO := Lib.hid (fun W (f : Fr S0 wr W) h => bo_room (HBN.out.fr0 f) h)
      have HLV := Lib.hid (bo_levels HBN.out)
      rw [HT] at HTO
      obtain ⟨s1, s2⟩ := s
      simp only at HPN hover hkf hln HOV HTO HSZ HKE HLE HRO HLV
      obtain ⟨H, eH⟩ : ∃ H, s1.length = H := ⟨_, rfl⟩
      rw [eH] at hkf hln HRO HLV
      obtain ⟨E, eE⟩ : ∃ E, s2.1 = E := ⟨_, rfl⟩
      rw [eE] at HPN HLE
      obtain ⟨kp, ekp⟩ : ∃ kp, kept s1 = kp := ⟨_, rfl⟩
      rw [ekp] at hkf HKE
      obtain ⟨T, eT⟩ : ∃ T, wsum ns i = T := ⟨_, rfl⟩
      rw [eT] at HTO ⊢
      obtain ⟨B, eB⟩ : ∃ B, plB K m ns i = B := ⟨_, rfl⟩
      rw [eB] at HPN ⊢
      have kW1 : IntKind.i64.wrap (3 * (K : Int)) = 3 * (K : Int) := by rw [IntKind.wrap_i64]; omega
      have kW2 : IntKind.i64.wrap (2 * (H : Int)) = 2 * (H : Int) := by rw [IntKind.wrap_i64]; omega
      have kW3 : IntKind.i64.wrap (3 * (K : Int) + 2 * (H : Int)) = 3 * (K : Int) + 2 * (H : Int) := by rw [IntKind.wrap_i64]; omega
      have kLe : decide ((kp : Int) ≤ 3 * (K : Int) + 2 * (H : Int)) = true := decide_eq_true (by omega)
      have hHi : (H : Int) ≤ 49 := by omega
      have HEH := Lib.hid eH
      clear HBO2 HT hover hkf hln es eH eE ekp eT eB HBO HBN HOK HPL HWT
      have hor : (i = m) ∨ ((i : Int) < (m : Int) ∧ i = 120) := by omega
      clear hin HMI
      rcases hor with hor | ⟨hlt, hor⟩
      all_goals
        subst hor
        go_wp2_with fail
        refine HLV.out.mono ?_
        rintro e w5 ⟨v, rfl, lo⟩
        obtain ⟨lp, lc, rfl, hro⟩ := lo.rows
        have F5 := Lib.hid lo.fr
        have HRW := Lib.hid hro
        have hcl := hro.cap
        clear lo hro HLV
        go_wp2_with fail
        go_loopw [15] (fun z wx => ∃ h : Nat, z = .int .i64 (h : Nat) ∧ h ≤ H ∧ Hid (Fr S0 w5 wx)) (fun z _ => H - (intOf z).toNat)
        case atStart => exact ⟨0, rfl, by omega, Lib.hid (Fr.refl _ _)⟩
        case round =>
          obtain ⟨h, rfl, hh, hfw⟩ := hrel
          by_cases hhl : (h : Int) < (H : Int)
          ·
            have hhn : h < s1.length := by rw [HEH.out]; omega
            obtain ⟨b1, o1, rfl, q1, m1, dd1, e1, z1⟩ := HRW.out.cel h hhn
            have HCE : Hid (∀ W, Fr S0 w5 W → W.cell? ⟨b1, o1 + h, none⟩ = some (.slice q1 m1 dd1)) := Lib.hid fun W f => f.cell e1 (fun h => h)
            have hov := HOV.out h hhn
            rw [z1.len, HEH.out] at hov
            have HRM := Lib.hid (fun W (f : Fr S0 w5 W) => HRO.out W (F5.out.trans0 f) h)
            obtain ⟨R, eR⟩ : ∃ R, room K H h = R := ⟨_, rfl⟩
            rw [eR] at hov HRM
            have kR : decide (R < m1) = false := decide_eq_false (by omega)
            have hh0 : (0 : Int) ≤ (h : Int) := by omega
            have c1 := e1
            clear e1 z1 eR hov c1
            go_wp2_with fail
            refine wp_region_noPanic ?_
            refine wp_region_held_drew (S := fun W => W.cell? ⟨b1, o1 + h, none⟩ = some (.slice q1 m1 dd1) ∧ Fr S0 w5 W) (by kernel_rfl) ⟨HCE.out _ (hfw.out.trans0 (Fr.drew S0 wr)), hfw.out.trans0 (Fr.drew S0 wr)⟩ (fun hHeld0 => ?_)
            have hk0 := hfw.out.trans0 (Fr.drew S0 wr)
            refine wpAnyH_take (i := 0) (oi := Oper.mk (some 66) _ _ _ _ _) (v := ?_) rfl (by as_aux_lemma => kernel_rfl) (by as_aux_lemma => kernel_rfl) (by as_aux_lemma => kernel_rfl) (fun _ _ _ h => h) (Or.inl ⟨by rfl, ?_⟩) (by assumption) ?_
            rotate_left
            · (intro w hSw; obtain ⟨hce, hfr⟩ := hSw; go_simp <;> with_reducible rfl)
            simp only [Act.put, List.setIfInBounds_toArray, List.set_cons_zero, List.set_cons_succ]
            refine wpAnyH_take (i := 1) (oi := Oper.mk (some 67) _ _ _ _ _) (v := ?_) rfl (by as_aux_lemma => kernel_rfl) (by as_aux_lemma => kernel_rfl) (by as_aux_lemma => kernel_rfl) (fun _ _ _ h => h) (Or.inl ⟨by rfl, ?_⟩) (by assumption) ?_
            rotate_left
            · (intro w hSw; obtain ⟨hce, hfr⟩ := hSw; go_simp <;> with_reducible rfl)
            simp only [Act.put, List.setIfInBounds_toArray, List.set_cons_zero, List.set_cons_succ]
            refine wpAnyH_take (i := 2) (oi := Oper.mk (some 68) _ _ _ _ _) (v := ?_) rfl (by as_aux_lemma => kernel_rfl) (by as_aux_lemma => kernel_rfl) (by as_aux_lemma => kernel_rfl) (fun _ _ _ h => h) (Or.inl ⟨by rfl, ?_⟩) (by assumption) ?_
            rotate_left
            · (intro w hSw; obtain ⟨hce, hfr⟩ := hSw; go_simp <;> with_reducible rfl)
            simp only [Act.put, List.setIfInBounds_toArray, List.set_cons_zero, List.set_cons_succ]
            refine wpAnyH_take (i := 3) (oi := Oper.mk (some 69) _ _ _ _ _) (v := ?_) rfl (by as_aux_lemma => kernel_rfl) (by as_aux_lemma => kernel_rfl) (by as_aux_lemma => kernel_rfl) (fun _ _ _ h => h) (Or.inl ⟨by rfl, ?_⟩) (by assumption) ?_
            rotate_left
            · (intro w hSw; obtain ⟨hce, hfr⟩ := hSw; go_simp <;> with_reducible rfl)
            simp only [Act.put, List.setIfInBounds_toArray, List.set_cons_zero, List.set_cons_succ]
            refine wpAnyH_take (i := 4) (oi := Oper.mk (some 70) _ _ _ _ _) (v := ?_) rfl (by as_aux_lemma => kernel_rfl) (by as_aux_lemma => kernel_rfl) (by as_aux_lemma => kernel_rfl) (fun _ _ _ h => h) (Or.inl ⟨by rfl, ?_⟩) (by assumption) ?_
            rotate_left
            · (intro w hSw; obtain ⟨hce, hfr⟩ := hSw; go_simp <;> with_reducible rfl)
            simp only [Act.put, List.setIfInBounds_toArray, List.set_cons_zero, List.set_cons_succ]
            refine wpAnyH_take (i := 5) (oi := Oper.mk (some 71) _ _ _ _ _) (v := ?_) rfl (by as_aux_lemma => kernel_rfl) (by as_aux_lemma => kernel_rfl) (by as_aux_lemma => kernel_rfl) (fun _ _ _ h => h) (Or.inl ⟨by rfl, ?_⟩) (by assumption) ?_
            rotate_left
            · (intro w hSw; obtain ⟨hce, hfr⟩ := hSw; go_simp <;> with_reducible rfl)
            simp only [Act.put, List.setIfInBounds_toArray, List.set_cons_zero, List.set_cons_succ]
            refine wpAnyH_take (i := 6) (oi := Oper.mk (some 72) _ _ _ _ _) (v := ?_) rfl (by as_aux_lemma => kernel_rfl) (by as_aux_lemma => kernel_rfl) (by as_aux_lemma => kernel_rfl) (fun _ _ _ h => h) (Or.inl ⟨by rfl, ?_⟩) (by assumption) ?_
            rotate_left
            · (intro w hSw; obtain ⟨hce, hfr⟩ := hSw; go_simp <;> with_reducible rfl)
            simp only [Act.put, List.setIfInBounds_toArray, List.set_cons_zero, List.set_cons_succ]
            refine wpAnyH_ready (rs := [7]) (by kernel_rfl) (by simp) (AllReadyH.cons (o := Oper.mk (some 73) _ _ _ _ _) rfl (fun K hK => ?_) AllReadyH.nil)
            go_simp
            go_at_call 34
            refine (HRM.out _ hk0).mono ?_
            rintro _ v7 ⟨rfl, hk⟩
            refine hK.out _ _ ⟨HCE.out _ (hk0.trans0 hk), hk0.trans0 hk⟩ (fun hHeld1 => ?_)
            clear hK K hHeld0 
            try simp only [Act.put, List.setIfInBounds_toArray, List.set_cons_zero, List.set_cons_succ]
            refine wpAnyH_take (i := 8) (oi := Oper.mk (some 74) _ _ _ _ _) (v := ?_) rfl (by as_aux_lemma => kernel_rfl) (by as_aux_lemma => kernel_rfl) (by as_aux_lemma => kernel_rfl) (fun _ _ _ h => h) (Or.inl ⟨by rfl, ?_⟩) (by assumption) ?_
            rotate_left
            · (intro w hSw; obtain ⟨hce, hfr⟩ := hSw; go_simp <;> with_reducible rfl)
            simp only [Act.put, List.setIfInBounds_toArray, List.set_cons_zero, List.set_cons_succ]
            have H9 := Lib.hid (hk0.trans0 hk)
            clear hk hk0 hHeld1
            refine wpAnyH_done (by kernel_rfl) ?_ _
            refine NoPanic.normal ?_
            go_wp2_with fail
            exact ⟨⟨h + 1, by go_num, by omega, H9⟩, by simp [intOf]; omega⟩
          · have e2 : h = H := by omega
            subst e2
            clear hhl
            cases B
            · have HTO2 := HTO.out _ (F5.out.trans0 hfw.out)
              go_wp2_with fail
              refine HTO2.mono ?_
              rintro e v1 ⟨rfl, rfl⟩
              go_wp2_with fail
              refine (HKE.out _ (F5.out.trans0 hfw.out)).mono ?_
              rintro e v2 ⟨rfl, rfl⟩
              go_wp2_with fail
              refine (HSZ.out _ (F5.out.trans0 hfw.out)).mono ?_
              rintro e v3 ⟨rfl, rfl⟩
              go_wp2_with fail
              go_ret
              exact ⟨rfl, (F2.out.trans0 F5.out).trans0 hfw.out⟩
            · have hE := HPN.out rfl
              subst hE
              have HTO2 := HTO.out _ (F5.out.trans0 hfw.out)
              go_wp2_with fail
              refine HTO2.mono ?_
              rintro e v1 ⟨rfl, rfl⟩
              go_wp2_with fail
              refine (HKE.out _ (F5.out.trans0 hfw.out)).mono ?_
              rintro e v2 ⟨rfl, rfl⟩
              go_wp2_with fail
              refine (HSZ.out _ (F5.out.trans0 hfw.out)).mono ?_
              rintro e v3 ⟨rfl, rfl⟩
              go_wp2_with fail
              refine (HLE.out _ (F5.out.trans0 hfw.out)).mono ?_
              rintro e v4 ⟨rfl, rfl⟩
              go_wp2_with fail
              go_ret
              exact ⟨rfl, (F2.out.trans0 F5.out).trans0 hfw.out⟩
end
end Go.Proofs.Ytbpfmjekpjfceaa
