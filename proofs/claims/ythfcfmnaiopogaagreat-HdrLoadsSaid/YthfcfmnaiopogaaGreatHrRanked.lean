/- The value of a rank among values with their weights, by the law's own helper. -/
import Derived.Test.YthfcfmnaiopogaaGreatHrRecorded
namespace Go.Proofs.YthfcfmnaiopogaaGreat
open Go.RowKit

/-- how much the first j values count from 0 up to x -/
def uptV (vs : List Int) (ns : List Nat) (x : Int) : Nat → Nat
  | 0 => 0
  | j + 1 => uptV vs ns x j + if 0 ≤ vs.getD j 0 ∧ vs.getD j 0 ≤ x then wt ns j else 0
theorem uptV_le (vs : List Int) (ns : List Nat) (x : Int) : ∀ j, uptV vs ns x j ≤ 1000 * j
  | 0 => Nat.le_refl _
  | j + 1 => by
    have ih := uptV_le vs ns x j
    have := wt_bd ns j
    rw [uptV]
    split <;> omega
/-- the best value of the first i -/
def bst (vs : List Int) (ns : List Nat) (r m : Nat) : Nat → Int
  | 0 => -1
  | i + 1 => if vs.getD i 0 < 0 ∨ (0 ≤ bst vs ns r m i ∧ bst vs ns r m i ≤ vs.getD i 0) then bst vs ns r m i else if r ≤ uptV vs ns (vs.getD i 0) m then vs.getD i 0 else bst vs ns r m i
theorem bst_bd (vs : List Int) (ns : List Nat) (r m : Nat) (h : ∀ v ∈ vs, -9223372036854775808 ≤ v ∧ v ≤ 9223372036854775807) : ∀ i, -1 ≤ bst vs ns r m i ∧ bst vs ns r m i ≤ 9223372036854775807
  | 0 => by simp [bst]
  | i + 1 => by
    have ih := bst_bd vs ns r m h i
    have hv : vs.getD i 0 ≤ 9223372036854775807 := by
      by_cases hi : i < vs.length
      · have := h _ (List.getElem_mem hi)
        simp [hi, this.2]
      · simp [List.getD, hi]
    rw [bst]
    split
    · exact ih
    · split <;> omega

set_option maxRecDepth 100000 in
set_option maxHeartbeats 4000000 in
theorem ranked_any (p : Option Addr) (m c : Nat) (vs : List Int) (q : Option Addr) (k c2 : Nat) (ns : List Nat) (r : Nat) (w : World)
    (hm : vs.length = m) (hz : ZI w p vs) (hvb : ∀ v ∈ vs, -9223372036854775808 ≤ v ∧ v ≤ 9223372036854775807) (hk : ns.length = k) (hq : SlI w .u16 q ns) (hnb : ∀ n ∈ ns, n < 65536) :
    Calls Tryz.prog 32 #[.slice p m c, .slice q k c2, .int .u64 (r : Nat)] w fun e w' => e = .returned (.int .i64 (bst vs ns r (min m 40) (min m 40))) ∧ Fr S0 w w' := by
  have HZ := Lib.hid hz
  have HQS := Lib.hid hq
  have HM := Lib.hid hm
  have HK := Lib.hid hk
  have HVB := Lib.hid hvb
  have HNB := Lib.hid hnb
  obtain ⟨T, eT⟩ : ∃ T, min m 40 = T := ⟨_, rfl⟩
  rw [eT]
  have HBB := Lib.hid (bst_bd vs ns r T hvb)
  have HT : Hid (min m 40 = T) := Lib.hid eT
  clear hm hz hvb hk hq hnb eT
  go_enter Tryz.func32, Tryz.ntmps32
  go_wp2_with fail
  go_loopw [7, 8, 9, 10, 11] (fun zb z _ _ _ wr => ∃ i : Nat, z = .int .i64 (i : Int) ∧ zb = .int .i64 (bst vs ns r T i) ∧ i ≤ m ∧ i ≤ 40 ∧ Hid (Fr S0 w wr)) (fun _ z _ _ _ _ => 40 - (intOf z).toNat)
  case atStart => exact ⟨0, rfl, rfl, by omega, by omega, Lib.hid (Fr.refl _ _)⟩
  case round =>
    obtain ⟨i, rfl, rfl, him, hi40, hf⟩ := hrel
    by_cases hik : i < m
    · by_cases hi4 : (i : Int) < 40
      · have hil : i < vs.length := by rw [HM.out]; exact hik
        obtain ⟨b, o, rfl, k0⟩ := HZ.out i hil
        have hvi := HVB.out _ (List.getElem_mem hil)
        have hgd : vs.getD i 0 = vs[i] := by simp [hil]
        obtain ⟨v, ev⟩ : ∃ v, vs[i] = v := ⟨_, rfl⟩
        rw [ev] at k0 hvi hgd
        have HST : Hid (bst vs ns r T (i + 1) = if v < 0 ∨ (0 ≤ bst vs ns r T i ∧ bst vs ns r T i ≤ v) then bst vs ns r T i else if r ≤ uptV vs ns v T then v else bst vs ns r T i) := Lib.hid (by rw [bst, hgd])
        have hb := HBB.out i
        obtain ⟨B, eB⟩ : ∃ B, bst vs ns r T i = B := ⟨_, rfl⟩
        rw [eB] at HST hb ⊢
        obtain ⟨hv1, hv2⟩ := hvi
        obtain ⟨hb1, hb2⟩ := hb
        obtain ⟨B2, eB2⟩ : ∃ B2, bst vs ns r T (i + 1) = B2 := ⟨_, rfl⟩
        have EB2 := Lib.hid eB2
        rw [eB2] at HST
        have k1 := hf.out.cell k0 (fun h => h)
        have hin : (i : Int) < (m : Int) := by omega
        clear hgd ev eB eB2
        by_cases c1 : v < 0
        · have HST2 : Hid (B2 = B) := Lib.hid (by rw [HST.out, if_pos (Or.inl c1)])
          clear HST
          go_wp2_with fail
          go_roundw
          case rel => exact ⟨i + 1, by go_num, by rw [EB2.out, HST2.out], by omega, by omega, hf⟩
          case measure => simp [intOf]; omega
        · have d1 : decide (v < 0) = false := decide_eq_false c1
          have v0 : 0 ≤ v := by omega
          clear c1
          by_cases c2 : 0 ≤ B
          · by_cases c3 : B ≤ v
            · have HST2 : Hid (B2 = B) := Lib.hid (by rw [HST.out, if_pos (Or.inr ⟨c2, c3⟩)])
              clear HST
              go_wp2_with fail
              go_roundw
              case rel => exact ⟨i + 1, by go_num, by rw [EB2.out, HST2.out], by omega, by omega, hf⟩
              case measure => simp [intOf]; omega
            · have d3 : decide (B ≤ v) = false := decide_eq_false c3
              have HST2 : Hid (B2 = if r ≤ uptV vs ns v T then v else B) := Lib.hid (by rw [HST.out, if_neg (by omega)])
              clear HST c3
              go_wp2_with fail
              go_loopw [9, 10, 11] (fun zu z _ wr => ∃ j : Nat, z = .int .i64 (j : Int) ∧ zu = .int .u64 (uptV vs ns v j : Nat) ∧ j ≤ m ∧ j ≤ 40 ∧ Hid (Fr S0 w wr)) (fun _ z _ _ => 40 - (intOf z).toNat)
              case atStart => exact ⟨0, rfl, rfl, by omega, by omega, hf⟩
              case round =>
                clear hf k1
                obtain ⟨j, rfl, rfl, hjm, hj40, hf⟩ := hrel
                have hul := uptV_le vs ns v j
                have HUS1 : Hid (uptV vs ns v (j + 1) = uptV vs ns v j + if 0 ≤ vs.getD j 0 ∧ vs.getD j 0 ≤ v then wt ns j else 0) := Lib.hid rfl
                obtain ⟨U, eU⟩ : ∃ U, uptV vs ns v j = U := ⟨_, rfl⟩
                have EU : Hid (uptV vs ns v j = U) := Lib.hid eU
                rw [eU] at hul HUS1 ⊢
                have hU : U ≤ 40000 := by omega
                clear eU hul
                by_cases hjk : j < m
                · by_cases hj4 : (j : Int) < 40
                  · have hjl : j < vs.length := by rw [HM.out]; exact hjk
                    obtain ⟨b2, o2, e2, k2⟩ := HZ.out j hjl
                    obtain ⟨rfl, rfl⟩ : b = b2 ∧ o = o2 := by simpa using e2
                    have hvj := HVB.out _ (List.getElem_mem hjl)
                    have hgd : vs.getD j 0 = vs[j] := by simp [hjl]
                    obtain ⟨x, ev⟩ : ∃ x, vs[j] = x := ⟨_, rfl⟩
                    rw [ev] at k2 hvj hgd
                    rw [hgd] at HUS1
                    have y1 := hf.out.cell k0 (fun h => h)
                    have y2 := hf.out.cell k2 (fun h => h)
                    obtain ⟨hx1, hx2⟩ := hvj
                    have hjn : (j : Int) < (m : Int) := by omega
                    clear e2 hgd ev k2
                    by_cases c4 : 0 ≤ x
                    · by_cases c5 : x ≤ v
                      · by_cases c6 : j < k
                        · have hnl : j < ns.length := by rw [HK.out]; exact c6
                          obtain ⟨b3, o3, rfl, k3⟩ := SlI.at HQS.out j hnl
                          have y3 := hf.out.cell k3 (fun h => h)
                          have hnb := HNB.out _ (List.getElem_mem hnl)
                          have hwv : wt ns j = 1 + ns[j] % 1000 := by unfold wt; rw [dif_pos hnl]
                          obtain ⟨V, eV⟩ : ∃ V, ns[j] = V := ⟨_, rfl⟩
                          rw [eV] at y3 hnb hwv
                          obtain ⟨R, eR⟩ : ∃ R, V % 1000 = R := ⟨_, rfl⟩
                          have eR2 : (V : Int) % 1000 = (R : Int) := by omega
                          have hR : R < 1000 := by omega
                          have HUS : Hid (uptV vs ns v (j + 1) = U + (1 + R)) := Lib.hid (by rw [HUS1.out, if_pos ⟨c4, c5⟩, hwv, eR])
                          clear k3 eV eR hwv HUS1 hnl
                          go_wp2_with fail
                          go_quiet (fail)
                          go_wp2_with fail
                          go_roundw
                          case rel => exact ⟨j + 1, by go_num, by first | (rw [HUS.out]; done) | (rw [HUS.out]; go_num), by omega, by omega, Lib.hid (hf.out.trans0 (Fr.drewN S0 wr _))⟩
                          case measure => simp [intOf]; omega
                        · have hnl : ¬ j < ns.length := by rw [HK.out]; exact c6
                          have d6 : decide (j < k) = false := decide_eq_false c6
                          have hwv : wt ns j = 1 := by unfold wt; rw [dif_neg hnl]
                          have HUS : Hid (uptV vs ns v (j + 1) = U + 1) := Lib.hid (by rw [HUS1.out, if_pos ⟨c4, c5⟩, hwv])
                          clear hwv HUS1 hnl
                          go_wp2_with fail
                          go_quiet (fail)
                          go_wp2_with fail
                          go_roundw
                          case rel => exact ⟨j + 1, by go_num, by first | (rw [HUS.out]; done) | (rw [HUS.out]; go_num), by omega, by omega, Lib.hid (hf.out.trans0 (Fr.drewN S0 wr _))⟩
                          case measure => simp [intOf]; omega
                      · have d5 : decide (x ≤ v) = false := decide_eq_false c5
                        have HUS : Hid (uptV vs ns v (j + 1) = U) := Lib.hid (by rw [HUS1.out, if_neg (by omega), Nat.add_zero])
                        clear HUS1
                        go_wp2_with fail
                        go_quiet (fail)
                        go_wp2_with fail
                        go_roundw
                        case rel => exact ⟨j + 1, by go_num, by first | (rw [HUS.out]; done) | (rw [HUS.out]; go_num), by omega, by omega, Lib.hid (hf.out.trans0 (Fr.drewN S0 wr _))⟩
                        case measure => simp [intOf]; omega
                    · have d4 : decide (0 ≤ x) = false := decide_eq_false c4
                      have HUS : Hid (uptV vs ns v (j + 1) = U) := Lib.hid (by rw [HUS1.out, if_neg (by omega), Nat.add_zero])
                      clear HUS1
                      go_wp2_with fail
                      go_quiet (fail)
                      go_wp2_with fail
                      go_roundw
                      case rel => exact ⟨j + 1, by go_num, by first | (rw [HUS.out]; done) | (rw [HUS.out]; go_num), by omega, by omega, Lib.hid (hf.out.trans0 (Fr.drewN S0 wr _))⟩
                      case measure => simp [intOf]; omega
                  · have dj : decide ((j : Int) < 40) = false := decide_eq_false hj4
                    have y1 := hf.out.cell k0 (fun h => h)
                    by_cases cr : r ≤ U
                    · have HST3 : Hid (B2 = v) := Lib.hid (by rw [HST2.out, if_pos (by rw [show T = j by have := HT.out; omega, EU.out]; exact cr)])
                      go_wp2_with fail
                      go_roundw
                      case rel => exact ⟨i + 1, by go_num, by rw [EB2.out, HST3.out], by omega, by omega, hf⟩
                      case measure => simp [intOf]; omega
                    · have HST3 : Hid (B2 = B) := Lib.hid (by rw [HST2.out, if_neg (by rw [show T = j by have := HT.out; omega, EU.out]; exact cr)])
                      have dr : decide (r ≤ U) = false := decide_eq_false cr
                      go_wp2_with fail
                      go_roundw
                      case rel => exact ⟨i + 1, by go_num, by rw [EB2.out, HST3.out], by omega, by omega, hf⟩
                      case measure => simp [intOf]; omega
                · have dj : decide (j < m) = false := decide_eq_false hjk
                  have y1 := hf.out.cell k0 (fun h => h)
                  by_cases cr : r ≤ U
                  · have HST3 : Hid (B2 = v) := Lib.hid (by rw [HST2.out, if_pos (by rw [show T = j by have := HT.out; omega, EU.out]; exact cr)])
                    go_wp2_with fail
                    go_roundw
                    case rel => exact ⟨i + 1, by go_num, by rw [EB2.out, HST3.out], by omega, by omega, hf⟩
                    case measure => simp [intOf]; omega
                  · have HST3 : Hid (B2 = B) := Lib.hid (by rw [HST2.out, if_neg (by rw [show T = j by have := HT.out; omega, EU.out]; exact cr)])
                    have dr : decide (r ≤ U) = false := decide_eq_false cr
                    go_wp2_with fail
                    go_roundw
                    case rel => exact ⟨i + 1, by go_num, by rw [EB2.out, HST3.out], by omega, by omega, hf⟩
                    case measure => simp [intOf]; omega
          · have d2 : decide (0 ≤ B) = false := decide_eq_false c2
            have HST2 : Hid (B2 = if r ≤ uptV vs ns v T then v else B) := Lib.hid (by rw [HST.out, if_neg (by omega)])
            clear HST c2
            go_wp2_with fail
            go_loopw [9, 10, 11] (fun zu z _ wr => ∃ j : Nat, z = .int .i64 (j : Int) ∧ zu = .int .u64 (uptV vs ns v j : Nat) ∧ j ≤ m ∧ j ≤ 40 ∧ Hid (Fr S0 w wr)) (fun _ z _ _ => 40 - (intOf z).toNat)
            case atStart => exact ⟨0, rfl, rfl, by omega, by omega, hf⟩
            case round =>
              clear hf k1
              obtain ⟨j, rfl, rfl, hjm, hj40, hf⟩ := hrel
              have hul := uptV_le vs ns v j
              have HUS1 : Hid (uptV vs ns v (j + 1) = uptV vs ns v j + if 0 ≤ vs.getD j 0 ∧ vs.getD j 0 ≤ v then wt ns j else 0) := Lib.hid rfl
              obtain ⟨U, eU⟩ : ∃ U, uptV vs ns v j = U := ⟨_, rfl⟩
              have EU : Hid (uptV vs ns v j = U) := Lib.hid eU
              rw [eU] at hul HUS1 ⊢
              have hU : U ≤ 40000 := by omega
              clear eU hul
              by_cases hjk : j < m
              · by_cases hj4 : (j : Int) < 40
                · have hjl : j < vs.length := by rw [HM.out]; exact hjk
                  obtain ⟨b2, o2, e2, k2⟩ := HZ.out j hjl
                  obtain ⟨rfl, rfl⟩ : b = b2 ∧ o = o2 := by simpa using e2
                  have hvj := HVB.out _ (List.getElem_mem hjl)
                  have hgd : vs.getD j 0 = vs[j] := by simp [hjl]
                  obtain ⟨x, ev⟩ : ∃ x, vs[j] = x := ⟨_, rfl⟩
                  rw [ev] at k2 hvj hgd
                  rw [hgd] at HUS1
                  have y1 := hf.out.cell k0 (fun h => h)
                  have y2 := hf.out.cell k2 (fun h => h)
                  obtain ⟨hx1, hx2⟩ := hvj
                  have hjn : (j : Int) < (m : Int) := by omega
                  clear e2 hgd ev k2
                  by_cases c4 : 0 ≤ x
                  · by_cases c5 : x ≤ v
                    · by_cases c6 : j < k
                      · have hnl : j < ns.length := by rw [HK.out]; exact c6
                        obtain ⟨b3, o3, rfl, k3⟩ := SlI.at HQS.out j hnl
                        have y3 := hf.out.cell k3 (fun h => h)
                        have hnb := HNB.out _ (List.getElem_mem hnl)
                        have hwv : wt ns j = 1 + ns[j] % 1000 := by unfold wt; rw [dif_pos hnl]
                        obtain ⟨V, eV⟩ : ∃ V, ns[j] = V := ⟨_, rfl⟩
                        rw [eV] at y3 hnb hwv
                        obtain ⟨R, eR⟩ : ∃ R, V % 1000 = R := ⟨_, rfl⟩
                        have eR2 : (V : Int) % 1000 = (R : Int) := by omega
                        have hR : R < 1000 := by omega
                        have HUS : Hid (uptV vs ns v (j + 1) = U + (1 + R)) := Lib.hid (by rw [HUS1.out, if_pos ⟨c4, c5⟩, hwv, eR])
                        clear k3 eV eR hwv HUS1 hnl
                        go_wp2_with fail
                        go_quiet (fail)
                        go_wp2_with fail
                        go_roundw
                        case rel => exact ⟨j + 1, by go_num, by first | (rw [HUS.out]; done) | (rw [HUS.out]; go_num), by omega, by omega, Lib.hid (hf.out.trans0 (Fr.drewN S0 wr _))⟩
                        case measure => simp [intOf]; omega
                      · have hnl : ¬ j < ns.length := by rw [HK.out]; exact c6
                        have d6 : decide (j < k) = false := decide_eq_false c6
                        have hwv : wt ns j = 1 := by unfold wt; rw [dif_neg hnl]
                        have HUS : Hid (uptV vs ns v (j + 1) = U + 1) := Lib.hid (by rw [HUS1.out, if_pos ⟨c4, c5⟩, hwv])
                        clear hwv HUS1 hnl
                        go_wp2_with fail
                        go_quiet (fail)
                        go_wp2_with fail
                        go_roundw
                        case rel => exact ⟨j + 1, by go_num, by first | (rw [HUS.out]; done) | (rw [HUS.out]; go_num), by omega, by omega, Lib.hid (hf.out.trans0 (Fr.drewN S0 wr _))⟩
                        case measure => simp [intOf]; omega
                    · have d5 : decide (x ≤ v) = false := decide_eq_false c5
                      have HUS : Hid (uptV vs ns v (j + 1) = U) := Lib.hid (by rw [HUS1.out, if_neg (by omega), Nat.add_zero])
                      clear HUS1
                      go_wp2_with fail
                      go_quiet (fail)
                      go_wp2_with fail
                      go_roundw
                      case rel => exact ⟨j + 1, by go_num, by first | (rw [HUS.out]; done) | (rw [HUS.out]; go_num), by omega, by omega, Lib.hid (hf.out.trans0 (Fr.drewN S0 wr _))⟩
                      case measure => simp [intOf]; omega
                  · have d4 : decide (0 ≤ x) = false := decide_eq_false c4
                    have HUS : Hid (uptV vs ns v (j + 1) = U) := Lib.hid (by rw [HUS1.out, if_neg (by omega), Nat.add_zero])
                    clear HUS1
                    go_wp2_with fail
                    go_quiet (fail)
                    go_wp2_with fail
                    go_roundw
                    case rel => exact ⟨j + 1, by go_num, by first | (rw [HUS.out]; done) | (rw [HUS.out]; go_num), by omega, by omega, Lib.hid (hf.out.trans0 (Fr.drewN S0 wr _))⟩
                    case measure => simp [intOf]; omega
                · have dj : decide ((j : Int) < 40) = false := decide_eq_false hj4
                  have y1 := hf.out.cell k0 (fun h => h)
                  by_cases cr : r ≤ U
                  · have HST3 : Hid (B2 = v) := Lib.hid (by rw [HST2.out, if_pos (by rw [show T = j by have := HT.out; omega, EU.out]; exact cr)])
                    go_wp2_with fail
                    go_roundw
                    case rel => exact ⟨i + 1, by go_num, by rw [EB2.out, HST3.out], by omega, by omega, hf⟩
                    case measure => simp [intOf]; omega
                  · have HST3 : Hid (B2 = B) := Lib.hid (by rw [HST2.out, if_neg (by rw [show T = j by have := HT.out; omega, EU.out]; exact cr)])
                    have dr : decide (r ≤ U) = false := decide_eq_false cr
                    go_wp2_with fail
                    go_roundw
                    case rel => exact ⟨i + 1, by go_num, by rw [EB2.out, HST3.out], by omega, by omega, hf⟩
                    case measure => simp [intOf]; omega
              · have dj : decide (j < m) = false := decide_eq_false hjk
                have y1 := hf.out.cell k0 (fun h => h)
                by_cases cr : r ≤ U
                · have HST3 : Hid (B2 = v) := Lib.hid (by rw [HST2.out, if_pos (by rw [show T = j by have := HT.out; omega, EU.out]; exact cr)])
                  go_wp2_with fail
                  go_roundw
                  case rel => exact ⟨i + 1, by go_num, by rw [EB2.out, HST3.out], by omega, by omega, hf⟩
                  case measure => simp [intOf]; omega
                · have HST3 : Hid (B2 = B) := Lib.hid (by rw [HST2.out, if_neg (by rw [show T = j by have := HT.out; omega, EU.out]; exact cr)])
                  have dr : decide (r ≤ U) = false := decide_eq_false cr
                  go_wp2_with fail
                  go_roundw
                  case rel => exact ⟨i + 1, by go_num, by rw [EB2.out, HST3.out], by omega, by omega, hf⟩
                  case measure => simp [intOf]; omega
      · have dg : decide ((i : Int) < 40) = false := decide_eq_false hi4
        go_wp2_with fail
        go_ret
        obtain rfl : i = T := by have := HT.out; omega
        exact ⟨rfl, hf.out⟩
    · have dg : decide (i < m) = false := decide_eq_false hik
      go_wp2_with fail
      go_ret
      obtain rfl : i = T := by have := HT.out; omega
      exact ⟨rfl, hf.out⟩
end Go.Proofs.YthfcfmnaiopogaaGreat
