/- DgSorted -/
import Derived.Test.YtmieeoceckcnkaaGreatPz1
import Derived.Test.YtmieeoceckcnkaaGreatPz2
import Derived.Test.YtmieeoceckcnkaaGreatPz3
import Derived.Test.YtmieeoceckcnkaaGreatPz4
import Derived.Test.YtmieeoceckcnkaaGreatPz5
import Derived.Test.YtmieeoceckcnkaaGreatPz6
import Derived.Deep.RegionLaw
import Derived.Deep.RegionHeld3
import Derived.BigRegion
import Derived.Maps.AppendAt
import Derived.Laws.AppendOwnNone
import Derived.Laws.OwnMore
import Derived.Lib.AppendZerosOnto
import Derived.Lib.SliceRun
import Derived.Lib.Walk
import Derived.Laws.Externs
import Derived.Shelf.Spec.BitsCarry
import Derived.Deep.CutBlock
import Derived.Deep.CutRange
import Derived.Deep.DeepCutAuto
import Derived.Lib.BitFns
import Derived.Shelf.Small.Bits
import Derived.Shelf.Strconv.Itoa0
import Derived.Shelf.Bits.Mul64
import Derived.Test.YtmieeoceckcnkaaGreatRows
import Derived.WalkKit
import Derived.WalkSpells
import Derived.WalkLawsBesides
import Derived.Deep.QuietTactic
import Derived.BigQuiet
import Derived.RegionTactic
import Derived.Deep.AppendLies
import Derived.Laws.ResultCell
import Derived.Laws.EntriesVeiled
import Derived.Lib.Hide
import Derived.Laws.BytesArg
import Derived.Lib.SlBytesConst
set_option maxRecDepth 100000
set_option maxHeartbeats 8000000
namespace Go.Proofs.YtmieeoceckcnkaaGreat
open Go.RowKit
theorem ris_near {l : List Tm} (h : ∀ i, (hi : i + 1 < l.length) → l[i].1 ≤ l[i + 1].1) : Ris l := by
  induction l with
  | nil => exact List.Pairwise.nil
  | cons x r ih =>
    have hr : Ris r := ih fun i hi => h (i + 1) (by simpa using hi)
    refine List.pairwise_cons.2 ⟨fun y hy => ?_, hr⟩
    cases r with
    | nil => cases hy
    | cons z s =>
      have h0 : x.1 ≤ z.1 := h 0 (by simp)
      rcases List.mem_cons.1 hy with rfl | hy
      · exact h0
      · exact Int.le_trans h0 ((List.pairwise_cons.1 hr).1 y hy)
theorem ris_at {l : List Tm} (h : Ris l) {i : Nat} (hi : i + 1 < l.length) : l[i].1 ≤ l[i + 1].1 := List.pairwise_iff_getElem.1 h i (i + 1) (by omega) hi (by omega)
noncomputable def risB (l : List Tm) : Bool := @decide (Ris l) (Classical.propDecidable _)
theorem risB_yes {l : List Tm} (h : Ris l) : risB l = true := by unfold risB; simp [h]
theorem risB_no {l : List Tm} (h : ¬ Ris l) : risB l = false := by unfold risB; simp [h]
section
variable (p : Option Addr) (n c : Nat) (l : List Tm) (w : World)
theorem issorted_any (h : Sl w p n c l) (hN : n ≤ 1000000000000) :
    Calls Tryz.prog 70 #[.slice p n c, ordF] w fun e w' => e = .returned (.bool (risB l)) ∧ Fr S0 w w' := by
  have H := Lib.hid h
  have hNi : (n : Int) ≤ 1000000000000 := by omega
  clear h
  go_enter Tryz.func70, Tryz.ntmps70
  go_wp2_with fail
  go_loopw [5] (fun z wr => ∃ k : Int, z = .int .i64 k ∧ -1 ≤ k ∧ k < (n : Int) ∧ Hid (∀ i, (hi : i + 1 < l.length) → k ≤ (i : Int) → l[i].1 ≤ l[i + 1].1) ∧ Hid (Fr S0 w wr)) (fun z _ => (intOf z).toNat)
  case atStart => exact ⟨(n : Int) - 1, rfl, by omega, by omega, Lib.hid fun i hi hk => by have := H.out.len; omega, Lib.hid (Fr.refl _ _)⟩
  case round =>
    obtain ⟨k, rfl, hk1, hkn, hri, hfr⟩ := hrel
    by_cases hk0 : 0 < k
    · obtain ⟨j, rfl⟩ : ∃ j : Nat, k = (j : Int) + 1 := ⟨(k - 1).toNat, by omega⟩
      have hl := H.out.len
      have hj1 : j + 1 < l.length := by omega
      have hsl := H.out.fr0 hfr.out
      obtain ⟨b, o, rfl, c0, c1x⟩ := hsl.at (j + 1) hj1
      obtain ⟨b2, o2, hp2, e0, e1⟩ := hsl.at j (by omega)
      simp only [Option.some.injEq, Addr.mk.injEq] at hp2
      obtain ⟨rfl, rfl, -⟩ := hp2
      have HIF : Hid (l[j].1 ≤ l[j + 1].1 → ∀ i, (hi : i + 1 < l.length) → ((j : Nat) : Int) ≤ (i : Int) → l[i].1 ≤ l[i + 1].1) := Lib.hid fun h i hi hji => by
        rcases Nat.lt_or_ge j i with h1 | h1
        · exact hri.out i hi (by omega)
        · obtain rfl : i = j := by omega
          exact h
      have HNO : Hid (¬ l[j].1 ≤ l[j + 1].1 → ¬ Ris l) := Lib.hid fun h hr => h (ris_at hr hj1)
      obtain ⟨⟨xv, xn⟩, hx⟩ : ∃ t, l[j + 1] = t := ⟨_, rfl⟩
      obtain ⟨⟨yv, yn⟩, hy⟩ : ∃ t, l[j] = t := ⟨_, rfl⟩
      rw [hx] at c0 c1x HIF HNO
      rw [hy] at e0 e1 HIF HNO
      simp only at c0 c1x e0 e1 HIF HNO
      have HCC : Hid (∀ W, Fr S0 wr W → W.cell? ⟨b, o + (j + 1) * 2, none⟩ = some (.int .i64 xv) ∧ W.cell? ⟨b, o + (j + 1) * 2 + 1, none⟩ = some (.int .u64 (xn : Nat)) ∧ W.cell? ⟨b, o + j * 2, none⟩ = some (.int .i64 yv) ∧ W.cell? ⟨b, o + j * 2 + 1, none⟩ = some (.int .u64 (yn : Nat))) := Lib.hid fun W f => ⟨f.cell c0 (fun h => h), f.cell c1x (fun h => h), f.cell e0 (fun h => h), f.cell e1 (fun h => h)⟩
      have HOR := Lib.hid (fun W => order_any xv yv xn yn W)
      have hcf := fun W => show (callFunc 60 #[.agg #[.int .i64 xv, .int .u64 (xn : Nat)], .agg #[.int .i64 yv, .int .u64 (yn : Nat)]]).run Tryz.prog W = .ok (.enter 60 #[.agg #[.int .i64 xv, .int .u64 (xn : Nat)], .agg #[.int .i64 yv, .int .u64 (yn : Nat)]]) W from by kernel_rfl
      obtain ⟨G, eG⟩ : ∃ G, cmpZ xv yv = G := ⟨_, rfl⟩
      rw [eG] at HOR
      have eJ : (j : Int) + 1 - 1 = (j : Int) := by omega
      have hjn : (j : Int) + 1 < (n : Int) := hkn
      have hjn0 : (j : Int) < (n : Int) := by omega
      have HJ : Hid ((0 : Int) ≤ (j : Int) ∧ (j : Int) < (n : Int) ∧ (0 : Int) ≤ (j : Int) + 1 ∧ (j : Int) + 1 < (n : Int) ∧ ((j : Int) + 1).toNat = j + 1 ∧ IntKind.i64.wrap (j : Int) = (j : Int)) := Lib.hid ⟨by omega, by omega, by omega, by omega, by omega, by rw [IntKind.wrap_i64]; omega⟩
      by_cases hle : yv ≤ xv
      · have hG : ¬ G < 0 := by rw [← eG]; unfold cmpZ; rw [if_neg (by omega)]; split <;> omega
        have hG2 : decide (G < 0) = false := decide_eq_false hG
        have HI2 := Lib.hid (HIF.out hle)
        clear eG hle HIF HNO hx hy hri hl hj1 hsl c0 c1x e0 e1
        go_wp2_with fail
        obtain ⟨c0, c1x, e0, e1⟩ := HCC.out _ (Fr.refl _ _)
        obtain ⟨y1, y2, y3, y4, y5, y6⟩ := HJ.out
        go_region_held3 (fun w' => w'.cell? ⟨b, o + (j + 1) * 2, none⟩ = some (.int .i64 xv) ∧ w'.cell? ⟨b, o + (j + 1) * 2 + 1, none⟩ = some (.int .u64 (xn : Nat)) ∧ w'.cell? ⟨b, o + j * 2, none⟩ = some (.int .i64 yv) ∧ w'.cell? ⟨b, o + j * 2 + 1, none⟩ = some (.int .u64 (yn : Nat)))
          (first
            | exact HCC.out _ F6.out
            | exact HCC.out _ (Fr.drew S0 _)
            | exact HCC.out _ (Fr.refl S0 _)
            | fail)
          (first
            | (go_at_call 60; ((with_reducible refine (HOR.out _).mono ?_); rintro _ w6 ⟨rfl, f6⟩; have F6 := Lib.hid ((Fr.drew S0 wr).trans0 f6); clear f6))
            | fail)
        have HF6 := Lib.hid (hfr.out.trans0 F6.out)
        clear HCC HOR hcf
        go_wp2_with fail
        go_roundw
        case rel => exact ⟨(j : Int), by first | rfl | go_num, by omega, by omega, HI2, HF6⟩
        case measure => first | (simp [intOf]; done) | (simp [intOf]; omega)
      · have hG : G < 0 := by rw [← eG]; unfold cmpZ; rw [if_pos (by omega)]; decide
        have hG2 : decide (G < 0) = true := decide_eq_true hG
        have HN2 := Lib.hid (HNO.out hle)
        clear eG hle HIF HNO hx hy hri hl hj1 hsl c0 c1x e0 e1
        go_wp2_with fail
        obtain ⟨c0, c1x, e0, e1⟩ := HCC.out _ (Fr.refl _ _)
        obtain ⟨y1, y2, y3, y4, y5, y6⟩ := HJ.out
        go_region_held3 (fun w' => w'.cell? ⟨b, o + (j + 1) * 2, none⟩ = some (.int .i64 xv) ∧ w'.cell? ⟨b, o + (j + 1) * 2 + 1, none⟩ = some (.int .u64 (xn : Nat)) ∧ w'.cell? ⟨b, o + j * 2, none⟩ = some (.int .i64 yv) ∧ w'.cell? ⟨b, o + j * 2 + 1, none⟩ = some (.int .u64 (yn : Nat)))
          (first
            | exact HCC.out _ F6.out
            | exact HCC.out _ (Fr.drew S0 _)
            | exact HCC.out _ (Fr.refl S0 _)
            | fail)
          (first
            | (go_at_call 60; ((with_reducible refine (HOR.out _).mono ?_); rintro _ w6 ⟨rfl, f6⟩; have F6 := Lib.hid ((Fr.drew S0 wr).trans0 f6); clear f6))
            | fail)
        have HF6 := Lib.hid (hfr.out.trans0 F6.out)
        clear HCC HOR hcf
        go_wp2_with fail
        go_ret
        exact ⟨by rw [risB_no HN2.out]; rfl, HF6.out⟩
    · have hk9 : k ≤ 0 := by omega
      have HR : Hid (Ris l) := Lib.hid (ris_near fun i hi => hri.out i hi (by omega))
      go_wp2_with fail
      go_ret
      exact ⟨by rw [risB_yes HR.out]; rfl, hfr.out⟩
end
end Go.Proofs.YtmieeoceckcnkaaGreat
