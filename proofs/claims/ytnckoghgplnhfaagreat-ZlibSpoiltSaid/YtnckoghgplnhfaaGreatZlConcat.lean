/- slices.Grow of nothing, slices.Concat of three texts. -/
import Derived.Test.YtnckoghgplnhfaaGreatZlBase
import Derived.Lib.AppendZerosOnto
import Derived.Lib.SliceRun
import Derived.Lib.Walk
namespace Go.Proofs.YtnckoghgplnhfaaGreat
open Go.RowKit

set_option maxHeartbeats 2000000 in
set_option maxRecDepth 100000 in
theorem grow_any (n : Nat) (w : World) (h0 : 0 < n) (hn : n ≤ 1099511627776) :
    Calls Tryz.prog 33 #[.slice none 0 0, .int .i64 n] w fun e w' => ∃ g G, e = .returned (.slice (some ⟨g, 0, none⟩) 0 G) ∧ Fr S0 w w' ∧ w'.ownsRow 0 5 1 (.slice (some ⟨g, 0, none⟩) 0 G) 0 [] ∧ w.heap.size ≤ g := by
  obtain ⟨i0, hi0, hz0, hs0, hb0⟩ := info_parts info_u8
  have hrz : ∀ ty, (Builtin.append_ #[22, 3] ty #[.slice none 0 0, .int .i64 (n : Int)]).run Tryz.prog w =
      .ok (.slice (some ⟨w.heap.size, 0, none⟩) (0 + n) (grownCap w (0 + n) 0 5)) (w.drew.alloc (.cells (([] : List Value).toArray ++ Builtin.zeroCells (Value.cells (.int .u8 0)) n ++ Builtin.zeroCells (Value.cells (.int .u8 0)) (grownCap w (0 + n) 0 5 - (0 + n))) 5)) := fun ty =>
    Lib.run_append_grow_zeros w 22 3 ty 5 i0 (.int .u8 0) .i64 .i64 Tryz.underlying22 Tryz.underlying3 hi0 hz0 none 0 0 [] (run_firstCells_none w.drew i0.size 0 0 0) n (by omega) (by omega) (by omega) (by omega)
      (by rw [hb0]; omega) (by rw [hb0]; exact growslice_fits (by omega) (by omega))
  have hGn : 0 + n ≤ grownCap w (0 + n) 0 5 := grownCap_ge w _ _ _
  have hGm := grownCap_le_maxLen w (0 + n) 0 5 (by unfold maxLen; omega)
  obtain ⟨G, hG⟩ : ∃ G, grownCap w (0 + n) 0 5 = G := ⟨_, rfl⟩
  rw [hG] at hrz hGn hGm
  have hown : Hid ((w.drew.alloc (.cells (([] : List Value).toArray ++ Builtin.zeroCells (Value.cells (.int .u8 0)) n ++ Builtin.zeroCells (Value.cells (.int .u8 0)) (G - (0 + n))) 5)).ownsRow 0 5 1 (.slice (some ⟨w.heap.size, 0, none⟩) 0 G) 0 []) := Lib.hid (by
    refine ⟨rfl, .inr ⟨w.heap.size, G, _, rfl, Nat.zero_le _, heap_alloc_new w.drew _, Nat.zero_le _, hGm, ?_, rfl⟩⟩
    simp [Builtin.zeroCells, Value.cells]
    omega)
  have hfr : Hid (Fr S0 w (w.drew.alloc (.cells (([] : List Value).toArray ++ Builtin.zeroCells (Value.cells (.int .u8 0)) n ++ Builtin.zeroCells (Value.cells (.int .u8 0)) (G - (0 + n))) 5))) := Lib.hid ((Fr.drew S0 w).trans0 (Fr.alloc _ _ _))
  have h1 : ¬ (n : Int) < 0 := by omega
  have h4 : (n : Int) > 0 := by omega
  have h5 : (n : Int) ≤ 1099511627776 := by omega
  unfold maxLen at hGm
  generalize w.drew.alloc (.cells (([] : List Value).toArray ++ Builtin.zeroCells (Value.cells (.int .u8 0)) n ++ Builtin.zeroCells (Value.cells (.int .u8 0)) (G - (0 + n))) 5) = w' at hrz hown hfr
  clear hi0 hz0 hs0 hb0 hG h0 hn
  go_enter Tryz.func33, Tryz.ntmps33
  go_wp2_with (at_builtin; refine Lib.wpList_append_run _ rfl _ _ _ _ rfl _ _ rfl rfl _ _ (hrz _) ?_)
  go_ret
  exact ⟨w.heap.size, G, rfl, hfr.out, hown.out, Nat.le_refl _⟩

/-- the first j texts, one behind the other -/
def cat (L : Nat → List Nat) : Nat → List Nat
  | 0 => []
  | j + 1 => cat L j ++ L j
/-- block g has slices of texts, n of them -/
def Pcs (w : World) (g n : Nat) (V : Nat → Option Addr × Nat × Nat) (L : Nat → List Nat) : Prop :=
  ∀ j, j < n → w.cell? ⟨g, j, none⟩ = some (.slice (V j).1 (V j).2.1 (V j).2.2) ∧ SrcIs w (.slice (V j).1 (V j).2.1 (V j).2.2) (V j).2.1 (u8s (L j)) ∧ (L j).length = (V j).2.1
theorem cat_le (L : Nat → List Nat) (j : Nat) : ∀ n, j ≤ n → (cat L j).length ≤ (cat L n).length
  | 0, h => by obtain rfl : j = 0 := by omega
               exact Nat.le_refl _
  | n + 1, h => by
    by_cases q : j = n + 1
    · rw [q]; exact Nat.le_refl _
    · have := cat_le L j n (by omega)
      rw [cat, List.length_append]
      omega

set_option maxHeartbeats 2000000 in
set_option maxRecDepth 100000 in
theorem concat_any (g n : Nat) (V : Nat → Option Addr × Nat × Nat) (L : Nat → List Nat) (w : World) (h : Pcs w g n V L) (hn : n ≤ 1000) (h0 : 0 < (cat L n).length) (hL : (cat L n).length ≤ 1099511627776) :
    Calls Tryz.prog 16 #[.slice (some ⟨g, 0, none⟩) n n] w fun e w' => ∃ v, e = .returned v ∧ Fr S0 w w' ∧ RowNew w w' v (cat L n) := by
  have H := Lib.hid h
  have HCL := Lib.hid (cat_le L)
  have HL := Lib.hid hL
  have HG := Lib.hid (fun w' => grow_any (cat L n).length w' h0 hL)
  clear h h0 hL
  go_enter Tryz.func16, Tryz.ntmps16
  go_wp2_with fail
  go_loopw [3, 11] (fun s i wr => ∃ j N : Nat, j ≤ n ∧ i = .int .i64 j ∧ (cat L j).length = N ∧ s = .int .i64 N ∧ w = wr) (fun _ i _ => n - (intOf i).toNat)
  case atStart => exact ⟨0, 0, by omega, rfl, rfl, rfl, rfl⟩
  case round =>
    obtain ⟨j, N, hj, rfl, hN, rfl, rfl⟩ := hrel
    by_cases h1 : (j : Int) < (n : Int)
    · obtain ⟨hc, hs, hl⟩ := H.out j (by omega)
      obtain ⟨⟨qj, nj, cj⟩, hv⟩ : ∃ x, V j = x := ⟨_, rfl⟩
      rw [hv] at hc hs hl
      dsimp only at hc hs hl
      have hN2 : (cat L (j + 1)).length = N + nj := by rw [cat, List.length_append, hN, hl]
      have hle := HCL.out (j + 1) n (by omega)
      have hb := HL.out
      have hN3 : N + nj ≤ 1099511627776 := by omega
      have HN2 := Lib.hid hN2
      clear hs hl hN hN2 hle hb hv
      go_wp2_with fail
      go_roundw
      case rel => exact ⟨j + 1, N + nj, by omega, by go_num, HN2.out, by go_num, by trivial⟩
      case measure => simp [intOf]; omega
    · obtain rfl : j = n := by omega
      have KG := Lib.hid (HG.out w)
      rw [hN] at KG
      have HNN := Lib.hid hN
      clear hN HG
      go_wp2_with fail
      refine KG.out.mono ?_
      rintro _ w1 ⟨G, C, rfl, f1, o1, hG⟩
      have F1 := Lib.hid f1
      have O1 := Lib.hid o1
      have V1 : Hid (Fresh w (.slice (some ⟨G, 0, none⟩) 0 C)) := Lib.hid fun k hk => by simp only [Value.ownBlock, Option.some.injEq] at hk; omega
      clear f1 o1 hG KG
      go_wp2_with fail
      go_loopw [6, 27] (fun s i wr => ∃ i' M : Nat, i' ≤ j ∧ i = .int .i64 i' ∧ (cat L i').length = M ∧ Fr S0 w wr ∧ wr.ownsRow 0 5 1 s M (u8s (cat L i')) ∧ Fresh w s) (fun _ i _ => j - (intOf i).toNat)
      case atStart => exact ⟨0, 0, by omega, rfl, rfl, F1.out, O1.out, V1.out⟩
      case round =>
        obtain ⟨i, M, hi, rfl, hM, hfr, own, hfv⟩ := hrel
        obtain ⟨pv, cv, rfl, -, -, -⟩ := slForm own
        have OWN := Lib.hid own
        have HFR := Lib.hid hfr
        have HFV := Lib.hid hfv
        have HM := Lib.hid hM
        by_cases h2 : (i : Int) < (j : Int)
        · obtain ⟨hc, hs, hl⟩ := H.out i (by omega)
          obtain ⟨⟨qj, nj, cj⟩, hv⟩ : ∃ x, V i = x := ⟨_, rfl⟩
          rw [hv] at hc hs hl
          dsimp only at hc hs hl
          have hcr := hfr.cell hc (fun h => h)
          have HSR := Lib.hid (hs.fr hfr (fun _ _ h => h))
          have hN2 : (cat L (i + 1)).length = M + nj := by rw [cat, List.length_append, hM, hl]
          have hle := HCL.out (i + 1) j (by omega)
          have hb := HL.out
          have HRM : Hid (Room (M + nj)) := Lib.hid (Room.mk (by omega))
          have HN2 := Lib.hid hN2
          have HE : Hid (u8s (cat L i) ++ u8s (L i) = u8s (cat L (i + 1))) := Lib.hid (u8s_append _ _)
          clear hc hs hl hN2 hle hb hv own hfr hfv hM
          go_wp2_with (first
            | ((with_reducible show wpList _ _ _ (Oper.mk (some 33) _ _ _ _ _ :: _) _ _); refine app_many el8 (.tmp 31) (.tmp 32) OWN.out HSR.out rfl rfl rfl rfl rfl (one8s _) HRM.out ?_; intro p3 c3 w3 own3 g3 at3; rw [HE.out] at own3; have O3 := Lib.hid own3; have F3 := Lib.hid (HFR.out.append g3 HFV.out); have V3 := Lib.hid (fresh_many HFV.out HFR.out.size at3); clear own3 g3 at3)
            | fail)
          go_roundw
          case rel => exact ⟨i + 1, M + nj, by omega, by go_num, HN2.out, F3.out, O3.out, V3.out⟩
          case measure => simp [intOf]; omega
        · obtain rfl : i = j := by omega
          clear own hfr hfv hM
          go_wp2_with fail
          go_ret
          exact ⟨_, rfl, HFR.out, by rw [HM.out]; exact OWN.out, HFV.out⟩
end Go.Proofs.YtnckoghgplnhfaaGreat
