/- The fixed distances' lengths. -/
import Derived.Test.YtfibhgohenkfbaaHufFixed
import Derived.IntWalk
namespace Go.Proofs.Ytfibhgohenkfbaa
open Go.RowKit

/-- a row's first m cells are five -/
def Fives (five : Value) (R : List Value) (m : Nat) : Prop := ∀ i, i < m → R[i]? = some five
theorem fives_splice {five : Value} {R : List Value} {m c : Nat} (h : Fives five R m) (hm : m + c ≤ R.length) : Fives five (splice R m (List.replicate c five)) (m + c) ∧ (splice R m (List.replicate c five)).length = R.length := by
  refine ⟨fun i hi => ?_, length_splice _ _ _ (by rw [List.length_replicate]; exact hm)⟩
  unfold splice
  by_cases e : i < m
  · rw [List.getElem?_append_left (by rw [List.length_take]; omega), List.getElem?_take, if_pos e]
    exact h i e
  · rw [List.getElem?_append_right (by rw [List.length_take]; omega), List.length_take, Nat.min_eq_left (by omega), List.getElem?_append_left (by rw [List.length_replicate]; omega), List.getElem?_replicate, if_pos (by omega)]

set_option maxRecDepth 100000 in
set_option maxHeartbeats 2000000 in
theorem repeat_any (x n g0 : Nat) (w : World) (h0 : w.cell? ⟨g0, 0, none⟩ = some (.int .u8 (x : Nat))) (hn1 : 1 ≤ n) (hn2 : n ≤ 1000) :
    Calls Try.prog 82 #[.slice (some ⟨g0, 0, none⟩) 1 1, .int .i64 (n : Nat)] w fun e w' => ∃ g, e = .returned (.slice (some ⟨g, 0, none⟩) n n) ∧ Fr S0 w w' ∧ SlI w' .u8 (some ⟨g, 0, none⟩) (List.replicate n x) := by
  have HMU := Lib.hid (fun W => mul_any n (by omega) W)
  obtain ⟨cs, hrunM, hle, -⟩ := Lib.run_makeNoZero (P := Try.prog) w #[3] 22 5 Try.underlying22 n (by omega)
  have hcall : (callFunc 101 #[.int .i64 (n : Nat)]).run Try.prog w = .ok (.value (.slice (some ⟨w.heap.size, 0, none⟩) n cs.size)) ((w.alloc (.cells cs 5)).drewN 2) := by
    rw [run_callFunc_extern Try.func101 (by kernel_rfl) (by kernel_rfl) (by kernel_rfl) (e := Extern.BytealgMakeNoZero.makeNoZero #[3] #[22]) (by kernel_rfl)]
    show (Sem.run _ (Extern.BytealgMakeNoZero.makeNoZero #[3] #[22] #[.int .i64 (n : Nat)]) w).andThen _ = _
    rw [hrunM]
    rfl
  obtain ⟨R, rfl⟩ : ∃ R : List Value, cs = R.toArray := ⟨cs.toList, by simp⟩
  have hb1 := heap_alloc_new w (.cells R.toArray 5)
  have bl1 : Below w.heap.size w (w.alloc (.cells R.toArray 5)) := (Below.refl _ _).alloc (Nat.le_refl _) _
  have hg0 : g0 < w.heap.size := World.block_lt_of_cell? w _ h0
  have hc1 : ((w.alloc (.cells R.toArray 5)).drewN 2).cell? ⟨g0, 0, none⟩ = some (.int .u8 (x : Nat)) := (bl1.cell (p := ⟨g0, 0, none⟩) hg0).trans h0
  have hR : n ≤ R.length := by simpa using hle
  have i1 : (n : Int) ≤ (R.length : Int) := by omega
  have HB : Hid (((w.alloc (.cells R.toArray 5)).drewN 2).heap[w.heap.size]? = some (.cells R.toArray 5 (0, 0))) := Lib.hid hb1
  have HBL : Hid (Below w.heap.size w ((w.alloc (.cells R.toArray 5)).drewN 2)) := Lib.hid ⟨bl1.os, bl1.tape, bl1.output, bl1.size, bl1.block⟩
  have HC1 := Lib.hid hc1
  have hsz : (Try.prog.info? 5).map (·.size) = some 1 := by kernel_rfl
  have HSZ := Lib.hid hsz
  have HMIN : Hid (([Value.int .u8 (x : Nat)] : List Value).length = Nat.min 1 n) := Lib.hid (Nat.min_eq_left hn1).symm
  clear hrunM h0 hb1 bl1 hle hc1 hsz
  go_enter Try.func82, Try.ntmps82
  go_wp2_with fail
  refine (HMU.out w).mono ?_
  rintro e w' ⟨rfl, rfl⟩
  go_wp2_with (first
    | ((with_reducible show wpList _ _ _ (Oper.mk (some 60) _ _ _ _ _ :: _) _ _); refine wpList_copy_splice rfl (.tmp 58) (.tmp 59) 22 22 rfl 5 Try.underlying22 HSZ.out (some ⟨w.heap.size, 0, none⟩) (some ⟨g0, 0, none⟩) n n 1 1 rfl rfl w.heap.size 0 R 5 HB.out [.int .u8 (x : Nat)] HMIN.out (fun _ => ⟨rfl, ⟨g0, 0, none⟩, rfl, fun j v hj => by (have : j = 0 := by (have := (List.getElem?_eq_some_iff.1 hj).1; simpa using this)); subst this; simp only [List.getElem?_cons_zero, Option.some.injEq] at hj; subst hj; exact HC1.out⟩) (by simp; omega) (by intro v hv; simp at hv; subst hv; rfl) w.heap.size w HBL.out (Nat.le_refl _) ?_; intro w2 hg2 hb2)
    | fail)
  have HW2 := Lib.hid hb2
  have HF1 : Hid (Fives (.int .u8 (x : Nat)) (splice R 0 [.int .u8 (x : Nat)]) 1 ∧ (splice R 0 [.int .u8 (x : Nat)]).length = R.length) := Lib.hid (by
    have := fives_splice (five := Value.int .u8 (x : Nat)) (R := R) (m := 0) (c := 1) (fun i hi => by omega) (by omega)
    exact this)
  obtain ⟨g, hg⟩ : ∃ g, w.heap.size = g := ⟨_, rfl⟩
  obtain ⟨N, hN⟩ : ∃ N, R.length = N := ⟨_, rfl⟩
  rw [hg] at hg2 ⊢
  rw [hN] at HF1 hR
  have HGE := Lib.hid hg
  have HG2 := Lib.hid hg2.out
  clear hb2 hg2 hg hN HB HBL HC1 hcall i1 hg0 HMU
  go_loopw [10, 11] (fun b _ wr => ∃ m : Nat, 1 ≤ m ∧ m ≤ n ∧ b = .int .i64 m ∧ Below w.heap.size w wr ∧ ∃ Q : List Value, Q.length = N ∧ wr.heap[g]? = some (.cells Q.toArray 5 (0, 0)) ∧ Fives (.int .u8 (x : Nat)) Q m) (fun b _ _ => n - (intOf b).toNat)
  case atStart => exact ⟨1, by omega, by omega, rfl, HW2.out, _, HF1.out.2, HG2.out, HF1.out.1⟩
  case round =>
    obtain ⟨m, hm1, hm, rfl, hbl, Q, hQ, hgq, hfv⟩ := hrel
    have HBLW := Lib.hid hbl
    have HQ := Lib.hid hQ
    have HGQ := Lib.hid hgq
    have HFV := Lib.hid hfv
    clear hbl hQ hgq hfv
    by_cases hmc : (m : Int) < (n : Int)
    · obtain ⟨C, hC⟩ : ∃ C : Nat, C = min m (n - m) := ⟨_, rfl⟩
      have hCm : C ≤ m := by omega
      have hmC : m + C ≤ n := by omega
      have hC1 : 1 ≤ C := by omega
      have HSP : Hid (Fives (.int .u8 (x : Nat)) (splice Q m (List.replicate C (Value.int .u8 (x : Nat)))) (m + C) ∧ (splice Q m (List.replicate C (Value.int .u8 (x : Nat)))).length = N) := Lib.hid (by
        have h := fives_splice HFV.out (c := C) (by rw [HQ.out]; omega)
        rw [HQ.out] at h
        exact h)
      have HBD : Hid (Below w.heap.size w wr.drew) := Lib.hid ⟨HBLW.out.os, HBLW.out.tape, HBLW.out.output, HBLW.out.size, HBLW.out.block⟩
      have HGD : Hid (wr.drew.heap[g]? = some (.cells Q.toArray 5 (0, 0))) := Lib.hid HGQ.out
      have HCL : Hid (∀ (j : Nat) (v : Value), (List.replicate C (Value.int .u8 (x : Nat)))[j]? = some v → wr.drew.cell? ((⟨g, 0, none⟩ : Addr).add j) = some v) := Lib.hid (fun j v hj => by
        have hjl := (List.getElem?_eq_some_iff.1 hj).1
        rw [List.length_replicate] at hjl
        rw [List.getElem?_replicate, if_pos hjl] at hj
        have hadd : (⟨g, 0, none⟩ : Addr).add j = ⟨g, j, none⟩ := by unfold Addr.add; split <;> simp_all
        rw [hadd, cell_of_row _ g j _ _ _ HGD.out, List.getElem?_toArray, HFV.out j (by omega)]
        exact hj)
      have HLN : Hid ((List.replicate C (Value.int .u8 (x : Nat))).length = Nat.min m (n - m)) := Lib.hid (by rw [List.length_replicate, hC])
      have hle2 : (m : Int) ≤ (n : Int) := by omega
      have hne : ¬ n = m := by omega
      have HCE := Lib.hid hC
      have q1 : ((n : Int) - (m : Int)).toNat = n - m := by omega
      clear hC
      have HFIT : Hid (m + (List.replicate C (Value.int .u8 (x : Nat))).length ≤ Q.length) := Lib.hid (by rw [List.length_replicate, HQ.out]; omega)
      have HONE : Hid (∀ v ∈ List.replicate C (Value.int .u8 (x : Nat)), v.oneCell' = true) := Lib.hid (fun v hv => by rw [List.eq_of_mem_replicate hv]; rfl)
      have HLC : Hid ((List.replicate C (Value.int .u8 (x : Nat))).length = C) := Lib.hid List.length_replicate
      obtain ⟨CS, hCS⟩ : ∃ X, List.replicate C (Value.int .u8 (x : Nat)) = X := ⟨_, rfl⟩
      rw [hCS] at HSP HCL HLN HFIT HONE HLC
      have hcs : CS.length ≤ n := by have := HLC.out; omega
      clear hCS
      go_wp2_with fail
      go_region_law (refine step_copy_splice rfl (.tmp 70) (.tmp 73) 22 22 rfl 5 Try.underlying22 HSZ.out (some ⟨g, m, none⟩) (some ⟨g, 0, none⟩) (n - m) (n - m) m n (by go_simp) (by go_simp) g m Q 5 HGD.out CS HLN.out (fun _ => ⟨rfl, ⟨g, 0, none⟩, rfl, HCL.out⟩) HFIT.out HONE.out w.heap.size w HBD.out (Nat.le_of_eq HGE.out) ?_; intro w4 hg4 hb4)
      have HB4 := Lib.hid hb4
      have HG4 := Lib.hid hg4.out
      clear hg4 hb4
      have HQ5 : Hid (IntKind.i64.wrap ((m : Int) + (CS.length : Int)) = ((m + C : Nat) : Int)) := Lib.hid (by rw [IntWalk.i64_in _ (by omega), HLC.out]; omega)
      go_simp
      rw [HQ5.out]
      go_wp2_with fail
      go_roundw
      case rel => exact ⟨m + C, by omega, by omega, rfl, HB4.out, _, HSP.out.2, HG4.out, HSP.out.1⟩
      case measure => simp [intOf]; omega
    · obtain rfl : n = m := by omega
      have HSL : Hid (SlI wr .u8 (some ⟨g, 0, none⟩) (List.replicate n x)) := Lib.hid ⟨by rw [List.length_replicate]; unfold maxLen; omega, fun _ => ⟨g, 0, rfl, fun i hi => by
        have hi' : i < n := by rw [List.length_replicate] at hi; exact hi
        rw [Nat.zero_add, cell_of_row _ g i _ _ _ HGQ.out, List.getElem?_toArray, HFV.out i hi', List.getElem_replicate]⟩⟩
      go_wp2_with fail
      go_ret
      exact ⟨g, rfl, Fr.ofBelow HBLW.out, HSL.out⟩

set_option maxRecDepth 100000 in
set_option maxHeartbeats 400000 in
theorem spans_any (w : World) : Calls Try.prog 62 #[] w fun e w' => ∃ g, e = .returned (.slice (some ⟨g, 0, none⟩) 32 32) ∧ Fr S0 w w' ∧ SlI w' .u8 (some ⟨g, 0, none⟩) (List.replicate 32 5) := by
  have HR := Lib.hid (repeat_any 5 32 w.heap.size (w.alloc (.cells #[.int .u8 5] 5)) ((cell_of_row _ _ 0 _ _ _ (heap_alloc_new w _)).trans rfl) (by decide) (by decide))
  have HF := Lib.hid (Fr.alloc S0 w (.cells #[.int .u8 5] 5))
  go_enter Try.func62, Try.ntmps62
  go_wp2_with fail
  refine HR.out.mono ?_
  rintro e w1 ⟨g, rfl, f1, hs⟩
  have HS := Lib.hid hs
  have HF1 := Lib.hid (HF.out.trans0 f1)
  clear hs f1 HR
  go_wp2_with fail
  go_ret
  exact ⟨g, rfl, HF1.out, HS.out⟩
end Go.Proofs.Ytfibhgohenkfbaa
