/- The document's answer of layer 16: the key that is counted most often. -/
import Derived.Test.YtegdhggilaehdaaWkTab
import Derived.BigQuiet
namespace Go.Proofs.Ytegdhggilaehdaa
open Go.RowKit

set_option maxRecDepth 100000 in
set_option maxHeartbeats 2000000 in
theorem rmost_any (p : Option Addr) (n c : Nat) (x : Pr) (t : List Pr) (w : World) (h : PrI w p (x :: t)) (hn : (x :: t).length = n) :
    Calls Try.prog 24 #[.slice p n c] w fun e w' => e = .returned (.tuple #[.int .i64 (mst x t).1, .int .u64 ((mst x t).2 : Nat)]) ∧ Fr S0 w w' := by
  have H := Lib.hid h
  have HN : Hid (t.length + 1 = n) := Lib.hid hn
  have hlen := h.len
  rw [hn] at hlen
  unfold maxLen at hlen
  obtain ⟨b, o, rfl, k0, k1⟩ := h.at 0 (by simp)
  simp only [List.getElem_cons_zero, Nat.zero_mul, Nat.add_zero] at k0 k1
  have hn0 : (0 : Int) < (n : Int) := by have := HN.out; omega
  have HX : Hid (Fr S0 w (w.alloc (.cells #[.int .i64 x.1, .int .u64 (x.2 : Nat)] 58))) := Lib.hid (Fr.alloc _ _ _)
  have HB : Hid ((w.alloc (.cells #[.int .i64 x.1, .int .u64 (x.2 : Nat)] 58)).heap[w.heap.size]? = some (.cells #[.int .i64 x.1, .int .u64 (x.2 : Nat)] 58 (0, 0))) := Lib.hid (heap_alloc_new w _)
  obtain ⟨X0, hX0⟩ : ∃ X0, x.1 = X0 := ⟨_, rfl⟩
  obtain ⟨X1, hX1⟩ : ∃ X1, x.2 = X1 := ⟨_, rfl⟩
  have HX0 := Lib.hid hX0
  have HX1 := Lib.hid hX1
  rw [hX0] at k0 HX HB
  rw [hX1] at k1 HX HB
  obtain ⟨g, hg⟩ : ∃ g, w.heap.size = g := ⟨_, rfl⟩
  have HG : Hid (w.heap.size ≤ g) := Lib.hid (by omega)
  rw [hg] at HB
  clear h hn hX0 hX1
  go_enter Try.func24, Try.ntmps24
  go_wp2_with fail
  clear hg
  generalize w.alloc (.cells #[.int .i64 X0, .int .u64 (X1 : Int)] 58) = w1 at HX HB ⊢
  clear k0 k1
  go_loopw [5] (fun i wr => ∃ (j : Nat) (bk : Int) (bn : Nat), j + 1 ≤ n ∧ i = .int .i64 ((j : Int) + 1) ∧ Hid (mst x (t.take j) = (bk, bn)) ∧ Hid (wr.heap[g]? = some (.cells #[.int .i64 bk, .int .u64 (bn : Nat)] 58 (0, 0))) ∧ Hid (Fr S0 w wr)) (fun i _ => n - (intOf i).toNat)
  case atStart => exact ⟨0, X0, X1, by omega, rfl, Lib.hid (by rw [← HX0.out, ← HX1.out]; rfl), HB, HX⟩
  case round =>
    obtain ⟨j, bk, bn, hj, rfl, hm, hb, hfr⟩ := hrel
    have y0 : wr.cell? ⟨g, 0, none⟩ = some (.int .i64 bk) := by simp [World.cell?, hb.out]
    have y1 : wr.cell? ⟨g, 1, none⟩ = some (.int .u64 (bn : Nat)) := by simp [World.cell?, hb.out]
    by_cases hjn : (j : Int) + 1 < (n : Int)
    · have hjt : j < t.length := by have := HN.out; omega
      obtain ⟨b2, o2, hp2, k0, k1⟩ := (H.out.fr0 hfr.out).at (j + 1) (by rw [List.length_cons]; omega)
      obtain ⟨rfl, rfl⟩ : b = b2 ∧ o = o2 := by simpa using hp2
      simp only [List.getElem_cons_succ] at k0 k1
      have hs : mst x (t.take (j + 1)) = if (mst x (t.take j)).2 < t[j].2 then t[j] else mst x (t.take j) := by
        rw [List.take_succ_eq_append_getElem hjt, mst_snoc]
      obtain ⟨⟨tk, tn⟩, htj⟩ : ∃ y, t[j] = y := ⟨_, rfl⟩
      rw [htj, hm.out] at hs
      rw [htj] at k0 k1
      simp only at k0 k1 hs
      obtain ⟨J, hJ⟩ : ∃ J, j + 1 = J := ⟨_, rfl⟩
      have eJ : (j : Int) + 1 = (J : Int) := by omega
      rw [hJ] at k0 k1
      rw [eJ]
      rw [eJ] at hjn
      by_cases hlt : bn < tn
      · have hd : decide (bn < tn) = true := decide_eq_true hlt
        have HS : Hid (mst x (t.take J) = (tk, tn)) := Lib.hid (by rw [← hJ, hs, if_pos hlt])
        have HBB := Lib.hid hb.out
        clear hs hlt hm htj hjt hp2 hb
        go_wp2_with fail
        go_quiet (fail)
        have HB3 : Hid ((wr.drewN nq).heap[g]? = some (.cells #[.int .i64 bk, .int .u64 (bn : Nat)] 58 (0, 0))) := Lib.hid HBB.out
        have HF3 : Hid (Fr S0 w (wr.drewN nq)) := Lib.hid (hfr.out.trans0 (Fr.drewN _ _ _))
        have k0' : (wr.drewN nq).cell? ⟨b, o + J * 2, none⟩ = some (.int .i64 tk) := k0
        have k1' : (wr.drewN nq).cell? ⟨b, o + J * 2 + 1, none⟩ = some (.int .u64 (tn : Nat)) := k1
        generalize hW : wr.drewN nq = w3 at HB3 HF3 k0' k1' ⊢
        clear hW k0 k1 y0 y1
        have c0 : w3.cell? ⟨g, 0, none⟩ = some (.int .i64 bk) := by simp [World.cell?, HB3.out]
        have z0 : w3.frozen? ⟨g, 0, none⟩ = false := by simp [World.frozen?, HB3.out]
        have b4 : (w3.setCell ⟨g, 0, none⟩ (.int .i64 tk)).heap[g]? = some (.cells #[.int .i64 tk, .int .u64 (bn : Nat)] 58 (0, 0)) := heap_setCell_same w3 g 0 _ _ _ HB3.out
        have HB4 := Lib.hid b4
        have c1 : (w3.setCell ⟨g, 0, none⟩ (.int .i64 tk)).cell? ⟨g, 1, none⟩ = some (.int .u64 (bn : Nat)) := by simp [World.cell?, b4]
        have z1 : (w3.setCell ⟨g, 0, none⟩ (.int .i64 tk)).frozen? ⟨g, 1, none⟩ = false := by simp [World.frozen?, b4]
        clear b4
        go_wp2_with fail
        go_roundw
        case rel => exact ⟨J, tk, tn, by omega, by go_num, HS, Lib.hid (heap_setCell_same _ g 1 _ _ _ HB4.out), Lib.hid ((HF3.out.trans (Fr.setCell (· = g) w3 ⟨g, 0, none⟩ _ rfl) fun k hk e => by have := HG.out; omega).trans (Fr.setCell (· = g) _ ⟨g, 1, none⟩ _ rfl) fun k hk e => by have := HG.out; omega)⟩
        case measure => simp [intOf]; omega
      · have hd : decide (bn < tn) = false := decide_eq_false hlt
        have HS : Hid (mst x (t.take J) = (bk, bn)) := Lib.hid (by rw [← hJ, hs, if_neg hlt])
        have HBB := Lib.hid hb.out
        clear hs hlt hm htj hjt hp2 hb
        go_wp2_with fail
        go_quiet (fail)
        go_wp2_with fail
        go_roundw
        case rel => exact ⟨J, bk, bn, by omega, by go_num, HS, Lib.hid HBB.out, Lib.hid (hfr.out.trans0 (Fr.drewN _ _ _))⟩
        case measure => simp [intOf]; omega
    · have HE : Hid (mst x t = (bk, bn)) := Lib.hid (by rw [← hm.out, show j = t.length by have := HN.out; omega, List.take_length])
      clear hm hb
      go_wp2_with fail
      go_quiet (fail)
      go_wp2_with fail
      go_ret2
      exact ⟨by rw [HE.out]; rfl, hfr.out.trans0 (Fr.drewN _ _ _)⟩
end Go.Proofs.Ytegdhggilaehdaa
