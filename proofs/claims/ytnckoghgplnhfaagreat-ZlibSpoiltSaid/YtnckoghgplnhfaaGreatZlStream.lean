/- An opening goes through the stream, and through the sum. -/
import Derived.Test.YtnckoghgplnhfaaGreatZlNext
import Derived.Laws.Cover3
namespace Go.Proofs.YtnckoghgplnhfaaGreat
open Go.RowKit

def StreamEnds (w : World) (g B n c : Nat) (l : List Nat) (x : Res (List Nat)) (e : Ending) (w' : World) : Prop :=
  Fr (· = g) w w' ∧ match x with
  | .ok T k => ∃ v, e = .returned v ∧ RowNew w w' v T ∧ ∃ o', OpnIs w' g B o' (n - upN k / 8) (c - upN k / 8) (l.drop (upN k / 8))
  | .no m => e = Ending.panicked (zch m)

set_option maxRecDepth 100000 in
set_option maxHeartbeats 1000000 in
theorem stream_any {g B o n c : Nat} {l : List Nat} (lim : Nat) (w : World) (h : OpnIs w g B o n c l) (h8 : ∀ x ∈ l, x < 256) (hL : n ≤ 1000000) (hl : lim ≤ 1048576) :
    Calls Tryz.prog 23 #[.pointer (some ⟨g, 0, none⟩), .int .i64 (lim : Nat)] w (StreamEnds w g B n c l (infl l lim)) := by
  have hcap := h.cap
  unfold maxLen at hcap
  have HR : Hid (Calls Tryz.prog 40 #[.slice (some ⟨B, o, none⟩) n c, .int .i64 (lim : Nat)] w (ReadEnds (infl l lim) w)) := Lib.hid (by
    have k := read_ok (some ⟨B, o, none⟩) c l lim w h.sl h8 (fun e => by cases e) (by rw [h.len]; omega) hl
    rw [h.len] at k
    exact k)
  have H := Lib.hid h
  have c0 := h.c0
  have HU : Hid (∀ T k, infl l lim = .ok T k → upN k / 8 ≤ n) := Lib.hid fun T k e => by
    have := (infl_behind e).1
    rw [h.len] at this
    unfold upN
    omega
  have HZ : Hid (∀ m, infl l lim = .no m → m ≠ 0) := Lib.hid fun m e => infl_nz l lim m e
  clear h h8 hl hcap hL
  generalize infl l lim = R at HR HU HZ ⊢
  cases R with
  | no m =>
    have h0 : ((m : Int) == 0) = false := by rw [beq_eq_false_iff_ne]; have := HZ.out m rfl; omega
    clear HU HZ
    go_enter Tryz.func23, Tryz.ntmps23
    go_wp2_with fail
    refine HR.out.mono ?_
    rintro e w1 ⟨f1, rfl⟩
    have F1 := Lib.hid f1
    clear f1 HR c0
    go_wp2_with fail
    refine (zdemand_no m w1).mono ?_
    rintro e w2 ⟨rfl, rfl⟩
    exact ⟨rfl, F1.out.mono (fun _ _ h => h.elim), rfl⟩
  | ok T k =>
    obtain ⟨U, hU⟩ : ∃ U, upN k / 8 = U := ⟨_, rfl⟩
    have hUn := HU.out T k rfl
    have HUU := Lib.hid hU
    rw [hU] at hUn
    clear HU HZ hU
    go_enter Tryz.func23, Tryz.ntmps23
    go_wp2_with fail
    refine HR.out.mono ?_
    rintro e w1 ⟨f1, v, rfl, hv⟩
    have F1 := Lib.hid f1
    have V1 := Lib.hid hv
    have K := Lib.hid (next_yes U w1 (H.out.fr0 f1) hUn)
    rw [HUU.out]
    clear f1 HR c0 hv hUn
    go_wp2_with fail
    refine (zdemand_yes 0 w1).mono ?_
    rintro e w2 ⟨rfl, rfl⟩
    go_wp2_with fail
    refine K.out.mono ?_
    rintro e w3 ⟨rfl, f3, o', k3⟩
    have F3 := Lib.hid f3
    have K3 := Lib.hid k3
    clear f3 k3 K
    go_wp2_with fail
    go_ret
    refine ⟨F1.out.mono (fun _ _ h => h.elim) |>.trans F3.out (fun _ _ e => e), v, rfl, ⟨F3.out.owns V1.out.own (fun j hj e => ?_), V1.out.fresh⟩, o', by rw [HUU.out]; exact K3.out⟩
    have a := V1.out.fresh j hj
    have b := (Array.getElem?_eq_some_iff.1 H.out.blk).1
    omega
end Go.Proofs.YtnckoghgplnhfaaGreat
