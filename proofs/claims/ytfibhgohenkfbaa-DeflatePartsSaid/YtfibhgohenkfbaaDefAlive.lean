/- The document's examples. -/
import Derived.Test.YtfibhgohenkfbaaDefFixed
namespace Go.Proofs.Ytfibhgohenkfbaa
open Go.RowKit

theorem tk97 : M.toks [97] 0 = [(97, 0, 0)] := by
  have t0 : M.tok [97] 0 = (97, 0, 0) := by decide
  rw [M.toks_in _ 0 (by decide), t0, show 0 + M.wid (97, 0, 0) = 1 from rfl, M.toks_out _ 1 (by decide)]
theorem tk0 : M.toks [] 0 = [] := M.toks_out _ 0 (by decide)
theorem ex_fixed : fxd [97] = [75, 4, 0] := by
  unfold fxd fxB
  rw [tk97]
  decide +kernel
theorem ex_none : fxd [] = [3, 0] := by
  unfold fxd fxB
  rw [tk0]
  decide +kernel
theorem ex_stored : sto [97] = [1, 1, 0, 254, 255, 97] := by rw [sto_last (by decide)]; decide
theorem ex_best : bst [] = [3, 0] := by
  unfold bst
  rw [ex_none, sto_last (by decide), if_neg (by decide)]
theorem ex_length (W : World) : Calls Try.prog 16 #[.int .i64 11] W fun e w' => e = .returned (.tuple #[.int .i64 265, .int .i64 1, .int .i64 0]) ∧ Fr S0 W w' := by
  have h := length_yes 11 W (by decide) (by decide)
  rw [show lenS 11 = 265 by decide +kernel, show baseC 265 = 1 by decide, show 11 - baseN 265 = 0 by decide] at h
  exact h
theorem ex_span (W : World) : Calls Try.prog 18 #[.int .i64 7] W fun e w' => e = .returned (.tuple #[.int .i64 5, .int .i64 1, .int .i64 0]) ∧ Fr S0 W w' := by
  have h := span_yes 7 W (by decide) (by decide)
  rw [show spnS 7 = 5 by decide +kernel, show farC 5 = 1 by decide, show 7 - farN 5 = 0 by decide] at h
  exact h
/-- what a call tells reads as a text -/
theorem tells_text {w w' : World} {v : Value} {l : List Nat} (h : RowNew w w' v l) : ∃ q c, v = .slice q l.length c ∧ (convert 22 9 v).run Try.prog w' = .ok (.string (strB l)) w' := by
  obtain ⟨q, c, rfl, -, -, -⟩ := slForm h.own
  exact ⟨q, c, rfl, conv_own h.own⟩
theorem str1 : strB [75, 4, 0] = ⟨#[75, 4, 0]⟩ := by decide
theorem str2 : strB [1, 1, 0, 254, 255, 97] = ⟨#[1, 1, 0, 254, 255, 97]⟩ := by decide
theorem str3 : strB [3, 0] = ⟨#[3, 0]⟩ := by decide

set_option maxRecDepth 100000 in
set_option maxHeartbeats 2000000 in
theorem alive8_any (w : World) : Calls Try.prog 7 #[] w fun e w' => e = .returned (.bool true) ∧ Fr S0 w w' := by
  have kb := constB
  have RL := Lib.hid ex_length
  have RS := Lib.hid ex_span
  have R1 : Hid (∀ W, Calls Try.prog 9 #[.slice (some ⟨W.heap.size, 0, none⟩) 1 1] (W.alloc (.cells #[.int .u8 97] 5 (1, 2))) fun e w' => ∃ q c, e = .returned (.slice q 3 c) ∧ Fr S0 W w' ∧ (convert 22 9 (.slice q 3 c)).run Try.prog w' = .ok (.string ⟨#[75, 4, 0]⟩) w') := Lib.hid fun W => by
    refine (fixed_text (some ⟨W.heap.size, 0, none⟩) 1 [97] _ (SlI.new W _ _ _ _ _ rfl (by decide)) (by decide) (by decide) (by decide)).mono ?_
    rintro e w' ⟨v, rfl, f, hv⟩
    rw [ex_fixed] at hv
    obtain ⟨q, c, rfl, k⟩ := tells_text hv
    rw [str1] at k
    exact ⟨q, c, rfl, (Fr.alloc S0 W _).trans0 f, k⟩
  have R2 : Hid (∀ W, Calls Try.prog 11 #[.slice (some ⟨W.heap.size, 0, none⟩) 1 1] (W.alloc (.cells #[.int .u8 97] 5 (1, 2))) fun e w' => ∃ q c, e = .returned (.slice q 6 c) ∧ Fr S0 W w' ∧ (convert 22 9 (.slice q 6 c)).run Try.prog w' = .ok (.string ⟨#[1, 1, 0, 254, 255, 97]⟩) w') := Lib.hid fun W => by
    refine (dsto_any (some ⟨W.heap.size, 0, none⟩) 1 [97] _ (SlI.new W _ _ _ _ _ rfl (by decide)) (by decide) (fun h => by cases h) (by decide) (by decide)).mono ?_
    rintro e w' ⟨v, rfl, f, hv⟩
    rw [ex_stored] at hv
    obtain ⟨q, c, rfl, k⟩ := tells_text hv
    rw [str2] at k
    exact ⟨q, c, rfl, (Fr.alloc S0 W _).trans0 f, k⟩
  have R3 : Hid (∀ W, Calls Try.prog 13 #[.slice none 0 0] W fun e w' => ∃ q c, e = .returned (.slice q 2 c) ∧ Fr S0 W w' ∧ (convert 22 9 (.slice q 2 c)).run Try.prog w' = .ok (.string ⟨#[3, 0]⟩) w') := Lib.hid fun W => by
    refine (best_any none 0 [] W (SlI.nil _ _ _) (by decide) (fun _ => rfl) (by decide) (by decide)).mono ?_
    rintro e w' ⟨v, rfl, f, hv⟩
    rw [ex_best] at hv
    obtain ⟨q, c, rfl, k⟩ := tells_text hv
    rw [str3] at k
    exact ⟨q, c, rfl, f, k⟩
  go_enter Try.func7, Try.ntmps7
  go_wp2_with fail
  refine (RL.out _).mono ?_
  rintro e w1 ⟨rfl, f1⟩
  go_wp2_with fail
  refine (RS.out _).mono ?_
  rintro e w2 ⟨rfl, f2⟩
  have F2 := Lib.hid (f1.trans0 f2)
  clear f1 f2
  go_wp2_with fail
  refine (R1.out w2).mono ?_
  rintro e w3 ⟨q3, c3, rfl, f3, k3⟩
  have F3 := Lib.hid (F2.out.trans0 f3)
  clear f3
  go_wp2_with fail
  refine (R2.out w3).mono ?_
  rintro e w4 ⟨q4, c4, rfl, f4, k4⟩
  have F4 := Lib.hid (F3.out.trans0 f4)
  clear f4 k3
  go_wp2_with fail
  refine (R3.out w4).mono ?_
  rintro e w5 ⟨q5, c5, rfl, f5, k5⟩
  have F5 := Lib.hid (F4.out.trans0 f5)
  clear f5 k4
  go_wp2_with fail
  go_ret
  exact ⟨rfl, F5.out⟩
theorem start8 (w : World) (R) (h : ∀ w1, Fr S0 w w1 → R (.returned (.bool true)) w1) : Calls Try.prog 7 #[] w R :=
  (alive8_any w).mono fun e w1 he => by rw [he.1]; exact h w1 he.2
end Go.Proofs.Ytfibhgohenkfbaa
