/- The document's examples of layer 2. -/
import Derived.Test.YtbffdgeocacigaaCrcSpec
namespace Go.Proofs.Ytbffdgeocacigaa
open Go.RowKit

set_option maxRecDepth 100000 in
set_option maxHeartbeats 4000000 in
theorem alive_any (C : CrcCode) (w : World) : Calls Try.prog 8 #[] w fun e w' => e = .returned (.bool true) ∧ Fr S0 w w' := by
  have e1 : sum [49, 50, 51, 52, 53, 54, 55, 56, 57] = 3421780262 := by kernel_rfl
  have e2 : shift (sum [49, 50, 51, 52]) 5 ^^^ sum [53, 54, 55, 56, 57] = 3421780262 := by kernel_rfl
  have e3 : shift 1 1 = 1996959894 := by kernel_rfl
  have E1 := Lib.hid e1
  have E2 := Lib.hid e2
  have E3 := Lib.hid e3
  clear e1 e2 e3
  go_enter Try.func8, Try.ntmps8
  go_wp2_with fail
  refine (C.new_ _).mono ?_
  rintro e w1 ⟨b, rfl, f1, t1⟩
  have kb := constB
  go_wp2_with fail
  refine (C.sum_ b _ 9 [49, 50, 51, 52, 53, 54, 55, 56, 57] _ (t1.fr (Fr.alloc _ _ _)) (SlI.new w1 _ _ _ _ _ rfl (by decide)) (by decide)).mono ?_
  rintro e w2 ⟨rfl, f2⟩
  rw [E1.out]
  have g2 : Fr S0 w1 w2 := (Fr.alloc _ _ _).trans0 f2
  have t2 := t1.fr g2
  clear f2
  go_wp2_with fail
  refine (C.sum_ b _ 4 [49, 50, 51, 52] _ (t2.fr (Fr.alloc _ _ _)) (SlI.new w2 _ _ _ _ _ rfl (by decide)) (by decide)).mono ?_
  rintro e w3 ⟨rfl, f3⟩
  have g3 : Fr S0 w1 w3 := g2.trans0 ((Fr.alloc _ _ _).trans0 f3)
  have t3 := t1.fr g3
  clear f3 g2 t2
  have A1 := Lib.hid (more_lt 0 [49, 50, 51, 52])
  have A2 := Lib.hid (more_lt 0 [53, 54, 55, 56, 57])
  obtain ⟨a, ha⟩ : ∃ a, sum [49, 50, 51, 52] = a := ⟨_, rfl⟩
  obtain ⟨a2, ha2⟩ : ∃ a, sum [53, 54, 55, 56, 57] = a := ⟨_, rfl⟩
  rw [show more 0 [49, 50, 51, 52] = a from ha] at A1
  rw [show more 0 [53, 54, 55, 56, 57] = a2 from ha2] at A2
  rw [ha, ha2] at E2
  rw [ha]
  have HA2 := Lib.hid ha2
  clear ha ha2
  go_wp2_with fail
  refine (C.sum_ b _ 5 [53, 54, 55, 56, 57] _ (t3.fr (Fr.alloc _ _ _)) (SlI.new w3 _ _ _ _ _ rfl (by decide)) (by decide)).mono ?_
  rintro e w4 ⟨rfl, f4⟩
  rw [HA2.out]
  have g4 : Fr S0 w1 w4 := g3.trans0 ((Fr.alloc _ _ _).trans0 f4)
  clear f4 g3
  go_wp2_with fail
  refine (C.join_ a a2 5 _ A1.out A2.out (by decide) (by decide)).mono ?_
  rintro e w5 ⟨rfl, f5⟩
  rw [show (5 : Int).toNat = 5 from rfl, E2.out]
  have g5 := g4.trans0 f5
  clear f5 g4
  go_wp2_with fail
  refine (C.shift_ 1 1 _ (by decide) (by decide) (by decide)).mono ?_
  rintro e w6 ⟨rfl, f6⟩
  rw [show (1 : Int).toNat = 1 from rfl, E3.out]
  have g6 := f1.trans0 (g5.trans0 f6)
  clear f6 g5
  go_wp2
  go_ret
  exact ⟨rfl, g6⟩
end Go.Proofs.Ytbffdgeocacigaa
