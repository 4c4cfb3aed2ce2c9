/- The document's example of layer 16. -/
import Derived.Test.YtegdhggilaehdaaWkNew
import Derived.Test.YtegdhggilaehdaaWkPart
import Derived.Test.YtegdhggilaehdaaWkMost
namespace Go.Proofs.Ytegdhggilaehdaa
open Go.RowKit

def ex : List Pr := [(1, 2), (5, 1), (9, 3)]
theorem ex_tb : Tb ex := ⟨by unfold Srt ex; simp, by unfold Pos ex; simp, by decide⟩
theorem ex_pri (w : World) : PrI (w.alloc (.cells #[.int .i64 1, .int .u64 2, .int .i64 5, .int .u64 1, .int .i64 9, .int .u64 3] 58)) (some ⟨w.heap.size, 0, none⟩) ex := by
  have hb := heap_alloc_new w (.cells #[.int .i64 1, .int .u64 2, .int .i64 5, .int .u64 1, .int .i64 9, .int .u64 3] 58)
  refine ⟨by decide, fun _ => ⟨w.heap.size, 0, rfl, fun i hi => ?_⟩⟩
  have hi3 : i < 3 := hi
  rcases (by omega : i = 0 ∨ i = 1 ∨ i = 2) with rfl | rfl | rfl
  · exact ⟨by rw [World.cell?, hb]; rfl, by rw [World.cell?, hb]; rfl⟩
  · exact ⟨by rw [World.cell?, hb]; rfl, by rw [World.cell?, hb]; rfl⟩
  · exact ⟨by rw [World.cell?, hb]; rfl, by rw [World.cell?, hb]; rfl⟩

section
variable (g : Nat) (W : World) (s : TabIs W g ex)
include s
theorem ex_key : Calls Try.prog 15 #[.pointer (some ⟨g, 0, none⟩), .int .u64 3] W fun e w' => e = .returned (.tuple #[.int .i64 5, .int .i64 0]) ∧ Fr S0 W w' := by
  have := key_in g 3 ex W s (by decide) (by decide)
  rw [show keyW ex 3 = 5 by decide] at this
  exact this
theorem ex_part : Calls Try.prog 19 #[.pointer (some ⟨g, 0, none⟩), .int .u64 1, .int .u64 2] W fun e w' => e = .returned (.tuple #[.int .i64 5, .int .i64 0]) ∧ Fr S0 W w' := by
  have := part_any g ex W 1 2 s (by decide)
  rw [show partV ex 1 2 = 5 by decide, show rkE 1 2 (ltot ex) = 0 by decide] at this
  exact this
theorem ex_share : Calls Try.prog 22 #[.pointer (some ⟨g, 0, none⟩), .int .i64 5] W fun e w' => e = .returned (.tuple #[.int .u64 1, .int .u64 2, .int .i64 0]) ∧ Fr S0 W w' := by
  have := share_yes g ex W 5 s (by decide)
  rw [show upt ex 5 = 3 by decide, show ltot ex = 6 by decide, show 3 / Nat.gcd 3 6 = 1 by decide, show 6 / Nat.gcd 3 6 = 2 by decide] at this
  exact this
theorem ex_most : Calls Try.prog 23 #[.pointer (some ⟨g, 0, none⟩)] W fun e w' => e = .returned (.tuple #[.int .i64 9, .int .u64 3, .int .i64 0]) ∧ Fr S0 W w' :=
  most_yes g (1, 2) [(5, 1), (9, 3)] W s
theorem ex_parts : Calls Try.prog 26 #[.pointer (some ⟨g, 0, none⟩), .int .i64 2] W fun e w' => ∃ v, e = .returned (.tuple #[v, .int .i64 0]) ∧ KsN W w' v [5] := by
  have := parts_yes g ex W 1 2 s (by decide) (by decide) rfl
  rw [show (cutR 1 2 (ltot ex)).map (keyW ex) = [5] by decide] at this
  exact this
end

set_option maxRecDepth 100000 in
set_option maxHeartbeats 1000000 in
theorem alive_any (w : World) : Calls Try.prog 8 #[] w fun e w' => e = .returned (.bool true) ∧ Fr S0 w w' := by
  have HF0 : Hid (Fr S0 w (w.alloc (.cells #[.int .i64 1, .int .u64 2, .int .i64 5, .int .u64 1, .int .i64 9, .int .u64 3] 58))) := Lib.hid (Fr.alloc _ _ _)
  have HN := Lib.hid (new_any _ 3 3 ex _ (ex_pri w) rfl (by decide) (by unfold ex; simp))
  go_enter Try.func8, Try.ntmps8
  go_wp2_with fail
  refine HN.out.mono ?_
  rintro e w1 ⟨f1, ⟨-, g, rfl, ht, -⟩ | ⟨hno, -⟩⟩
  · have HT := Lib.hid ht
    have HF1 := Lib.hid (HF0.out.trans0 f1)
    clear f1 ht
    go_wp2_with fail
    refine (ex_key g w1 HT.out).mono ?_
    rintro e w2 ⟨rfl, f2⟩
    have HT2 := Lib.hid (HT.out.fr0 f2)
    have HF2 := Lib.hid (HF1.out.trans0 f2)
    clear f2 HF1 HT
    go_wp2_with fail
    refine (ex_part g w2 HT2.out).mono ?_
    rintro e w3 ⟨rfl, f3⟩
    have HT3 := Lib.hid (HT2.out.fr0 f3)
    have HF3 := Lib.hid (HF2.out.trans0 f3)
    clear f3 HF2 HT2
    go_wp2_with fail
    refine (ex_share g w3 HT3.out).mono ?_
    rintro e w4 ⟨rfl, f4⟩
    have HT4 := Lib.hid (HT3.out.fr0 f4)
    have HF4 := Lib.hid (HF3.out.trans0 f4)
    clear f4 HF3 HT3
    go_wp2_with fail
    refine (ex_most g w4 HT4.out).mono ?_
    rintro e w5 ⟨rfl, f5⟩
    have HT5 := Lib.hid (HT4.out.fr0 f5)
    have HF5 := Lib.hid (HF4.out.trans0 f5)
    clear f5 HF4 HT4
    go_wp2_with fail
    refine (ex_parts g w5 HT5.out).mono ?_
    rintro e w6 ⟨v, rfl, q, c, rfl, hk, f6⟩
    have HF6 := Lib.hid (HF5.out.trans0 f6)
    obtain ⟨b, o, rfl, k0⟩ := hk.at 0 (by decide)
    have k0 : w6.cell? ⟨b, o, none⟩ = some (.int .i64 5) := k0
    dsimp only [List.length_cons, List.length_nil]
    clear f6 HF5 HT5 hk HN HF0
    go_wp2_with fail
    go_ret
    exact ⟨rfl, HF6.out⟩
  · exact absurd ex_tb hno
theorem start (w : World) (R) (h : ∀ w1, Fr S0 w w1 → R (.returned (.bool true)) w1) : Calls Try.prog 8 #[] w R :=
  (alive_any w).mono fun e w1 he => by rw [he.1]; exact h w1 he.2
end Go.Proofs.Ytegdhggilaehdaa
