/- The law on joined sums of layer 2. -/
import Derived.Test.YtbffdgeocacigaaCrcLawSums
namespace Go.Proofs.Ytbffdgeocacigaa
open Go.RowKit

set_option maxRecDepth 100000 in
set_option maxHeartbeats 1000000 in
theorem law_joins (C : CrcCode) (p : Option Addr) (d : Nat) (l : List Nat) (p2 : Option Addr) (d2 : Nat) (m : List Nat) (w : World) (hl : SlI w .u8 p l) (hb : ∀ x ∈ l, x < 256) (hp : p = none → d = 0)
    (hl2 : SlI w .u8 p2 m) (hb2 : ∀ x ∈ m, x < 256) (hp2 : p2 = none → d2 = 0) :
    Calls Try.prog 4 #[.slice p l.length d, .slice p2 m.length d2] w fun e w' => e = .returned (.bool true) ∧ Fr S0 w w' := by
  have HB := Lib.hid hb
  have HP := Lib.hid hp
  have HB2 := Lib.hid hb2
  have HP2 := Lib.hid hp2
  clear hb hp hb2 hp2
  have start : ∀ R, (∀ w1, Fr S0 w w1 → R (.returned (.bool true)) w1) → Calls Try.prog 8 #[] w R := fun R h => (alive_any C w).mono fun e w1 he => by rw [he.1]; exact h w1 he.2
  by_cases k1 : (20000 : Int) < (l.length : Int)
  · go_enter Try.func4, Try.ntmps4
    go_wp2_with (go_at_call 8; refine start _ ?_; intro w1 hf)
    go_ret
    exact ⟨rfl, hf⟩
  · by_cases k2 : (20000 : Int) < (m.length : Int)
    · go_enter Try.func4, Try.ntmps4
      go_wp2_with (go_at_call 8; refine start _ ?_; intro w1 hf)
      go_ret
      exact ⟨rfl, hf⟩
    · have R1 : Hid (Room (0 + l.length)) := Lib.hid (Room.mk (by omega))
      have R2 : Hid (Room (l.length + m.length)) := Lib.hid (Room.mk (by omega))
      go_enter Try.func4, Try.ntmps4
      go_wp2_with fail
      refine start _ ?_
      intro w1 f1
      go_wp2_with fail
      refine (C.new_ _).mono ?_
      rintro e w2 ⟨b, rfl, f2, t2⟩
      have g2 := f1.trans0 f2
      clear f1 f2
      have s1 := SrcIs.ofSl ((hl.fr0 g2).fr0 (Fr.alloc S0 w2 (.cells #[] 5))) HP.out
      go_wp2_with (first
        | ((with_reducible show wpList _ _ _ (Oper.mk (some 21) _ _ _ _ _ :: _) _ _); refine app_many el8 (.tmp 19) (.tmp 20) (own_none w2 _) s1 (Nat.zero_add _) rfl rfl rfl rfl (ones _) (by rw [Nat.zero_add] at R1; exact R1.out) ?_; intro p4 c4 w4 own4 g4 at4; have h4 := fr_made (Fr.refl S0 w2) g4; have v4 := fresh_many (fresh_made (n := 0) (c := 0) (Fr.refl S0 w2)) (size_le (Fr.refl S0 w2)) at4; clear g4 at4)
        | ((with_reducible show wpList _ _ _ (Oper.mk (some 23) _ _ _ _ _ :: _) _ _); refine app_many el8 (.tmp 21) (.tmp 22) own4 (SrcIs.ofSl ((hl2.fr0 g2).fr0 h4) HP2.out) rfl rfl rfl rfl rfl (ones _) R2.out ?_; intro p5 c5 w5 own5 g5 at5; have h5 := h4.append g5 v4; clear g5 at5))
      have g5 := g2.trans0 h5
      have t5 := t2.fr h5
      have HAB : Hid (∀ x ∈ l ++ m, x < 256) := Lib.hid fun x hx => (List.mem_append.1 hx).elim (HB.out x) (HB2.out x)
      have hs := C.sum_ b p5 c5 (l ++ m) w5 t5 (SlI.ofOwns (by rw [List.map_append]; exact own5)) HAB.out
      rw [List.length_append] at hs
      have HS := Lib.hid hs
      have J := Lib.hid (join_sum l m HB.out HB2.out)
      have M := Lib.hid (more_append 0 l m (by decide) HB.out)
      have L1 : Hid (sum l < 4294967296) := Lib.hid (more_lt _ _)
      have L2 : Hid (sum m < 4294967296) := Lib.hid (more_lt _ _)
      clear hs own5 own4 h4 v4 h5 s1 t2 g2
      refine HS.out.mono ?_
      rintro e w6 ⟨rfl, f6⟩
      have g6 := g5.trans0 f6
      have t6 := t5.fr f6
      clear f6 g5 t5 HS
      go_wp2_with fail
      refine (C.sum_ b p d l _ t6 (hl.fr0 g6) HB.out).mono ?_
      rintro e w7 ⟨rfl, f7⟩
      have g7 := g6.trans0 f7
      have t7 := t6.fr f7
      clear f7 g6 t6
      go_wp2_with fail
      refine (C.sum_ b p2 d2 m _ t7 (hl2.fr0 g7) HB2.out).mono ?_
      rintro e w8 ⟨rfl, f8⟩
      have g8 := g7.trans0 f8
      have t8 := t7.fr f8
      clear f8 g7 t7
      go_wp2_with fail
      refine (C.join_ (sum l) (sum m) m.length _ L1.out L2.out (by omega) (by omega)).mono ?_
      rintro e w9 ⟨rfl, f9⟩
      rw [show ((m.length : Int)).toNat = m.length from rfl, J.out]
      have g9 := g8.trans0 f9
      have t9 := t8.fr f9
      clear f9 g8 t8
      go_wp2_with fail
      refine (C.sum_ b p d l _ t9 (hl.fr0 g9) HB.out).mono ?_
      rintro e w10 ⟨rfl, f10⟩
      have g10 := g9.trans0 f10
      have t10 := t9.fr f10
      clear f10 g9 t9
      go_wp2_with fail
      refine (C.more_ b (sum l) p2 d2 m _ t10 L1.out (hl2.fr0 g10) HB2.out).mono ?_
      rintro e w11 ⟨rfl, f11⟩
      rw [show more (sum l) m = sum (l ++ m) from M.out]
      have g11 := g10.trans0 f11
      clear f11 g10 t10
      go_wp2
      go_ret
      exact ⟨rfl, g11⟩
end Go.Proofs.Ytbffdgeocacigaa
