/- The law on sums of layer 2. -/
import Derived.Test.YtbffdgeocacigaaCrcAlive
namespace Go.Proofs.Ytbffdgeocacigaa
open Go.RowKit

theorem fits_sealed (l : List Nat) : fitsB (l ++ leB 4 (sum l)) = true := by
  have hlen : (l ++ leB 4 (sum l)).length - 4 = l.length := by rw [List.length_append, leB_length]; omega
  unfold fitsB
  rw [hlen, List.take_left, List.drop_left, val_leB 4 _ (show sum _ < 256 ^ 4 from more_lt _ _), List.length_append, leB_length]
  simp
theorem sealed_lt (l : List Nat) (hb : ∀ x ∈ l, x < 256) : ∀ x ∈ l ++ leB 4 (sum l), x < 256 := by
  intro x hx
  rcases List.mem_append.1 hx with h | h
  · exact hb x h
  · exact leB_lt _ _ x h

set_option maxRecDepth 100000 in
set_option maxHeartbeats 1000000 in
theorem law_sums (C : CrcCode) (c : Nat) (p : Option Addr) (d : Nat) (l : List Nat) (w : World) (hc : c < 4294967296) (hl : SlI w .u8 p l) (hb : ∀ x ∈ l, x < 256) (hp : p = none → d = 0) (hd : l.length ≤ d) (hd2 : d ≤ maxLen) :
    Calls Try.prog 3 #[.int .u32 c, .slice p l.length d] w fun e w' => e = .returned (.bool true) ∧ Fr S0 w w' := by
  have HB := Lib.hid hb
  have HC := Lib.hid hc
  have HP := Lib.hid hp
  have HD2 := Lib.hid hd2
  have HD := Lib.hid hd
  clear hb hc hp hd hd2
  have start : ∀ R, (∀ w1, Fr S0 w w1 → R (.returned (.bool true)) w1) → Calls Try.prog 8 #[] w R := fun R h => (alive_any C w).mono fun e w1 he => by rw [he.1]; exact h w1 he.2
  by_cases k1 : (20000 : Int) < (l.length : Int)
  · go_enter Try.func3, Try.ntmps3
    go_wp2_with (go_at_call 8; refine start _ ?_; intro w1 hf)
    go_ret
    exact ⟨rfl, hf⟩
  · go_enter Try.func3, Try.ntmps3
    go_wp2_with fail
    refine start _ ?_
    intro w1 f1
    go_wp2_with fail
    refine (C.new_ _).mono ?_
    rintro e w2 ⟨b, rfl, f2, t2⟩
    have g2 := f1.trans0 f2
    clear f1 f2
    go_wp2_with fail
    refine (C.sum_ b p d l _ t2 (hl.fr0 g2) HB.out).mono ?_
    rintro e w3 ⟨rfl, f3⟩
    have g3 := g2.trans0 f3
    have t3 := t2.fr f3
    clear f3 g2 t2
    go_wp2_with fail
    refine (rsum_any p d l _ (hl.fr0 g3) HB.out).mono ?_
    rintro e w' ⟨rfl, rfl⟩
    go_wp2_with fail
    refine (C.more_ b c p d l _ t3 HC.out (hl.fr0 g3) HB.out).mono ?_
    rintro e w4 ⟨rfl, f4⟩
    have g4 := g3.trans0 f4
    have t4 := t3.fr f4
    clear f4 g3 t3
    go_wp2_with fail
    refine (rmore_any c p d l _ HC.out (hl.fr0 g4) HB.out).mono ?_
    rintro e w' ⟨rfl, rfl⟩
    go_wp2_with fail
    refine (C.fits_ b p d l _ t4 (hl.fr0 g4) HB.out HD.out HD2.out).mono ?_
    rintro e w5 ⟨rfl, f5⟩
    have g5 := g4.trans0 f5
    have t5 := t4.fr f5
    clear f5 g4 t4
    go_wp2_with fail
    refine (rfits_any p d l _ (hl.fr0 g5) HB.out HD.out HD2.out).mono ?_
    rintro e w6 ⟨rfl, f6⟩
    have g6 := g5.trans0 f6
    have t6 := t5.fr f6
    clear f6 g5 t5
    go_wp2_with fail
    have hseal := rseal_any p d l _ (hl.fr0 g6) HB.out HP.out (by omega)
    have hlt := sealed_lt l HB.out
    have hfs := fits_sealed l
    obtain ⟨L, hL⟩ : ∃ L, l ++ leB 4 (sum l) = L := ⟨_, rfl⟩
    rw [hL] at hseal hlt hfs
    have HL := Lib.hid hlt
    have HFS := Lib.hid hfs
    clear hL hlt hfs
    refine hseal.mono ?_
    clear hseal
    rintro e w7 ⟨v, rfl, f7, own, -⟩
    obtain ⟨p7, c7, rfl, -, hc7, hm7⟩ := slForm own
    have g7 := g6.trans0 f7
    have t7 := t6.fr f7
    clear f7 g6 t6
    have HN := Lib.hid hc7
    have HM := Lib.hid hm7
    clear hc7 hm7
    have HF := Lib.hid (C.fits_ b p7 c7 L w7 t7 (SlI.ofOwns own) HL.out HN.out HM.out)
    go_wp2_with fail
    refine HF.out.mono ?_
    rintro e w8 ⟨rfl, f8⟩
    rw [HFS.out]
    have g8 := g7.trans0 f8
    clear f8 g7 t7
    go_wp2
    go_ret
    exact ⟨rfl, g8⟩
end Go.Proofs.Ytbffdgeocacigaa
