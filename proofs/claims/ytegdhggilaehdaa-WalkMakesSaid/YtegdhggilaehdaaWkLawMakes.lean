/- The law on making tables. -/
import Derived.Test.YtegdhggilaehdaaWkAlive
import Derived.Test.YtegdhggilaehdaaWkRef
namespace Go.Proofs.Ytegdhggilaehdaa
open Go.RowKit

set_option maxRecDepth 100000 in
set_option maxHeartbeats 2000000 in
theorem law_makes (p : Option Addr) (n c : Nat) (l : List Pr) (w : World) (h : PrI w p l) (hn : l.length = n) (h64 : ∀ x ∈ l, x.2 < 18446744073709551616) :
    Calls Try.prog 3 #[.slice p n c] w fun e w' => e = .returned (.bool true) ∧ Fr S0 w w' := by
  have hlen := h.len
  rw [hn] at hlen
  unfold maxLen at hlen
  have HA := Lib.hid (alive_any w)
  by_cases h5 : n ≤ 500
  · have hd : decide (500 < (n : Int)) = false := decide_eq_false (by omega)
    have HN := Lib.hid (fun W (f : Fr S0 w W) => new_any p n c l W (h.fr0 f) hn (by omega) h64)
    have HR := Lib.hid (fun W (f : Fr S0 w W) => right_any p n c l W (h.fr0 f) hn)
    have HT := Lib.hid (fun W (f : Fr S0 w W) (ht : ltot l < 18446744073709551616) => rtotal_any p n c l W (h.fr0 f) hn ht)
    have HLN := Lib.hid hn
    clear h hn h64 h5
    go_enter Try.func3, Try.ntmps3
    go_wp2_with fail
    refine HA.out.mono ?_
    rintro e w1 ⟨rfl, f1⟩
    have HF1 := Lib.hid f1
    clear f1 HA
    go_wp2_with fail
    refine (HN.out _ HF1.out).mono ?_
    rintro e w2 ⟨f2, ⟨hok, g, rfl, ht, -⟩ | ⟨hno, rfl⟩⟩
    · have HF2 := Lib.hid (HF1.out.trans0 f2)
      have HOK := Lib.hid hok
      have HTB := Lib.hid ht
      clear f2 hok ht HN
      go_wp2_with fail
      refine (HR.out _ HF2.out).mono ?_
      rintro e w3 ⟨f3, ⟨-, rfl⟩ | ⟨hno, rfl⟩⟩
      · have HF3 := Lib.hid (HF2.out.trans0 f3)
        have H1 := Lib.hid (total_any g l w3 (HTB.out.fr0 f3))
        have H2 := Lib.hid (HT.out w3 HF3.out (by have := HOK.out.tot; omega))
        have H3 := Lib.hid (fun W (f : Fr S0 w3 W) => len_any g l W (HTB.out.fr0 (f3.trans0 f)))
        rw [HLN.out] at H3
        obtain ⟨T, hT⟩ : ∃ T, ltot l = T := ⟨_, rfl⟩
        rw [hT] at H1 H2
        clear f3 hT
        go_wp2_with fail
        refine H1.out.mono ?_
        rintro e w4 ⟨rfl, rfl⟩
        go_wp2_with fail
        refine H2.out.mono ?_
        rintro e w5 ⟨rfl, f5⟩
        have H3' := Lib.hid (H3.out _ f5)
        have HF5 := Lib.hid (HF3.out.trans0 f5)
        clear f5
        go_wp2_with fail
        refine H3'.out.mono ?_
        rintro e w6 ⟨rfl, rfl⟩
        go_wp2_with fail
        go_ret
        exact ⟨by simp, HF5.out⟩
      · exact absurd HOK.out hno
    · have HF2 := Lib.hid (HF1.out.trans0 f2)
      have HNO := Lib.hid hno
      clear f2 hno HN
      go_wp2_with fail
      refine (HR.out _ HF2.out).mono ?_
      rintro e w3 ⟨f3, ⟨hok, rfl⟩ | ⟨-, rfl⟩⟩
      · exact absurd hok HNO.out
      · have HF3 := Lib.hid (HF2.out.trans0 f3)
        clear f3
        go_wp2_with fail
        go_ret
        exact ⟨rfl, HF3.out⟩
  · have hd : decide (500 < (n : Int)) = true := decide_eq_true (by omega)
    clear h hn h64 h5
    go_enter Try.func3, Try.ntmps3
    go_wp2_with fail
    refine HA.out.mono ?_
    rintro e w1 ⟨rfl, f1⟩
    go_wp2_with fail
    go_ret
    exact ⟨rfl, f1⟩
end Go.Proofs.Ytegdhggilaehdaa
