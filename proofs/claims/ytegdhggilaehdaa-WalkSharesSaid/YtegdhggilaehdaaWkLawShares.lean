/- The law on shares, and on what is counted most often. -/
import Derived.Test.YtegdhggilaehdaaWkAlive
import Derived.Test.YtegdhggilaehdaaWkRising
import Derived.Test.YtegdhggilaehdaaWkRefMost
import Derived.Test.YtegdhggilaehdaaWkAsk
namespace Go.Proofs.Ytegdhggilaehdaa
open Go.RowKit

set_option maxRecDepth 100000 in
set_option maxHeartbeats 4000000 in
theorem law_shares (p : Option Addr) (n c : Nat) (l : List Pr) (ask : Int) (w : World) (h : PrI w p l) (hn : l.length = n) (h64 : ∀ x ∈ l, x.2 < 18446744073709551616) :
    Calls Try.prog 5 #[.slice p n c, .int .i64 ask] w fun e w' => e = .returned (.bool true) ∧ Fr S0 w w' := by
  have HA := Lib.hid (alive_any w)
  have HRI := Lib.hid (fun W (f : Fr S0 w W) => rising_any p n c l W (h.fr0 f) hn h64)
  clear h hn h64
  go_enter Try.func5, Try.ntmps5
  go_wp2_with fail
  refine HA.out.mono ?_
  rintro e w1 ⟨rfl, f1⟩
  have HF1 := Lib.hid f1
  clear f1 HA
  go_wp2_with fail
  refine (HRI.out _ HF1.out).mono ?_
  rintro e w2 ⟨q, d, m, rfl, L, hr2⟩
  have HR2 := Lib.hid hr2
  have hm := hr2.small
  clear hr2 HRI
  have HN := Lib.hid (new_any q m d L w2 HR2.out.pri HR2.out.len (by omega) HR2.out.h64)
  go_wp2_with fail
  refine HN.out.mono ?_
  rintro e w3 ⟨f3, ⟨-, g, rfl, ht, -⟩ | ⟨hno, -⟩⟩
  case inr => exact absurd HR2.out.ok hno
  have HAS : Hid (Asked w3 g q m d L) := Lib.hid ⟨ht, HR2.out.pri.fr0 f3, HR2.out.len⟩
  have HF3 := Lib.hid ((HF1.out.trans0 HR2.out.fr).trans0 f3)
  clear f3 ht HN HF1 HR2
  cases L with
  | nil =>
    obtain rfl : m = 0 := HAS.out.len.symm
    have HSH := Lib.hid (share_none g w3 ask HAS.out.tab)
    have HMO := Lib.hid (fun W (f : Fr S0 w3 W) => most_none g W (HAS.out.tab.fr0 f))
    go_wp2_with fail
    refine HSH.out.mono ?_
    rintro e w4 ⟨rfl, f4⟩
    have G4 := Lib.hid f4
    clear f4
    go_wp2_with fail
    refine (HMO.out _ G4.out).mono ?_
    rintro e w5 ⟨rfl, f5⟩
    have G5 := Lib.hid (G4.out.trans0 f5)
    clear f5
    go_wp2_with fail
    go_ret
    exact ⟨rfl, HF3.out.trans0 G5.out⟩
  | cons x t =>
    have HSH := Lib.hid (share_yes g (x :: t) w3 ask HAS.out.tab (by simp))
    have HMO := Lib.hid (fun W (f : Fr S0 w3 W) => most_yes g x t W (HAS.out.tab.fr0 f))
    have HRM := Lib.hid (fun W (f : Fr S0 w3 W) => rmost_any q m d x t W (HAS.out.pri.fr0 f) HAS.out.len)
    have HT := Lib.hid (HAS.out.rtot)
    have HRU := Lib.hid (HAS.out.rupt ask)
    have ht64 := HAS.out.tab.ok.tot
    have htp : 0 < ltot (x :: t) := by have := (pos_cons.1 HAS.out.tab.ok.pos).1; rw [ltot]; omega
    have hul := upt_le (x :: t) ask
    have hm0 : 0 < m := by rw [← HAS.out.len]; simp
    have hmz : ((m : Int) == 0) = false := by rw [beq_eq_false_iff_ne]; omega
    have hgcd : 0 < Nat.gcd (upt (x :: t) ask) (ltot (x :: t)) := Nat.gcd_pos_of_pos_right _ htp
    have hap : Hid (∀ P, 2 ≤ P → upt (x :: t) ask / Nat.gcd (upt (x :: t) ask) (ltot (x :: t)) % P = 0 → ltot (x :: t) / Nat.gcd (upt (x :: t) ask) (ltot (x :: t)) % P = 0 → False) := Lib.hid fun P h1 h2 h3 => least_apart htp h1 h2 h3
    have hsame := least_same (a := upt (x :: t) ask) htp
    have hb1 : ltot (x :: t) / Nat.gcd (upt (x :: t) ask) (ltot (x :: t)) ≤ ltot (x :: t) := Nat.div_le_self _ _
    have hb2 : 0 < ltot (x :: t) / Nat.gcd (upt (x :: t) ask) (ltot (x :: t)) := Nat.div_pos (Nat.le_of_dvd htp (Nat.gcd_dvd_right _ _)) hgcd
    have hb3 : upt (x :: t) ask / Nat.gcd (upt (x :: t) ask) (ltot (x :: t)) ≤ upt (x :: t) ask := Nat.div_le_self _ _
    obtain ⟨A, hA⟩ : ∃ A, upt (x :: t) ask / Nat.gcd (upt (x :: t) ask) (ltot (x :: t)) = A := ⟨_, rfl⟩
    obtain ⟨B, hB⟩ : ∃ B, ltot (x :: t) / Nat.gcd (upt (x :: t) ask) (ltot (x :: t)) = B := ⟨_, rfl⟩
    rw [hA, hB] at HSH hap
    rw [hA] at hsame hb3
    rw [hB] at hsame hb1 hb2
    obtain ⟨U, hU⟩ : ∃ U, upt (x :: t) ask = U := ⟨_, rfl⟩
    obtain ⟨T, hT⟩ : ∃ T, ltot (x :: t) = T := ⟨_, rfl⟩
    rw [hU] at HRU hsame hul hb3
    rw [hT] at HT hsame ht64 htp hul hb1
    obtain ⟨MK, hMK⟩ : ∃ k, (mst x t).1 = k := ⟨_, rfl⟩
    obtain ⟨MN, hMN⟩ : ∃ k, (mst x t).2 = k := ⟨_, rfl⟩
    rw [hMK, hMN] at HMO HRM
    have HC := Lib.hid (fun W => rcmpf_any A B U T W (by omega) (by omega) (by omega) (by omega))
    have HCZ : Hid (cmpF A B U T = 0) := Lib.hid (by
      unfold cmpF cmpI
      rw [if_neg (by omega), hsame]
      simp)
    rw [HCZ.out] at HC
    have z1 : decide (T < B) = false := decide_eq_false (by omega)
    have z2 : ((B : Int) == 0) = false := by rw [beq_eq_false_iff_ne]; omega
    clear hA hB hU hT hMK hMN hgcd hsame hul hb1 hb2 hb3 ht64 htp hm0 HCZ
    go_wp2_with fail
    refine HSH.out.mono ?_
    rintro e w4 ⟨rfl, f4⟩
    have G4 := Lib.hid f4
    clear f4 HSH
    go_wp2_with fail
    refine (HMO.out _ G4.out).mono ?_
    rintro e w5 ⟨rfl, f5⟩
    have G5 := Lib.hid (G4.out.trans0 f5)
    clear f5 HMO G4
    go_wp2_with fail
    refine (HRM.out _ G5.out).mono ?_
    rintro e w6 ⟨rfl, f6⟩
    have G6 := Lib.hid (G5.out.trans0 f6)
    clear f6 HRM G5
    go_wp2_with fail
    refine (HT.out _ G6.out).mono ?_
    rintro e w7 ⟨rfl, f7⟩
    have G7 := Lib.hid (G6.out.trans0 f7)
    clear f7 HT G6
    go_wp2_with fail
    go_loopw [17] (fun i wr => ∃ P : Nat, 2 ≤ P ∧ P ≤ 50 ∧ i = .int .u64 P ∧ wr = w7) (fun i _ => 50 - (intOf i).toNat)
    case atStart => exact ⟨2, by omega, by omega, rfl, rfl⟩
    case round =>
      obtain ⟨P, hP1, hP2, rfl, hwr⟩ := hrel
      obtain rfl := hwr
      by_cases hlt : (P : Int) < 50
      · have hPne : (P : Int) ≠ 0 := by omega
        have hPp : (0 : Int) < (P : Int) := by omega
        obtain ⟨AP, hAP⟩ : ∃ y, A % P = y := ⟨_, rfl⟩
        obtain ⟨BP, hBP⟩ : ∃ y, B % P = y := ⟨_, rfl⟩
        have e1 : (A : Int) % (P : Int) = (AP : Int) := by omega
        have e2 : (B : Int) % (P : Int) = (BP : Int) := by omega
        have hnot : ¬ (AP = 0 ∧ BP = 0) := fun h => hap.out P hP1 (by omega) (by omega)
        clear hAP hBP
        by_cases h1 : AP = 0
        · have d1 : ((AP : Int) == 0) = true := by rw [beq_iff_eq]; omega
          have d2 : ((BP : Int) == 0) = false := by rw [beq_eq_false_iff_ne]; omega
          clear hnot h1
          go_wp2_with fail
          all_goals
            go_roundw
            case rel => exact ⟨P + 1, by omega, by omega, by go_num, by trivial⟩
            case measure => simp [intOf]; omega
        · have d1 : ((AP : Int) == 0) = false := by rw [beq_eq_false_iff_ne]; omega
          clear hnot h1
          go_wp2_with fail
          all_goals
            go_roundw
            case rel => exact ⟨P + 1, by omega, by omega, by go_num, by trivial⟩
            case measure => simp [intOf]; omega
      · obtain rfl : P = 50 := by omega
        have HRU7 := Lib.hid (HRU.out _ G7.out)
        go_wp2_with fail
        refine HRU7.out.mono ?_
        rintro e w8 ⟨rfl, f8⟩
        have G8 := Lib.hid (G7.out.trans0 f8)
        clear f8
        go_wp2_with fail
        refine (HC.out _).mono ?_
        rintro e w9 ⟨rfl, f9⟩
        go_wp2_with fail
        go_ret
        exact ⟨rfl, HF3.out.trans0 (G8.out.trans0 f9)⟩
end Go.Proofs.Ytegdhggilaehdaa
