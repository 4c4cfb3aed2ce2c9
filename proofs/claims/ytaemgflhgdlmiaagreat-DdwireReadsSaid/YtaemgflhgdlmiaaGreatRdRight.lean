import Derived.Test.YtaemgflhgdlmiaaGreatPw1
import Derived.Test.YtaemgflhgdlmiaaGreatPw2
import Derived.Test.YtaemgflhgdlmiaaGreatPw3
import Derived.Test.YtaemgflhgdlmiaaGreatPw4
import Derived.Test.YtaemgflhgdlmiaaGreatPw5
import Derived.Test.YtaemgflhgdlmiaaGreatPw6
import Derived.Test.YtaemgflhgdlmiaaGreatPw7
import Derived.Test.YtaemgflhgdlmiaaGreatPw8
import Derived.Test.YtaemgflhgdlmiaaGreatPw9
import Derived.Test.YtaemgflhgdlmiaaGreatPw10
import Derived.Test.YtaemgflhgdlmiaaGreatPw11
import Derived.Test.YtaemgflhgdlmiaaGreatPw12
import Derived.Test.YtaemgflhgdlmiaaGreatPw13
import Derived.Test.YtaemgflhgdlmiaaGreatPw14
import Derived.Test.YtaemgflhgdlmiaaGreatPw15
import Derived.Test.YtaemgflhgdlmiaaGreatPw16
import Derived.Test.YtaemgflhgdlmiaaGreatPw17
import Derived.Test.YtaemgflhgdlmiaaGreatPw18
import Derived.Test.YtaemgflhgdlmiaaGreatPw19
import Derived.Test.YtaemgflhgdlmiaaGreatPw20
import Derived.Test.YtaemgflhgdlmiaaGreatPw21
import Derived.Test.YtaemgflhgdlmiaaGreatPw22
import Derived.Test.YtaemgflhgdlmiaaGreatPw23
import Derived.Test.YtaemgflhgdlmiaaGreatPw24
import Derived.Test.YtaemgflhgdlmiaaGreatPw25
import Derived.Test.YtaemgflhgdlmiaaGreatPw26
import Derived.Test.YtaemgflhgdlmiaaGreatPw27
import Derived.Test.YtaemgflhgdlmiaaGreatPw28
import Derived.Test.YtaemgflhgdlmiaaGreatPw29
import Derived.Test.YtaemgflhgdlmiaaGreatPw30
import Derived.Test.YtaemgflhgdlmiaaGreatPw31
import Derived.Test.YtaemgflhgdlmiaaGreatPw32
import Derived.Test.YtaemgflhgdlmiaaGreatPw33
import Derived.Test.YtaemgflhgdlmiaaGreatPw34
import Derived.Test.YtaemgflhgdlmiaaGreatPw35
import Derived.Test.YtaemgflhgdlmiaaGreatPw36
import Derived.Test.YtaemgflhgdlmiaaGreatPw37
import Derived.Test.YtaemgflhgdlmiaaGreatPw38
import Derived.Test.YtaemgflhgdlmiaaGreatPw39
import Derived.Test.YtaemgflhgdlmiaaGreatPw40
import Derived.Test.YtaemgflhgdlmiaaGreatPw41
import Derived.Test.YtaemgflhgdlmiaaGreatPw42
import Derived.Test.YtaemgflhgdlmiaaGreatPw43
import Derived.Test.YtaemgflhgdlmiaaGreatPw44
import Derived.Test.YtaemgflhgdlmiaaGreatPw45
import Derived.Test.YtaemgflhgdlmiaaGreatRdNext
import Derived.Test.YtaemgflhgdlmiaaGreatRdPeek
/- Does the document keep such pairs? (layer 15). -/
namespace Go.Proofs.YtaemgflhgdlmiaaGreat
open Go.RowKit

theorem tot_take_succ (l : List Pr) (i : Nat) (h : i < l.length) : ltot (l.take (i + 1)) = ltot (l.take i) + l[i].2 := by
  rw [List.take_succ_eq_append_getElem h, tot_app]
  simp [ltot]
theorem ltot_take_le (l : List Pr) (i : Nat) : ltot (l.take i) ≤ ltot l := by
  have h : ltot (l.take i ++ l.drop i) = ltot l := by rw [List.take_append_drop]
  rw [tot_app] at h
  omega
section
variable (m f : Nat) (p : Option Addr) (n c : Nat) (l : List Pr) (w : World)
set_option maxRecDepth 100000 in
set_option maxHeartbeats 4000000 in
theorem rright_yes (hp : PrI w p l) (hn : l.length = n) (ok : LdOk m l f) :
    Calls Tryz.prog 18 #[.int .i64 (m : Nat), .slice p n c, .int .u64 (f : Nat)] w fun e w' => e = .returned (.bool true) ∧ Fr S0 w w' := by
  have HP := Lib.hid hp
  have HN := Lib.hid hn
  have HG := Lib.hid ok.good
  have HFO := Lib.hid ok.fold
  have m2 := ok.m2
  have m3 := ok.m3
  have hlen := ok.len
  rw [hn] at hlen
  have c1 : decide ((m : Int) < 2) = false := decide_eq_false (by omega)
  have c2 : decide ((4096 : Int) < (m : Int)) = false := decide_eq_false (by omega)
  have c3 : decide ((m : Int) < (n : Int)) = false := decide_eq_false (by omega)
  have c4 : decide (m < n) = false := decide_eq_false (by omega)
  have i1 : (2 : Int) ≤ (m : Int) := by omega
  have i2 : (m : Int) ≤ 4096 := by omega
  have i3 : (n : Int) ≤ (m : Int) := by omega
  clear hp hn ok
  go_enter Tryz.func18, Tryz.ntmps18
  go_wp2_with fail
  go_loopw [7, 8] (fun t z wr => ∃ i T : Nat, i ≤ n ∧ z = .int .i64 (i : Nat) ∧ t = .int .u64 (T : Nat) ∧ Hid (ltot (l.take i) = T) ∧ Hid (Fr S0 w wr)) (fun _ z _ => n - (intOf z).toNat)
  case atStart => exact ⟨0, 0, by omega, rfl, rfl, Lib.hid rfl, Lib.hid (Fr.refl _ _)⟩
  case round =>
    obtain ⟨i, T, hi, rfl, rfl, hT, hfr⟩ := hrel
    by_cases hin : (i : Int) < (n : Int)
    · have hil : i < l.length := by rw [HN.out]; omega
      obtain ⟨b, o, rfl, d0, d1⟩ := (HP.out.fr0 hfr.out).at i hil
      have hpos := HG.out.pos _ (List.getElem_mem hil)
      have hall := HG.out.all _ (List.getElem_mem hil)
      have hst := tot_take_succ l i hil
      have hle := ltot_take_le l (i + 1)
      have htot := HG.out.tot
      have hpr : 0 < i → ∃ K' : Int, wr.cell? ⟨b, o + (i - 1) * 2, none⟩ = some (.int .i64 K') ∧ K' < (l[i]).1 := by
        intro h0
        obtain ⟨b', o', e, k0, -⟩ := (HP.out.fr0 hfr.out).at (i - 1) (by omega)
        simp only [Option.some.injEq, Addr.mk.injEq, and_true] at e
        obtain ⟨rfl, rfl⟩ := e
        exact ⟨_, k0, List.pairwise_iff_getElem.1 HG.out.srt (i - 1) i (by omega) hil (by omega)⟩
      obtain ⟨K, eK⟩ : ∃ K, (l[i]).1 = K := ⟨_, rfl⟩
      obtain ⟨X, eX⟩ : ∃ X, (l[i]).2 = X := ⟨_, rfl⟩
      rw [eK] at hall d0 hpr
      rw [eX] at hpos hst d1
      rw [hT.out] at hst
      have HST := Lib.hid hst
      have hTX : T + X ≤ 4611686018427387904 := by omega
      have g0 : ((X : Int) == 0) = false := by rw [beq_eq_false_iff_ne]; omega
      have g1 : decide (K < -1048576) = false := decide_eq_false (by omega)
      have g2 : decide ((1048576 : Int) < K) = false := decide_eq_false (by omega)
      have g3 : -1048576 ≤ K := hall.1
      have g4 : K ≤ 1048576 := hall.2
      have g5 : decide ((4611686018427387904 : Int) - (T : Int) < (X : Int)) = false := decide_eq_false (by omega)
      have g6 : (X : Int) ≤ 4611686018427387904 - (T : Int) := by omega
      have g7 : (T : Int) ≤ 4611686018427387904 := by omega
      have hi4 : (i : Int) ≤ 4096 := by omega
      clear hall hst hle htot eK eX hpos hil
      by_cases h0 : 0 < i
      · obtain ⟨K', k0, hK⟩ := hpr h0
        have q1 : decide ((0 : Int) < (i : Int)) = true := decide_eq_true (by omega)
        have q2 : decide (0 < i) = true := decide_eq_true h0
        have q3 : decide (K ≤ K') = false := decide_eq_false (by omega)
        have q4 : (0 : Int) < (i : Int) := by omega
        have hiw : IntKind.i64.wrap ((i : Int) - 1) = ((i - 1 : Nat) : Int) := by rw [IntWalk.i64_in _ (by omega)]; omega
        have ei1 : (i : Int) - 1 = ((i - 1 : Nat) : Int) := by omega
        have ein : i - 1 < n := by omega
        go_wp2_with fail
        go_quiet (fail)
        go_wp2_with fail
        exact ⟨⟨i + 1, T + X, by omega, by go_num, by go_num, Lib.hid HST.out, Lib.hid (hfr.out.trans0 (Fr.drewN _ _ _))⟩, by simp [intOf]; omega⟩
      · have q1 : decide ((0 : Int) < (i : Int)) = false := decide_eq_false (by omega)
        have q2 : decide (0 < i) = false := decide_eq_false h0
        clear hpr
        go_wp2_with fail
        go_quiet (fail)
        go_wp2_with fail
        exact ⟨⟨i + 1, T + X, by omega, by go_num, by go_num, Lib.hid HST.out, Lib.hid (hfr.out.trans0 (Fr.drewN _ _ _))⟩, by simp [intOf]; omega⟩
    · have F1 := hfr
      clear hT hfr
      by_cases hf0 : f = 0
      · have z1 : ((f : Int) == 0) = true := by rw [hf0]; rfl
        clear hf0 HFO
        go_wp2_with fail
        go_ret
        exact ⟨rfl, F1.out⟩
      · have z1 : ((f : Int) == 0) = false := by rw [beq_eq_false_iff_ne]; omega
        obtain ⟨hlm, x, t, hxt, hfx, -⟩ := HFO.out.resolve_left hf0
        have hnm : ((n : Int) == (m : Int)) = true := by rw [← HN.out, hlm]; simp
        have hnp : 0 < l.length := by rw [hxt]; simp
        obtain ⟨b, o, rfl, -, d1⟩ := (HP.out.fr0 F1.out).at 0 hnp
        have e0 : (l[0]).2 = x.2 := by simp [hxt]
        rw [e0] at d1
        simp only [Nat.zero_mul, Nat.add_zero] at d1
        obtain ⟨X, eX⟩ : ∃ X, x.2 = X := ⟨_, rfl⟩
        rw [eX] at d1 hfx
        have z2 : decide ((f : Int) < (X : Int)) = true := decide_eq_true (by omega)
        have z3 : decide (f < X) = true := decide_eq_true hfx
        have hn0 : 0 < n := by rw [← HN.out]; exact hnp
        have hn1 : (0 : Int) < (n : Int) := by omega
        clear hf0 HFO hlm hxt hnp e0 eX
        go_wp2_with fail
        go_ret
        exact ⟨rfl, F1.out⟩
end
end Go.Proofs.YtaemgflhgdlmiaaGreat
