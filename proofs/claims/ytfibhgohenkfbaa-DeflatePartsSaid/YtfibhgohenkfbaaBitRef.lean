/- The document's answers of layer 4: what each of them computes. -/
import Derived.Test.YtfibhgohenkfbaaBitRd
namespace Go.Proofs.Ytfibhgohenkfbaa
open Go.RowKit

set_option maxRecDepth 100000 in
set_option maxHeartbeats 400000 in
theorem rgrp_any (n c : Nat) (w : World) (hn : n < 4294967296) (hc : c ≤ 32) :
    Calls Try.prog 30 #[.int .u32 n, .int .i64 c] w fun e w' => ∃ v, e = .returned v ∧ Fr S0 w w' ∧ RowNew w w' v (grp n c) := by
  have HR : Hid (∀ j : Nat, j < c → Room (j + 1)) := Lib.hid fun j h => Room.mk (by omega)
  go_enter Try.func30, Try.ntmps30
  go_wp2
  go_loopw [0, 5, 6] (fun m v i wr => ∃ j : Nat, j ≤ c ∧ i = .int .i64 j ∧ m = .int .u32 (n / 2 ^ j : Nat) ∧ Fr S0 w wr ∧ wr.ownsRow 0 5 1 v j (u8s (grp n j)) ∧ Fresh w v) (fun _ _ i _ => c - (intOf i).toNat)
  case atStart => exact ⟨0, by omega, rfl, by rw [Nat.pow_zero, Nat.div_one], Fr.refl _ _, World.ownsRow_nil _ _ _ _, fresh_nil _ _⟩
  case round =>
    obtain ⟨j, hj, rfl, rfl, hfr, own, hfv⟩ := hrel
    have HD : Hid (n / 2 ^ (j + 1) = n / 2 ^ j / 2) := Lib.hid (by rw [Nat.div_div_eq_div_mul, Nat.pow_succ])
    have HG : Hid (grp n (j + 1) = grp n j ++ [n / 2 ^ j % 2]) := Lib.hid (grp_succ n j)
    obtain ⟨m, hm⟩ : ∃ m, n / 2 ^ j = m := ⟨_, rfl⟩
    have hms : m < 4294967296 := by rw [← hm]; exact Nat.lt_of_le_of_lt (Nat.div_le_self _ _) hn
    have em : (m : Int) % 2 = ((m % 2 : Nat) : Int) := by omega
    have EM := Lib.hid em
    rw [hm] at HD HG ⊢
    clear hm em
    by_cases hjc : (j : Int) < (c : Int)
    · have HRJ := Lib.hid (HR.out j (by omega))
      obtain ⟨p, cp, rfl, -, -, -⟩ := slForm own
      go_wp2_with (first
        | ((with_reducible show wpList _ _ _ (Oper.mk (some 17) _ _ _ _ _ :: _) _ _); refine app_one el8 (.tmp 12) (.tmp 16) rfl own rfl rfl rfl rfl rfl one8 HRJ.out ?_; intro q cap w1 hown hgrow hat hlt1; have f1 := (hfr.trans0 (Fr.alloc S0 wr _)).append hgrow hfv; have v1 := fresh_app (n := j + 1) (c := cap) hfr hfv hat; clear hgrow hat hlt1)
        | fail)
      go_roundw
      case rel =>
        refine ⟨j + 1, by omega, by go_num, by rw [HD.out]; go_num, f1, ?_, v1⟩
        rw [HG.out, ← u8s_append, u8s_one, ← EM.out]
        exact hown
      case measure => simp [intOf]; omega
    · obtain rfl : j = c := by omega
      go_wp2
      go_ret
      exact ⟨_, rfl, hfr, by rw [grp_length]; exact own, hfv⟩

theorem num_drop (l : List Nat) (i : Nat) (h : i < l.length) : num (l.drop i) = 2 * num (l.drop (i + 1)) + l[i] := by
  rw [List.drop_eq_getElem_cons h, num]; omega
theorem num_32 {l : List Nat} (h : Bit01 l) (hl : l.length ≤ 32) : num l < 4294967296 :=
  Nat.lt_of_lt_of_le (num_lt l h) (Nat.pow_le_pow_right (n := 2) (by decide) hl)

set_option maxRecDepth 100000 in
set_option maxHeartbeats 400000 in
theorem rnumber_any (q : Option Addr) (d : Nat) (l : List Nat) (w : World) (hl : SlI w .u8 q l) (hb : Bit01 l) (hL : l.length ≤ 32) :
    Calls Try.prog 51 #[.slice q l.length d] w fun e w' => e = .returned (.int .u32 (num l : Nat)) ∧ w = w' := by
  have HL := Lib.hid hl
  have HB := Lib.hid hb
  clear hl hb
  go_enter Try.func51, Try.ntmps51
  go_wp2
  go_loopw [3, 4] (fun v i wr => ∃ j : Nat, j ≤ l.length ∧ i = .int .i64 ((j : Int) - 1) ∧ v = .int .u32 (num (l.drop j) : Nat) ∧ w = wr) (fun _ i _ => (intOf i + 1).toNat)
  case atStart => exact ⟨l.length, by omega, rfl, by rw [List.drop_length]; rfl, rfl⟩
  case round =>
    obtain ⟨j, hj, rfl, rfl, rfl⟩ := hrel
    by_cases hjc : 0 < j
    · obtain ⟨i, rfl⟩ : ∃ i, j = i + 1 := ⟨j - 1, by omega⟩
      have HN := Lib.hid (num_drop l i (by omega))
      have h32 := num_32 (l := l.drop i) (HB.out.sub fun _ hx => List.mem_of_mem_drop hx) (by rw [List.length_drop]; omega)
      rw [HN.out] at h32
      obtain ⟨b, o, rfl, hc⟩ := HL.out.at i (by omega)
      obtain ⟨x, hx⟩ : ∃ x, l[i] = x := ⟨_, rfl⟩
      obtain ⟨m, hm⟩ : ∃ m, num (l.drop (i + 1)) = m := ⟨_, rfl⟩
      rw [hx] at hc HN h32
      rw [hm] at HN h32 ⊢
      have hil : i < l.length := by omega
      have ei : ((i + 1 : Nat) : Int) - 1 = (i : Int) := by omega
      rw [ei]
      clear hx hm ei
      go_wp2
      go_roundw
      case rel => exact ⟨i, by omega, rfl, by rw [HN.out]; go_num, by trivial⟩
      case measure => simp [intOf]
    · obtain rfl : j = 0 := by omega
      rw [List.drop_zero]
      obtain ⟨m, hm⟩ : ∃ m, num l = m := ⟨_, rfl⟩
      rw [hm]
      have HM := Lib.hid hm
      clear hm
      go_wp2
      go_ret
      exact ⟨by rw [HM.out]; rfl, rfl⟩

theorem u8_wrap (x : Nat) (h : x < 256) : (x : Int) % 256 = (x : Int) := by omega

set_option maxRecDepth 100000 in
set_option maxHeartbeats 1000000 in
theorem rbytes_any (q : Option Addr) (d : Nat) (l : List Nat) (w : World) (hl : SlI w .u8 q l) (hb : Bit01 l) (hL : l.length ≤ 1099511627776) (hd : l.length ≤ d) :
    Calls Try.prog 31 #[.slice q l.length d] w fun e w' => ∃ v, e = .returned v ∧ Fr S0 w w' ∧ RowNew w w' v (byt l) := by
  have HR : Hid (∀ j : Nat, 8 * j < l.length → Room (j + 1)) := Lib.hid fun j h => Room.mk (by omega)
  have HL := Lib.hid hl
  have HB := Lib.hid hb
  have HLEN := Lib.hid (byt_length l)
  clear hl hb
  go_enter Try.func31, Try.ntmps31
  go_wp2
  go_loopw [3, 4] (fun v i wr => ∃ j : Nat, j ≤ (byt l).length ∧ i = .int .i64 (8 * j : Nat) ∧ Fr S0 w wr ∧ wr.ownsRow 0 5 1 v j (u8s ((byt l).take j)) ∧ Fresh w v) (fun _ i _ => l.length + 8 - (intOf i).toNat)
  case atStart => exact ⟨0, by omega, rfl, Fr.refl _ _, World.ownsRow_nil _ _ _ _, fresh_nil _ _⟩
  case round =>
    obtain ⟨j, hj, rfl, hfr, own, hfv⟩ := hrel
    obtain ⟨J, hJ⟩ : ∃ J, 8 * j = J := ⟨_, rfl⟩
    have HJ := Lib.hid hJ
    rw [hJ]
    by_cases hjc : (J : Int) < (l.length : Int)
    · have HRJ := Lib.hid (HR.out j (by omega))
      have hjl : j < (byt l).length := by rw [HLEN.out]; omega
      have hG : (byt l).take (j + 1) = (byt l).take j ++ [num ((l.drop J).take 8)] := by rw [List.take_succ_eq_append_getElem hjl, byt_get]; unfold oct; rw [hJ]
      have hx8 := oct_lt l HB.out j
      unfold oct at hx8
      rw [hJ] at hx8
      obtain ⟨b, o, rfl, -⟩ := (HL.out.fr0 hfr).at J (by omega)
      have hs := ((HL.out.fr0 hfr).drop J).take 8
      obtain ⟨m, hm⟩ : ∃ m, ((l.drop J).take 8).length = m := ⟨_, rfl⟩
      have hN := rnumber_any (some ⟨b, o + J, none⟩) (d - J) ((l.drop J).take 8) wr hs (HB.out.sub fun _ hx => List.mem_of_mem_drop (List.mem_of_mem_take hx)) (by rw [List.length_take]; omega)
      have hmm : m = min 8 (l.length - J) := by rw [← hm, List.length_take, List.length_drop]
      rw [hm] at hN
      obtain ⟨x, hx⟩ : ∃ x, num ((l.drop J).take 8) = x := ⟨_, rfl⟩
      rw [hx] at hG hx8 hN
      have HG := Lib.hid hG
      have HN := Lib.hid hN
      have ex := u8_wrap x hx8
      have HMM := Lib.hid hmm
      obtain ⟨p, cp, rfl, -, -, -⟩ := slForm own
      clear hG hN hs hx hm hmm hJ
      have hcd : ¬ d = J := by omega
      by_cases h8 : (l.length : Int) ≤ (J : Int) + 8
      · have HE : Hid (l.length - J = m) := Lib.hid (by have := HMM.out; omega)
        go_wp2_with fail
        rw [HE.out]
        refine HN.out.mono ?_
        rintro e w1 ⟨rfl, rfl⟩
        go_wp2_with (first
          | ((with_reducible show wpList _ _ _ (Oper.mk (some 23) _ _ _ _ _ :: _) _ _); refine app_one el8 (.tmp 11) (.tmp 22) rfl own rfl rfl rfl rfl rfl one8 HRJ.out ?_; intro g cap w1 hown hgrow hat hlt1; have f1 := (hfr.trans0 (Fr.alloc S0 wr _)).append hgrow hfv; have v1 := fresh_app (n := j + 1) (c := cap) hfr hfv hat; clear hgrow hat hlt1)
          | fail)
        go_roundw
        case rel =>
          refine ⟨j + 1, by omega, ?_, f1, ?_, v1⟩
          · have := HJ.out
            congr 1
            omega
          · rw [HG.out, ← u8s_append, u8s_one]
            exact hown
        case measure => simp [intOf]; omega
      · obtain rfl : m = 8 := by have := HMM.out; omega
        go_wp2_with fail
        refine HN.out.mono ?_
        rintro e w1 ⟨rfl, rfl⟩
        go_wp2_with (first
          | ((with_reducible show wpList _ _ _ (Oper.mk (some 23) _ _ _ _ _ :: _) _ _); refine app_one el8 (.tmp 11) (.tmp 22) rfl own rfl rfl rfl rfl rfl one8 HRJ.out ?_; intro g cap w1 hown hgrow hat hlt1; have f1 := (hfr.trans0 (Fr.alloc S0 wr _)).append hgrow hfv; have v1 := fresh_app (n := j + 1) (c := cap) hfr hfv hat; clear hgrow hat hlt1)
          | fail)
        go_roundw
        case rel =>
          refine ⟨j + 1, by omega, ?_, f1, ?_, v1⟩
          · have := HJ.out
            congr 1
            omega
          · rw [HG.out, ← u8s_append, u8s_one]
            exact hown
        case measure => simp [intOf]; omega
    · obtain rfl : j = (byt l).length := by have := HLEN.out; have := HJ.out; omega
      rw [List.take_length] at own
      go_wp2
      go_ret
      exact ⟨_, rfl, hfr, own, hfv⟩

end Go.Proofs.Ytfibhgohenkfbaa
