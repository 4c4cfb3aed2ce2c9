/- The fixed lengths. -/
import Derived.Test.YtfibhgohenkfbaaHufMake
import Derived.Test.YtfibhgohenkfbaaBitText
import Derived.Lib.MakeNoZero
import Derived.Laws.CopyOwn
namespace Go.Proofs.Ytfibhgohenkfbaa
open Go.RowKit

/-- a symbol's fixed length -/
def fixL (i : Nat) : Nat := if i ≤ 143 then 8 else if i ≤ 255 then 9 else if i ≤ 279 then 7 else 8
theorem fixL_cases (i : Nat) : fixL i = 7 ∨ fixL i = 8 ∨ fixL i = 9 := by
  unfold fixL
  split
  · exact .inr (.inl rfl)
  · split
    · exact .inr (.inr rfl)
    · split
      · exact .inl rfl
      · exact .inr (.inl rfl)
def fixLs : List Nat := (List.range 288).map fixL
theorem fixLs_length : fixLs.length = 288 := by simp [fixLs]

set_option maxRecDepth 100000 in
set_option maxHeartbeats 400000 in
theorem fixed1_any (i : Nat) (w : World) : Calls Try.prog 81 #[.int .i64 i] w fun e w' => e = .returned (.int .u8 (fixL i : Nat)) ∧ w = w' := by
  by_cases h1 : (i : Int) ≤ 143
  · have E : Hid (fixL i = 8) := Lib.hid (by unfold fixL; rw [if_pos (by omega)])
    go_enter Try.func81, Try.ntmps81
    go_wp2
    go_ret
    exact ⟨by rw [E.out]; rfl, rfl⟩
  · by_cases h2 : (i : Int) ≤ 255
    · have E : Hid (fixL i = 9) := Lib.hid (by unfold fixL; rw [if_neg (by omega), if_pos (by omega)])
      go_enter Try.func81, Try.ntmps81
      go_wp2
      go_ret
      exact ⟨by rw [E.out]; rfl, rfl⟩
    · by_cases h3 : (i : Int) ≤ 279
      · have E : Hid (fixL i = 7) := Lib.hid (by unfold fixL; rw [if_neg (by omega), if_neg (by omega), if_pos (by omega)])
        go_enter Try.func81, Try.ntmps81
        go_wp2
        go_ret
        exact ⟨by rw [E.out]; rfl, rfl⟩
      · have E : Hid (fixL i = 8) := Lib.hid (by unfold fixL; rw [if_neg (by omega), if_neg (by omega), if_neg (by omega)])
        go_enter Try.func81, Try.ntmps81
        go_wp2
        go_ret
        exact ⟨by rw [E.out]; rfl, rfl⟩

/-- the first j lengths, and zeros -/
def fixTo (j : Nat) : List Nat := (List.range 288).map fun i => if i < j then fixL i else 0
theorem fixTo_length (j : Nat) : (fixTo j).length = 288 := by simp [fixTo]
theorem fixTo_get (j i : Nat) (h : i < (fixTo j).length) : (fixTo j)[i] = if i < j then fixL i else 0 := by simp [fixTo]
theorem fixTo_zero : fixTo 0 = List.replicate 288 0 := by
  apply List.ext_getElem
  · rw [fixTo_length, List.length_replicate]
  · intro i h1 h2; rw [fixTo_get, if_neg (by omega), List.getElem_replicate]
theorem fixTo_all : fixTo 288 = fixLs := by
  apply List.ext_getElem
  · simp [fixTo, fixLs]
  · intro i h1 h2
    rw [fixTo_length] at h1
    rw [fixTo_get, if_pos h1]; simp [fixLs]
theorem fixTo_succ (j : Nat) : fixTo (j + 1) = (fixTo j).set j (fixL j) := by
  apply List.ext_getElem
  · simp [fixTo]
  · intro i h1 h2
    rw [List.getElem_set, fixTo_get]
    by_cases e : j = i
    · subst e; rw [if_pos (by omega), if_pos rfl]
    · rw [if_neg e, fixTo_get]
      by_cases k : i < j
      · rw [if_pos k, if_pos (by omega)]
      · rw [if_neg k, if_neg (by omega)]
theorem make_u8 (w : World) (n : Nat) (hn : n ≤ 1000) : (Instr.makeSlice 22 (.int .i64 (n : Nat)) (.int .i64 (n : Nat))).run Try.prog w = .ok (.slice (some ⟨w.heap.size, 0, none⟩) n n) (w.alloc (.cells (zers .u8 n) 5)) := by
  obtain ⟨i, hi, hz, hs, hb⟩ := info_parts info_u8
  have := run_make w 22 5 i _ Try.underlying22 hi hz .i64 .i64 (n : Int) (n : Int) (by omega) (by omega) (by rw [hb]; omega) (by omega)
  rw [this, hs, Nat.mul_one, Int.toNat_natCast]
  rfl

set_option maxRecDepth 100000 in
set_option maxHeartbeats 1000000 in
theorem fixed_any (w : World) : Calls Try.prog 61 #[] w fun e w' => ∃ v, e = .returned v ∧ Fr S0 w w' ∧ RowNew w w' v fixLs := by
  have hm : ∀ w, (Instr.makeSlice 22 (.int .i64 288) (.int .i64 288)).run Try.prog w = .ok (.slice (some ⟨w.heap.size, 0, none⟩) 288 288) (w.alloc (.cells (zers .u8 288) 5)) := fun w => make_u8 w 288 (by decide)
  have f0 : Fr S0 w (w.alloc (.cells (zers .u8 288) 5)) := Fr.alloc _ _ _
  have o0 := zers_own w .u8 5 288 (by decide)
  go_enter Try.func61, Try.ntmps61
  go_wp2_with fail
  obtain ⟨g, hg⟩ : ∃ g, w.heap.size = g := ⟨_, rfl⟩
  rw [hg] at o0 ⊢
  have HG : Hid (w.heap.size ≤ g) := Lib.hid (by omega)
  generalize w.alloc (.cells (zers .u8 288) 5) = W at f0 o0 ⊢
  have HO := Lib.hid o0
  clear o0 hg hm
  go_loopw [2, 6] (fun _ i wr => ∃ j : Nat, j ≤ 288 ∧ i = .int .i64 j ∧ Fr S0 w wr ∧ wr.ownsRow 0 5 1 (.slice (some ⟨g, 0, none⟩) 288 288) 288 (u8s (fixTo j))) (fun _ i _ => 288 - (intOf i).toNat)
  case atStart => exact ⟨0, by omega, rfl, f0, by rw [fixTo_zero]; exact HO.out⟩
  case round =>
    obtain ⟨j, hj, rfl, hfr, own⟩ := hrel
    by_cases hjc : (j : Int) < 288
    · have hjl : j < 288 := by omega
      have k7 := own.cellAt j (by omega)
      have k8 := own.frozenAt j
      have hu : j < (u8s (fixTo j)).length := by unfold u8s; rw [List.length_map, fixTo_length]; exact hjl
      rw [List.getElem?_eq_getElem hu] at k7
      obtain ⟨u, hu'⟩ : ∃ u, (u8s (fixTo j))[j] = u := ⟨_, rfl⟩
      rw [hu'] at k7
      have HF := Lib.hid (fixed1_any j wr)
      have HS := Lib.hid (own.stored j (.int .u8 (fixL j : Nat))).1
      have HT := Lib.hid (fixTo_succ j)
      obtain ⟨x, hx⟩ : ∃ x, fixL j = x := ⟨_, rfl⟩
      rw [hx] at HF HS HT
      clear hu hu' own hx
      go_wp2_with fail
      refine HF.out.mono ?_
      rintro e w' ⟨rfl, rfl⟩
      go_wp2_with fail
      go_roundw
      case rel =>
        refine ⟨j + 1, by omega, by go_num, hfr.trans (Fr.setCell (· = g) _ ⟨g, j, none⟩ _ rfl) (fun q hq e => by have := HG.out; omega), ?_⟩
        rw [HT.out]
        unfold u8s
        rw [List.map_set]
        exact HS.out
      case measure => simp [intOf]; omega
    · obtain rfl : j = 288 := by omega
      have HO2 := Lib.hid own
      clear own
      go_wp2_with fail
      go_ret
      refine ⟨.slice (some ⟨g, 0, none⟩) 288 288, rfl, hfr, ?_, fun q hq => by simp only [Value.ownBlock, Option.some.injEq] at hq; have := HG.out; omega⟩
      rw [fixLs_length, ← fixTo_all]
      exact HO2.out

theorem fixLs_succ (j : Nat) (h : j < 288) : fixLs.take (j + 1) = fixLs.take j ++ [fixL j] := by
  rw [List.take_succ_eq_append_getElem (by rw [fixLs_length]; exact h)]
  simp [fixLs]

set_option maxRecDepth 100000 in
set_option maxHeartbeats 1000000 in
theorem rfixed_any (w : World) : Calls Try.prog 26 #[] w fun e w' => ∃ v, e = .returned v ∧ Fr S0 w w' ∧ RowNew w w' v fixLs := by
  go_enter Try.func26, Try.ntmps26
  go_wp2_with fail
  go_loopw [1, 2, 3] (fun v i _ wr => ∃ j : Nat, j ≤ 288 ∧ i = .int .i64 j ∧ Fr S0 w wr ∧ wr.ownsRow 0 5 1 v j (u8s (fixLs.take j)) ∧ Fresh w v) (fun _ i _ _ => 288 - (intOf i).toNat)
  case atStart => exact ⟨0, by omega, rfl, Fr.refl _ _, World.ownsRow_nil _ _ _ _, fresh_nil _ _⟩
  case round =>
    obtain ⟨j, hj, rfl, hfr, own, hfv⟩ := hrel
    by_cases hjc : (j : Int) < 288
    · have HS := Lib.hid (fixLs_succ j (by omega))
      have HR : Hid (Room (j + 1)) := Lib.hid (Room.mk (by omega))
      obtain ⟨p, cp, rfl, -, -, -⟩ := slForm own
      by_cases h1 : (j : Int) ≤ 143
      · have E : Hid (fixL j = 8) := Lib.hid (by unfold fixL; rw [if_pos (by omega)])
        have t1 : decide ((144 : Int) ≤ (j : Int)) = false := decide_eq_false (by omega)
        have t2 : decide ((256 : Int) ≤ (j : Int)) = false := decide_eq_false (by omega)
        go_wp2_with (first
          | ((with_reducible show wpList _ _ _ (Oper.mk (some 23) _ _ _ _ _ :: _) _ _); refine app_one el8 (.tmp 20) (.tmp 22) rfl own rfl rfl rfl (by rfl) rfl one8 HR.out ?_; intro q cap w1 hown hgrow hat hlt1; have f1 := (hfr.trans0 (Fr.alloc S0 wr _)).append hgrow hfv; have v1 := fresh_app (n := j + 1) (c := cap) hfr hfv hat; clear hgrow hat hlt1)
          | fail)
        go_roundw
        case rel =>
          refine ⟨j + 1, by omega, by go_num, f1, ?_, v1⟩
          rw [HS.out, ← u8s_append, u8s_one, E.out]
          exact hown
        case measure => simp [intOf]; omega
      · by_cases h2 : (j : Int) ≤ 255
        · have E : Hid (fixL j = 9) := Lib.hid (by unfold fixL; rw [if_neg (by omega), if_pos (by omega)])
          have t1 : (144 : Int) ≤ (j : Int) := by omega
          have t2 : decide ((256 : Int) ≤ (j : Int)) = false := decide_eq_false (by omega)
          go_wp2_with (first
            | ((with_reducible show wpList _ _ _ (Oper.mk (some 23) _ _ _ _ _ :: _) _ _); refine app_one el8 (.tmp 20) (.tmp 22) rfl own rfl rfl rfl (by rfl) rfl one8 HR.out ?_; intro q cap w1 hown hgrow hat hlt1; have f1 := (hfr.trans0 (Fr.alloc S0 wr _)).append hgrow hfv; have v1 := fresh_app (n := j + 1) (c := cap) hfr hfv hat; clear hgrow hat hlt1)
            | fail)
          go_roundw
          case rel =>
            refine ⟨j + 1, by omega, by go_num, f1, ?_, v1⟩
            rw [HS.out, ← u8s_append, u8s_one, E.out]
            exact hown
          case measure => simp [intOf]; omega
        · by_cases h3 : (j : Int) ≤ 279
          · have E : Hid (fixL j = 7) := Lib.hid (by unfold fixL; rw [if_neg (by omega), if_neg (by omega), if_pos (by omega)])
            have t1 : (144 : Int) ≤ (j : Int) := by omega
            have t2 : (256 : Int) ≤ (j : Int) := by omega
            have t3 : decide ((j : Int) ≤ 255) = false := decide_eq_false (by omega)
            go_wp2_with (first
              | ((with_reducible show wpList _ _ _ (Oper.mk (some 23) _ _ _ _ _ :: _) _ _); refine app_one el8 (.tmp 20) (.tmp 22) rfl own rfl rfl rfl (by rfl) rfl one8 HR.out ?_; intro q cap w1 hown hgrow hat hlt1; have f1 := (hfr.trans0 (Fr.alloc S0 wr _)).append hgrow hfv; have v1 := fresh_app (n := j + 1) (c := cap) hfr hfv hat; clear hgrow hat hlt1)
              | fail)
            go_roundw
            case rel =>
              refine ⟨j + 1, by omega, by go_num, f1, ?_, v1⟩
              rw [HS.out, ← u8s_append, u8s_one, E.out]
              exact hown
            case measure => simp [intOf]; omega
          · have E : Hid (fixL j = 8) := Lib.hid (by unfold fixL; rw [if_neg (by omega), if_neg (by omega), if_neg (by omega)])
            have t1 : (144 : Int) ≤ (j : Int) := by omega
            have t2 : (256 : Int) ≤ (j : Int) := by omega
            have t3 : decide ((j : Int) ≤ 255) = false := decide_eq_false (by omega)
            have t4 : decide ((j : Int) ≤ 279) = false := decide_eq_false (by omega)
            go_wp2_with (first
              | ((with_reducible show wpList _ _ _ (Oper.mk (some 23) _ _ _ _ _ :: _) _ _); refine app_one el8 (.tmp 20) (.tmp 22) rfl own rfl rfl rfl (by rfl) rfl one8 HR.out ?_; intro q cap w1 hown hgrow hat hlt1; have f1 := (hfr.trans0 (Fr.alloc S0 wr _)).append hgrow hfv; have v1 := fresh_app (n := j + 1) (c := cap) hfr hfv hat; clear hgrow hat hlt1)
              | fail)
            go_roundw
            case rel =>
              refine ⟨j + 1, by omega, by go_num, f1, ?_, v1⟩
              rw [HS.out, ← u8s_append, u8s_one, E.out]
              exact hown
            case measure => simp [intOf]; omega
    · obtain rfl : j = 288 := by omega
      go_wp2_with fail
      go_ret
      exact ⟨_, rfl, hfr, by rw [fixLs_length]; rw [List.take_of_length_le (by rw [fixLs_length]; omega)] at own; exact own, hfv⟩

theorem and_low (n : Nat) (h : n < 4294967296) : bits .and .u64 (n : Int) 4294967295 = (n : Int) := by
  have := u64_and_nat n 4294967295 (by omega) (by decide)
  rw [show (4294967295 : Nat) = 2 ^ 32 - 1 by decide, Nat.and_two_pow_sub_one_eq_mod, Nat.mod_eq_of_lt (by omega)] at this
  exact this
set_option maxRecDepth 100000 in
set_option maxHeartbeats 1000000 in
theorem mul64_any (n : Nat) (hn : n ≤ 1000000) (w : World) : Calls Try.prog 107 #[.int .u64 1, .int .u64 (n : Nat)] w fun e w' => e = .returned (.tuple #[.int .u64 0, .int .u64 (n : Nat)]) ∧ w = w' := by
  have a1 : bits .and .u64 1 4294967295 = 1 := by decide
  have a2 : bits .and .u64 (n : Int) 4294967295 = (n : Int) := and_low n (by omega)
  have a3 : bits .and .u64 0 4294967295 = 0 := by decide
  have a4 : (n : Int) / 4294967296 = 0 := by omega
  go_enter Try.func107, Try.ntmps107
  go_wp2_with fail
  go_ret2
  exact ⟨rfl, rfl⟩
set_option maxRecDepth 100000 in
set_option maxHeartbeats 1000000 in
theorem mul_any (n : Nat) (hn : n ≤ 1000000) (w : World) : Calls Try.prog 100 #[.int .u64 1, .int .u64 (n : Nat)] w fun e w' => e = .returned (.tuple #[.int .u64 0, .int .u64 (n : Nat)]) ∧ w = w' := by
  have HM := Lib.hid (mul64_any n hn w)
  go_enter Try.func100, Try.ntmps100
  go_wp2_with fail
  refine HM.out.mono ?_
  rintro e w' ⟨rfl, rfl⟩
  go_wp2_with fail
  go_ret2
  exact ⟨rfl, rfl⟩
end Go.Proofs.Ytfibhgohenkfbaa
