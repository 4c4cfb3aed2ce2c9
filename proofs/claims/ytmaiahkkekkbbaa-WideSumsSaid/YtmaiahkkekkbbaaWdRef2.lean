/- The document's sums, which number is more, differences. -/
import Derived.Test.YtmaiahkkekkbbaaWdRef
namespace Go.Proofs.Ytmaiahkkekkbbaa
open Go.RowKit

theorem u64s_append (a b : List Nat) : u64s a ++ u64s b = u64s (a ++ b) := by simp [u64s]
theorem u64s_one (x : Nat) : u64s [x] = [.int .u64 (x : Int)] := rfl

set_option maxRecDepth 100000 in
set_option maxHeartbeats 1000000 in
theorem radd_any (p q : Option Addr) (c d x y : Nat) (w : World) (hx : Dig w p x) (hy : Dig w q y) :
    Calls Try.prog 12 #[.slice p 8 c, .slice q 8 d] w fun e w' => ∃ v, e = .returned (.tuple #[v, .bool (cy x y 8 == 0)]) ∧ NewDig w w' v (x + y) := by
  have HX := Lib.hid hx
  have HY := Lib.hid hy
  have HR : Hid (∀ j : Nat, j < 8 → Room (j + 1)) := Lib.hid fun j h => Room.mk (by omega)
  clear hx hy
  go_enter Try.func12, Try.ntmps12
  go_wp2
  go_loopw [6, 7, 8, 9] (fun v m i _ wr => ∃ j : Nat, j ≤ 8 ∧ i = .int .i64 j ∧ m = .int .u64 (cy x y j : Nat) ∧ Fr S0 w wr ∧ wr.ownsRow 0 22 1 v j (u64s (digs j (x + y))) ∧ Fresh w v) (fun _ _ i _ _ => 8 - (intOf i).toNat)
  case atStart => exact ⟨0, by omega, rfl, by rw [cy_zero]; rfl, Fr.refl _ _, World.ownsRow_nil _ _ _ _, fresh_nil _ _⟩
  case round =>
    obtain ⟨j, hj, rfl, rfl, hfr, own, hfv⟩ := hrel
    by_cases h8 : (j : Int) < 8
    · obtain ⟨b, o, rfl, hc⟩ := (HX.out.fr0 hfr).at j (by omega)
      obtain ⟨b2, o2, rfl, hc2⟩ := (HY.out.fr0 hfr).at j (by omega)
      have hnx := cy_next x y j
      have HS : Hid (digs (j + 1) (x + y) = digs j (x + y) ++ [dg (x + y) j]) := Lib.hid (digs_snoc j (x + y))
      rw [← hnx.1] at HS
      have H2 : Hid (cy x y (j + 1) = (dg x j + dg y j + cy x y j) / 65536) := Lib.hid hnx.2.symm
      have l1 := dg_lt x j
      have l2 := dg_lt y j
      have l3 := cy_le x y j
      obtain ⟨X, hX⟩ : ∃ X, dg x j = X := ⟨_, rfl⟩
      obtain ⟨Y, hY⟩ : ∃ Y, dg y j = Y := ⟨_, rfl⟩
      obtain ⟨C, hC⟩ : ∃ C, cy x y j = C := ⟨_, rfl⟩
      rw [hX] at hc HS H2 l1
      rw [hY] at hc2 HS H2 l2
      rw [hC] at HS H2 l3 ⊢
      have em : (((X : Int) + (Y : Int) + (C : Int)) % 65536) = (((X + Y + C) % 65536 : Nat) : Int) := by omega
      have EM := Lib.hid em
      have HRJ := Lib.hid (HR.out j (by omega))
      obtain ⟨p, cp, rfl, -, -, -⟩ := slForm own
      clear hX hY hC hnx em
      go_wp2_with fail
      go_quiet (fail)
      have own2 := (Fr.drewN S0 wr nq).owns own fun _ _ h => h
      have hfr2 := hfr.trans0 (Fr.drewN S0 wr nq)
      clear own hfr
      go_wp2_with (first
        | ((with_reducible show wpList _ _ _ (Oper.mk (some 29) _ _ _ _ _ :: _) _ _); refine app_one el64 (.tmp 25) (.tmp 28) rfl own2 rfl rfl rfl rfl rfl one8 HRJ.out ?_; intro q cap w1 hown hgrow hat hlt1; have f1 := (hfr2.trans0 (Fr.alloc S0 _ _)).append hgrow hfv; have v1 := fresh_app (n := j + 1) (c := cap) hfr2 hfv hat; clear hgrow hat hlt1)
        | fail)
      go_roundw
      case rel =>
        refine ⟨j + 1, by omega, by go_num, by rw [H2.out]; go_num, f1, ?_, v1⟩
        rw [HS.out, ← u64s_append, u64s_one, ← EM.out]
        exact hown
      case measure => simp [intOf]; omega
    · obtain rfl : j = 8 := by omega
      obtain ⟨C, hC⟩ : ∃ C, cy x y 8 = C := ⟨_, rfl⟩
      rw [hC]
      have HC := Lib.hid hC
      clear hC
      obtain ⟨p, cp, rfl, -, -, -⟩ := slForm own
      have HN := Lib.hid (NewDig.mk own hfr)
      clear own hfr
      go_wp2
      go_ret2
      exact ⟨_, congrArg (fun z => Ending.returned (.tuple #[_, .bool z])) (by have := HC.out; rw [Bool.eq_iff_iff, beq_iff_eq, beq_iff_eq]; omega), HN.out⟩

/-- which number is more -/
def cmpR (x y : Nat) : Int := if x = y then 0 else if x < y then -1 else 1

theorem drewN_two (w : World) (a b : Nat) : (w.drewN a).drewN b = w.drewN (a + b) := by simp only [World.drewN, Nat.add_assoc]
theorem drewN_three (w : World) (a b c : Nat) : ((w.drewN a).drewN b).drewN c = w.drewN (a + b + c) := by simp only [World.drewN, Nat.add_assoc]

set_option maxRecDepth 100000 in
set_option maxHeartbeats 1000000 in
theorem rcmp_any (p q : Option Addr) (c d x y : Nat) (w : World) (hx : Dig w p x) (hy : Dig w q y) (bx : x < 340282366920938463463374607431768211456) (hby : y < 340282366920938463463374607431768211456) :
    Calls Try.prog 19 #[.slice p 8 c, .slice q 8 d] w fun e w' => e = .returned (.int .i64 (cmpR x y)) ∧ ∃ n, w' = w.drewN n := by
  have HX := Lib.hid hx
  have HY := Lib.hid hy
  have HS : Hid (x / 65536 ^ 8 = y / 65536 ^ 8) := Lib.hid (by
    have e : (65536 : Nat) ^ 8 = 340282366920938463463374607431768211456 := by decide
    rw [e, Nat.div_eq_of_lt bx, Nat.div_eq_of_lt hby])
  clear hx hy bx hby
  go_enter Try.func19, Try.ntmps19
  go_wp2
  go_loopw [5] (fun i wr => ∃ j n : Nat, j ≤ 8 ∧ i = .int .i64 (7 - (j : Int)) ∧ x / 65536 ^ (8 - j) = y / 65536 ^ (8 - j) ∧ wr = w.drewN n) (fun i _ => (intOf i + 1).toNat)
  case atStart => exact ⟨0, 0, by omega, rfl, HS.out, rfl⟩
  case round =>
    obtain ⟨j, n, hj, rfl, hs, rfl⟩ := hrel
    by_cases h8 : j < 8
    · obtain ⟨i, hi⟩ : ∃ i, 7 - j = i := ⟨_, rfl⟩
      rw [show 8 - j = i + 1 by omega] at hs
      have HE := Lib.hid hs
      have ei : 7 - (j : Int) = (i : Int) := by omega
      have HI : Hid (8 - (j + 1) = i) := Lib.hid (by omega)
      have hi8 : (i : Int) < 8 := by omega
      rw [ei]
      clear hi hs ei
      obtain ⟨b, o, rfl, hc⟩ := HX.out.at i (by omega)
      obtain ⟨b2, o2, rfl, hc2⟩ := HY.out.at i (by omega)
      obtain ⟨X, hX⟩ : ∃ X, dg x i = X := ⟨_, rfl⟩
      obtain ⟨Y, hY⟩ : ∃ Y, dg y i = Y := ⟨_, rfl⟩
      have EX := Lib.hid hX
      have EY := Lib.hid hY
      rw [hX] at hc
      rw [hY] at hc2
      clear hX hY
      by_cases h1 : X < Y
      · have HL : Hid (x < y) := Lib.hid (cmp_more HE.out (by rw [EX.out, EY.out]; exact h1))
        go_wp2_with fail
        go_quiet (fail)
        go_wp2
        go_ret
        exact ⟨congrArg (fun z => Ending.returned (Value.int .i64 z)) (by have := HL.out; unfold cmpR; rw [if_neg (by omega), if_pos this]), _, drewN_two _ _ _⟩
      · by_cases h2 : Y < X
        · have HL : Hid (y < x) := Lib.hid (cmp_more HE.out.symm (by rw [EX.out, EY.out]; exact h2))
          go_wp2_with fail
          go_quiet (fail)
          go_wp2_with fail
          go_quiet (fail)
          go_wp2
          go_ret
          exact ⟨congrArg (fun z => Ending.returned (Value.int .i64 z)) (by have := HL.out; unfold cmpR; rw [if_neg (by omega), if_neg (by omega)]), _, drewN_three _ _ _ _⟩
        · have HL : Hid (x / 65536 ^ i = y / 65536 ^ i) := Lib.hid (cmp_same HE.out (by rw [EX.out, EY.out]; omega))
          go_wp2_with fail
          go_quiet (fail)
          go_wp2_with fail
          go_quiet (fail)
          go_wp2_with fail
          go_roundw
          case rel => exact ⟨j + 1, _, by omega, congrArg (Value.int .i64) (by have := HI.out; omega), by rw [HI.out]; exact HL.out, rfl⟩
          case measure => simp [intOf]
    · obtain rfl : j = 8 := by omega
      have HL : Hid (x = y) := Lib.hid (by simpa using hs)
      clear hs
      go_wp2
      go_ret
      exact ⟨congrArg (fun z => Ending.returned (Value.int .i64 z)) (by unfold cmpR; rw [if_pos HL.out]), _, rfl⟩

/-- a slice of eight noughts -/
theorem make8 : ∀ w : World, (Instr.makeSlice 26 (.int .i64 8) (.int .i64 8)).run Try.prog w = .ok (.slice (some ⟨w.heap.size, 0, none⟩) 8 8) (w.alloc (.cells #[.int .u64 0, .int .u64 0, .int .u64 0, .int .u64 0, .int .u64 0, .int .u64 0, .int .u64 0, .int .u64 0] 22)) :=
  fun _ => by kernel_rfl
theorem own8 (w : World) : (w.alloc (.cells #[.int .u64 0, .int .u64 0, .int .u64 0, .int .u64 0, .int .u64 0, .int .u64 0, .int .u64 0, .int .u64 0] 22)).ownsRow 0 22 1 (.slice (some ⟨w.heap.size, 0, none⟩) 8 8) 8 (u64s (digs 8 0)) :=
  own_new w (u64s (digs 8 0)) 22 (by unfold maxLen; simp [u64s, digs])

def SubEnds (w : World) (x y : Nat) (e : Ending) (w' : World) : Prop := ∃ v n, e = .returned (.tuple #[v, .bool (decide (y ≤ x))]) ∧ NewDig w w' v n ∧ (y ≤ x → n = x - y)

set_option maxRecDepth 100000 in
set_option maxHeartbeats 1000000 in
theorem rsub_any (p q : Option Addr) (c d x y : Nat) (w : World) (hx : Dig w p x) (hy : Dig w q y) (bx : x < 340282366920938463463374607431768211456) (hby : y < 340282366920938463463374607431768211456) :
    Calls Try.prog 15 #[.slice p 8 c, .slice q 8 d] w (SubEnds w x y) := by
  have HX := Lib.hid hx
  have HY := Lib.hid hy
  have HC := Lib.hid (rcmp_any p q c d x y w hx hy bx hby)
  have HR : Hid (∀ j : Nat, j < 8 → Room (j + 1)) := Lib.hid fun j h => Room.mk (by omega)
  clear hx hy bx hby
  by_cases hle : y ≤ x
  · have HDT := Lib.hid (decide_eq_true hle)
    obtain ⟨D, hD⟩ : ∃ D, x = D + y := ⟨x - y, by omega⟩
    have HXD := Lib.hid hD
    have hcm : decide (cmpR x y < 0) = false := decide_eq_false (by unfold cmpR; split <;> first | omega | (split <;> omega))
    obtain ⟨C, hCe⟩ : ∃ C, cmpR x y = C := ⟨_, rfl⟩
    rw [hCe] at HC hcm
    clear hCe hle hD
    go_enter Try.func15, Try.ntmps15
    go_wp2_with fail
    refine HC.out.mono ?_
    rintro e w1 ⟨rfl, n, rfl⟩
    go_wp2_with fail
    go_loopw [6, 7, 8, 9] (fun v m i _ wr => ∃ j : Nat, j ≤ 8 ∧ i = .int .i64 j ∧ m = .int .u64 (cy D y j : Nat) ∧ Fr S0 w wr ∧ wr.ownsRow 0 22 1 v j (u64s (digs j D)) ∧ Fresh w v) (fun _ _ i _ _ => 8 - (intOf i).toNat)
    case atStart => exact ⟨0, by omega, rfl, by rw [cy_zero]; rfl, Fr.drewN _ _ _, World.ownsRow_nil _ _ _ _, fresh_nil _ _⟩
    case round =>
      obtain ⟨j, hj, rfl, rfl, hfr, own, hfv⟩ := hrel
      by_cases h8 : (j : Int) < 8
      · obtain ⟨b, o, rfl, hc⟩ := (HX.out.fr0 hfr).at j (by omega)
        obtain ⟨b2, o2, rfl, hc2⟩ := (HY.out.fr0 hfr).at j (by omega)
        have hnx := sub_next D y j
        rw [← HXD.out] at hnx
        have HS : Hid (digs (j + 1) D = digs j D ++ [dg D j]) := Lib.hid (digs_snoc j D)
        rw [← hnx.1] at HS
        have H2 : Hid (cy D y (j + 1) = 1 - (dg x j + 65536 - dg y j - cy D y j) / 65536) := Lib.hid hnx.2.symm
        have l1 := dg_lt x j
        have l2 := dg_lt y j
        have l3 := cy_le D y j
        obtain ⟨X, hX⟩ : ∃ X, dg x j = X := ⟨_, rfl⟩
        obtain ⟨Y, hY⟩ : ∃ Y, dg y j = Y := ⟨_, rfl⟩
        obtain ⟨C, hC⟩ : ∃ C, cy D y j = C := ⟨_, rfl⟩
        rw [hX] at hc HS H2 l1
        rw [hY] at hc2 HS H2 l2
        rw [hC] at HS H2 l3 ⊢
        have em : (((X : Int) + 65536 - (Y : Int) - (C : Int)) % 65536) = (((X + 65536 - Y - C) % 65536 : Nat) : Int) := by omega
        have EM := Lib.hid em
        have e2 : 1 - (((X : Int) + 65536 - (Y : Int) - (C : Int)) / 65536) = ((1 - (X + 65536 - Y - C) / 65536 : Nat) : Int) := by omega
        have E2 := Lib.hid e2
        have HRJ := Lib.hid (HR.out j (by omega))
        obtain ⟨p, cp, rfl, -, -, -⟩ := slForm own
        clear hX hY hC hnx em e2
        go_wp2_with fail
        go_quiet (fail)
        have own2 := (Fr.drewN S0 wr nq).owns own fun _ _ h => h
        have hfr2 := hfr.trans0 (Fr.drewN S0 wr nq)
        clear own hfr
        go_wp2_with (first
          | ((with_reducible show wpList _ _ _ (Oper.mk (some 35) _ _ _ _ _ :: _) _ _); refine app_one el64 (.tmp 31) (.tmp 34) rfl own2 rfl rfl rfl rfl rfl one8 HRJ.out ?_; intro q cap w1 hown hgrow hat hlt1; have f1 := (hfr2.trans0 (Fr.alloc S0 _ _)).append hgrow hfv; have v1 := fresh_app (n := j + 1) (c := cap) hfr2 hfv hat; clear hgrow hat hlt1)
          | fail)
        go_roundw
        case rel =>
          refine ⟨j + 1, by omega, by go_num, congrArg (Value.int .u64) (E2.out.trans (by rw [H2.out])), f1, ?_, v1⟩
          rw [HS.out, ← u64s_append, u64s_one, ← EM.out]
          exact hown
        case measure => simp [intOf]; omega
      · obtain rfl : j = 8 := by omega
        obtain ⟨p, cp, rfl, -, -, -⟩ := slForm own
        have HN := Lib.hid (NewDig.mk own hfr)
        clear own hfr
        go_wp2
        go_ret2
        exact ⟨_, D, by rw [HDT.out]; rfl, HN.out, fun _ => by have := HXD.out; omega⟩
  · have HDT := Lib.hid (decide_eq_false hle)
    have hcm : cmpR x y = -1 := by unfold cmpR; rw [if_neg (by omega), if_pos (by omega)]
    rw [hcm] at HC
    have HNL := Lib.hid hle
    have hmk := make8
    have HO := Lib.hid (fun W => own8 W)
    clear hcm hle
    go_enter Try.func15, Try.ntmps15
    go_wp2_with fail
    refine HC.out.mono ?_
    rintro e w1 ⟨rfl, n, rfl⟩
    have HN := Lib.hid (NewDig.mk (HO.out (w.drewN n)) ((Fr.drewN S0 w n).trans0 (Fr.alloc _ _ _)))
    clear HO
    go_wp2
    go_ret2
    exact ⟨_, 0, by rw [HDT.out]; rfl, HN.out, fun h => absurd h HNL.out⟩
end Go.Proofs.Ytmaiahkkekkbbaa
