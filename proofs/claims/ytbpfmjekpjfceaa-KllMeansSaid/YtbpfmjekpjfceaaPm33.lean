/- WdRef, WdRef2 -/
import Derived.Test.YtbpfmjekpjfceaaPm1
import Derived.Test.YtbpfmjekpjfceaaPm3
import Derived.Test.YtbpfmjekpjfceaaPm16
import Derived.Test.YtbpfmjekpjfceaaPm32
import Derived.StillTailTactics
import Derived.Lib.BitFns
import Derived.Laws.BytesArg
import Derived.Lib.SlBytesConst
import Derived.Maps.AppendAt
import Derived.Laws.AppendOwnNone
import Derived.WalkKit
import Derived.WalkSpells
import Derived.WalkLawsBesides
import Derived.Deep.QuietTactic
import Derived.BigQuiet
import Derived.RegionTactic
import Derived.Deep.AppendLies
import Derived.Deep.RegionLaw
import Derived.Laws.ResultCell
import Derived.Laws.EntriesVeiled
import Derived.Lib.Hide
import Derived.Test.YtbpfmjekpjfceaaRows
set_option maxRecDepth 100000
set_option maxHeartbeats 8000000
namespace Go.Proofs.Ytbpfmjekpjfceaa
open Go.RowKit
theorem info_u64 : (Try.prog.info? 34).map (fun i => (i.zero, i.size, i.bytes)) = some (some (.int .u64 0), 1, 8) := by kernel_rfl
theorem el64 : ElemOk Try.prog 78 34 (.int .u64 0) 1 8 := ⟨Try.underlying78, info_u64, rfl, by decide, by decide⟩
def u64s (bs : List Nat) : List Value := bs.map fun (x : Nat) => Value.int .u64 (x : Int)
theorem own_new (w : World) (xs : List Value) (t : TypeId) (hl : xs.length ≤ maxLen) : (w.alloc (.cells xs.toArray t)).ownsRow 0 t 1 (.slice (some ⟨w.heap.size, 0, none⟩) xs.length xs.length) xs.length xs :=
  ⟨by simp, .inr ⟨w.heap.size, xs.length, xs.toArray, rfl, Nat.zero_le _, heap_alloc_new w _, Nat.le_refl _, hl, by simp, by simp⟩⟩
def Dig (w : World) (p : Option Addr) (n : Nat) : Prop := SlI w .u64 p (digs 8 n)
theorem Dig.fr0 {w w' : World} {p : Option Addr} {n : Nat} (h : Dig w p n) (f : Fr S0 w w') : Dig w' p n := SlI.fr0 h f
theorem Dig.at {w : World} {p : Option Addr} {n : Nat} (h : Dig w p n) (i : Nat) (hi : i < 8) : ∃ b o, p = some ⟨b, o, none⟩ ∧ w.cell? ⟨b, o + i, none⟩ = some (.int .u64 (dg n i : Nat)) := by
  obtain ⟨b, o, hp, hc⟩ := SlI.at h i (by rw [digs_len]; exact hi)
  exact ⟨b, o, hp, by rw [hc, digs_get]; rfl⟩
theorem Dig.ofOwns {w : World} {p : Option Addr} {c n : Nat} (h : w.ownsRow 0 34 1 (.slice p 8 c) 8 (u64s (digs 8 n))) : Dig w p n := SlI.ofOwns h
def NewDig (w w' : World) (v : Value) (n : Nat) : Prop := ∃ p c, v = .slice p 8 c ∧ Dig w' p n ∧ Fr S0 w w'
theorem NewDig.mk {w w' : World} {p : Option Addr} {c n : Nat} (h : w'.ownsRow 0 34 1 (.slice p 8 c) 8 (u64s (digs 8 n))) (f : Fr S0 w w') : NewDig w w' (.slice p 8 c) n := ⟨p, c, rfl, Dig.ofOwns h, f⟩
theorem digs4 (n : Nat) (hn : n < 18446744073709551616) : digs 4 n = [n % 65536, n / 65536 % 65536, n / 4294967296 % 65536, n / 281474976710656] := by
  simp only [digs, Nat.div_div_eq_div_mul, List.cons.injEq, and_true, true_and]
  omega
theorem rdigits_any (n : Nat) (w : World) (hn : n < 18446744073709551616) :
    Calls Try.prog 89 #[.int .u64 (n : Int)] w fun e w' => ∃ g, e = .returned (.slice (some ⟨g, 0, none⟩) 4 4) ∧ w'.ownsRow 0 34 1 (.slice (some ⟨g, 0, none⟩) 4 4) 4 (u64s (digs 4 n)) ∧ Fr S0 w w' ∧ w.heap.size ≤ g := by
  have hd := digs4 n hn
  have a0 : (n : Int) % 65536 = ((n % 65536 : Nat) : Int) := by omega
  have a1 : (n : Int) / 65536 % 65536 = ((n / 65536 % 65536 : Nat) : Int) := by omega
  have a2 : (n : Int) / 4294967296 % 65536 = ((n / 4294967296 % 65536 : Nat) : Int) := by omega
  have a3 : (n : Int) / 281474976710656 = ((n / 281474976710656 : Nat) : Int) := by omega
  have HO : Hid ((w.alloc (.cells #[.int .u64 ((n : Int) % 65536), .int .u64 ((n : Int) / 65536 % 65536), .int .u64 ((n : Int) / 4294967296 % 65536), .int .u64 ((n : Int) / 281474976710656)] 34)).ownsRow 0 34 1
      (.slice (some ⟨w.heap.size, 0, none⟩) 4 4) 4 (u64s (digs 4 n))) := Lib.hid (by
    rw [a0, a1, a2, a3, hd]
    exact own_new w (u64s [n % 65536, n / 65536 % 65536, n / 4294967296 % 65536, n / 281474976710656]) 34 (by unfold maxLen; simp [u64s]))
  clear a0 a1 a2 a3 hd
  go_enter Try.func89, Try.ntmps89
  go_wp2
  go_ret
  exact ⟨w.heap.size, rfl, HO.out, Fr.alloc _ _ _, Nat.le_refl _⟩
theorem rnumber_any (p : Option Addr) (c n f : Nat) (w : World) (h : Dig w p n) (hf : f ≤ 4) :
    Calls Try.prog 69 #[.slice p 8 c, .int .i64 (f : Int)] w fun e w' => e = .returned (.int .u64 (n / 65536 ^ f % 18446744073709551616 : Nat)) ∧ w = w' := by
  have H := Lib.hid h
  clear h
  go_enter Try.func69, Try.ntmps69
  go_wp2
  go_loopw [5, 6] (fun m i wr => ∃ j : Nat, j ≤ 4 ∧ i = .int .i64 ((f : Int) + 3 - (j : Int)) ∧ m = .int .u64 (n / 65536 ^ (f + 4 - j) % 65536 ^ j : Nat) ∧ w = wr) (fun _ i _ => (intOf i + 1 - (f : Int)).toNat)
  case atStart => exact ⟨0, by omega, by simp, by simp [Nat.mod_one], rfl⟩
  case round =>
    obtain ⟨j, hj, rfl, rfl, rfl⟩ := hrel
    by_cases h4 : j < 4
    · obtain ⟨i, hi⟩ : ∃ i, f + 3 - j = i := ⟨_, rfl⟩
      have hm : n / 65536 ^ (f + 4 - j) % 65536 ^ j < 281474976710656 := by
        have h1 : n / 65536 ^ (f + 4 - j) % 65536 ^ j < 65536 ^ j := Nat.mod_lt _ (Nat.pow_pos (by decide))
        have h2 : 65536 ^ j ≤ 65536 ^ 3 := Nat.pow_le_pow_right (by decide) (by omega)
        omega
      have hnx := four_next n i j
      rw [show i + 1 = f + 4 - j by omega] at hnx
      obtain ⟨m, hme⟩ : ∃ m, n / 65536 ^ (f + 4 - j) % 65536 ^ j = m := ⟨_, rfl⟩
      rw [hme] at hm hnx ⊢
      obtain ⟨b, o, rfl, hc⟩ := H.out.at i (by omega)
      have hx8 := dg_lt n i
      obtain ⟨x, hx⟩ : ∃ x, dg n i = x := ⟨_, rfl⟩
      rw [hx] at hc hnx hx8
      have HN := Lib.hid hnx
      have ei : (f : Int) + 3 - (j : Int) = (i : Int) := by omega
      have HI : Hid (f + 4 - (j + 1) = i) := Lib.hid (by omega)
      rw [ei]
      have q1 : (f : Int) ≤ (i : Int) := by omega
      have q2 : i < 8 := by omega
      clear hi hme hx hnx ei
      go_wp2
      go_roundw
      case rel => exact ⟨j + 1, by omega, congrArg (Value.int .i64) (by have := HI.out; omega), by rw [HI.out, HN.out]; go_num, by trivial⟩
      case measure => simp [intOf]; omega
    · obtain rfl : j = 4 := by omega
      have HE : Hid (n / 65536 ^ (f + 4 - 4) % 65536 ^ 4 = n / 65536 ^ f % 18446744073709551616) := Lib.hid (by rw [show f + 4 - 4 = f by omega, show (65536 : Nat) ^ 4 = 18446744073709551616 by decide])
      obtain ⟨m, hme⟩ : ∃ m, n / 65536 ^ (f + 4 - 4) % 65536 ^ 4 = m := ⟨_, rfl⟩
      rw [hme] at HE ⊢
      clear hme
      go_wp2
      go_ret
      exact ⟨congrArg (fun z : Nat => Ending.returned (Value.int .u64 (z : Int))) HE.out, rfl⟩
end Go.Proofs.Ytbpfmjekpjfceaa

namespace Go.Proofs.Ytbpfmjekpjfceaa
open Go.RowKit
theorem u64s_append (a b : List Nat) : u64s a ++ u64s b = u64s (a ++ b) := by simp [u64s]
theorem u64s_one (x : Nat) : u64s [x] = [.int .u64 (x : Int)] := rfl
theorem radd_any (p q : Option Addr) (c d x y : Nat) (w : World) (hx : Dig w p x) (hy : Dig w q y) :
    Calls Try.prog 66 #[.slice p 8 c, .slice q 8 d] w fun e w' => ∃ v, e = .returned (.tuple #[v, .bool (cy x y 8 == 0)]) ∧ NewDig w w' v (x + y) := by
  have HX := Lib.hid hx
  have HY := Lib.hid hy
  have HR : Hid (∀ j : Nat, j < 8 → Room (j + 1)) := Lib.hid fun j h => Room.mk (by omega)
  clear hx hy
  go_enter Try.func66, Try.ntmps66
  go_wp2
  go_loopw [6, 7, 8, 9] (fun v m i _ wr => ∃ j : Nat, j ≤ 8 ∧ i = .int .i64 j ∧ m = .int .u64 (cy x y j : Nat) ∧ Fr S0 w wr ∧ wr.ownsRow 0 34 1 v j (u64s (digs j (x + y))) ∧ Fresh w v) (fun _ _ i _ _ => 8 - (intOf i).toNat)
  case atStart => exact ⟨0, by omega, rfl, by rw [cy_zero]; rfl, Fr.refl _ _, World.ownsRow_nil _ _ _ _, fresh_nil _ _⟩
  case round =>
    obtain ⟨j, hj, rfl, rfl, hfr, own, hfv⟩ := hrel
    by_cases h8 : (j : Int) < 8
    · obtain ⟨b, o, rfl, hc⟩ := (HX.out.fr0 hfr).at j (by omega)
      obtain ⟨b2, o2, rfl, hc2⟩ := (HY.out.fr0 hfr).at j (by omega)
      have hnx := cy_next x y j
      have HS : Hid (digs (j + 1) (x + y) = digs j (x + y) ++ [dg (x + y) j]) := Lib.hid (digs_snoc j (x + y))
      rw [← hnx.1] at HS
      have H2 : Hid (cy x y (j + 1) = (dg x j + dg y j + cy x y j) / 65536) := Lib.hid hnx.2.symm
      have l1 := dg_lt x j
      have l2 := dg_lt y j
      have l3 := cy_le x y j
      obtain ⟨X, hX⟩ : ∃ X, dg x j = X := ⟨_, rfl⟩
      obtain ⟨Y, hY⟩ : ∃ Y, dg y j = Y := ⟨_, rfl⟩
      obtain ⟨C, hC⟩ : ∃ C, cy x y j = C := ⟨_, rfl⟩
      rw [hX] at hc HS H2 l1
      rw [hY] at hc2 HS H2 l2
      rw [hC] at HS H2 l3 ⊢
      have em : (((X : Int) + (Y : Int) + (C : Int)) % 65536) = (((X + Y + C) % 65536 : Nat) : Int) := by omega
      have EM := Lib.hid em
      have HRJ := Lib.hid (HR.out j (by omega))
      obtain ⟨p, cp, rfl, -, -, -⟩ := slForm own
      clear hX hY hC hnx em
      go_wp2_with fail
      go_quiet (fail)
      have own2 := (Fr.drewN S0 wr nq).owns own fun _ _ h => h
      have hfr2 := hfr.trans0 (Fr.drewN S0 wr nq)
      clear own hfr
      go_wp2_with (first
        | ((with_reducible show wpList _ _ _ (Oper.mk (some 29) _ _ _ _ _ :: _) _ _); refine app_one el64 (.tmp 25) (.tmp 28) rfl own2 rfl rfl rfl rfl rfl one8 HRJ.out ?_; intro q cap w1 hown hgrow hat hlt1; have f1 := (hfr2.trans0 (Fr.alloc S0 _ _)).append hgrow hfv; have v1 := fresh_app (n := j + 1) (c := cap) hfr2 hfv hat; clear hgrow hat hlt1)
        | fail)
      go_roundw
      case rel =>
        refine ⟨j + 1, by omega, by go_num, by rw [H2.out]; go_num, f1, ?_, v1⟩
        rw [HS.out, ← u64s_append, u64s_one, ← EM.out]
        exact hown
      case measure => simp [intOf]; omega
    · obtain rfl : j = 8 := by omega
      obtain ⟨C, hC⟩ : ∃ C, cy x y 8 = C := ⟨_, rfl⟩
      rw [hC]
      have HC := Lib.hid hC
      clear hC
      obtain ⟨p, cp, rfl, -, -, -⟩ := slForm own
      have HN := Lib.hid (NewDig.mk own hfr)
      clear own hfr
      go_wp2
      go_ret2
      exact ⟨_, congrArg (fun z => Ending.returned (.tuple #[_, .bool z])) (by have := HC.out; rw [Bool.eq_iff_iff, beq_iff_eq, beq_iff_eq]; omega), HN.out⟩
theorem make8 : ∀ w : World, (Instr.makeSlice 78 (.int .i64 8) (.int .i64 8)).run Try.prog w = .ok (.slice (some ⟨w.heap.size, 0, none⟩) 8 8) (w.alloc (.cells #[.int .u64 0, .int .u64 0, .int .u64 0, .int .u64 0, .int .u64 0, .int .u64 0, .int .u64 0, .int .u64 0] 34)) :=
  fun _ => by kernel_rfl
theorem own8 (w : World) : (w.alloc (.cells #[.int .u64 0, .int .u64 0, .int .u64 0, .int .u64 0, .int .u64 0, .int .u64 0, .int .u64 0, .int .u64 0] 34)).ownsRow 0 34 1 (.slice (some ⟨w.heap.size, 0, none⟩) 8 8) 8 (u64s (digs 8 0)) :=
  own_new w (u64s (digs 8 0)) 34 (by unfold maxLen; simp [u64s, digs])
end Go.Proofs.Ytbpfmjekpjfceaa
