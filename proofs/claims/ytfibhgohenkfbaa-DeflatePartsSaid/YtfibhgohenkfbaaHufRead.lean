/- The document's answers of layer 5: what is read. -/
import Derived.Test.YtfibhgohenkfbaaHufRef
import Derived.Deep.RegionHeld3
namespace Go.Proofs.Ytfibhgohenkfbaa
open Go.RowKit

theorem code_succ (c j : Nat) : code c (j + 1) = [c / 2 ^ j % 2] ++ code c j := by
  unfold code
  rw [grp_succ, List.reverse_append]
  rfl

set_option maxRecDepth 100000 in
set_option maxHeartbeats 400000 in
theorem rbits5_any (c n : Nat) (w : World) (hc : c < 4294967296) (hn : n ≤ 15) :
    Calls Try.prog 29 #[.int .u32 c, .int .u8 n] w fun e w' => ∃ v, e = .returned v ∧ Fr S0 w w' ∧ RowNew w w' v (code c n) := by
  have HR : Hid (∀ j : Nat, j < n → Room (1 + j)) := Lib.hid fun j h => Room.mk (by omega)
  go_enter Try.func29, Try.ntmps29
  go_wp2_with fail
  go_loopw [0, 5, 6] (fun m v i wr => ∃ j : Nat, j ≤ n ∧ i = .int .u8 j ∧ m = .int .u32 (c / 2 ^ j : Nat) ∧ Fr S0 w wr ∧ wr.ownsRow 0 5 1 v j (u8s (code c j)) ∧ Fresh w v) (fun _ _ i _ => n - (intOf i).toNat)
  case atStart => exact ⟨0, by omega, rfl, by rw [Nat.pow_zero, Nat.div_one], Fr.refl _ _, World.ownsRow_nil _ _ _ _, fresh_nil _ _⟩
  case round =>
    obtain ⟨j, hj, rfl, rfl, hfr, own, hfv⟩ := hrel
    have HD : Hid (c / 2 ^ (j + 1) = c / 2 ^ j / 2) := Lib.hid (by rw [Nat.div_div_eq_div_mul, Nat.pow_succ])
    have HG := Lib.hid (code_succ c j)
    obtain ⟨m, hm⟩ : ∃ m, c / 2 ^ j = m := ⟨_, rfl⟩
    have hms : m < 4294967296 := by rw [← hm]; exact Nat.lt_of_le_of_lt (Nat.div_le_self _ _) hc
    have em : (m : Int) % 2 = ((m % 2 : Nat) : Int) := by omega
    have EM := Lib.hid em
    rw [hm] at HD HG ⊢
    clear hm em
    by_cases hjc : (j : Int) < (n : Int)
    · have HRJ := Lib.hid (HR.out j (by omega))
      obtain ⟨p, cp, rfl, -, -, -⟩ := slForm own
      have HSZ := Lib.hid hfr.size
      go_wp2_with (first
        | ((with_reducible show wpList _ _ _ (Oper.mk (some 17) _ _ _ _ _ :: _) _ _); refine app_many el8 (.tmp 15) (.tmp 16) (own_one wr _ 5) (SrcIs.ofOwns (own.alloc _)) rfl rfl rfl rfl rfl (one8s _) HRJ.out ?_; intro q1 c1 w1 own1 g1 at1; have f1 := fr_made hfr g1; have v1 := fresh_many (fresh_made (n := 1) (c := 1) hfr) (size_le hfr) at1; clear g1 at1)
        | fail)
      go_roundw
      case rel =>
        refine ⟨j + 1, by omega, by go_num, by rw [HD.out]; go_num, f1, ?_, v1⟩
        rw [HG.out, ← u8s_append, u8s_one, ← EM.out, Nat.add_comm j 1]
        exact own1
      case measure => simp [intOf]; omega
    · obtain rfl : j = n := by omega
      go_wp2
      go_ret
      exact ⟨_, rfl, hfr, by rw [code_length]; exact own, hfv⟩

/-- bits begin with others -/
def begB (A C : List Nat) : Bool := decide (C.length ≤ A.length ∧ A.take C.length = C)

/-- what the document says is read -/
def RefFound (l B : List Nat) (e : Ending) : Prop :=
  (∃ i, hits l B i ∧ e = .returned (.tuple #[.int .i64 (i : Nat), .int .i64 (len l i : Nat), .int .i64 0])) ∨
  ((∀ i, ¬ hits l B i) ∧ mx l = 0 ∧ e = .returned (.tuple #[.int .i64 0, .int .i64 0, .int .i64 62])) ∨
  ((∀ i, ¬ hits l B i) ∧ mx l ≠ 0 ∧ (ful l ∨ B.length = 0) ∧ e = .returned (.tuple #[.int .i64 0, .int .i64 (B.length : Nat), .int .i64 20])) ∨
  ((∀ i, ¬ hits l B i) ∧ mx l ≠ 0 ∧ ¬ (ful l ∨ B.length = 0) ∧ e = .returned (.tuple #[.int .i64 0, .int .i64 1, .int .i64 62]))
def RefTold (w : World) (l B : List Nat) (e : Ending) (w' : World) : Prop := RefFound l B e ∧ Fr S0 w w'
theorem begB_hits {l B : List Nat} (hb : Bit01 B) (ok : okl l) (hm : mx l ≤ 15) {i : Nat} (hi : 0 < len l i) : begB B (code (cod l i) (len l i)) = decide (hits l B i) := by
  have hc := cod_two ok hi hm
  unfold begB
  rw [decide_eq_decide, code_length]
  constructor
  · rintro ⟨h1, h2⟩
    refine ⟨hi, h1, ?_⟩
    rw [h2, val_code, Nat.mod_eq_of_lt hc]
  · rintro ⟨-, h1, h2⟩
    refine ⟨h1, val_inj (hb.sub fun _ hx => List.mem_of_mem_take hx) (code_bit _ _) (by rw [List.length_take, code_length]; omega) ?_⟩
    rw [h2, val_code, Nat.mod_eq_of_lt hc]
theorem hits_none {l B : List Nat} (h : ∀ i, i < l.length → ¬ hits l B i) : ∀ i, ¬ hits l B i := fun i hi => h i (len_in hi.1) hi
theorem mx_flag {l : List Nat} {j : Nat} (hj : j < l.length) {F : Bool} (hF : F = decide (mx (l.take j) ≠ 0)) (h : F = true ∨ 0 < len l j) : true = decide (mx (l.take (j + 1)) ≠ 0) := by
  rw [mx_take l j hj]
  refine (decide_eq_true ?_).symm
  rcases h with h | h
  · rw [hF] at h
    have := of_decide_eq_true h
    omega
  · omega
theorem mx_flag0 {l : List Nat} {j : Nat} (hj : j < l.length) {F : Bool} (hF : F = decide (mx (l.take j) ≠ 0)) (h0 : len l j = 0) : F = decide (mx (l.take (j + 1)) ≠ 0) := by
  rw [mx_take l j hj, h0, hF, decide_eq_decide]
  omega

end Go.Proofs.Ytfibhgohenkfbaa
