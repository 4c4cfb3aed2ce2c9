/- What Cut does. -/
import Derived.Test.YtegdhggilaehdaaRkCut
namespace Go.Proofs.Ytegdhggilaehdaa
open Go.RowKit
theorem cell_two (w : World) (x y : Value) (t s : TypeId) : ((w.alloc (.cells #[x] t)).alloc (.cells #[y] s)).cell? ⟨w.heap.size + 1, 0, none⟩ = some y ∧ ((w.alloc (.cells #[x] t)).alloc (.cells #[y] s)).cell? ⟨w.heap.size, 0, none⟩ = some x := by
  refine ⟨?_, (Fr.alloc S0 _ _).cell (cell_new _ _ _) fun h => h⟩
  have := cell_new (w.alloc (.cells #[x] t)) y s
  rw [show (w.alloc (.cells #[x] t)).heap.size = w.heap.size + 1 by simp] at this
  exact this

set_option maxRecDepth 100000 in
set_option maxHeartbeats 1000000 in
theorem cut_yes (n m k : Nat) (w : World) (hn : n < 18446744073709551616) (n0 : 0 < n) (hm : m < 1000) (hk : m + 1 = k) :
    Calls Try.prog 40 #[.int .u64 (n : Int), .int .i64 (k : Int)] w fun e w' => ∃ v, e = .returned (.tuple #[v, .int .i64 0]) ∧ Ranks w w' v m k n := by
  have hmf := makeF
  have HG := Lib.hid (fun g1 g2 W c1 c2 => gather_any g1 g2 m k n W c1 c2 hn n0 (by omega) hk)
  have hn0 : ((n : Int) == 0) = false := by rw [beq_eq_false_iff_ne]; omega
  have d1 : decide ((k : Int) < 1) = false := decide_eq_false (by omega)
  have d2 : decide (1000 < (k : Int)) = false := decide_eq_false (by omega)
  have s1 : (k : Int) - 1 = (m : Int) := by omega
  have CC := Lib.hid (cell_two w (.int .u64 (n : Int)) (.int .i64 (k : Int)) 29 3)
  have FF : Hid (Fr S0 w ((w.alloc (.cells #[.int .u64 (n : Int)] 29)).alloc (.cells #[.int .i64 (k : Int)] 3))) := Lib.hid ((Fr.alloc _ _ _).trans0 (Fr.alloc _ _ _))
  clear hn n0 hk
  go_enter Try.func40, Try.ntmps40
  go_wp2_with fail
  generalize (w.alloc (.cells #[.int .u64 (n : Int)] 29)).alloc (.cells #[.int .i64 (k : Int)] 3) = W at CC FF ⊢
  refine (HG.out _ _ _ CC.out.1 CC.out.2).mono ?_
  rintro e w1 ⟨v, rfl, p, c, l, rfl, sl, ht, f1⟩
  have HE : Hid (Ranks w w1 (.slice p m c) m k n) := Lib.hid ⟨p, c, l, rfl, sl, ht, FF.out.trans0 f1⟩
  clear sl ht f1
  go_wp2
  go_ret2
  exact ⟨_, rfl, HE.out⟩
end Go.Proofs.Ytegdhggilaehdaa
