/- The code's lists by size: one is copied. -/
import Derived.Test.YtbpfmjekpjfceaaKcMrg2
namespace Go.Proofs.Ytbpfmjekpjfceaa
open Go.RowKit

theorem none_z (w : World) : (w.alloc (.cells #[] 2)).ownsRow 0 2 1 (.slice (some ⟨w.heap.size, 0, none⟩) 0 0) 0 [] :=
  ⟨rfl, .inr ⟨w.heap.size, 0, #[], rfl, Nat.zero_le _, heap_alloc_new w _, Nat.le_refl _, by unfold maxLen; omega, rfl, rfl⟩⟩
set_option maxRecDepth 100000 in
set_option maxHeartbeats 400000 in
theorem clonez_any (q : Option Addr) (m d : Nat) (l : List Int) (w : World) (z : Sz w q m d l) (hL : m ≤ 1000000000000) :
    Calls Try.prog 52 #[.slice q m d] w fun e w' => ∃ v, e = .returned v ∧ AccZ w w' v m l := by
  have hnil : ∀ (w : World) (a : Option Addr) (n c n' c' : Nat), (binOp .eql 53 (.slice a n c) (.slice none n' c')).run Try.prog w = .ok (.bool a.isNone) w := fun w a n c n' c' => Lib.run_eql_slice_nil w _ _ a n c n' c' Try.underlying53
  cases q with
  | none =>
    obtain rfl := z.nil rfl
    obtain rfl : m = 0 := by have := z.cap; omega
    obtain rfl : l = [] := List.eq_nil_of_length_eq_zero z.len
    go_enter Try.func52, Try.ntmps52
    go_wp2
    go_ret
    exact ⟨_, rfl, AccZ.nil (Fr.refl _ _)⟩
  | some a =>
    have HR : Hid (Room m) := Lib.hid (Room.mk (by omega))
    have hs := SrcIs.ofSz (z.fr0 (Fr.alloc S0 w (.cells #[] 2)))
    clear z hL
    go_enter Try.func52, Try.ntmps52
    go_wp2_with (first
      | ((with_reducible show wpList _ _ _ (Oper.mk (some 7) _ _ _ _ _ :: _) _ _); refine app_many elZ (.tmp 5) (.tmp 6) (none_z w) hs (Nat.zero_add _) rfl rfl rfl rfl (one_zs _) HR.out ?_; intro p1 c1 w1 own1 g1 at1; have f1 := fr_made (Fr.refl S0 w) g1; have v1 := fresh_many (fresh_made (n := 0) (c := 0) (Fr.refl S0 w)) (size_le (Fr.refl S0 w)) at1; clear g1 at1)
      | fail)
    go_ret
    exact ⟨_, rfl, by rw [List.nil_append] at own1; exact own1, v1, f1⟩
end Go.Proofs.Ytbpfmjekpjfceaa
