/- Alignments and texts are written; the bytes are told. -/
import Derived.Test.YtbpfmjekpjfceaaBitWr
namespace Go.Proofs.Ytbpfmjekpjfceaa
open Go.RowKit

/-- zeros up to a whole byte -/
def alg (L : List Nat) : List Nat := L ++ List.replicate ((L.length + 7) / 8 * 8 - L.length) 0
theorem alg_length (L : List Nat) : (alg L).length = (L.length + 7) / 8 * 8 := by
  unfold alg
  rw [List.length_append, List.length_replicate]; omega
theorem alg_bit {L : List Nat} (h : Bit01 L) : Bit01 (alg L) := h.app (.zeros _)
theorem byt_alg (L : List Nat) : byt (alg L) = byt L := byt_pad L _ (by omega)
theorem byt_text' (L l : List Nat) (h : ∀ x ∈ l, x < 256) : byt (alg L ++ bts l) = byt L ++ l := by
  rw [byt_text _ _ (by rw [alg_length]; omega) h, byt_alg]

set_option maxRecDepth 100000 in
set_option maxHeartbeats 400000 in
theorem clone_any (q : Option Addr) (d : Nat) (l : List Nat) (w : World) (hl : SlI w .u8 q l) (hq : q = none → d = 0) (hL : l.length ≤ 140737488355328) :
    Calls Try.prog 70 #[.slice q l.length d] w fun e w' => ∃ v, e = .returned v ∧ Fr S0 w w' ∧ RowNew w w' v l := by
  have hnil : ∀ (w : World) (a : Option Addr) (n c n' c' : Nat), (binOp .eql 23 (.slice a n c) (.slice none n' c')).run Try.prog w = .ok (.bool a.isNone) w := fun w a n c n' c' => Lib.run_eql_slice_nil w _ _ a n c n' c' Try.underlying23
  cases q with
  | none =>
    obtain rfl : l = [] := by
      by_cases h : l = []
      · exact h
      · obtain ⟨b, o, hp, -⟩ := hl.2 h
        cases hp
    obtain rfl := hq rfl
    go_enter Try.func70, Try.ntmps70
    go_wp2
    go_ret
    exact ⟨_, rfl, Fr.refl _ _, World.ownsRow_nil _ _ _ _, fresh_nil _ _⟩
  | some a =>
    have HR : Hid (l.length * 1 ≤ 140737488355328 ∧ l.length ≤ maxLen) := Lib.hid ⟨by omega, by unfold maxLen; omega⟩
    have hs := SrcIs.ofSl (hl.fr0 (Fr.alloc S0 w (.cells #[] 5))) hq
    clear hl hL hq
    go_enter Try.func70, Try.ntmps70
    go_wp2_with (first
      | ((with_reducible show wpList _ _ _ (Oper.mk (some 7) _ _ _ _ _ :: _) _ _); refine app_many_big el8 (.tmp 5) (.tmp 6) (own_none w _) hs (Nat.zero_add _) rfl rfl rfl rfl (ones _) HR.out.1 HR.out.2 ?_; intro p1 c1 w1 own1 g1 at1; have f1 := fr_made (Fr.refl S0 w) g1; have v1 := fresh_many (fresh_made (n := 0) (c := 0) (Fr.refl S0 w)) (size_le (Fr.refl S0 w)) at1; clear g1 at1)
      | fail)
    go_ret
    exact ⟨_, rfl, f1, by rw [List.nil_append] at own1; exact own1, v1⟩

end Go.Proofs.Ytbpfmjekpjfceaa
