/- The document's comparison of two lists, where they are the same. -/
import Derived.Test.YtgjiepbaagmmiaaBase
namespace Go.Proofs.Ytgjiepbaagmmiaa
open Go.RowKit

set_option maxRecDepth 100000 in
set_option maxHeartbeats 1000000 in
theorem same_any (p q : Option Addr) (c d : Nat) (l : List Nat) (w : World) (h1 : SlI w .u64 p l) (h2 : SlI w .u64 q l) :
    Calls Try.prog 12 #[.slice p l.length c, .slice q l.length d] w fun e w' => e = .returned (.bool true) ∧ Fr S0 w w' := by
  have hlen := h1.1
  unfold maxLen at hlen
  have hb : ((l.length : Int) != (l.length : Int)) = false := by simp
  go_enter Try.func12, Try.ntmps12
  go_wp2
  go_loopw [5] (fun i wr => ∃ k : Nat, k ≤ l.length ∧ i = .int .i64 k ∧ Fr S0 w wr) (fun i _ => l.length - (intOf i).toNat)
  case atStart => exact ⟨0, by omega, rfl, Fr.refl _ _⟩
  case round =>
    obtain ⟨k, hk, rfl, hfr⟩ := hrel
    by_cases hlt : (k : Int) < (l.length : Int)
    · have hkl : k < l.length := by omega
      obtain ⟨b1, o1, rfl, c1⟩ := (h1.fr0 hfr).at k hkl
      obtain ⟨b2, o2, rfl, c2⟩ := (h2.fr0 hfr).at k hkl
      have hx : ((l[k] : Int) != (l[k] : Int)) = false := by simp
      go_wp2
      go_quiet (fail)
      go_wp2
      go_roundw
      case rel => exact ⟨k + 1, by omega, by go_num, hfr.trans0 (Fr.drewN S0 _ _)⟩
      case measure => simp [intOf]; omega
    · go_wp2
      go_ret
      exact ⟨rfl, hfr⟩
end Go.Proofs.Ytgjiepbaagmmiaa
