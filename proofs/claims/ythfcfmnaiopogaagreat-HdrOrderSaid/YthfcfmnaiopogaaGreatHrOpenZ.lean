/- A slice of whole numbers that came in, opened: one that is nil has no room. -/
import Derived.Test.YthfcfmnaiopogaaGreatHrOpen
namespace Go.Proofs.YthfcfmnaiopogaaGreat
open Go.RowKit Go.ChangeShapes Go.WideShapes Go.Deep

theorem zsOpenZ {H : Type} {enc : TypeId × Value → H} {W : World} {base : Nat} {spare : Nat → Bool} {held : Bool} {fuel len cap : Nat} {a0 : Option Addr} {x : DataW H × List MemPlace}
    (hf : DataW.trod enc Tryz.prog W base spare held fuel 42 [.slice a0 len cap] = some x) :
    ∃ l : List Int, l.length = len ∧ ZI W a0 l ∧ (∀ v ∈ l, -9223372036854775808 ≤ v ∧ v ≤ 9223372036854775807) ∧ (a0 = none → cap = 0) := by
  obtain ⟨l, h1, h2, h3, -⟩ := zsOpen hf
  refine ⟨l, h1, h2, h3, fun he => ?_⟩
  rcases open_ints Tryz.underlying42 Tryz.underlying2 (by kernel_rfl) hf with ⟨hcs, _⟩ | ⟨x, l, c, zs, hcs, _⟩
  · simp only [List.cons.injEq, Value.slice.injEq, and_true] at hcs
    exact hcs.2.2
  · simp only [List.cons.injEq, Value.slice.injEq, and_true] at hcs
    rw [he] at hcs
    exact absurd hcs.1 (by simp)
end Go.Proofs.YthfcfmnaiopogaaGreat
