/- RegCalls -/
import Derived.Deep.RegionHeld3
/- A drawn region whose calls yield the same in every world that meets a condition, and keep it: such a call may be taken first, in one way alone. -/
namespace Go.Proofs.YtnndgpggjlhhpaaGreat
open Go

section
variable {P : Program} {ops : Array Oper} {Q : Exit → Act → World → Prop} {md : Region.Mode} {S : World → Prop}

/-- operation i may stand ahead of all that hasn't come up and doesn't wait for it -/
def Lone (md : Region.Mode) (ops : Array Oper) (oi : Oper) (i : Nat) (listed : Array Bool) : Prop :=
  ∀ j oj, ops[j]? = some oj → j ≠ i → listed.getD j true = false → (∀ e ∈ oj.after, Region.binds md e = true → e.on ≠ i) → oi.apart ops oj = true
theorem Lone.step {oi : Oper} {i j : Nat} {listed : Array Bool} (h : Lone md ops oi i listed) (hj : listed.getD j true = false) : Lone md ops oi i (listed.setIfInBounds j true) := fun k ok hk hki hun hno => by
  refine h k ok hk hki ?_ hno
  by_cases hjk : j = k
  · rw [← hjk]; exact hj
  · rw [getD_set_ne true hjk] at hun; exact hun
end
end Go.Proofs.YtnndgpggjlhhpaaGreat
