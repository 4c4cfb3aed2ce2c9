/- A drawn region: what holds behind each operation may be sharpened on the way. -/
import Derived.Test.YtbpfmjekpjfceaaRegCalls
namespace Go.Proofs.Ytbpfmjekpjfceaa
open Go

theorem wpAnyH_mono {P : Program} {ops : Array Oper} {Q : Exit → Act → World → Prop} {md : Region.Mode} {S1 S2 : World → Prop} (hS : ∀ w, S2 w → S1 w) : ∀ (fuel : Nat) (listed : Array Bool) (a : Act) (w : World), wpAnyH P md ops Q S2 fuel listed a w → wpAnyH P md ops Q S1 fuel listed a w
  | 0, _, _, _, h => h
  | fuel + 1, _, _, _, h => ⟨h.1, fun i hi => wpOp_mono (fun _ _ k => ⟨hS _ k.1, wpAnyH_mono hS fuel _ _ _ k.2⟩) (h.2 i hi)⟩
end Go.Proofs.Ytbpfmjekpjfceaa
