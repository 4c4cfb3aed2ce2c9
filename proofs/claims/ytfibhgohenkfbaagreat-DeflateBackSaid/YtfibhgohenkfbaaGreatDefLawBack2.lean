/- The law on what was written and is read, with the document's reader. -/
import Derived.Test.YtfibhgohenkfbaaGreatDefLawBack
import Derived.Test.YtfibhgohenkfbaaGreatInfReadsAll
namespace Go.Proofs.YtfibhgohenkfbaaGreat
open Go.RowKit

theorem read2 : Read2 := by
  intro q c NX n N K Y T w hY hT h8 own hN hn hr hK
  subst hY hT hK
  refine (sread_any blk_ok q c T.length Y w (SlI.ofOwns own) h8 (by omega) (by omega)).mono ?_
  rintro e w' ⟨f, h⟩
  rw [hr] at h
  obtain ⟨q', c', rfl, o, -⟩ := h
  refine ⟨q', c', ?_, f, o⟩
  rw [show upN K / 8 = (K + 7) / 8 by unfold upN; omega]
theorem law_back_all (p : Option Addr) (d : Nat) (b : List Nat) (wide : Bool) (p' : Option Addr) (d' : Nat) (bh : List Nat) (w : World) (hb : SlI w .u8 p b) (h8 : ∀ x ∈ b, x < 256) (hbh : SlI w .u8 p' bh) (hbh8 : ∀ x ∈ bh, x < 256) (hp' : p' = none → d' = 0) :
    Calls Tryz.prog 3 #[.slice p b.length d, .bool wide, .slice p' bh.length d'] w fun r w' => r = .returned (.bool true) ∧ Fr S0 w w' := law_back read2 p d b wide p' d' bh w hb h8 hbh hbh8 hp'
end Go.Proofs.YtfibhgohenkfbaaGreat
