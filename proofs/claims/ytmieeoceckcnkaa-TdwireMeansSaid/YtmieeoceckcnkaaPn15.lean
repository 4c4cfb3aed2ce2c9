/- WdRef -/
import Derived.Test.YtmieeoceckcnkaaPn1
import Derived.Test.YtmieeoceckcnkaaPn2
import Derived.Test.YtmieeoceckcnkaaPn4
import Derived.StillTailTactics
import Derived.Lib.BitFns
import Derived.Laws.BytesArg
import Derived.Lib.SlBytesConst
import Derived.Maps.AppendAt
import Derived.Laws.AppendOwnNone
import Derived.WalkKit
import Derived.WalkSpells
import Derived.WalkLawsBesides
import Derived.Deep.QuietTactic
import Derived.BigQuiet
import Derived.RegionTactic
import Derived.Deep.AppendLies
import Derived.Deep.RegionLaw
import Derived.Laws.ResultCell
import Derived.Laws.EntriesVeiled
import Derived.Lib.Hide
import Derived.Test.YtmieeoceckcnkaaRows
set_option maxRecDepth 100000
set_option maxHeartbeats 8000000
namespace Go.Proofs.Ytmieeoceckcnkaa
open Go.RowKit
def u64s (bs : List Nat) : List Value := bs.map fun (x : Nat) => Value.int .u64 (x : Int)
def Dig (w : World) (p : Option Addr) (n : Nat) : Prop := SlI w .u64 p (digs 8 n)
theorem Dig.fr0 {w w' : World} {p : Option Addr} {n : Nat} (h : Dig w p n) (f : Fr S0 w w') : Dig w' p n := SlI.fr0 h f
theorem Dig.at {w : World} {p : Option Addr} {n : Nat} (h : Dig w p n) (i : Nat) (hi : i < 8) : ∃ b o, p = some ⟨b, o, none⟩ ∧ w.cell? ⟨b, o + i, none⟩ = some (.int .u64 (dg n i : Nat)) := by
  obtain ⟨b, o, hp, hc⟩ := SlI.at h i (by rw [digs_len]; exact hi)
  exact ⟨b, o, hp, by rw [hc, digs_get]; rfl⟩
theorem Dig.ofOwns {w : World} {p : Option Addr} {c n : Nat} (h : w.ownsRow 0 28 1 (.slice p 8 c) 8 (u64s (digs 8 n))) : Dig w p n := SlI.ofOwns h
def NewDig (w w' : World) (v : Value) (n : Nat) : Prop := ∃ p c, v = .slice p 8 c ∧ Dig w' p n ∧ Fr S0 w w'
theorem NewDig.mk {w w' : World} {p : Option Addr} {c n : Nat} (h : w'.ownsRow 0 28 1 (.slice p 8 c) 8 (u64s (digs 8 n))) (f : Fr S0 w w') : NewDig w w' (.slice p 8 c) n := ⟨p, c, rfl, Dig.ofOwns h, f⟩
end Go.Proofs.Ytmieeoceckcnkaa
