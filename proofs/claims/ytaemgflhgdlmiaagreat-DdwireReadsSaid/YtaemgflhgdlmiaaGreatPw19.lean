/- SpTake -/
import Derived.Test.YtaemgflhgdlmiaaGreatPw1
import Derived.Test.YtaemgflhgdlmiaaGreatPw2
import Derived.Test.YtaemgflhgdlmiaaGreatPw4
import Derived.Test.YtaemgflhgdlmiaaGreatPw5
import Derived.Test.YtaemgflhgdlmiaaGreatPw6
import Derived.Test.YtaemgflhgdlmiaaGreatPw7
import Derived.Test.YtaemgflhgdlmiaaGreatPw8
import Derived.Test.YtaemgflhgdlmiaaGreatPw14
import Derived.Test.YtaemgflhgdlmiaaGreatPw15
import Derived.Test.YtaemgflhgdlmiaaGreatPw17
import Derived.Deep.RegionLaw
import Derived.Deep.RegionHeld3
import Derived.Maps.AppendAt
import Derived.Lib.SliceRun
import Derived.StillTailTactics
import Derived.BigRegion
import Derived.WalkKit
import Derived.WalkSpells
import Derived.WalkLawsBesides
import Derived.Deep.QuietTactic
import Derived.BigQuiet
import Derived.RegionTactic
import Derived.Deep.AppendLies
import Derived.Laws.ResultCell
import Derived.Laws.EntriesVeiled
import Derived.Lib.Hide
import Derived.Test.YtaemgflhgdlmiaaGreatRows
import Derived.Laws.BytesArg
import Derived.Lib.SlBytesConst
import Derived.Laws.AppendOwnNone
import Derived.Lib.AppendZeros
import Derived.Laws.CopyOwn
import Derived.Lib.Overlaps
import Derived.Laws.Externs
import Derived.Lib.AppendZerosOnto
import Derived.Laws.OwnMore
set_option maxRecDepth 100000
set_option maxHeartbeats 8000000
namespace Go.Proofs.YtaemgflhgdlmiaaGreat
open Go.RowKit
variable {X Y : Sx}
theorem Sto.sl {w : World} {g h : Nat} {p : Option Addr} {n c : Nat} {l : List Pr} (s : Sto X w g h p n c l) : Sl w (.slice p n c) l := ⟨p, n, c, rfl, s.len, s.cap.1, by have := s.cap.2; unfold maxLen at this; omega, s.pri⟩
theorem Sl.fr0 {w w' : World} {v : Value} {X : List Pr} (h : Sl w v X) (f : Fr S0 w w') : Sl w' v X := let ⟨p, n, c, h1, h2, h3, h4, h5⟩ := h; ⟨p, n, c, h1, h2, h3, h4, h5.fr0 f⟩
theorem Acc.back {w w1 wr : World} {v : Value} {N : Nat} {L : List Pr} (h : Acc w1 wr v N L) (f : Fr S0 w w1) : Acc w wr v N L := ⟨h.own, fun g hg => Nat.le_trans f.size (h.fresh g hg), f.trans0 h.fr⟩
section
variable (g h g2 h2 : Nat) (l l2 : List Pr) (w : World)
end
end Go.Proofs.YtaemgflhgdlmiaaGreat
