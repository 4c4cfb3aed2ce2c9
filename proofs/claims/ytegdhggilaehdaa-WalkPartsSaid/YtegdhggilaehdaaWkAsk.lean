/- What is asked of a table in any world behind the one where it was made. -/
import Derived.Test.YtegdhggilaehdaaWkPart
import Derived.Test.YtegdhggilaehdaaWkRef
namespace Go.Proofs.Ytegdhggilaehdaa
open Go.RowKit

theorem belB_f (l : List Pr) (k : Int) : belB l k false = bel l k := by unfold belB; rw [if_neg (by decide)]
theorem belB_t (l : List Pr) (k : Int) : belB l k true = upt l k := by unfold belB; rw [if_pos rfl]
/-- what is asked of a table of L (block g, its pairs at q too) in any world behind w3 -/
structure Asked (w3 : World) (g : Nat) (q : Option Addr) (m d : Nat) (L : List Pr) : Prop where
  tab : TabIs w3 g L
  pri : PrI w3 q L
  len : L.length = m
section
variable {w3 : World} {g m d : Nat} {q : Option Addr} {L : List Pr} (a : Asked w3 g q m d L)
include a
theorem Asked.h64 : ltot L < 18446744073709551616 := by have := a.tab.ok.tot; omega
theorem Asked.rkey (r : Nat) (h1 : 1 ≤ r) (h2 : r ≤ ltot L) (W : World) (f : Fr S0 w3 W) : Calls Try.prog 16 #[.slice q m d, .int .u64 (r : Nat)] W fun e w' => e = .returned (.int .i64 (keyW L r)) ∧ Fr S0 W w' :=
  rkey_any q m d L W r (a.pri.fr0 f) a.len a.tab.ok.srt h1 h2 a.h64
theorem Asked.rbel (k : Int) (W : World) (f : Fr S0 w3 W) : Calls Try.prog 21 #[.slice q m d, .int .i64 k, .bool false] W fun e w' => e = .returned (.int .u64 (bel L k : Nat)) ∧ Fr S0 W w' := by
  have := rbelow_any q m d k L W false (a.pri.fr0 f) a.len a.h64
  rw [belB_f] at this
  exact this
theorem Asked.rupt (k : Int) (W : World) (f : Fr S0 w3 W) : Calls Try.prog 21 #[.slice q m d, .int .i64 k, .bool true] W fun e w' => e = .returned (.int .u64 (upt L k : Nat)) ∧ Fr S0 W w' := by
  have := rbelow_any q m d k L W true (a.pri.fr0 f) a.len a.h64
  rw [belB_t] at this
  exact this
theorem Asked.rtot (W : World) (f : Fr S0 w3 W) : Calls Try.prog 12 #[.slice q m d] W fun e w' => e = .returned (.int .u64 (ltot L : Nat)) ∧ Fr S0 W w' :=
  rtotal_any q m d L W (a.pri.fr0 f) a.len a.h64
end
end Go.Proofs.Ytegdhggilaehdaa
