/- The document's examples of layer 11. -/
import Derived.Test.YtcfddbhkcbflbaaRkRef
import Derived.Test.YtcfddbhkcbflbaaRkCut2
namespace Go.Proofs.Ytcfddbhkcbflbaa
open Go.RowKit

/-- a rank that is read -/
theorem Ranks.at {p : Option Addr} {m k n : Nat} {l : List Nat} {W : World} (s : SlI W .u64 p l) (t : Told m k n m l) (i : Nat) (hi : i < m) :
    ∃ b o, p = some ⟨b, o, none⟩ ∧ W.cell? ⟨b, o + i, none⟩ = some (.int .u64 (rnk (i + 1) k n : Nat)) := by
  obtain ⟨b, o, hp, hc⟩ := s.at i (by rw [t.1]; exact hi)
  refine ⟨b, o, hp, ?_⟩
  rw [hc, ← t.2 i hi, List.getD_eq_getElem?_getD, List.getElem?_eq_getElem (by rw [t.1]; exact hi)]
  rfl

set_option maxRecDepth 100000 in
set_option maxHeartbeats 1000000 in
theorem alive_any (w : World) : Calls Try.prog 9 #[] w fun e w' => e = .returned (.bool true) ∧ Fr S0 w w' := by
  have H1 : Hid (∀ W, Calls Try.prog 10 #[.int .u64 1, .int .u64 2, .int .u64 5] W fun e w' => e = .returned (.tuple #[.int .u64 3, .int .i64 0]) ∧ Fr S0 W w') :=
    Lib.hid fun W => rank_yes 1 2 5 W (by decide) (by decide) (by decide) (by decide) (by decide)
  have H2 : Hid (∀ W, Calls Try.prog 12 #[.int .u64 1, .int .u64 2, .int .u64 5] W fun e w' => e = .returned (.tuple #[.int .u64 5, .int .i64 0]) ∧ Fr S0 W w') :=
    Lib.hid fun W => spot_yes 1 2 5 W (by decide) (by decide) (by decide) (by decide) (by decide)
  have H3 : Hid (∀ W, Calls Try.prog 17 #[.int .u64 6, .int .u64 8] W fun e w' => e = .returned (.tuple #[.int .u64 3, .int .u64 4]) ∧ Fr S0 W w') :=
    Lib.hid fun W => least_yes 6 8 W (by decide) (by decide) (by decide)
  have H4 : Hid (∀ W, Calls Try.prog 19 #[.int .i64 3] W fun e w' => e = .returned (.tuple #[.int .u64 1000, .int .i64 0]) ∧ Fr S0 W w') :=
    Lib.hid fun W => power_yes 3 W (by decide)
  have H5 : Hid (∀ W, Calls Try.prog 22 #[.int .u64 10, .int .i64 4] W fun e w' => ∃ v, e = .returned (.tuple #[v, .int .i64 0]) ∧ Ranks W w' v 3 4 10) :=
    Lib.hid fun W => cut_yes 10 3 4 W (by decide) (by decide) (by decide) rfl
  go_enter Try.func9, Try.ntmps9
  go_wp2_with fail
  refine (H1.out _).mono ?_
  rintro e w1 ⟨rfl, f1⟩
  go_wp2_with fail
  refine (H2.out _).mono ?_
  rintro e w2 ⟨rfl, f2⟩
  go_wp2_with fail
  refine (H3.out _).mono ?_
  rintro e w3 ⟨rfl, f3⟩
  go_wp2_with fail
  refine (H4.out _).mono ?_
  rintro e w4 ⟨rfl, f4⟩
  go_wp2_with fail
  refine (H5.out _).mono ?_
  rintro e w5 ⟨v, rfl, p, c, l, rfl, sl, ht, f5⟩
  obtain ⟨b, o, hp, c0⟩ := Ranks.at sl ht 0 (by decide)
  obtain ⟨b1, o1, hp1, c1⟩ := Ranks.at sl ht 1 (by decide)
  obtain ⟨b2, o2, hp2, c2⟩ := Ranks.at sl ht 2 (by decide)
  subst hp
  obtain ⟨rfl, rfl⟩ : b = b1 ∧ o = o1 := by simpa using hp1
  obtain ⟨rfl, rfl⟩ : b = b2 ∧ o = o2 := by simpa using hp2
  rw [Nat.add_zero, show rnk (0 + 1) 4 10 = 3 by decide] at c0
  rw [show rnk (1 + 1) 4 10 = 5 by decide] at c1
  rw [show rnk (2 + 1) 4 10 = 8 by decide] at c2
  clear sl ht hp1 hp2 H1 H2 H3 H4 H5
  go_wp2
  go_ret
  exact ⟨rfl, (((f1.trans0 f2).trans0 f3).trans0 f4).trans0 f5⟩
theorem start (w : World) (R) (h : ∀ w1, Fr S0 w w1 → R (.returned (.bool true)) w1) : Calls Try.prog 9 #[] w R :=
  (alive_any w).mono fun e w1 he => by rw [he.1]; exact h w1 he.2
end Go.Proofs.Ytcfddbhkcbflbaa
