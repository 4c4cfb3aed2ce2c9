/- DgAlive -/
import Derived.Test.YticagdppjknlaaaPl1
import Derived.Test.YticagdppjknlaaaPl2
import Derived.Test.YticagdppjknlaaaPl3
import Derived.Test.YticagdppjknlaaaPl4
import Derived.Test.YticagdppjknlaaaPl5
import Derived.Test.YticagdppjknlaaaPl6
import Derived.Test.YticagdppjknlaaaPl7
import Derived.Test.YticagdppjknlaaaPl8
import Derived.Test.YticagdppjknlaaaPl9
import Derived.Test.YticagdppjknlaaaPl10
import Derived.Test.YticagdppjknlaaaPl11
import Derived.Test.YticagdppjknlaaaPl12
import Derived.BigQuiet
import Derived.BigRegion
import Derived.Deep.RegionLaw
import Derived.Deep.RegionHeld3
import Derived.StillTailTactics
import Derived.Maps.AppendAt
import Derived.Laws.AppendOwnNone
import Derived.Laws.OwnMore
import Derived.Lib.AppendZerosOnto
import Derived.Lib.SliceRun
import Derived.Lib.Walk
import Derived.Laws.Externs
import Derived.Shelf.Spec.BitsCarry
import Derived.Deep.CutBlock
import Derived.Deep.CutRange
import Derived.Deep.DeepCutAuto
import Derived.Lib.BitFns
import Derived.Shelf.Small.Bits
import Derived.Shelf.Strconv.Itoa0
import Derived.Shelf.Bits.Mul64
import Derived.Test.YticagdppjknlaaaRows
import Derived.WalkKit
import Derived.WalkSpells
import Derived.WalkLawsBesides
import Derived.Deep.QuietTactic
import Derived.RegionTactic
import Derived.Deep.AppendLies
import Derived.Laws.ResultCell
import Derived.Laws.EntriesVeiled
import Derived.Lib.Hide
import Derived.Laws.BytesArg
import Derived.Lib.SlBytesConst
set_option maxRecDepth 100000
set_option maxHeartbeats 8000000
namespace Go.Proofs.Yticagdppjknlaaa
open Go.RowKit
structure NewD (w W : World) (g : Nat) (x : Dg) : Prop where
  ex : ∃ C, DIs W g C x ∧ ∀ b, C b → w.heap.size ≤ b
  fr : Fr S0 w W
section
variable {w W W' : World} {g : Nat} {x y : Dg}
theorem NewD.fr0 (k : NewD w W g x) (f : Fr S0 W W') : NewD w W' g x := let ⟨C, h1, h2⟩ := k.ex; ⟨⟨C, h1.fr0 f, h2⟩, k.fr.trans0 f⟩
theorem NewD.good (k : NewD w W g x) : x.Good := let ⟨_, ⟨_, _, _, _, _, _, s⟩, _⟩ := k.ex; s.good
theorem NewD.back (k : NewD W W' g x) (f : Fr S0 w W) : NewD w W' g x := let ⟨C, h1, h2⟩ := k.ex; ⟨⟨C, h1, fun b hb => Nat.le_trans f.size (h2 b hb)⟩, f.trans0 k.fr⟩
theorem nd_new (d : Nat) (W : World) (h1 : 10 ≤ d) (h2 : d ≤ 1000) :
    Calls Try.prog 13 #[.int .i64 (d : Nat)] W fun e w' => ∃ g, e = .returned (.tuple #[.pointer (some ⟨g, 0, none⟩), .int .i64 0]) ∧ NewD W w' g (Dg.new d) :=
  (new_yes d W h1 h2).mono fun _ _ ⟨g, e, s, hg, f⟩ => ⟨g, e, ⟨_, ⟨_, _, _, _, _, _, s⟩, fun b hb => by rw [hb]; exact hg⟩, f⟩
theorem NewD.turn (k : NewD w W g x) (C : Nat → Prop) (hC : ∀ b, C b → w.heap.size ≤ b) (t : DTurn W W' g C y) : NewD w W' g y := by
  obtain ⟨C', h1, h2, h3⟩ := t
  refine ⟨⟨C', h1, fun b hb => ?_⟩, k.fr.trans h2 fun j hj hc => by have := hC j hc; omega⟩
  rcases h3 b hb with h | h
  · exact hC b h
  · exact Nat.le_trans k.fr.size h
theorem nd_add (k : NewD w W g x) (v : Int) (u : Nat) (h1 : -9223372036854775808 ≤ v) (h2 : v ≤ 9223372036854775807) (hN : x.all.length ≤ 400000000000) :
    Calls Try.prog 31 #[.pointer (some ⟨g, 0, none⟩), .int .i64 v, .int .u64 (u : Nat)] W fun e w' => e = .returned (.int .i64 (x.ref u : Nat)) ∧ NewD w w' g (x.add v u) := by
  obtain ⟨C, ⟨p, n, c, q, m, e, s⟩, hC⟩ := k.ex
  exact (dadd_any g C p n c q m e x W v u s h1 h2 hN).mono fun e w' he => ⟨he.1, k.turn C hC he.2⟩
theorem nd_at (k : NewD w W g x) (a d : Nat) (hN : x.all.length ≤ 500000000000) (h64 : d < 18446744073709551616) :
    Calls Try.prog 19 #[.pointer (some ⟨g, 0, none⟩), .int .u64 (a : Nat), .int .u64 (d : Nat)] W fun e w' => e = .returned (.tuple #[.int .i64 (x.atV a d), .int .i64 (spE a d x.tot : Nat)]) ∧ Fr S0 W w' := by
  obtain ⟨C, ⟨p, n, c, q, m, e, s⟩, -⟩ := k.ex
  exact at_any g C p n c q m e x W a d s hN h64
theorem nd_upto (k : NewD w W g x) (v : Int) (hN : x.all.length ≤ 500000000000) (h1 : -9223372036854775808 ≤ v) (h2 : v ≤ 9223372036854775807) :
    Calls Try.prog 24 #[.pointer (some ⟨g, 0, none⟩), .int .i64 v] W fun e w' => e = .returned (.int .u64 (x.upto v : Nat)) ∧ Fr S0 W w' := by
  obtain ⟨C, ⟨p, n, c, q, m, e, s⟩, -⟩ := k.ex
  exact upto_any g C p n c q m e x W v s hN h1 h2
theorem nd_total (k : NewD w W g x) : Calls Try.prog 27 #[.pointer (some ⟨g, 0, none⟩)] W fun e w' => e = .returned (.int .u64 (x.tot : Nat)) ∧ W = w' := by
  obtain ⟨C, ⟨p, n, c, q, m, e, s⟩, -⟩ := k.ex
  exact total_any g C p n c q m e x W s
end
def ex22a : Dg := { d := 10, L := [], W := [(10, 1)], lo := 10, hi := 10 }
def ex22b : Dg := { d := 10, L := [], W := [(10, 1), (20, 1)], lo := 10, hi := 20 }
def ex22 : Dg := { d := 10, L := [], W := [(10, 1), (20, 1), (40, 2)], lo := 10, hi := 40 }
theorem ex22_1 : (Dg.new 10).add 10 1 = ex22a ∧ (Dg.new 10).ref 1 = 0 := ⟨by kernel_rfl, by kernel_rfl⟩
theorem ex22_2 : ex22a.add 20 1 = ex22b ∧ ex22a.ref 1 = 0 := ⟨by kernel_rfl, by kernel_rfl⟩
theorem ex22_3 : ex22b.add 40 2 = ex22 ∧ ex22b.ref 2 = 0 := ⟨by kernel_rfl, by kernel_rfl⟩
theorem ex22_t : ex22.tot = 4 := by kernel_rfl
theorem ex22_at : (ex22.atV 0 1 = 10 ∧ spE 0 1 4 = 0) ∧ (ex22.atV 1 2 = 26 ∧ spE 1 2 4 = 0) ∧ (ex22.atV 1 1 = 40 ∧ spE 1 1 4 = 0) := ⟨⟨by kernel_rfl, by kernel_rfl⟩, ⟨by kernel_rfl, by kernel_rfl⟩, by kernel_rfl, by kernel_rfl⟩
theorem ex22_up : ex22.upto 30 = 2 ∧ ex22.upto 40 = 4 := ⟨by kernel_rfl, by kernel_rfl⟩
section
variable {w W : World} {g : Nat}
theorem exn (W : World) : Calls Try.prog 13 #[.int .i64 10] W fun e w' => ∃ g, e = .returned (.tuple #[.pointer (some ⟨g, 0, none⟩), .int .i64 0]) ∧ NewD W w' g (Dg.new 10) := nd_new 10 W (by decide) (by decide)
theorem ex1 (k : NewD w W g (Dg.new 10)) : Calls Try.prog 31 #[.pointer (some ⟨g, 0, none⟩), .int .i64 10, .int .u64 1] W fun e w' => e = .returned (.int .i64 0) ∧ NewD w w' g ex22a := by
  have h := nd_add k 10 1 (by decide) (by decide) (by decide)
  rw [ex22_1.1, ex22_1.2] at h
  exact h
theorem ex2 (k : NewD w W g ex22a) : Calls Try.prog 31 #[.pointer (some ⟨g, 0, none⟩), .int .i64 20, .int .u64 1] W fun e w' => e = .returned (.int .i64 0) ∧ NewD w w' g ex22b := by
  have h := nd_add k 20 1 (by decide) (by decide) (by decide)
  rw [ex22_2.1, ex22_2.2] at h
  exact h
theorem ex3 (k : NewD w W g ex22b) : Calls Try.prog 31 #[.pointer (some ⟨g, 0, none⟩), .int .i64 40, .int .u64 2] W fun e w' => e = .returned (.int .i64 0) ∧ NewD w w' g ex22 := by
  have h := nd_add k 40 2 (by decide) (by decide) (by decide)
  rw [ex22_3.1, ex22_3.2] at h
  exact h
theorem ex4 (k : NewD w W g ex22) : Calls Try.prog 19 #[.pointer (some ⟨g, 0, none⟩), .int .u64 0, .int .u64 1] W fun e w' => e = .returned (.tuple #[.int .i64 10, .int .i64 0]) ∧ Fr S0 W w' := by
  have h := nd_at k 0 1 (by decide) (by decide)
  rw [ex22_t, ex22_at.1.1, ex22_at.1.2] at h
  exact h
theorem ex5 (k : NewD w W g ex22) : Calls Try.prog 19 #[.pointer (some ⟨g, 0, none⟩), .int .u64 1, .int .u64 2] W fun e w' => e = .returned (.tuple #[.int .i64 26, .int .i64 0]) ∧ Fr S0 W w' := by
  have h := nd_at k 1 2 (by decide) (by decide)
  rw [ex22_t, ex22_at.2.1.1, ex22_at.2.1.2] at h
  exact h
theorem ex6 (k : NewD w W g ex22) : Calls Try.prog 19 #[.pointer (some ⟨g, 0, none⟩), .int .u64 1, .int .u64 1] W fun e w' => e = .returned (.tuple #[.int .i64 40, .int .i64 0]) ∧ Fr S0 W w' := by
  have h := nd_at k 1 1 (by decide) (by decide)
  rw [ex22_t, ex22_at.2.2.1, ex22_at.2.2.2] at h
  exact h
theorem ex7 (k : NewD w W g ex22) : Calls Try.prog 24 #[.pointer (some ⟨g, 0, none⟩), .int .i64 30] W fun e w' => e = .returned (.int .u64 2) ∧ Fr S0 W w' := by
  have h := nd_upto k 30 (by decide) (by decide) (by decide)
  rw [ex22_up.1] at h
  exact h
theorem ex8 (k : NewD w W g ex22) : Calls Try.prog 24 #[.pointer (some ⟨g, 0, none⟩), .int .i64 40] W fun e w' => e = .returned (.int .u64 4) ∧ Fr S0 W w' := by
  have h := nd_upto k 40 (by decide) (by decide) (by decide)
  rw [ex22_up.2] at h
  exact h
theorem ex9 (k : NewD w W g ex22) : Calls Try.prog 27 #[.pointer (some ⟨g, 0, none⟩)] W fun e w' => e = .returned (.int .u64 4) ∧ W = w' := by
  have h := nd_total k
  rw [ex22_t] at h
  exact h
end
theorem alive_any (w : World) : Calls Try.prog 12 #[] w fun e w' => e = .returned (.bool true) ∧ Fr S0 w w' := by
  go_enter Try.func12, Try.ntmps12
  go_wp2_with fail
  refine (exn _).mono ?_
  rintro e w1 ⟨g, rfl, k0⟩
  have K0 := Lib.hid k0
  clear k0
  go_wp2_with fail
  refine (ex1 K0.out).mono ?_
  rintro e w2 ⟨rfl, k1⟩
  have K1 := Lib.hid k1
  clear k1
  go_wp2_with fail
  refine (ex2 K1.out).mono ?_
  rintro e w3 ⟨rfl, k2⟩
  have K2 := Lib.hid k2
  clear k2
  go_wp2_with fail
  refine (ex3 K2.out).mono ?_
  rintro e w4 ⟨rfl, k3⟩
  have K3 := Lib.hid k3
  clear k3
  go_wp2_with fail
  refine (ex4 K3.out).mono ?_
  rintro e w5 ⟨rfl, f5⟩
  have K5 := Lib.hid (K3.out.fr0 f5)
  clear f5
  go_wp2_with fail
  refine (ex5 K5.out).mono ?_
  rintro e w6 ⟨rfl, f6⟩
  have K6 := Lib.hid (K5.out.fr0 f6)
  clear f6
  go_wp2_with fail
  refine (ex6 K6.out).mono ?_
  rintro e w7 ⟨rfl, f7⟩
  have K7 := Lib.hid (K6.out.fr0 f7)
  clear f7
  go_wp2_with fail
  refine (ex7 K7.out).mono ?_
  rintro e w8 ⟨rfl, f8⟩
  have K8 := Lib.hid (K7.out.fr0 f8)
  clear f8
  go_wp2_with fail
  refine (ex8 K8.out).mono ?_
  rintro e w9 ⟨rfl, f9⟩
  have K9 := Lib.hid (K8.out.fr0 f9)
  clear f9
  go_wp2_with fail
  refine (ex9 K9.out).mono ?_
  rintro e w9 ⟨rfl, rfl⟩
  go_wp2_with fail
  go_ret
  exact ⟨rfl, K9.out.fr⟩
end Go.Proofs.Yticagdppjknlaaa
