/- TwJoin, TwAlive -/
import Derived.Test.YtmieeoceckcnkaaPn1
import Derived.Test.YtmieeoceckcnkaaPn2
import Derived.Test.YtmieeoceckcnkaaPn3
import Derived.Test.YtmieeoceckcnkaaPn4
import Derived.Test.YtmieeoceckcnkaaPn5
import Derived.Test.YtmieeoceckcnkaaPn6
import Derived.Test.YtmieeoceckcnkaaPn7
import Derived.Test.YtmieeoceckcnkaaPn8
import Derived.Test.YtmieeoceckcnkaaPn9
import Derived.Test.YtmieeoceckcnkaaPn10
import Derived.Test.YtmieeoceckcnkaaPn11
import Derived.Test.YtmieeoceckcnkaaPn12
import Derived.Test.YtmieeoceckcnkaaPn13
import Derived.Test.YtmieeoceckcnkaaPn14
import Derived.Test.YtmieeoceckcnkaaPn15
import Derived.Test.YtmieeoceckcnkaaPn16
import Derived.Test.YtmieeoceckcnkaaPn17
import Derived.Test.YtmieeoceckcnkaaPn18
import Derived.Test.YtmieeoceckcnkaaPn19
import Derived.Defers
import Derived.Recover
import Derived.Deep.RegionHeld2
import Derived.StillTailTactics
import Derived.WalkKit
import Derived.Laws.BitsAllLaws
import Derived.Laws.BytesArg
import Derived.Lib.SlBytesConst
import Derived.Maps.AppendAt
import Derived.Laws.AppendOwnNone
import Derived.WalkSpells
import Derived.WalkLawsBesides
import Derived.Deep.QuietTactic
import Derived.BigQuiet
import Derived.RegionTactic
import Derived.Deep.AppendLies
import Derived.Deep.RegionLaw
import Derived.Laws.ResultCell
import Derived.Laws.EntriesVeiled
import Derived.Lib.Hide
import Derived.Test.YtmieeoceckcnkaaRows
import Derived.Deep.RegionHeld3
import Derived.BigRegion
import Derived.Laws.OwnMore
import Derived.Lib.AppendZerosOnto
import Derived.Lib.SliceRun
import Derived.Lib.Walk
import Derived.Laws.Externs
import Derived.Shelf.Spec.BitsCarry
import Derived.Deep.CutBlock
import Derived.Deep.CutRange
import Derived.Deep.DeepCutAuto
import Derived.Lib.BitFns
import Derived.Shelf.Small.Bits
import Derived.Shelf.Strconv.Itoa0
import Derived.Shelf.Bits.Mul64
set_option maxRecDepth 100000
set_option maxHeartbeats 8000000
namespace Go.Proofs.Ytmieeoceckcnkaa
open Go.RowKit
theorem enc_one (k n : Nat) (hk : k = 7 ∨ k = 8) : 1 ≤ (enc k n).length := enc_ne k n hk
theorem wrM_most (up : Bool) : ∀ (L : List Tm) (first : Bool) (a : Int), 2 * L.length ≤ (wrM up first a L).length
  | [], _, _ => by simp [wrM]
  | y :: r, first, a => by
    have h1 := enc_one _ (mnum up first a y.1) (letr_or (alone up first))
    have h2 := enc_one 7 y.2 (.inl rfl)
    have h3 := wrM_most up r false y.1
    rw [wrM, List.length_append, List.length_append, List.length_cons]
    omega
theorem bytes_most (x : Dg) : 2 * x.all.length ≤ x.bytes.length := by
  have h5 := wrM_most true x.L true 0
  have h7 := wrM_most false x.W true 0
  have h8 : x.all.length = x.L.length + x.W.length := by unfold Dg.all; rw [List.length_append]
  simp only [Dg.bytes, tdB, List.length_append]
  omega
end Go.Proofs.Ytmieeoceckcnkaa

namespace Go.Proofs.Ytmieeoceckcnkaa
open Go.RowKit
theorem AccB.sl {w w' : World} {v : Value} {N : Nat} {L : List Nat} (h : AccB w w' v N L) : ∃ q c, v = .slice q N c ∧ SlI w' .u8 q L ∧ (q = none → c = 0) ∧ N ≤ c ∧ c ≤ maxLen := by
  obtain ⟨q, c, rfl, h0, h1, h2⟩ := slForm h.own
  exact ⟨q, c, rfl, SlI.ofOwns h.own, h0, h1, h2⟩
theorem sl_txt {w : World} {q : Option Addr} {n d : Nat} {l : List Nat} (h : SlI w .u8 q l) (hn : l.length = n) : (convert 22 9 (.slice q n d)).run Try.prog w = .ok (.string (strB l)) w := by
  have := conv_sl h n d (by omega)
  rwa [List.take_of_length_le (by omega)] at this
theorem nd_write {w W : World} {g : Nat} {x : Dg} (k : NewD w W g x) (hN : x.all.length ≤ 1000000) :
    Calls Try.prog 17 #[.pointer (some ⟨g, 0, none⟩)] W fun e w' => ∃ v, e = .returned (.tuple #[v, .int .i64 0]) ∧ AccB W w' v x.bytes.length x.bytes :=
  let ⟨C, h1, _⟩ := k.ex; twrite_any g C x W h1 hN
structure Bs (w W : World) (g : Nat) (x : Dg) (q : Option Addr) (l : List Nat) : Prop where
  nd : ∃ C, DIs W g C x ∧ ∀ b, C b → w.heap.size ≤ b ∧ ∀ a, q = some a → a.block ≠ b
  fr : Fr S0 w W
  sl : SlI W .u8 q l
theorem Bs.nw {w W : World} {g : Nat} {x : Dg} {q : Option Addr} {l : List Nat} (k : Bs w W g x q l) : NewD w W g x := let ⟨C, h1, h2⟩ := k.nd; ⟨⟨C, h1, fun b hb => (h2 b hb).1⟩, k.fr⟩
theorem bs_write {w W W' : World} {g : Nat} {x : Dg} (k : NewD w W g x) {q : Option Addr} {n c : Nat} {l : List Nat} (h : AccB W W' (.slice q n c) n l) : Bs w W' g x q l := by
  obtain ⟨C, h1, h2⟩ := k.ex
  refine ⟨⟨C, h1.fr0 h.fr, fun b hb => ⟨h2 b hb, fun a ha e => ?_⟩⟩, k.fr.trans0 h.fr, SlI.ofOwns h.own⟩
  have h3 := h1.below b hb
  subst ha
  have h4 := h.fresh a.block rfl
  omega
theorem Bs.add {w W : World} {g : Nat} {x : Dg} {q : Option Addr} {l : List Nat} (k : Bs w W g x q l) (hl : l ≠ []) (v : Int) (u : Nat) (h1 : -9223372036854775808 ≤ v) (h2 : v ≤ 9223372036854775807) (hN : x.all.length ≤ 400000000000) :
    Calls Try.prog 18 #[.pointer (some ⟨g, 0, none⟩), .int .i64 v, .int .u64 (u : Nat)] W fun e w' => e = .returned (.int .i64 (x.ref u : Nat)) ∧ Bs w w' g (x.add v u) q l := by
  obtain ⟨C, ⟨p, n, c, q1, m, e, s⟩, hC⟩ := k.nd
  refine (dadd_any g C p n c q1 m e x W v u s h1 h2 hN).mono fun e w' he => ⟨he.1, ?_⟩
  obtain ⟨C', t1, t2, t3⟩ := he.2
  refine ⟨⟨C', t1, fun b hb => ?_⟩, k.fr.trans t2 fun j hj hc => by have := (hC j hc).1; omega, k.sl.fr t2 fun _ a ha hc => (hC _ hc).2 a ha rfl⟩
  rcases t3 b hb with h | h
  · exact hC b h
  · exact ⟨Nat.le_trans k.fr.size h, fun a ha e => by have := k.sl.lt hl a ha; omega⟩
def ex23a : Dg := { d := 10, L := [], W := [(3, 1)], lo := 3, hi := 3 }
def ex23 : Dg := { d := 10, L := [], W := [(3, 1), (-1, 2)], lo := -1, hi := 3 }
theorem ex23_1 : (Dg.new 10).add 3 1 = ex23a ∧ (Dg.new 10).ref 1 = 0 := ⟨by kernel_rfl, by kernel_rfl⟩
theorem ex23_2 : ex23a.add (-1) 2 = ex23 ∧ ex23a.ref 2 = 0 := ⟨by kernel_rfl, by kernel_rfl⟩
theorem ex23_t : ex23.tot = 3 := by kernel_rfl
theorem ex23_n : (Dg.new 10).bytes = [10, 0, 0, 0, 0] := by kernel_rfl
theorem ex23_b : ex23.bytes = [10, 1, 6, 0, 2, 6, 1, 1, 2] := by kernel_rfl
section
variable {w W : World} {g : Nat}
theorem ew0 (k : NewD w W g (Dg.new 10)) : Calls Try.prog 17 #[.pointer (some ⟨g, 0, none⟩)] W fun e w' => ∃ q c, e = .returned (.tuple #[.slice q 5 c, .int .i64 0]) ∧ Bs w w' g (Dg.new 10) q [10, 0, 0, 0, 0] := by
  refine (nd_write k (by decide)).mono ?_
  rintro e w' ⟨v, rfl, acc⟩
  rw [ex23_n] at acc
  obtain ⟨q, c, rfl, -⟩ := acc.sl
  exact ⟨q, c, rfl, bs_write k acc⟩
variable {q0 : Option Addr}
theorem ea1 (k : Bs w W g (Dg.new 10) q0 [10, 0, 0, 0, 0]) : Calls Try.prog 18 #[.pointer (some ⟨g, 0, none⟩), .int .i64 3, .int .u64 1] W fun e w' => e = .returned (.int .i64 0) ∧ Bs w w' g ex23a q0 [10, 0, 0, 0, 0] := by
  have h := k.add (by decide) 3 1 (by decide) (by decide) (by decide)
  rw [ex23_1.1, ex23_1.2] at h
  exact h
theorem ea2 (k : Bs w W g ex23a q0 [10, 0, 0, 0, 0]) : Calls Try.prog 18 #[.pointer (some ⟨g, 0, none⟩), .int .i64 (-1), .int .u64 2] W fun e w' => e = .returned (.int .i64 0) ∧ Bs w w' g ex23 q0 [10, 0, 0, 0, 0] := by
  have h := k.add (by decide) (-1) 2 (by decide) (by decide) (by decide)
  rw [ex23_2.1, ex23_2.2] at h
  exact h
theorem ew2 (k : Bs w W g ex23 q0 [10, 0, 0, 0, 0]) : Calls Try.prog 17 #[.pointer (some ⟨g, 0, none⟩)] W fun e w' => ∃ q c, e = .returned (.tuple #[.slice q 9 c, .int .i64 0]) ∧ SlI w' .u8 q [10, 1, 6, 0, 2, 6, 1, 1, 2] ∧ (q = none → c = 0) ∧ Fr S0 w w' ∧ RdOk [10, 1, 6, 0, 2, 6, 1, 1, 2] ex23 ∧ SlI w' .u8 q0 [10, 0, 0, 0, 0] := by
  have hr : RdOk [10, 1, 6, 0, 2, 6, 1, 1, 2] ex23 := ⟨ex23_b.symm, k.nw.good, by decide⟩
  refine (nd_write k.nw (by decide)).mono ?_
  rintro e w' ⟨v, rfl, acc⟩
  rw [ex23_b] at acc
  obtain ⟨q, c, rfl, a1, a2, -⟩ := acc.sl
  exact ⟨q, c, rfl, a1, a2, k.fr.trans0 acc.fr, hr, k.sl.fr0 acc.fr⟩
theorem er3 {q : Option Addr} {c : Nat} (hs : SlI w .u8 q [10, 1, 6, 0, 2, 6, 1, 1, 2]) (h0 : q = none → c = 0) (hr : RdOk [10, 1, 6, 0, 2, 6, 1, 1, 2] ex23) :
    Calls Try.prog 6 #[.slice q 9 c] w fun e w' => ∃ g, e = .returned (.tuple #[.pointer (some ⟨g, 0, none⟩), .int .i64 0]) ∧ NewD w w' g ex23 := by
  refine (tread_any q c 9 _ w rfl hs (by decide) h0 (by decide)).mono ?_
  rintro e w' (⟨x, g, hr2, rfl, k⟩ | ⟨hno, -⟩)
  · rw [rdOk_one hr2 hr] at k
    exact ⟨g, rfl, k⟩
  · exact absurd ⟨_, hr⟩ hno
theorem et4 (k : NewD w W g ex23) : Calls Try.prog 12 #[.pointer (some ⟨g, 0, none⟩)] W fun e w' => e = .returned (.int .u64 3) ∧ W = w' := by
  have h := nd_total k
  rw [ex23_t] at h
  exact h
end
theorem alive23_any (w : World) : Calls Try.prog 5 #[] w fun e w' => e = .returned (.bool true) ∧ Fr S0 w w' := by
  go_enter Try.func5, Try.ntmps5
  go_wp2_with fail
  refine (exn _).mono ?_
  rintro e w1 ⟨g, rfl, k0⟩
  have K0 := Lib.hid k0
  clear k0
  go_wp2_with fail
  refine (ew0 K0.out).mono ?_
  rintro e w2 ⟨q0, c0, rfl, k1⟩
  have K1 := Lib.hid k1
  clear k1 K0
  go_wp2_with fail
  refine (ea1 K1.out).mono ?_
  rintro e w3 ⟨rfl, k2⟩
  have K2 := Lib.hid k2
  clear k2 K1
  go_wp2_with fail
  refine (ea2 K2.out).mono ?_
  rintro e w4 ⟨rfl, k3⟩
  have K3 := Lib.hid k3
  clear k3 K2
  go_wp2_with fail
  refine (ew2 K3.out).mono ?_
  rintro e w5 ⟨q, c, rfl, sl, h0, f5, hr, sl0⟩
  have F5 := Lib.hid f5
  have HSL := Lib.hid (And.intro sl sl0)
  have H5 := Lib.hid (er3 sl h0 hr)
  clear sl h0 hr f5 sl0 K3
  go_wp2_with fail
  refine H5.out.mono ?_
  rintro e w6 ⟨g2, rfl, k6⟩
  have cva : ∀ c, (convert 22 9 (.slice q 9 c)).run Try.prog w6 = .ok (.string { data := #[10, 1, 6, 0, 2, 6, 1, 1, 2] }) w6 := fun c => sl_txt (HSL.out.1.fr0 k6.fr) rfl
  have cvb : ∀ c, (convert 22 9 (.slice q0 5 c)).run Try.prog w6 = .ok (.string { data := #[10, 0, 0, 0, 0] }) w6 := fun c => sl_txt (HSL.out.2.fr0 k6.fr) rfl
  have F6 := Lib.hid (F5.out.trans0 k6.fr)
  have HT := Lib.hid (et4 k6)
  clear k6 H5 HSL F5
  go_wp2_with fail
  refine HT.out.mono ?_
  rintro e w7 ⟨rfl, rfl⟩
  go_wp2_with fail
  go_ret
  exact ⟨rfl, F6.out⟩
end Go.Proofs.Ytmieeoceckcnkaa
