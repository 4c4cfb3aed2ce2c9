/- TwJoin, TwAlive, TwAdded -/
import Derived.Test.YtmieeoceckcnkaaGreatPz1
import Derived.Test.YtmieeoceckcnkaaGreatPz2
import Derived.Test.YtmieeoceckcnkaaGreatPz3
import Derived.Test.YtmieeoceckcnkaaGreatPz4
import Derived.Test.YtmieeoceckcnkaaGreatPz5
import Derived.Test.YtmieeoceckcnkaaGreatPz6
import Derived.Test.YtmieeoceckcnkaaGreatPz7
import Derived.Test.YtmieeoceckcnkaaGreatPz8
import Derived.Test.YtmieeoceckcnkaaGreatPz9
import Derived.Test.YtmieeoceckcnkaaGreatPz10
import Derived.Test.YtmieeoceckcnkaaGreatPz11
import Derived.Test.YtmieeoceckcnkaaGreatPz12
import Derived.Test.YtmieeoceckcnkaaGreatPz13
import Derived.Test.YtmieeoceckcnkaaGreatPz14
import Derived.Test.YtmieeoceckcnkaaGreatPz15
import Derived.Test.YtmieeoceckcnkaaGreatPz16
import Derived.Test.YtmieeoceckcnkaaGreatPz18
import Derived.Test.YtmieeoceckcnkaaGreatPz19
import Derived.Test.YtmieeoceckcnkaaGreatPz20
import Derived.Test.YtmieeoceckcnkaaGreatPz21
import Derived.Test.YtmieeoceckcnkaaGreatPz22
import Derived.Test.YtmieeoceckcnkaaGreatPz23
import Derived.Test.YtmieeoceckcnkaaGreatPz24
import Derived.Defers
import Derived.Recover
import Derived.Deep.RegionHeld2
import Derived.StillTailTactics
import Derived.WalkKit
import Derived.Laws.BitsAllLaws
import Derived.Laws.BytesArg
import Derived.Lib.SlBytesConst
import Derived.Maps.AppendAt
import Derived.Laws.AppendOwnNone
import Derived.WalkSpells
import Derived.WalkLawsBesides
import Derived.Deep.QuietTactic
import Derived.BigQuiet
import Derived.RegionTactic
import Derived.Deep.AppendLies
import Derived.Deep.RegionLaw
import Derived.Laws.ResultCell
import Derived.Laws.EntriesVeiled
import Derived.Lib.Hide
import Derived.Test.YtmieeoceckcnkaaGreatRows
import Derived.Deep.RegionHeld3
import Derived.BigRegion
import Derived.Laws.OwnMore
import Derived.Lib.AppendZerosOnto
import Derived.Lib.SliceRun
import Derived.Lib.Walk
import Derived.Laws.Externs
import Derived.Shelf.Spec.BitsCarry
import Derived.Deep.CutBlock
import Derived.Deep.CutRange
import Derived.Deep.DeepCutAuto
import Derived.Lib.BitFns
import Derived.Shelf.Small.Bits
import Derived.Shelf.Strconv.Itoa0
import Derived.Shelf.Bits.Mul64
set_option maxRecDepth 100000
set_option maxHeartbeats 8000000
namespace Go.Proofs.YtmieeoceckcnkaaGreat
open Go.RowKit
def JnYes (w w' : World) (l1 l2 : List Nat) (e : Ending) : Prop :=
  ∃ x y, RdOk l1 x ∧ RdOk l2 y ∧ ((x.takeE y ≠ 0 ∧ e = .returned (.tuple #[.slice none 0 0, .int .i64 (x.takeE y : Nat)]) ∧ Fr S0 w w') ∨ (x.takeE y = 0 ∧ ∃ v, e = .returned (.tuple #[v, .int .i64 0]) ∧ AccB w w' v (x.take y).bytes.length (x.take y).bytes))
def JnEnds (w w' : World) (l1 l2 : List Nat) (e : Ending) : Prop :=
  (((¬ ∃ x, RdOk l1 x) ∨ ¬ ∃ x, RdOk l2 x) ∧ e = .returned (.tuple #[.slice none 0 0, .int .i64 9]) ∧ Fr S0 w w') ∨ JnYes w w' l1 l2 e
theorem AccB.back {w W w' : World} {v : Value} {N : Nat} {L : List Nat} (f : Fr S0 w W) (h : AccB W w' v N L) : AccB w w' v N L := ⟨h.own, fun k hk => Nat.le_trans f.size (h.fresh k hk), f.trans0 h.fr⟩
theorem enc_one (k n : Nat) (hk : k = 7 ∨ k = 8) : 1 ≤ (enc k n).length := enc_ne k n hk
theorem wrM_most (up : Bool) : ∀ (L : List Tm) (first : Bool) (a : Int), 2 * L.length ≤ (wrM up first a L).length
  | [], _, _ => by simp [wrM]
  | y :: r, first, a => by
    have h1 := enc_one _ (mnum up first a y.1) (letr_or (alone up first))
    have h2 := enc_one 7 y.2 (.inl rfl)
    have h3 := wrM_most up r false y.1
    rw [wrM, List.length_append, List.length_append, List.length_cons]
    omega
theorem bytes_most (x : Dg) : 2 * x.all.length ≤ x.bytes.length := by
  have h5 := wrM_most true x.L true 0
  have h7 := wrM_most false x.W true 0
  have h8 : x.all.length = x.L.length + x.W.length := by unfold Dg.all; rw [List.length_append]
  simp only [Dg.bytes, tdB, List.length_append]
  omega
theorem take_all_len {x y : Dg} (hx : x.Good) (hy : y.Good) : (x.take y).all.length ≤ x.all.length + y.all.length := by
  unfold Dg.take
  split
  · omega
  · rename_i h
    have h2 := Dg.press_len (take_good hx hy h)
    rw [Dg.come_all, List.length_append] at h2
    exact h2
theorem nd_take {w W W2 : World} {g g2 : Nat} {x y : Dg} (k : NewD w W g x) (k2 : NewD W W2 g2 y) (hN : x.all.length + y.all.length ≤ 400000000000) :
    Calls Tryz.prog 37 #[.pointer (some ⟨g, 0, none⟩), .pointer (some ⟨g2, 0, none⟩)] W2 fun e w' => e = .returned (.int .i64 (x.takeE y : Nat)) ∧ NewD w w' g (x.take y) := by
  obtain ⟨C, ⟨p, n, c, q, m, e, s⟩, hC⟩ := (k.fr0 k2.fr).ex
  obtain ⟨C2, ⟨p2, n2, c2, q2, m2, e2, s2⟩, hC2⟩ := k2.ex
  have kk := k.fr0 k2.fr
  exact (take_any g C p n c q m e x W2 g2 C2 p2 n2 c2 q2 m2 e2 y s s2 hN).mono fun e w' he => ⟨he.1, kk.turn C hC he.2⟩
theorem tjoin_any (q1 q2 : Option Addr) (d1 n1 d2 n2 : Nat) (l1 l2 : List Nat) (w : World) (hn1 : l1.length = n1) (hl1 : SlI w .u8 q1 l1) (h81 : ∀ x ∈ l1, x < 256) (hq1 : q1 = none → d1 = 0) (hL1 : n1 ≤ 1000000)
    (hn2 : l2.length = n2) (hl2 : SlI w .u8 q2 l2) (h82 : ∀ x ∈ l2, x < 256) (hq2 : q2 = none → d2 = 0) (hL2 : n2 ≤ 1000000) :
    Calls Tryz.prog 17 #[.slice q1 n1 d1, .slice q2 n2 d2] w fun e w' => JnEnds w w' l1 l2 e := by
  have H1 := Lib.hid (tread_any q1 d1 n1 l1 w hn1 hl1 h81 hq1 (by omega))
  have H2 := Lib.hid (fun W (f : Fr S0 w W) => tread_any q2 d2 n2 l2 W hn2 (hl2.fr0 f) h82 hq2 (by omega))
  have HNN := Lib.hid (And.intro (And.intro hn1 hL1) (And.intro hn2 hL2))
  clear hn1 hl1 h81 hq1 hL1 hn2 hl2 h82 hq2 hL2
  unfold JnEnds
  go_enter Tryz.func17, Tryz.ntmps17
  go_wp2_with fail
  refine H1.out.mono ?_
  rintro e w1 (⟨x, g, hok, rfl, hk⟩ | ⟨hno, rfl, f1⟩)
  · have HK := Lib.hid (And.intro hok hk)
    have H2' := Lib.hid (H2.out _ hk.fr)
    clear hok hk H1 H2
    go_wp2_with fail
    refine H2'.out.mono ?_
    rintro e w2 (⟨y, g2, hok, rfl, hk⟩ | ⟨hno, rfl, f1⟩)
    · have hlx : 2 * x.all.length ≤ 1000000 := by
        have h1 := bytes_most x
        have h2 := HNN.out.1
        rw [← HK.out.1.eq] at h1
        omega
      have hly : 2 * y.all.length ≤ 1000000 := by
        have h1 := bytes_most y
        have h2 := HNN.out.2
        rw [← hok.eq] at h1
        omega
      have HT := Lib.hid (nd_take HK.out.2 hk (by omega))
      have hta := take_all_len HK.out.1.good hok.good
      have HW := Lib.hid (fun W (t : NewD w W g (x.take y)) => (let ⟨C, h1, _⟩ := t.ex; twrite_any g C (x.take y) W h1 (by omega) : Calls Tryz.prog 8 #[.pointer (some ⟨g, 0, none⟩)] W fun e w' => ∃ v, e = .returned (.tuple #[v, .int .i64 0]) ∧ AccB W w' v (x.take y).bytes.length (x.take y).bytes))
      have HRD := Lib.hid (And.intro HK.out.1 hok)
      clear hok hk H2' hlx hly hta HK
      have hEb : x.takeE y < 100 := by
        unfold Dg.takeE
        split
        · decide
        · split
          · decide
          · split <;> decide
      obtain ⟨E, hE⟩ : ∃ E, x.takeE y = E := ⟨_, rfl⟩
      rw [hE] at HT hEb
      have HEE := Lib.hid hE
      clear hE
      go_wp2_with fail
      refine HT.out.mono ?_
      rintro e w3 ⟨rfl, t⟩
      have F3 := Lib.hid t.fr
      have HW3 := Lib.hid (HW.out _ t)
      clear t HT HW
      by_cases hE0 : E = 0
      · subst hE0
        clear hEb
        go_wp2_with fail
        refine HW3.out.mono ?_
        rintro e w4 ⟨v, rfl, hv⟩
        have HV := Lib.hid (hv.back F3.out)
        clear hv HW3
        go_wp2_with fail
        go_ret2
        exact .inr ⟨x, y, HRD.out.1, HRD.out.2, .inr ⟨HEE.out, v, rfl, HV.out⟩⟩
      · have hz : ((E : Int) != 0) = true := by rw [bne_iff_ne]; omega
        have hz2 : ((E : Int) == 0) = false := by rw [beq_eq_false_iff_ne]; omega
        have HZ := Lib.hid hE0
        clear hE0 hEb
        go_wp2_with fail
        go_ret2
        exact .inr ⟨x, y, HRD.out.1, HRD.out.2, .inl ⟨by rw [HEE.out]; exact HZ.out, by rw [HEE.out]; rfl, F3.out⟩⟩
    · have HN := Lib.hid (And.intro hno (HK.out.2.fr.trans0 f1))
      clear hno f1 HK H2'
      go_wp2_with fail
      go_ret2
      exact .inl ⟨.inr HN.out.1, rfl, HN.out.2⟩
  · have HN := Lib.hid (And.intro hno f1)
    clear hno f1 H1
    go_wp2_with fail
    go_ret2
    exact .inl ⟨.inl HN.out.1, rfl, HN.out.2⟩
end Go.Proofs.YtmieeoceckcnkaaGreat

namespace Go.Proofs.YtmieeoceckcnkaaGreat
open Go.RowKit
theorem AccB.sl {w w' : World} {v : Value} {N : Nat} {L : List Nat} (h : AccB w w' v N L) : ∃ q c, v = .slice q N c ∧ SlI w' .u8 q L ∧ (q = none → c = 0) ∧ N ≤ c ∧ c ≤ maxLen := by
  obtain ⟨q, c, rfl, h0, h1, h2⟩ := slForm h.own
  exact ⟨q, c, rfl, SlI.ofOwns h.own, h0, h1, h2⟩
theorem sl_txt {w : World} {q : Option Addr} {n d : Nat} {l : List Nat} (h : SlI w .u8 q l) (hn : l.length = n) : (convert 30 9 (.slice q n d)).run Tryz.prog w = .ok (.string (strB l)) w := by
  have := conv_sl h n d (by omega)
  rwa [List.take_of_length_le (by omega)] at this
theorem nd_write {w W : World} {g : Nat} {x : Dg} (k : NewD w W g x) (hN : x.all.length ≤ 1000000) :
    Calls Tryz.prog 8 #[.pointer (some ⟨g, 0, none⟩)] W fun e w' => ∃ v, e = .returned (.tuple #[v, .int .i64 0]) ∧ AccB W w' v x.bytes.length x.bytes :=
  let ⟨C, h1, _⟩ := k.ex; twrite_any g C x W h1 hN
structure Bs (w W : World) (g : Nat) (x : Dg) (q : Option Addr) (l : List Nat) : Prop where
  nd : ∃ C, DIs W g C x ∧ ∀ b, C b → w.heap.size ≤ b ∧ ∀ a, q = some a → a.block ≠ b
  fr : Fr S0 w W
  sl : SlI W .u8 q l
theorem Bs.nw {w W : World} {g : Nat} {x : Dg} {q : Option Addr} {l : List Nat} (k : Bs w W g x q l) : NewD w W g x := let ⟨C, h1, h2⟩ := k.nd; ⟨⟨C, h1, fun b hb => (h2 b hb).1⟩, k.fr⟩
theorem bs_write {w W W' : World} {g : Nat} {x : Dg} (k : NewD w W g x) {q : Option Addr} {n c : Nat} {l : List Nat} (h : AccB W W' (.slice q n c) n l) : Bs w W' g x q l := by
  obtain ⟨C, h1, h2⟩ := k.ex
  refine ⟨⟨C, h1.fr0 h.fr, fun b hb => ⟨h2 b hb, fun a ha e => ?_⟩⟩, k.fr.trans0 h.fr, SlI.ofOwns h.own⟩
  have h3 := h1.below b hb
  subst ha
  have h4 := h.fresh a.block rfl
  omega
theorem Bs.add {w W : World} {g : Nat} {x : Dg} {q : Option Addr} {l : List Nat} (k : Bs w W g x q l) (hl : l ≠ []) (v : Int) (u : Nat) (h1 : -9223372036854775808 ≤ v) (h2 : v ≤ 9223372036854775807) (hN : x.all.length ≤ 400000000000) :
    Calls Tryz.prog 20 #[.pointer (some ⟨g, 0, none⟩), .int .i64 v, .int .u64 (u : Nat)] W fun e w' => e = .returned (.int .i64 (x.ref u : Nat)) ∧ Bs w w' g (x.add v u) q l := by
  obtain ⟨C, ⟨p, n, c, q1, m, e, s⟩, hC⟩ := k.nd
  refine (dadd_any g C p n c q1 m e x W v u s h1 h2 hN).mono fun e w' he => ⟨he.1, ?_⟩
  obtain ⟨C', t1, t2, t3⟩ := he.2
  refine ⟨⟨C', t1, fun b hb => ?_⟩, k.fr.trans t2 fun j hj hc => by have := (hC j hc).1; omega, k.sl.fr t2 fun _ a ha hc => (hC _ hc).2 a ha rfl⟩
  rcases t3 b hb with h | h
  · exact hC b h
  · exact ⟨Nat.le_trans k.fr.size h, fun a ha e => by have := k.sl.lt hl a ha; omega⟩
def ex23a : Dg := { d := 10, L := [], W := [(3, 1)], lo := 3, hi := 3 }
def ex23 : Dg := { d := 10, L := [], W := [(3, 1), (-1, 2)], lo := -1, hi := 3 }
theorem ex23_1 : (Dg.new 10).add 3 1 = ex23a ∧ (Dg.new 10).ref 1 = 0 := ⟨by kernel_rfl, by kernel_rfl⟩
theorem ex23_2 : ex23a.add (-1) 2 = ex23 ∧ ex23a.ref 2 = 0 := ⟨by kernel_rfl, by kernel_rfl⟩
theorem ex23_t : ex23.tot = 3 := by kernel_rfl
theorem ex23_n : (Dg.new 10).bytes = [10, 0, 0, 0, 0] := by kernel_rfl
theorem ex23_b : ex23.bytes = [10, 1, 6, 0, 2, 6, 1, 1, 2] := by kernel_rfl
section
variable {w W : World} {g : Nat}
theorem ew0 (k : NewD w W g (Dg.new 10)) : Calls Tryz.prog 8 #[.pointer (some ⟨g, 0, none⟩)] W fun e w' => ∃ q c, e = .returned (.tuple #[.slice q 5 c, .int .i64 0]) ∧ Bs w w' g (Dg.new 10) q [10, 0, 0, 0, 0] := by
  refine (nd_write k (by decide)).mono ?_
  rintro e w' ⟨v, rfl, acc⟩
  rw [ex23_n] at acc
  obtain ⟨q, c, rfl, -⟩ := acc.sl
  exact ⟨q, c, rfl, bs_write k acc⟩
variable {q0 : Option Addr}
theorem ea1 (k : Bs w W g (Dg.new 10) q0 [10, 0, 0, 0, 0]) : Calls Tryz.prog 20 #[.pointer (some ⟨g, 0, none⟩), .int .i64 3, .int .u64 1] W fun e w' => e = .returned (.int .i64 0) ∧ Bs w w' g ex23a q0 [10, 0, 0, 0, 0] := by
  have h := k.add (by decide) 3 1 (by decide) (by decide) (by decide)
  rw [ex23_1.1, ex23_1.2] at h
  exact h
theorem ea2 (k : Bs w W g ex23a q0 [10, 0, 0, 0, 0]) : Calls Tryz.prog 20 #[.pointer (some ⟨g, 0, none⟩), .int .i64 (-1), .int .u64 2] W fun e w' => e = .returned (.int .i64 0) ∧ Bs w w' g ex23 q0 [10, 0, 0, 0, 0] := by
  have h := k.add (by decide) (-1) 2 (by decide) (by decide) (by decide)
  rw [ex23_2.1, ex23_2.2] at h
  exact h
theorem ew2 (k : Bs w W g ex23 q0 [10, 0, 0, 0, 0]) : Calls Tryz.prog 8 #[.pointer (some ⟨g, 0, none⟩)] W fun e w' => ∃ q c, e = .returned (.tuple #[.slice q 9 c, .int .i64 0]) ∧ SlI w' .u8 q [10, 1, 6, 0, 2, 6, 1, 1, 2] ∧ (q = none → c = 0) ∧ Fr S0 w w' ∧ RdOk [10, 1, 6, 0, 2, 6, 1, 1, 2] ex23 ∧ SlI w' .u8 q0 [10, 0, 0, 0, 0] := by
  have hr : RdOk [10, 1, 6, 0, 2, 6, 1, 1, 2] ex23 := ⟨ex23_b.symm, k.nw.good, by decide⟩
  refine (nd_write k.nw (by decide)).mono ?_
  rintro e w' ⟨v, rfl, acc⟩
  rw [ex23_b] at acc
  obtain ⟨q, c, rfl, a1, a2, -⟩ := acc.sl
  exact ⟨q, c, rfl, a1, a2, k.fr.trans0 acc.fr, hr, k.sl.fr0 acc.fr⟩
theorem er3 {q : Option Addr} {c : Nat} (hs : SlI w .u8 q [10, 1, 6, 0, 2, 6, 1, 1, 2]) (h0 : q = none → c = 0) (hr : RdOk [10, 1, 6, 0, 2, 6, 1, 1, 2] ex23) :
    Calls Tryz.prog 9 #[.slice q 9 c] w fun e w' => ∃ g, e = .returned (.tuple #[.pointer (some ⟨g, 0, none⟩), .int .i64 0]) ∧ NewD w w' g ex23 := by
  refine (tread_any q c 9 _ w rfl hs (by decide) h0 (by decide)).mono ?_
  rintro e w' (⟨x, g, hr2, rfl, k⟩ | ⟨hno, -⟩)
  · rw [rdOk_one hr2 hr] at k
    exact ⟨g, rfl, k⟩
  · exact absurd ⟨_, hr⟩ hno
theorem et4 (k : NewD w W g ex23) : Calls Tryz.prog 21 #[.pointer (some ⟨g, 0, none⟩)] W fun e w' => e = .returned (.int .u64 3) ∧ W = w' := by
  have h := nd_total k
  rw [ex23_t] at h
  exact h
end
theorem alive23_any (w : World) : Calls Tryz.prog 6 #[] w fun e w' => e = .returned (.bool true) ∧ Fr S0 w w' := by
  go_enter Tryz.func6, Tryz.ntmps6
  go_wp2_with fail
  refine (exn _).mono ?_
  rintro e w1 ⟨g, rfl, k0⟩
  have K0 := Lib.hid k0
  clear k0
  go_wp2_with fail
  refine (ew0 K0.out).mono ?_
  rintro e w2 ⟨q0, c0, rfl, k1⟩
  have K1 := Lib.hid k1
  clear k1 K0
  go_wp2_with fail
  refine (ea1 K1.out).mono ?_
  rintro e w3 ⟨rfl, k2⟩
  have K2 := Lib.hid k2
  clear k2 K1
  go_wp2_with fail
  refine (ea2 K2.out).mono ?_
  rintro e w4 ⟨rfl, k3⟩
  have K3 := Lib.hid k3
  clear k3 K2
  go_wp2_with fail
  refine (ew2 K3.out).mono ?_
  rintro e w5 ⟨q, c, rfl, sl, h0, f5, hr, sl0⟩
  have F5 := Lib.hid f5
  have HSL := Lib.hid (And.intro sl sl0)
  have H5 := Lib.hid (er3 sl h0 hr)
  clear sl h0 hr f5 sl0 K3
  go_wp2_with fail
  refine H5.out.mono ?_
  rintro e w6 ⟨g2, rfl, k6⟩
  have cva : ∀ c, (convert 30 9 (.slice q 9 c)).run Tryz.prog w6 = .ok (.string { data := #[10, 1, 6, 0, 2, 6, 1, 1, 2] }) w6 := fun c => sl_txt (HSL.out.1.fr0 k6.fr) rfl
  have cvb : ∀ c, (convert 30 9 (.slice q0 5 c)).run Tryz.prog w6 = .ok (.string { data := #[10, 0, 0, 0, 0] }) w6 := fun c => sl_txt (HSL.out.2.fr0 k6.fr) rfl
  have F6 := Lib.hid (F5.out.trans0 k6.fr)
  have HT := Lib.hid (et4 k6)
  clear k6 H5 HSL F5
  go_wp2_with fail
  refine HT.out.mono ?_
  rintro e w7 ⟨rfl, rfl⟩
  go_wp2_with fail
  go_ret
  exact ⟨rfl, F6.out⟩
end Go.Proofs.YtmieeoceckcnkaaGreat

namespace Go.Proofs.YtmieeoceckcnkaaGreat
open Go.RowKit
def wt23 (ns : List Nat) (i : Nat) : Nat := if h : i < ns.length then (1 + ns[i] % 1000) * 2 ^ (ns[i] % 30) else 1
theorem wt23_bd (ns : List Nat) (i : Nat) : 1 ≤ wt23 ns i ∧ wt23 ns i ≤ 536870912000 := by
  unfold wt23
  split
  · rename_i h
    have h1 : 2 ^ (ns[i] % 30) ≤ 2 ^ 29 := Nat.pow_le_pow_right (by decide) (by omega)
    have h2 : 0 < 2 ^ (ns[i] % 30) := Nat.pow_pos (by decide)
    have h3 : (1 + ns[i] % 1000) * 2 ^ (ns[i] % 30) ≤ 1000 * 2 ^ 29 := Nat.mul_le_mul (by omega) h1
    have h4 : 0 < (1 + ns[i] % 1000) * 2 ^ (ns[i] % 30) := Nat.mul_pos (by omega) h2
    omega
  · omega
def adds23 (d : Nat) (vs : List Int) (ns : List Nat) : Nat → Dg
  | 0 => Dg.new d
  | i + 1 => (adds23 d vs ns i).add (vs.getD i 0) (wt23 ns i)
structure Adds23 (d : Nat) (x : Dg) (i : Nat) : Prop where
  good : x.Good
  tot : x.tot ≤ 536870912000 * i
  len : x.all.length ≤ i
  dd : x.d = d
  few : x.W.length < x.d
theorem add_d (x : Dg) (v : Int) (u : Nat) : (x.add v u).d = x.d := by
  unfold Dg.add
  split
  · unfold Dg.full
    split <;> rfl
  · rfl
theorem add_few {x : Dg} (h : x.W.length < x.d) (v : Int) (u : Nat) : (x.add v u).W.length < (x.add v u).d := by
  rw [add_d]
  unfold Dg.add
  split
  · unfold Dg.full
    split
    · show 0 < x.d
      omega
    · rename_i h2
      have h3 : (x.come [(v, u)] v v).d = x.d := rfl
      omega
  · exact h
theorem adds23_ok {d : Nat} {vs : List Int} {ns : List Nat} (h1 : 10 ≤ d) (h2 : d ≤ 1000) (hv : ∀ v ∈ vs, -9223372036854775808 ≤ v ∧ v ≤ 9223372036854775807) : ∀ i, i ≤ 80 → Adds23 d (adds23 d vs ns i) i
  | 0, _ => ⟨Dg.Good.new h1 h2, Nat.le_refl _, Nat.le_refl _, rfl, by show 0 < d; omega⟩
  | i + 1, hi => by
    obtain ⟨g, t, l, dd, fw⟩ := adds23_ok (ns := ns) h1 h2 hv i (by omega)
    obtain ⟨a, b⟩ := getD_bd hv i
    obtain ⟨u1, u2⟩ := wt23_bd ns i
    have hr : (adds23 d vs ns i).ref (wt23 ns i) = 0 := Dg.ref_ok (by omega) (by omega)
    have ht : (adds23 d vs ns (i + 1)).tot = (adds23 d vs ns i).tot + wt23 ns i := Dg.add_tot g hr a b
    have hl : (adds23 d vs ns (i + 1)).all.length ≤ (adds23 d vs ns i).all.length + 1 := Dg.add_len g a b
    exact ⟨g.add a b, by omega, by omega, (add_d _ _ _).trans dd, add_few fw _ _⟩
def maybe (press : Bool) (x : Dg) : Dg := if press then x.press else x
def made23 (d : Nat) (vs : List Int) (ns : List Nat) (press : Bool) : Dg := maybe press (adds23 (fineD d) vs ns (min vs.length 80))
structure Made (x : Dg) : Prop where
  good : x.Good
  len : x.all.length ≤ 80
  d : x.d ≤ 70
  few : x.W.length < x.d
  tot : x.tot ≤ 42949672960000
theorem made_ok {d : Nat} {vs : List Int} {ns : List Nat} {press : Bool} (hv : ∀ v ∈ vs, -9223372036854775808 ≤ v ∧ v ≤ 9223372036854775807) : Made (made23 d vs ns press) ∧ (made23 d vs ns press).d = fineD d := by
  have hd : fineD d ≤ 69 := by unfold fineD; omega
  obtain ⟨f1, f2⟩ := fineD_in d
  obtain ⟨g, t, l, dd, fw⟩ := adds23_ok (ns := ns) f1 f2 hv (min vs.length 80) (by omega)
  unfold made23 maybe
  split
  · exact ⟨⟨g.press, Nat.le_trans (Dg.press_len g) (by omega), by rw [show (adds23 (fineD d) vs ns (min vs.length 80)).press.d = (adds23 (fineD d) vs ns (min vs.length 80)).d from rfl]; omega, by show 0 < (adds23 (fineD d) vs ns (min vs.length 80)).d; omega, by rw [Dg.press_tot g]; omega⟩, dd⟩
  · exact ⟨⟨g, by omega, by omega, fw, by omega⟩, dd⟩
theorem both_press {w W : World} {g r : Nat} {x y : Dg} (k : Both w W g r x y) (hN : x.all.length ≤ 400000000000) :
    Calls Tryz.prog 23 #[.pointer (some ⟨g, 0, none⟩)] W fun e w' => e = .returned (.tuple #[]) ∧ Both w w' g r x.press y := by
  obtain ⟨C, ⟨p, n, c, q, m, e, s⟩, ht⟩ := k.left (x2 := x.press)
  exact (press_any g C p n c q m e x W s (by omega)).mono fun e w' he => ⟨he.1, ht _ he.2⟩
theorem both_rpress {w W : World} {g r : Nat} {x y : Dg} (k : Both w W g r x y) (hN : y.all.length ≤ 400000000000) :
    Calls Tryz.prog 24 #[.pointer (some ⟨r, 0, none⟩)] W fun e w' => e = .returned (.tuple #[]) ∧ Both w w' g r x y.press := by
  obtain ⟨C, ⟨p, n, c, q, m, e, s⟩, ht⟩ := k.right (y2 := y.press)
  exact (rpress_any r C p n c q m e y W s (by omega)).mono fun e w' he => ⟨he.1, ht _ he.2⟩
section
variable (d : Nat) (p : Option Addr) (n c : Nat) (vs : List Int) (q : Option Addr) (k c2 : Nat) (ns : List Nat) (press : Bool) (w : World)
theorem added23_any (hn : vs.length = n) (hz : ZI w p vs) (hvb : ∀ v ∈ vs, -9223372036854775808 ≤ v ∧ v ≤ 9223372036854775807) (hk : ns.length = k) (hq : SlI w .u16 q ns) (_ : ∀ n ∈ ns, n < 65536) :
    Calls Tryz.prog 7 #[.int .u16 (d : Nat), .slice p n c, .slice q k c2, .bool press] w fun e w' => ∃ g r, e = .returned (.tuple #[.pointer (some ⟨g, 0, none⟩), .pointer (some ⟨r, 0, none⟩)]) ∧ Both w w' g r (made23 d vs ns press) (made23 d vs ns press) := by
  obtain ⟨d1, d2⟩ := fineD_in d
  have HOK := Lib.hid (fun i hi => adds23_ok (ns := ns) d1 d2 hvb i hi)
  have HMK : Hid (made23 d vs ns press = maybe press (adds23 (fineD d) vs ns (min n 80))) := Lib.hid (by rw [made23, hn])
  obtain ⟨MK, eMK⟩ : ∃ x, made23 d vs ns press = x := ⟨_, rfl⟩
  rw [eMK] at HMK ⊢
  obtain ⟨D, eD⟩ : ∃ D, fineD d = D := ⟨_, rfl⟩
  have eD6 : 10 + d % 60 = D := eD
  have iD1 : (d : Int) % 60 = ((d % 60 : Nat) : Int) := by omega
  have iD2 : 10 + ((d % 60 : Nat) : Int) = (D : Int) := by omega
  obtain ⟨R6, eR6⟩ : ∃ R, d % 60 = R := ⟨_, rfl⟩
  rw [eR6] at iD1 iD2
  have bR6 : (R6 : Int) < 60 := by omega
  rw [eD] at d1 d2 HOK HMK
  have HN := Lib.hid (nd_new D w d1 d2)
  have HST := Lib.hid (fun g w1 (h : NewD w w1 g (Dg.new D)) => both_start h d1 d2)
  have HZ := Lib.hid hz
  have HQ := Lib.hid hq
  have HVB := Lib.hid hvb
  have HL := Lib.hid hn
  have HK := Lib.hid hk
  clear hz hvb hq hk hn eD eD6 eR6 eMK d1 d2
  go_enter Tryz.func7, Tryz.ntmps7
  go_wp2_with fail
  refine HN.out.mono ?_
  rintro e w1 ⟨g, rfl, nk⟩
  have HB0 := Lib.hid (HST.out g w1 nk)
  clear nk HN HST
  go_wp2_with fail
  go_loopw [14, 15] (fun z _ wr => ∃ (i : Nat), z = .int .i64 (i : Int) ∧ i ≤ n ∧ i ≤ 80 ∧ Hid (Both w wr g w1.heap.size (adds23 D vs ns i) (adds23 D vs ns i))) (fun z _ _ => 80 - (intOf z).toNat)
  case atStart => exact ⟨0, rfl, by omega, by omega, HB0⟩
  case round =>
    obtain ⟨i, rfl, hin, hi80, hb⟩ := hrel
    by_cases hil : (i : Int) < (n : Int)
    · by_cases hi8 : (i : Int) < 80
      · have hivl : i < vs.length := by rw [HL.out]; omega
        obtain ⟨b, o, rfl, k0⟩ := (HZ.out.fr0 hb.out.fr) i hivl
        have hvi := HVB.out _ (List.getElem_mem hivl)
        have hgd : vs.getD i 0 = vs[i] := by simp [hivl]
        have HZC0 := Lib.hid (fun W (f : Fr S0 w W) => (HZ.out.fr0 f) i hivl)
        obtain ⟨v, ev⟩ : ∃ v, vs[i] = v := ⟨_, rfl⟩
        rw [ev] at k0 hvi hgd HZC0
        have HZC : Hid (∀ W, Fr S0 w W → W.cell? ⟨b, o + i, none⟩ = some (.int .i64 v)) := Lib.hid fun W f => by
          obtain ⟨b', o', hp, hc⟩ := HZC0.out W f
          simp only [Option.some.injEq, Addr.mk.injEq] at hp
          obtain ⟨rfl, rfl, -⟩ := hp
          exact hc
        have hok := HOK.out i hi80
        have hwb := wt23_bd ns i
        have hr0 : (adds23 D vs ns i).ref (wt23 ns i) = 0 := Dg.ref_ok (by omega) (by have := hok.tot; omega)
        have hst : adds23 D vs ns (i + 1) = (adds23 D vs ns i).add v (wt23 ns i) := by rw [adds23, hgd]
        have HA := Lib.hid (fun W (f : Fr S0 wr W) => both_add (hb.out.fr0 f) v (wt23 ns i) hvi.1 hvi.2 (by have := hok.len; omega))
        have HRA := Lib.hid (fun W (b : Both w W g w1.heap.size ((adds23 D vs ns i).add v (wt23 ns i)) (adds23 D vs ns i)) => both_radd b v (wt23 ns i) hvi.1 hvi.2 (by have := hok.len; omega))
        rw [hr0] at HA HRA
        rw [← hst] at HA HRA
        clear hok hr0 hst hgd HZC0
        by_cases hik : (i : Int) < (k : Int)
        · have hikl : i < ns.length := by rw [HK.out]; omega
          obtain ⟨b7, o7, rfl, q0⟩ := (HQ.out.fr0 hb.out.fr).at i hikl
          have hw : wt23 ns i = (1 + ns[i] % 1000) * 2 ^ (ns[i] % 30) := by unfold wt23; rw [dif_pos hikl]
          obtain ⟨N, eN⟩ : ∃ N, ns[i] = N := ⟨_, rfl⟩
          rw [eN] at q0 hw
          obtain ⟨R, eR⟩ : ∃ R, N % 1000 = R := ⟨_, rfl⟩
          have iR : (N : Int) % 1000 = (R : Int) := by omega
          have bR : (R : Int) < 1000 := by omega
          obtain ⟨S, eS⟩ : ∃ R, N % 30 = R := ⟨_, rfl⟩
          have iS : (N : Int) % 30 = (S : Int) := by omega
          have bS : (S : Int) < 30 := by omega
          obtain ⟨U, eU⟩ : ∃ U, 1 + R = U := ⟨_, rfl⟩
          have iU : 1 + (R : Int) = (U : Int) := by omega
          have bU : (U : Int) ≤ 1000 := by omega
          rw [eR, eU, eS] at hw
          have hwb2 := hwb.2
          rw [hw] at HA HRA hwb2
          obtain ⟨V, eV⟩ : ∃ V, U * 2 ^ S = V := ⟨_, rfl⟩
          have iV : (U : Int) * 2 ^ S = (V : Int) := by rw [← eV]; push_cast; rfl
          have iV2 : IntKind.u64.wrap ((U : Int) * 2 ^ S) = (V : Int) := by rw [iV]; simp [IntKind.wrap, IntKind.bits, IntKind.signed]; omega
          rw [eV] at HA HRA hwb2
          have bV : (V : Int) ≤ 536870912000 := by omega
          clear ev hwb hw eN eR eU eS eV hikl hwb2
          go_wp2_with fail
          go_quiet (fail)
          go_wp2_with fail
          refine (HA.out _ (Fr.drewN S0 _ _)).mono ?_
          rintro e5 w5 ⟨rfl, b5⟩
          have HB5 := Lib.hid b5
          have hv5 := HZC.out w5 b5.fr
          clear b5 HA
          go_wp2_with fail
          refine (HRA.out _ HB5.out).mono ?_
          rintro e6 w6 ⟨rfl, b6⟩
          have HB6 := Lib.hid b6
          clear b6 HRA HB5
          go_wp2_with fail
          go_roundw
          case rel => exact ⟨i + 1, by go_num, by omega, by omega, HB6⟩
          case measure => simp [intOf]; omega
        · have hw : wt23 ns i = 1 := by unfold wt23; rw [dif_neg (by rw [HK.out]; omega)]
          rw [hw] at HA HRA
          clear ev hwb hw
          go_wp2_with fail
          refine (HA.out _ (Fr.refl _ _)).mono ?_
          rintro e5 w5 ⟨rfl, b5⟩
          have HB5 := Lib.hid b5
          have hv5 := HZC.out w5 b5.fr
          clear b5 HA
          go_wp2_with fail
          refine (HRA.out _ HB5.out).mono ?_
          rintro e6 w6 ⟨rfl, b6⟩
          have HB6 := Lib.hid b6
          clear b6 HRA HB5
          go_wp2_with fail
          go_roundw
          case rel => exact ⟨i + 1, by go_num, by omega, by omega, HB6⟩
          case measure => simp [intOf]; omega
      · obtain rfl : i = 80 := by omega
        have HMK2 : Hid (MK = maybe press (adds23 D vs ns 80)) := Lib.hid (by rw [HMK.out, show min n 80 = 80 by omega])
        have hlen := (HOK.out 80 (by omega)).len
        cases press with
        | false =>
          go_wp2_with fail
          go_ret2
          exact ⟨_, _, rfl, by rw [HMK2.out]; exact hb.out⟩
        | true =>
          go_wp2_with fail
          refine (both_press hb.out (by omega)).mono ?_
          rintro e5 w5 ⟨rfl, b5⟩
          have HB5 := Lib.hid b5
          clear b5
          go_wp2_with fail
          refine (both_rpress HB5.out (by omega)).mono ?_
          rintro e6 w6 ⟨rfl, b6⟩
          have HB6 := Lib.hid b6
          clear b6
          go_wp2_with fail
          go_ret2
          exact ⟨_, _, rfl, by rw [HMK2.out]; exact HB6.out⟩
    · obtain rfl : i = n := by omega
      have HMK2 : Hid (MK = maybe press (adds23 D vs ns i)) := Lib.hid (by rw [HMK.out, show min i 80 = i by omega])
      have hlen := (HOK.out i (by omega)).len
      cases press with
      | false =>
        go_wp2_with fail
        go_ret2
        exact ⟨_, _, rfl, by rw [HMK2.out]; exact hb.out⟩
      | true =>
        go_wp2_with fail
        refine (both_press hb.out (by omega)).mono ?_
        rintro e5 w5 ⟨rfl, b5⟩
        have HB5 := Lib.hid b5
        clear b5
        go_wp2_with fail
        refine (both_rpress HB5.out (by omega)).mono ?_
        rintro e6 w6 ⟨rfl, b6⟩
        have HB6 := Lib.hid b6
        clear b6
        go_wp2_with fail
        go_ret2
        exact ⟨_, _, rfl, by rw [HMK2.out]; exact HB6.out⟩
end
end Go.Proofs.YtmieeoceckcnkaaGreat
