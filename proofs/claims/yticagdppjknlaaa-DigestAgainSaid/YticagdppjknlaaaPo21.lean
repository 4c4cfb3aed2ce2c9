/- DgAdded, DgLawWeights -/
import Derived.Test.YticagdppjknlaaaPo1
import Derived.Test.YticagdppjknlaaaPo2
import Derived.Test.YticagdppjknlaaaPo3
import Derived.Test.YticagdppjknlaaaPo4
import Derived.Test.YticagdppjknlaaaPo5
import Derived.Test.YticagdppjknlaaaPo6
import Derived.Test.YticagdppjknlaaaPo7
import Derived.Test.YticagdppjknlaaaPo8
import Derived.Test.YticagdppjknlaaaPo9
import Derived.Test.YticagdppjknlaaaPo10
import Derived.Test.YticagdppjknlaaaPo11
import Derived.Test.YticagdppjknlaaaPo12
import Derived.Test.YticagdppjknlaaaPo13
import Derived.Test.YticagdppjknlaaaPo14
import Derived.Test.YticagdppjknlaaaPo15
import Derived.Test.YticagdppjknlaaaPo16
import Derived.Test.YticagdppjknlaaaPo17
import Derived.Test.YticagdppjknlaaaPo18
import Derived.Test.YticagdppjknlaaaPo19
import Derived.Test.YticagdppjknlaaaPo20
import Derived.BigQuiet
import Derived.BigRegion
import Derived.Deep.RegionLaw
import Derived.Deep.RegionHeld3
import Derived.StillTailTactics
import Derived.Maps.AppendAt
import Derived.Laws.AppendOwnNone
import Derived.Laws.OwnMore
import Derived.Lib.AppendZerosOnto
import Derived.Lib.SliceRun
import Derived.Lib.Walk
import Derived.Laws.Externs
import Derived.Shelf.Spec.BitsCarry
import Derived.Deep.CutBlock
import Derived.Deep.CutRange
import Derived.Deep.DeepCutAuto
import Derived.Lib.BitFns
import Derived.Shelf.Small.Bits
import Derived.Shelf.Strconv.Itoa0
import Derived.Shelf.Bits.Mul64
import Derived.Test.YticagdppjknlaaaRows
import Derived.WalkKit
import Derived.WalkSpells
import Derived.WalkLawsBesides
import Derived.Deep.QuietTactic
import Derived.RegionTactic
import Derived.Deep.AppendLies
import Derived.Laws.ResultCell
import Derived.Laws.EntriesVeiled
import Derived.Lib.Hide
import Derived.Laws.BytesArg
import Derived.Lib.SlBytesConst
set_option maxRecDepth 100000
set_option maxHeartbeats 8000000
namespace Go.Proofs.Yticagdppjknlaaa
open Go.RowKit
def ZI (w : World) (p : Option Addr) (vs : List Int) : Prop := ∀ i, (h : i < vs.length) → ∃ b o, p = some ⟨b, o, none⟩ ∧ w.cell? ⟨b, o + i, none⟩ = some (.int .i64 vs[i])
theorem ZI.fr0 {w w' : World} {p : Option Addr} {vs : List Int} (h : ZI w p vs) (f : Fr S0 w w') : ZI w' p vs := fun i hi => let ⟨b, o, e, hc⟩ := h i hi; ⟨b, o, e, f.cell hc (fun h => h)⟩
def wt (ns : List Nat) (i : Nat) : Nat := if h : i < ns.length then 1 + ns[i] % 1000 else 1
theorem wt_bd (ns : List Nat) (i : Nat) : 1 ≤ wt ns i ∧ wt ns i ≤ 1000 := by
  unfold wt
  split <;> omega
def fineD (d : Nat) : Nat := 10 + d % 60
theorem fineD_in (d : Nat) : 10 ≤ fineD d ∧ fineD d ≤ 1000 := by unfold fineD; omega
theorem Dg.ref_ok {x : Dg} {u : Nat} (h0 : 0 < u) (h : x.tot + u ≤ 281474976710656) : x.ref u = 0 := by
  unfold Dg.ref
  rw [if_neg (by omega), if_neg (by omega)]
theorem Dg.ref_of {x : Dg} {u : Nat} (h : x.ref u = 0) : 0 < u ∧ x.tot + u ≤ 281474976710656 := by
  unfold Dg.ref at h
  split at h
  · cases h
  · split at h
    · cases h
    · omega
theorem Dg.come_good {x : Dg} {v : Int} {u : Nat} (h : x.Good) (hr : x.ref u = 0) (h1 : -9223372036854775808 ≤ v) (h2 : v ≤ 9223372036854775807) : (x.come [(v, u)] v v).Good := by
  obtain ⟨hu0, hut⟩ := Dg.ref_of hr
  exact h.come (by intro t ht; rw [List.mem_singleton.1 ht]; exact ⟨Int.le_refl _, Int.le_refl _, hu0⟩) (by simp) h1 h2 h1 h2 (by simp [wts]; omega)
theorem Dg.full_tot {x : Dg} (h : x.Good) : x.full.tot = x.tot := by
  unfold Dg.full
  split
  · exact Dg.press_tot h
  · rfl
theorem Dg.full_len {x : Dg} (h : x.Good) : x.full.all.length ≤ x.all.length := by
  unfold Dg.full
  split
  · exact Dg.press_len h
  · exact Nat.le_refl _
theorem Dg.Good.add {x : Dg} {v : Int} {u : Nat} (h : x.Good) (h1 : -9223372036854775808 ≤ v) (h2 : v ≤ 9223372036854775807) : (x.add v u).Good := by
  unfold Dg.add
  split
  · rename_i hr
    exact (Dg.come_good h hr h1 h2).full
  · exact h
theorem Dg.add_tot {x : Dg} {v : Int} {u : Nat} (h : x.Good) (hr : x.ref u = 0) (h1 : -9223372036854775808 ≤ v) (h2 : v ≤ 9223372036854775807) : (x.add v u).tot = x.tot + u := by
  unfold Dg.add
  rw [if_pos hr, Dg.full_tot (Dg.come_good h hr h1 h2), Dg.come_tot]
  simp [wts]
theorem Dg.add_len {x : Dg} {v : Int} {u : Nat} (h : x.Good) (h1 : -9223372036854775808 ≤ v) (h2 : v ≤ 9223372036854775807) : (x.add v u).all.length ≤ x.all.length + 1 := by
  unfold Dg.add
  split
  · rename_i hr
    have := Dg.full_len (Dg.come_good h hr h1 h2)
    rw [Dg.come_all, List.length_append] at this
    exact this
  · omega
def adds (d : Nat) (vs : List Int) (ns : List Nat) : Nat → Dg
  | 0 => Dg.new d
  | i + 1 => (adds d vs ns i).add (vs.getD i 0) (wt ns i)
theorem getD_bd {vs : List Int} (h : ∀ v ∈ vs, -9223372036854775808 ≤ v ∧ v ≤ 9223372036854775807) (i : Nat) : -9223372036854775808 ≤ vs.getD i 0 ∧ vs.getD i 0 ≤ 9223372036854775807 := by
  by_cases hi : i < vs.length
  · have : vs.getD i 0 = vs[i] := by simp [hi]
    rw [this]
    exact h _ (List.getElem_mem hi)
  · have : vs.getD i 0 = 0 := by simp [show vs.length ≤ i by omega]
    rw [this]
    omega
structure AddsOk (x : Dg) (i : Nat) : Prop where
  good : x.Good
  tot : x.tot ≤ 1000 * i
  len : x.all.length ≤ i
  pos : 0 < i → 0 < x.tot
theorem adds_ok {d : Nat} {vs : List Int} {ns : List Nat} (h1 : 10 ≤ d) (h2 : d ≤ 1000) (hv : ∀ v ∈ vs, -9223372036854775808 ≤ v ∧ v ≤ 9223372036854775807) : ∀ i, i ≤ 80 → AddsOk (adds d vs ns i) i
  | 0, _ => ⟨Dg.Good.new h1 h2, Nat.le_refl _, Nat.le_refl _, fun h => absurd h (Nat.lt_irrefl _)⟩
  | i + 1, hi => by
    obtain ⟨g, t, l, -⟩ := adds_ok (ns := ns) h1 h2 hv i (by omega)
    obtain ⟨a, b⟩ := getD_bd hv i
    obtain ⟨u1, u2⟩ := wt_bd ns i
    have hr : (adds d vs ns i).ref (wt ns i) = 0 := Dg.ref_ok (by omega) (by omega)
    have ht : (adds d vs ns (i + 1)).tot = (adds d vs ns i).tot + wt ns i := Dg.add_tot g hr a b
    have hl : (adds d vs ns (i + 1)).all.length ≤ (adds d vs ns i).all.length + 1 := Dg.add_len g a b
    exact ⟨g.add a b, by omega, by omega, fun _ => by omega⟩
structure Both (w W : World) (g r : Nat) (x y : Dg) : Prop where
  ex : ∃ C R, DIs W g C x ∧ RIs W r R y ∧ (∀ b, C b → ¬ R b) ∧ (∀ b, C b → w.heap.size ≤ b) ∧ ∀ b, R b → w.heap.size ≤ b
  fr : Fr S0 w W
section
variable {w W W' : World} {g r : Nat} {x y : Dg}
theorem RIs.below {C : Nat → Prop} (s : RIs W r C y) : ∀ b, C b → b < W.heap.size := let ⟨_, _, _, _, _, _, s⟩ := s; s.below
theorem DIs.below {C : Nat → Prop} (s : DIs W g C x) : ∀ b, C b → b < W.heap.size := let ⟨_, _, _, _, _, _, s⟩ := s; s.below
theorem Both.fr0 (k : Both w W g r x y) (f : Fr S0 W W') : Both w W' g r x y := let ⟨C, R, h1, h2, h3, h4, h5⟩ := k.ex; ⟨⟨C, R, h1.fr0 f, h2.fr0 f, h3, h4, h5⟩, k.fr.trans0 f⟩
theorem Both.nd (k : Both w W g r x y) : NewD w W g x := let ⟨C, _, h1, _, _, h4, _⟩ := k.ex; ⟨⟨C, h1, h4⟩, k.fr⟩
theorem Both.good (k : Both w W g r x y) : x.Good := k.nd.good
theorem Both.left {x2 : Dg} (k : Both w W g r x y) : ∃ C, DIs W g C x ∧ ∀ W' , DTurn W W' g C x2 → Both w W' g r x2 y := by
  obtain ⟨C, R, h1, h2, h3, h4, h5⟩ := k.ex
  refine ⟨C, h1, fun W' t => ?_⟩
  obtain ⟨C', t1, t2, t3⟩ := t
  refine ⟨⟨C', R, t1, h2.fr t2 fun b hb hc => h3 b hc hb, fun b hb hr => ?_, fun b hb => ?_, h5⟩, k.fr.trans t2 fun j hj hc => by have := h4 j hc; omega⟩
  · rcases t3 b hb with h | h
    · exact h3 b h hr
    · have := h2.below b hr; omega
  · rcases t3 b hb with h | h
    · exact h4 b h
    · exact Nat.le_trans k.fr.size h
theorem Both.right {y2 : Dg} (k : Both w W g r x y) : ∃ R, RIs W r R y ∧ ∀ W' , RTurn W W' r R y2 → Both w W' g r x y2 := by
  obtain ⟨C, R, h1, h2, h3, h4, h5⟩ := k.ex
  refine ⟨R, h2, fun W' t => ?_⟩
  obtain ⟨R', t1, t2, t3⟩ := t
  refine ⟨⟨C, R', h1.fr t2 fun b hb hc => h3 b hb hc, t1, fun b hb hr => ?_, h4, fun b hb => ?_⟩, k.fr.trans t2 fun j hj hc => by have := h5 j hc; omega⟩
  · rcases t3 b hr with h | h
    · exact h3 b hb h
    · have := h1.below b hb; omega
  · rcases t3 b hb with h | h
    · exact h5 b h
    · exact Nat.le_trans k.fr.size h
theorem both_add (k : Both w W g r x y) (v : Int) (u : Nat) (h1 : -9223372036854775808 ≤ v) (h2 : v ≤ 9223372036854775807) (hN : x.all.length ≤ 400000000000) :
    Calls Try.prog 31 #[.pointer (some ⟨g, 0, none⟩), .int .i64 v, .int .u64 (u : Nat)] W fun e w' => e = .returned (.int .i64 (x.ref u : Nat)) ∧ Both w w' g r (x.add v u) y := by
  obtain ⟨C, ⟨p, n, c, q, m, e, s⟩, ht⟩ := k.left (x2 := x.add v u)
  exact (dadd_any g C p n c q m e x W v u s h1 h2 hN).mono fun e w' he => ⟨he.1, ht _ he.2⟩
theorem both_radd (k : Both w W g r x y) (v : Int) (u : Nat) (h1 : -9223372036854775808 ≤ v) (h2 : v ≤ 9223372036854775807) (hN : y.all.length ≤ 400000000000) :
    Calls Try.prog 35 #[.pointer (some ⟨r, 0, none⟩), .int .i64 v, .int .u64 (u : Nat)] W fun e w' => e = .returned (.int .i64 (y.ref u : Nat)) ∧ Both w w' g r x (y.add v u) := by
  obtain ⟨C, ⟨p, n, c, q, m, e, s⟩, ht⟩ := k.right (y2 := y.add v u)
  exact (rgadd_any r C p n c q m e y W v u s h1 h2 hN).mono fun e w' he => ⟨he.1, ht _ he.2⟩
end
theorem fine_any (d : Nat) (w : World) (_ : d < 65536) : Calls Try.prog 14 #[.int .u16 (d : Nat)] w fun e w' => e = .returned (.int .i64 (fineD d : Nat)) ∧ w = w' := by
  obtain ⟨R, eR⟩ : ∃ R, d % 60 = R := ⟨_, rfl⟩
  have iR : (d : Int) % 60 = (R : Int) := by omega
  have bR : (R : Int) < 60 := by omega
  have e1 : fineD d = 10 + R := by rw [← eR]; rfl
  have i2 : 10 + (R : Int) = ((10 + R : Nat) : Int) := by omega
  rw [e1]
  obtain ⟨Y, eY⟩ : ∃ Y, 10 + R = Y := ⟨_, rfl⟩
  rw [eY] at i2 ⊢
  clear eR e1 eY
  go_enter Try.func14, Try.ntmps14
  go_wp2_with fail
  go_ret
  exact ⟨rfl, rfl⟩
theorem both_start {w w1 : World} {g : Nat} {d : Nat} (k : NewD w w1 g (Dg.new d)) (h1 : 10 ≤ d) (h2 : d ≤ 1000) :
    Both w (w1.alloc (.cells #[.int .i64 (d : Nat), .slice none 0 0, .slice none 0 0, .int .i64 0, .int .i64 0] 34)) g w1.heap.size (Dg.new d) (Dg.new d) := by
  obtain ⟨C, hs, hC⟩ := k.ex
  have fa : Fr S0 w1 (w1.alloc (.cells #[.int .i64 (d : Nat), .slice none 0 0, .slice none 0 0, .int .i64 0, .int .i64 0] 34)) := Fr.alloc _ _ _
  refine ⟨⟨C, fun b => b = w1.heap.size, hs.fr0 fa, ⟨none, 0, 0, none, 0, 0, heap_alloc_new w1 _, World.ownsRow_nil _ _ _ _, World.ownsRow_nil _ _ _ _, fun y hy => by simp [Value.ownBlock] at hy, fun y hy => by simp [Value.ownBlock] at hy, rfl, fun b hb => ?_, Dg.Good.new h1 h2⟩, fun b hb e => ?_, hC, fun b hb => ?_⟩, k.fr.trans0 fa⟩
  · rw [hb, size_alloc]; omega
  · have := hs.below b hb; omega
  · rw [hb]; exact k.fr.size
section
variable (d : Nat) (p : Option Addr) (n c : Nat) (vs : List Int) (q : Option Addr) (k c2 : Nat) (ns : List Nat) (w : World)
theorem added_any (hd : d < 65536) (hn : vs.length = n) (hz : ZI w p vs) (hvb : ∀ v ∈ vs, -9223372036854775808 ≤ v ∧ v ≤ 9223372036854775807) (hk : ns.length = k) (hq : SlI w .u16 q ns) (_ : ∀ n ∈ ns, n < 65536) :
    Calls Try.prog 18 #[.int .u16 (d : Nat), .slice p n c, .slice q k c2] w fun e w' => ∃ g r, e = .returned (.tuple #[.pointer (some ⟨g, 0, none⟩), .pointer (some ⟨r, 0, none⟩)]) ∧ Both w w' g r (adds (fineD d) vs ns (min n 80)) (adds (fineD d) vs ns (min n 80)) := by
  obtain ⟨d1, d2⟩ := fineD_in d
  have HFI := Lib.hid (fun W => fine_any d W hd)
  have HOK := Lib.hid (fun i hi => adds_ok (ns := ns) d1 d2 hvb i hi)
  obtain ⟨D, eD⟩ : ∃ D, fineD d = D := ⟨_, rfl⟩
  rw [eD] at d1 d2 HFI HOK ⊢
  have HN := Lib.hid (nd_new D w d1 d2)
  have HST := Lib.hid (fun g w1 (h : NewD w w1 g (Dg.new D)) => both_start h d1 d2)
  have HZ := Lib.hid hz
  have HQ := Lib.hid hq
  have HVB := Lib.hid hvb
  have HL := Lib.hid hn
  have HK := Lib.hid hk
  clear hz hvb hq hk hn eD hd d1 d2
  go_enter Try.func18, Try.ntmps18
  go_wp2_with fail
  refine (HFI.out _).mono ?_
  rintro e w1 ⟨rfl, rfl⟩
  go_wp2_with fail
  refine HN.out.mono ?_
  rintro e w1 ⟨g, rfl, nk⟩
  have HB0 := Lib.hid (HST.out g w1 nk)
  clear nk HN HST
  go_wp2_with fail
  refine (HFI.out _).mono ?_
  rintro e w2 ⟨rfl, rfl⟩
  clear HFI
  go_wp2_with fail
  go_loopw [11, 12] (fun z _ wr => ∃ (i : Nat), z = .int .i64 (i : Int) ∧ i ≤ n ∧ i ≤ 80 ∧ Hid (Both w wr g w1.heap.size (adds D vs ns i) (adds D vs ns i))) (fun z _ _ => 80 - (intOf z).toNat)
  case atStart => exact ⟨0, rfl, by omega, by omega, HB0⟩
  case round =>
    obtain ⟨i, rfl, hin, hi80, hb⟩ := hrel
    by_cases hil : (i : Int) < (n : Int)
    · by_cases hi8 : (i : Int) < 80
      · have hivl : i < vs.length := by rw [HL.out]; omega
        obtain ⟨b, o, rfl, k0⟩ := (HZ.out.fr0 hb.out.fr) i hivl
        have hvi := HVB.out _ (List.getElem_mem hivl)
        have hgd : vs.getD i 0 = vs[i] := by simp [hivl]
        have HZC0 := Lib.hid (fun W (f : Fr S0 w W) => (HZ.out.fr0 f) i hivl)
        obtain ⟨v, ev⟩ : ∃ v, vs[i] = v := ⟨_, rfl⟩
        rw [ev] at k0 hvi hgd HZC0
        have HZC : Hid (∀ W, Fr S0 w W → W.cell? ⟨b, o + i, none⟩ = some (.int .i64 v)) := Lib.hid fun W f => by
          obtain ⟨b', o', hp, hc⟩ := HZC0.out W f
          simp only [Option.some.injEq, Addr.mk.injEq] at hp
          obtain ⟨rfl, rfl, -⟩ := hp
          exact hc
        have hok := HOK.out i hi80
        have hwb := wt_bd ns i
        have hr0 : (adds D vs ns i).ref (wt ns i) = 0 := Dg.ref_ok (by omega) (by have := hok.tot; omega)
        have hst : adds D vs ns (i + 1) = (adds D vs ns i).add v (wt ns i) := by rw [adds, hgd]
        have HA := Lib.hid (fun W (f : Fr S0 wr W) => both_add (hb.out.fr0 f) v (wt ns i) hvi.1 hvi.2 (by have := hok.len; omega))
        have HRA := Lib.hid (fun W (b : Both w W g w1.heap.size ((adds D vs ns i).add v (wt ns i)) (adds D vs ns i)) => both_radd b v (wt ns i) hvi.1 hvi.2 (by have := hok.len; omega))
        rw [hr0] at HA HRA
        rw [← hst] at HA HRA
        clear hok hr0 hst hgd HZC0
        by_cases hik : (i : Int) < (k : Int)
        · have hikl : i < ns.length := by rw [HK.out]; omega
          obtain ⟨b7, o7, rfl, q0⟩ := (HQ.out.fr0 hb.out.fr).at i hikl
          have hw : wt ns i = 1 + ns[i] % 1000 := by unfold wt; rw [dif_pos hikl]
          obtain ⟨N, eN⟩ : ∃ N, ns[i] = N := ⟨_, rfl⟩
          rw [eN] at q0 hw
          obtain ⟨R, eR⟩ : ∃ R, N % 1000 = R := ⟨_, rfl⟩
          have iR : (N : Int) % 1000 = (R : Int) := by omega
          have bR : (R : Int) < 1000 := by omega
          obtain ⟨U, eU⟩ : ∃ U, 1 + R = U := ⟨_, rfl⟩
          have iU : 1 + (R : Int) = (U : Int) := by omega
          rw [eR, eU] at hw
          rw [hw] at HA HRA
          clear ev hwb hw eN eR eU hikl
          go_wp2_with fail
          refine (HA.out _ (Fr.refl _ _)).mono ?_
          rintro e5 w5 ⟨rfl, b5⟩
          have HB5 := Lib.hid b5
          have hv5 := HZC.out w5 b5.fr
          clear b5 HA
          go_wp2_with fail
          refine (HRA.out _ HB5.out).mono ?_
          rintro e6 w6 ⟨rfl, b6⟩
          have HB6 := Lib.hid b6
          clear b6 HRA HB5
          go_wp2_with fail
          go_roundw
          case rel => exact ⟨i + 1, by go_num, by omega, by omega, HB6⟩
          case measure => simp [intOf]; omega
        · have hw : wt ns i = 1 := by unfold wt; rw [dif_neg (by rw [HK.out]; omega)]
          rw [hw] at HA HRA
          clear ev hwb hw
          go_wp2_with fail
          refine (HA.out _ (Fr.refl _ _)).mono ?_
          rintro e5 w5 ⟨rfl, b5⟩
          have HB5 := Lib.hid b5
          have hv5 := HZC.out w5 b5.fr
          clear b5 HA
          go_wp2_with fail
          refine (HRA.out _ HB5.out).mono ?_
          rintro e6 w6 ⟨rfl, b6⟩
          have HB6 := Lib.hid b6
          clear b6 HRA HB5
          go_wp2_with fail
          go_roundw
          case rel => exact ⟨i + 1, by go_num, by omega, by omega, HB6⟩
          case measure => simp [intOf]; omega
      · obtain rfl : i = 80 := by omega
        have HE : Hid (min n 80 = 80) := Lib.hid (by omega)
        go_wp2_with fail
        go_ret2
        exact ⟨_, _, rfl, by first | exact hb.out | (rw [HE.out]; exact hb.out)⟩
    · obtain rfl : i = n := by omega
      have HE : Hid (min i 80 = i) := Lib.hid (by omega)
      go_wp2_with fail
      go_ret2
      exact ⟨_, _, rfl, by first | exact hb.out | (rw [HE.out]; exact hb.out)⟩
end
end Go.Proofs.Yticagdppjknlaaa

namespace Go.Proofs.Yticagdppjknlaaa
open Go.RowKit
theorem both_list {w W : World} {g r : Nat} {x y : Dg} (k : Both w W g r x y) (hN : x.all.length ≤ 500000000000) :
    Calls Try.prog 29 #[.pointer (some ⟨g, 0, none⟩)] W fun e w' => ∃ v, e = .returned v ∧ Acc 61 W w' v x.L.length x.L := by
  obtain ⟨C, R, ⟨p, n, c, q, m, e, s⟩, -⟩ := k.ex
  exact list_any g C p n c q m e x W s hN
theorem both_waits {w W : World} {g r : Nat} {x y : Dg} (k : Both w W g r x y) (hN : x.all.length ≤ 500000000000) :
    Calls Try.prog 30 #[.pointer (some ⟨g, 0, none⟩)] W fun e w' => ∃ v, e = .returned v ∧ Acc 61 W w' v x.W.length x.W := by
  obtain ⟨C, R, ⟨p, n, c, q, m, e, s⟩, -⟩ := k.ex
  exact waits_any g C p n c q m e x W s hN
theorem Both.back {w0 w W : World} {g r : Nat} {x y : Dg} (bo : Both w W g r x y) (f : Fr S0 w0 w) : Both w0 W g r x y :=
  let ⟨C, R, x1, x2, x3, x4, x5⟩ := bo.ex
  ⟨⟨C, R, x1, x2, x3, fun b hb => Nat.le_trans f.size (x4 b hb), fun b hb => Nat.le_trans f.size (x5 b hb)⟩, f.trans0 bo.fr⟩
section
variable (d : Nat) (p : Option Addr) (n c : Nat) (vs : List Int) (q : Option Addr) (k c2 : Nat) (ns : List Nat) (w : World)
end
end Go.Proofs.Yticagdppjknlaaa
