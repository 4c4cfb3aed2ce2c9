/- DgActs -/
import Derived.Test.YtmieeoceckcnkaaGreatPz1
import Derived.Test.YtmieeoceckcnkaaGreatPz2
import Derived.Test.YtmieeoceckcnkaaGreatPz3
import Derived.Test.YtmieeoceckcnkaaGreatPz4
import Derived.Test.YtmieeoceckcnkaaGreatPz5
import Derived.Test.YtmieeoceckcnkaaGreatPz6
import Derived.Test.YtmieeoceckcnkaaGreatPz7
import Derived.Test.YtmieeoceckcnkaaGreatPz8
import Derived.Test.YtmieeoceckcnkaaGreatPz9
import Derived.Test.YtmieeoceckcnkaaGreatPz10
import Derived.Test.YtmieeoceckcnkaaGreatPz11
import Derived.Test.YtmieeoceckcnkaaGreatPz12
import Derived.Test.YtmieeoceckcnkaaGreatPz13
import Derived.Test.YtmieeoceckcnkaaGreatPz14
import Derived.Test.YtmieeoceckcnkaaGreatPz15
import Derived.Test.YtmieeoceckcnkaaGreatPz16
import Derived.Test.YtmieeoceckcnkaaGreatPz28
import Derived.Test.YtmieeoceckcnkaaGreatPz29
import Derived.BigQuiet
import Derived.Lib.AppendZerosOnto
import Derived.Lib.SliceRun
import Derived.Lib.Walk
import Derived.StillTailTactics
import Derived.Deep.RegionLaw
import Derived.Deep.RegionHeld3
import Derived.BigRegion
import Derived.Maps.AppendAt
import Derived.Laws.AppendOwnNone
import Derived.Laws.OwnMore
import Derived.Laws.Externs
import Derived.Shelf.Spec.BitsCarry
import Derived.Deep.CutBlock
import Derived.Deep.CutRange
import Derived.Deep.DeepCutAuto
import Derived.Lib.BitFns
import Derived.Shelf.Small.Bits
import Derived.Shelf.Strconv.Itoa0
import Derived.Shelf.Bits.Mul64
import Derived.Test.YtmieeoceckcnkaaGreatRows
import Derived.WalkKit
import Derived.WalkSpells
import Derived.WalkLawsBesides
import Derived.Deep.QuietTactic
import Derived.RegionTactic
import Derived.Deep.AppendLies
import Derived.Laws.ResultCell
import Derived.Laws.EntriesVeiled
import Derived.Lib.Hide
import Derived.Laws.BytesArg
import Derived.Lib.SlBytesConst
set_option maxRecDepth 100000
set_option maxHeartbeats 8000000
namespace Go.Proofs.YtmieeoceckcnkaaGreat
open Go.RowKit
theorem HTurn.from {Is : World → Nat → (Nat → Prop) → Dg → Prop} {W W2 W' : World} {g : Nat} {C : Nat → Prop} {M : Dg} (f : Fr S0 W W2) (t : HTurn Is W2 W' g C M) : HTurn Is W W' g C M := by
  obtain ⟨C', h1, h2, h3⟩ := t
  exact ⟨C', h1, (f.mono fun _ _ h => h.elim).trans h2 fun _ _ h => h, fun b hb => (h3 b hb).imp id fun h => Nat.le_trans f.size h⟩
theorem box4 (W : World) (a b c d : Value) (t : TypeId) : ∀ W', Fr S0 (W.alloc (.cells #[a, b, c, d] t)) W' → W'.cell? ⟨W.heap.size, 0, none⟩ = some a ∧ W'.cell? ⟨W.heap.size, 1, none⟩ = some b ∧ W'.cell? ⟨W.heap.size, 2, none⟩ = some c ∧ W'.cell? ⟨W.heap.size, 3, none⟩ = some d := fun W' f => by
  have h := f.row (heap_alloc_new W (.cells #[a, b, c, d] t)) fun h => h
  simp [World.cell?, h]
section
variable {xo : Nat} {MO : Dg} (w W : World) (gs gw a b xA xB rA rB : Nat) (MA MB : Dg) (q : Quad xo MO DIs w W gs gw a b xA xB rA rB MA MB MA MB)
include q
theorem do_take (kd : Nat) (who : Bool) (v : Int) (n : Nat) (hw : (who = false ∧ a = 0 ∧ b = 1) ∨ (who = true ∧ a = 1 ∧ b = 0)) (hk : kd % 8 = 5) (hl : MA.all.length + MB.all.length ≤ 400000000000) :
    Calls Tryz.prog 16 #[.slice (some ⟨gs, 0, none⟩) 2 2, .slice (some ⟨gw, 0, none⟩) 2 2, .agg #[.int .u8 (kd : Nat), .bool who, .int .i64 v, .int .u64 (n : Nat)]] W fun e w' => e = .returned (.bool true) ∧ Quad xo MO DIs w w' gs gw a b xA xB rA rB (MA.take MB) MB (MA.take MB) MB := by
  obtain ⟨C, CB, h1, k1, hdis, hturn⟩ := q.codeA obD
  have HX := Lib.hid (fun W2 (f : Fr S0 W W2) => show Calls Tryz.prog 37 #[.pointer (some ⟨xA, 0, none⟩), .pointer (some ⟨xB, 0, none⟩)] W2 (fun e w' => e = .returned (.int .i64 (MA.takeE MB : Nat)) ∧ Fr C W2 w' ∧ Quad xo MO DIs w w' gs gw a b xA xB rA rB (MA.take MB) MB MA MB) from by
    obtain ⟨p1, n1, c1, q1, m1, e1, s⟩ := h1.fr0 f
    obtain ⟨p2, n2, c2, q2, m2, e2, t⟩ := k1.fr0 f
    exact (take_any xA C p1 n1 c1 q1 m1 e1 MA W2 xB CB p2 n2 c2 q2 m2 e2 MB s t hl).mono fun e w' h => ⟨h.1, h.2.choose_spec.2.1, hturn _ _ (HTurn.from f h.2)⟩)
  have HY := Lib.hid (fun W2 (q2 : Quad xo MO DIs w W2 gs gw a b xA xB rA rB (MA.take MB) MB MA MB) => show Calls Tryz.prog 18 #[.pointer (some ⟨rA, 0, none⟩), .pointer (some ⟨rB, 0, none⟩)] W2 (fun e w' => e = .returned (.int .i64 (MA.takeE MB : Nat)) ∧ (∀ y, y < W.heap.size → True) ∧ Quad xo MO DIs w w' gs gw a b xA xB rA rB (MA.take MB) MB (MA.take MB) MB) from by
    obtain ⟨D, DB, ⟨p1, n1, c1, q1, m1, e1, s⟩, ⟨p2, n2, c2, q2, m2, e2, t⟩, -, ht⟩ := q2.refA obD
    exact (rtake_any rA D p1 n1 c1 q1 m1 e1 MA W2 rB DB p2 n2 c2 q2 m2 e2 MB s t hl).mono fun e w' h => ⟨h.1, fun _ _ => trivial, ht _ _ h.2⟩)
  have HQ := Lib.hid q
  obtain ⟨E, eE⟩ : ∃ E, MA.takeE MB = E := ⟨_, rfl⟩
  simp only [eE] at HX HY
  have e7 : (kd : Int) % 8 = 5 := by omega
  clear q h1 k1 hdis hturn eE hk
  rcases hw with ⟨rfl, rfl, rfl⟩ | ⟨rfl, rfl, rfl⟩
  · have HI := Lib.hid (show _ ∧ _ ∧ _ ∧ _ from ⟨(HQ.out.fr0 obD (Fr.alloc S0 W (.cells #[.int .u8 (kd : Nat), .bool false, .int .i64 v, .int .u64 (n : Nat)] 51))).cs, (HQ.out.fr0 obD (Fr.alloc S0 W (.cells #[.int .u8 (kd : Nat), .bool false, .int .i64 v, .int .u64 (n : Nat)] 51))).swap.cs, (HQ.out.fr0 obD (Fr.alloc S0 W (.cells #[.int .u8 (kd : Nat), .bool false, .int .i64 v, .int .u64 (n : Nat)] 51))).cw, (HQ.out.fr0 obD (Fr.alloc S0 W (.cells #[.int .u8 (kd : Nat), .bool false, .int .i64 v, .int .u64 (n : Nat)] 51))).swap.cw⟩)
    go_enter Tryz.func16, Tryz.ntmps16
    go_upto_region 22 with fail
    have y0 : IntKind.i64.wrap 0 = 0 := by decide
    have y1 : IntKind.i64.wrap 1 = 1 := by decide
    go_region_held3 (fun w' => w'.cell? ⟨gs, 0, none⟩ = some (.pointer (some ⟨xA, 0, none⟩)) ∧ w'.cell? ⟨gs, 1, none⟩ = some (.pointer (some ⟨xB, 0, none⟩)) ∧ w'.cell? ⟨gw, 0, none⟩ = some (.pointer (some ⟨rA, 0, none⟩)) ∧ w'.cell? ⟨gw, 1, none⟩ = some (.pointer (some ⟨rB, 0, none⟩)))
      (first
        | (go_split_ands; exact ⟨by assumption, by assumption, by assumption, by assumption⟩)
        | exact HI.out
        | exact HS4.out
        | exact HS3.out
        | fail)
      (first
        | (go_at_call 37; ((with_reducible refine (HX.out _ ((Fr.alloc S0 W _).trans0 (Fr.drew S0 _))).mono ?_); rintro _ w3 ⟨rfl, hf, hq3⟩; have HQ3 := Lib.hid hq3; have HS3 := Lib.hid (show _ ∧ _ ∧ _ ∧ _ from ⟨hq3.cs, hq3.swap.cs, hq3.cw, hq3.swap.cw⟩); clear hf hq3))
        | (go_at_call 18; ((with_reducible refine (HY.out _ HQ3.out).mono ?_); rintro _ w4 ⟨rfl, hf, hq4⟩; have HQ4 := Lib.hid hq4; have HS4 := Lib.hid (show _ ∧ _ ∧ _ ∧ _ from ⟨hq4.cs, hq4.swap.cs, hq4.cw, hq4.swap.cw⟩); clear hf hq4))
        | fail)
    all_goals
      go_wp2_with fail
      go_ret
      exact ⟨rfl, HQ4.out⟩
  · have HI := Lib.hid (show _ ∧ _ ∧ _ ∧ _ from ⟨(HQ.out.fr0 obD (Fr.alloc S0 W (.cells #[.int .u8 (kd : Nat), .bool true, .int .i64 v, .int .u64 (n : Nat)] 51))).cs, (HQ.out.fr0 obD (Fr.alloc S0 W (.cells #[.int .u8 (kd : Nat), .bool true, .int .i64 v, .int .u64 (n : Nat)] 51))).swap.cs, (HQ.out.fr0 obD (Fr.alloc S0 W (.cells #[.int .u8 (kd : Nat), .bool true, .int .i64 v, .int .u64 (n : Nat)] 51))).cw, (HQ.out.fr0 obD (Fr.alloc S0 W (.cells #[.int .u8 (kd : Nat), .bool true, .int .i64 v, .int .u64 (n : Nat)] 51))).swap.cw⟩)
    go_enter Tryz.func16, Tryz.ntmps16
    go_upto_region 22 with fail
    have y0 : IntKind.i64.wrap 0 = 0 := by decide
    have y1 : IntKind.i64.wrap 1 = 1 := by decide
    go_region_held3 (fun w' => w'.cell? ⟨gs, 1, none⟩ = some (.pointer (some ⟨xA, 0, none⟩)) ∧ w'.cell? ⟨gs, 0, none⟩ = some (.pointer (some ⟨xB, 0, none⟩)) ∧ w'.cell? ⟨gw, 1, none⟩ = some (.pointer (some ⟨rA, 0, none⟩)) ∧ w'.cell? ⟨gw, 0, none⟩ = some (.pointer (some ⟨rB, 0, none⟩)))
      (first
        | (go_split_ands; exact ⟨by assumption, by assumption, by assumption, by assumption⟩)
        | exact HI.out
        | exact HS4.out
        | exact HS3.out
        | fail)
      (first
        | (go_at_call 37; ((with_reducible refine (HX.out _ ((Fr.alloc S0 W _).trans0 (Fr.drew S0 _))).mono ?_); rintro _ w3 ⟨rfl, hf, hq3⟩; have HQ3 := Lib.hid hq3; have HS3 := Lib.hid (show _ ∧ _ ∧ _ ∧ _ from ⟨hq3.cs, hq3.swap.cs, hq3.cw, hq3.swap.cw⟩); clear hf hq3))
        | (go_at_call 18; ((with_reducible refine (HY.out _ HQ3.out).mono ?_); rintro _ w4 ⟨rfl, hf, hq4⟩; have HQ4 := Lib.hid hq4; have HS4 := Lib.hid (show _ ∧ _ ∧ _ ∧ _ from ⟨hq4.cs, hq4.swap.cs, hq4.cw, hq4.swap.cw⟩); clear hf hq4))
        | fail)
    all_goals
      go_wp2_with fail
      go_ret
      exact ⟨rfl, HQ4.out⟩
theorem do_self (kd : Nat) (who : Bool) (v : Int) (n : Nat) (hw : (who = false ∧ a = 0 ∧ b = 1) ∨ (who = true ∧ a = 1 ∧ b = 0)) (hk : kd % 8 = 6) (hl : MA.all.length + MA.all.length ≤ 400000000000) :
    Calls Tryz.prog 16 #[.slice (some ⟨gs, 0, none⟩) 2 2, .slice (some ⟨gw, 0, none⟩) 2 2, .agg #[.int .u8 (kd : Nat), .bool who, .int .i64 v, .int .u64 (n : Nat)]] W fun e w' => e = .returned (.bool true) ∧ Quad xo MO DIs w w' gs gw a b xA xB rA rB (MA.take MA) MB (MA.take MA) MB := by
  obtain ⟨C, CB, h1, k1, hdis, hturn⟩ := q.codeA obD
  have HX := Lib.hid (fun W2 (f : Fr S0 W W2) => show Calls Tryz.prog 37 #[.pointer (some ⟨xA, 0, none⟩), .pointer (some ⟨xA, 0, none⟩)] W2 (fun e w' => e = .returned (.int .i64 (MA.takeE MA : Nat)) ∧ Fr C W2 w' ∧ Quad xo MO DIs w w' gs gw a b xA xB rA rB (MA.take MA) MB MA MB) from by
    obtain ⟨p1, n1, c1, q1, m1, e1, s⟩ := h1.fr0 f
    obtain ⟨p2, n2, c2, q2, m2, e2, t⟩ := k1.fr0 f
    exact (take_any xA C p1 n1 c1 q1 m1 e1 MA W2 xA C p1 n1 c1 q1 m1 e1 MA s s hl).mono fun e w' h => ⟨h.1, h.2.choose_spec.2.1, hturn _ _ (HTurn.from f h.2)⟩)
  have HY := Lib.hid (fun W2 (q2 : Quad xo MO DIs w W2 gs gw a b xA xB rA rB (MA.take MA) MB MA MB) => show Calls Tryz.prog 18 #[.pointer (some ⟨rA, 0, none⟩), .pointer (some ⟨rA, 0, none⟩)] W2 (fun e w' => e = .returned (.int .i64 (MA.takeE MA : Nat)) ∧ (∀ y, y < W.heap.size → True) ∧ Quad xo MO DIs w w' gs gw a b xA xB rA rB (MA.take MA) MB (MA.take MA) MB) from by
    obtain ⟨D, DB, ⟨p1, n1, c1, q1, m1, e1, s⟩, ⟨p2, n2, c2, q2, m2, e2, t⟩, -, ht⟩ := q2.refA obD
    exact (rtake_any rA D p1 n1 c1 q1 m1 e1 MA W2 rA D p1 n1 c1 q1 m1 e1 MA s s hl).mono fun e w' h => ⟨h.1, fun _ _ => trivial, ht _ _ h.2⟩)
  have HQ := Lib.hid q
  obtain ⟨E, eE⟩ : ∃ E, MA.takeE MA = E := ⟨_, rfl⟩
  simp only [eE] at HX HY
  have e7 : (kd : Int) % 8 = 6 := by omega
  clear q h1 k1 hdis hturn eE hk
  rcases hw with ⟨rfl, rfl, rfl⟩ | ⟨rfl, rfl, rfl⟩
  · have HI := Lib.hid (show _ ∧ _ from ⟨(HQ.out.fr0 obD (Fr.alloc S0 W (.cells #[.int .u8 (kd : Nat), .bool false, .int .i64 v, .int .u64 (n : Nat)] 51))).cs, (HQ.out.fr0 obD (Fr.alloc S0 W (.cells #[.int .u8 (kd : Nat), .bool false, .int .i64 v, .int .u64 (n : Nat)] 51))).cw⟩)
    go_enter Tryz.func16, Tryz.ntmps16
    go_upto_region 20 with fail
    have y0 : IntKind.i64.wrap 0 = 0 := by decide
    have y1 : IntKind.i64.wrap 1 = 1 := by decide
    go_region_held3 (fun w' => w'.cell? ⟨gs, 0, none⟩ = some (.pointer (some ⟨xA, 0, none⟩)) ∧ w'.cell? ⟨gw, 0, none⟩ = some (.pointer (some ⟨rA, 0, none⟩)))
      (first
        | (go_split_ands; exact ⟨by assumption, by assumption⟩)
        | exact HI.out
        | exact HS4.out
        | exact HS3.out
        | fail)
      (first
        | (go_at_call 37; ((with_reducible refine (HX.out _ ((Fr.alloc S0 W _).trans0 (Fr.drew S0 _))).mono ?_); rintro _ w3 ⟨rfl, hf, hq3⟩; have HQ3 := Lib.hid hq3; have HS3 := Lib.hid (show _ ∧ _ from ⟨hq3.cs, hq3.cw⟩); clear hf hq3))
        | (go_at_call 18; ((with_reducible refine (HY.out _ HQ3.out).mono ?_); rintro _ w4 ⟨rfl, hf, hq4⟩; have HQ4 := Lib.hid hq4; have HS4 := Lib.hid (show _ ∧ _ from ⟨hq4.cs, hq4.cw⟩); clear hf hq4))
        | fail)
    all_goals
      go_wp2_with fail
      go_ret
      exact ⟨rfl, HQ4.out⟩
  · have HI := Lib.hid (show _ ∧ _ from ⟨(HQ.out.fr0 obD (Fr.alloc S0 W (.cells #[.int .u8 (kd : Nat), .bool true, .int .i64 v, .int .u64 (n : Nat)] 51))).cs, (HQ.out.fr0 obD (Fr.alloc S0 W (.cells #[.int .u8 (kd : Nat), .bool true, .int .i64 v, .int .u64 (n : Nat)] 51))).cw⟩)
    go_enter Tryz.func16, Tryz.ntmps16
    go_upto_region 20 with fail
    have y0 : IntKind.i64.wrap 0 = 0 := by decide
    have y1 : IntKind.i64.wrap 1 = 1 := by decide
    go_region_held3 (fun w' => w'.cell? ⟨gs, 1, none⟩ = some (.pointer (some ⟨xA, 0, none⟩)) ∧ w'.cell? ⟨gw, 1, none⟩ = some (.pointer (some ⟨rA, 0, none⟩)))
      (first
        | (go_split_ands; exact ⟨by assumption, by assumption⟩)
        | exact HI.out
        | exact HS4.out
        | exact HS3.out
        | fail)
      (first
        | (go_at_call 37; ((with_reducible refine (HX.out _ ((Fr.alloc S0 W _).trans0 (Fr.drew S0 _))).mono ?_); rintro _ w3 ⟨rfl, hf, hq3⟩; have HQ3 := Lib.hid hq3; have HS3 := Lib.hid (show _ ∧ _ from ⟨hq3.cs, hq3.cw⟩); clear hf hq3))
        | (go_at_call 18; ((with_reducible refine (HY.out _ HQ3.out).mono ?_); rintro _ w4 ⟨rfl, hf, hq4⟩; have HQ4 := Lib.hid hq4; have HS4 := Lib.hid (show _ ∧ _ from ⟨hq4.cs, hq4.cw⟩); clear hf hq4))
        | fail)
    all_goals
      go_wp2_with fail
      go_ret
      exact ⟨rfl, HQ4.out⟩
theorem Quad.two : ∃ C D, DIs W xA C MA ∧ RIs W rA D MA ∧ ∀ W' M', HTurn DIs W W' xA C M' → RIs W' rA D MA ∧ ∀ W2 N', HTurn RIs W' W2 rA D N' → Quad xo MO DIs w W2 gs gw a b xA xB rA rB M' MB N' MB := by
  obtain ⟨own, iA, iB, d⟩ := q
  obtain ⟨C, h1, h2⟩ := d.hA
  obtain ⟨D, r1, r2⟩ := d.kA
  have hia := d.ia
  have hib := d.ib
  have hne := d.ne
  refine ⟨C, D, h1, r1, fun W' M' t => ?_⟩
  obtain ⟨-, -, hf, -⟩ := id t
  obtain ⟨e1, e2, e3, e4, e5⟩ := d.others h2 (by omega) hf
  have r3 : RIs W' rA D MA := obR.fr r1 hf fun y hy hc => by have := (h2 y hc).2; have := (r2 y hy).2; omega
  have r4 : ∀ y, D y → w.heap.size ≤ y ∧ dye own iA W.heap.size y = iA + 2 := fun y hy => ⟨(r2 y hy).1, by rw [dye_below _ _ _ _ (obR.lt r1 y hy)]; exact (r2 y hy).2⟩
  have d2 : Qd xo MO DIs (dye own iA W.heap.size) iA iB w W' gs gw a b xA xB rA rB M' MB MA MB := ⟨d.ia, d.ib, d.ne, d.ab, Ho.turned h2 (obD.lt h1) d.fr t, d.hB.keep obD h2 hne hf, ⟨D, r3, r4⟩, d.kB.keep obR h2 (by omega) hf, e1, e2, d.gs0, d.gw0, e3, e4, e5, d.hO.keep obD h2 (by omega) hf⟩
  refine ⟨r3, fun W2 N' t2 => ?_⟩
  obtain ⟨-, -, hf2, -⟩ := id t2
  obtain ⟨x1, x2, x3, x4, x5⟩ := d2.others r4 (by omega) hf2
  exact ⟨dye (dye own iA W.heap.size) (iA + 2) W'.heap.size, iA, iB, d.ia, d.ib, d.ne, d.ab, d2.hA.keep obD r4 (by omega) hf2, d2.hB.keep obD r4 (by omega) hf2, Ho.turned r4 (obR.lt r3) d2.fr t2, d2.kB.keep obR r4 (by omega) hf2, x1, x2, d.gs0, d.gw0, x3, x4, x5, d2.hO.keep obD r4 (by omega) hf2⟩
theorem do_add (kd : Nat) (who : Bool) (v : Int) (n : Nat) (hw : (who = false ∧ a = 0 ∧ b = 1) ∨ (who = true ∧ a = 1 ∧ b = 0)) (hk : ¬ kd % 8 = 5 ∧ ¬ kd % 8 = 6 ∧ ¬ kd % 8 = 7) (hl : MA.all.length ≤ 400000000000) (hv1 : -9223372036854775808 ≤ v) (hv2 : v ≤ 9223372036854775807) :
    Calls Tryz.prog 16 #[.slice (some ⟨gs, 0, none⟩) 2 2, .slice (some ⟨gw, 0, none⟩) 2 2, .agg #[.int .u8 (kd : Nat), .bool who, .int .i64 v, .int .u64 (n : Nat)]] W fun e w' => e = .returned (.bool true) ∧ Quad xo MO DIs w w' gs gw a b xA xB rA rB (MA.add v n) MB (MA.add v n) MB := by
  obtain ⟨C, D, h1, r1, ht⟩ := q.two
  have HX := Lib.hid (fun W2 (f : Fr S0 W W2) => show Calls Tryz.prog 20 #[.pointer (some ⟨xA, 0, none⟩), .int .i64 v, .int .u64 (n : Nat)] W2 (fun e w' => e = .returned (.int .i64 (MA.ref n : Nat)) ∧ Fr C W2 w' ∧ HTurn DIs W w' xA C (MA.add v n)) from by
    obtain ⟨p1, n1, c1, q1, m1, e1, s⟩ := h1.fr0 f
    exact (dadd_any xA C p1 n1 c1 q1 m1 e1 MA W2 v n s hv1 hv2 hl).mono fun e w' h => ⟨h.1, h.2.choose_spec.2.1, HTurn.from f h.2⟩)
  have HY := Lib.hid (fun W2 (t : HTurn DIs W W2 xA C (MA.add v n)) => show Calls Tryz.prog 22 #[.pointer (some ⟨rA, 0, none⟩), .int .i64 v, .int .u64 (n : Nat)] W2 (fun e w' => e = .returned (.int .i64 (MA.ref n : Nat)) ∧ Fr D W2 w' ∧ Quad xo MO DIs w w' gs gw a b xA xB rA rB (MA.add v n) MB (MA.add v n) MB) from by
    obtain ⟨⟨p1, n1, c1, q1, m1, e1, s⟩, h3⟩ := ht _ _ t
    exact (rgadd_any rA D p1 n1 c1 q1 m1 e1 MA W2 v n s hv1 hv2 hl).mono fun e w' h => ⟨h.1, h.2.choose_spec.2.1, h3 _ _ h.2⟩)
  have HLC := Lib.hid (fun (hy : C W.heap.size) => Nat.lt_irrefl _ (obD.lt h1 _ hy))
  have HLD := Lib.hid (fun (hy : D W.heap.size) => Nat.lt_irrefl _ (obR.lt r1 _ hy))
  have HQ := Lib.hid q
  have HQ2 := Lib.hid (fun W2 (t : HTurn DIs W W2 xA C (MA.add v n)) => show W2.cell? ⟨gs, a, none⟩ = some (.pointer (some ⟨xA, 0, none⟩)) ∧ W2.cell? ⟨gw, a, none⟩ = some (.pointer (some ⟨rA, 0, none⟩)) from by
    obtain ⟨C2, CB, h2, k2, hd2, ht2⟩ := q.codeA obD
    obtain ⟨r2, h3⟩ := ht _ _ t
    have q3 := h3 W2 MA ⟨D, r2, Fr.refl _ _, fun _ h => .inl h⟩
    exact ⟨q3.cs, q3.cw⟩)
  have HBOX := Lib.hid (box4 W (.int .u8 (kd : Nat)) (.bool who) (.int .i64 v) (.int .u64 (n : Nat)) 51)
  obtain ⟨E, eE⟩ : ∃ E, MA.ref n = E := ⟨_, rfl⟩
  simp only [eE] at HX HY
  obtain ⟨K, eK⟩ : ∃ K, kd % 8 = K := ⟨_, rfl⟩
  have e7 : (kd : Int) % 8 = (K : Int) := by omega
  rw [eK] at hk
  obtain ⟨hk5, hk6, hk7⟩ := hk
  have b5 : ((K : Int) == 5) = false := by rw [beq_eq_false_iff_ne]; omega
  have b6 : ((K : Int) == 6) = false := by rw [beq_eq_false_iff_ne]; omega
  have b7 : ((K : Int) == 7) = false := by rw [beq_eq_false_iff_ne]; omega
  clear q h1 r1 ht eE eK
  rcases hw with ⟨rfl, rfl, rfl⟩ | ⟨rfl, rfl, rfl⟩
  · have HI := Lib.hid (show _ ∧ _ ∧ _ ∧ _ from ⟨(HQ.out.fr0 obD (Fr.alloc S0 W (.cells #[.int .u8 (kd : Nat), .bool false, .int .i64 v, .int .u64 (n : Nat)] 51))).cs, (HQ.out.fr0 obD (Fr.alloc S0 W (.cells #[.int .u8 (kd : Nat), .bool false, .int .i64 v, .int .u64 (n : Nat)] 51))).cw, (HBOX.out _ (Fr.refl _ _)).2.2.1, (HBOX.out _ (Fr.refl _ _)).2.2.2⟩)
    go_enter Tryz.func16, Tryz.ntmps16
    go_upto_region 20 with fail
    go_region_held3 (fun w' => w'.cell? ⟨gs, 0, none⟩ = some (.pointer (some ⟨xA, 0, none⟩)) ∧ w'.cell? ⟨gw, 0, none⟩ = some (.pointer (some ⟨rA, 0, none⟩)) ∧ w'.cell? ⟨W.heap.size, 2, none⟩ = some (.int .i64 v) ∧ w'.cell? ⟨W.heap.size, 3, none⟩ = some (.int .u64 (n : Nat)))
      (first
        | (go_split_ands; exact ⟨by assumption, by assumption, by assumption, by assumption⟩)
        | exact HI.out
        | exact HS4.out
        | exact HS3.out
        | fail)
      (first
        | (go_at_call 20; ((with_reducible refine (HX.out _ ((Fr.alloc S0 W _).trans0 (Fr.drew S0 _))).mono ?_); rintro _ w3 ⟨rfl, hf, t3⟩; have HT3 := Lib.hid t3; have HS3 := Lib.hid (show _ ∧ _ ∧ _ ∧ _ from ⟨(HQ2.out _ t3).1, (HQ2.out _ t3).2, hf.cell (a := ⟨W.heap.size, 2, none⟩) (HBOX.out _ (Fr.drew _ _)).2.2.1 HLC.out, hf.cell (a := ⟨W.heap.size, 3, none⟩) (HBOX.out _ (Fr.drew _ _)).2.2.2 HLC.out⟩); clear hf t3))
        | (go_at_call 22; ((with_reducible refine (HY.out _ HT3.out).mono ?_); rintro _ w4 ⟨rfl, hf, hq4⟩; have HQ4 := Lib.hid hq4; have HS4 := Lib.hid (show _ ∧ _ ∧ _ ∧ _ from ⟨hq4.cs, hq4.cw, hf.cell HS3.out.2.2.1 HLD.out, hf.cell HS3.out.2.2.2 HLD.out⟩); clear hf hq4))
        | fail)
    all_goals
      go_wp2_with fail
      go_ret
      exact ⟨rfl, HQ4.out⟩
  · have HI := Lib.hid (show _ ∧ _ ∧ _ ∧ _ from ⟨(HQ.out.fr0 obD (Fr.alloc S0 W (.cells #[.int .u8 (kd : Nat), .bool true, .int .i64 v, .int .u64 (n : Nat)] 51))).cs, (HQ.out.fr0 obD (Fr.alloc S0 W (.cells #[.int .u8 (kd : Nat), .bool true, .int .i64 v, .int .u64 (n : Nat)] 51))).cw, (HBOX.out _ (Fr.refl _ _)).2.2.1, (HBOX.out _ (Fr.refl _ _)).2.2.2⟩)
    go_enter Tryz.func16, Tryz.ntmps16
    go_upto_region 20 with fail
    go_region_held3 (fun w' => w'.cell? ⟨gs, 1, none⟩ = some (.pointer (some ⟨xA, 0, none⟩)) ∧ w'.cell? ⟨gw, 1, none⟩ = some (.pointer (some ⟨rA, 0, none⟩)) ∧ w'.cell? ⟨W.heap.size, 2, none⟩ = some (.int .i64 v) ∧ w'.cell? ⟨W.heap.size, 3, none⟩ = some (.int .u64 (n : Nat)))
      (first
        | (go_split_ands; exact ⟨by assumption, by assumption, by assumption, by assumption⟩)
        | exact HI.out
        | exact HS4.out
        | exact HS3.out
        | fail)
      (first
        | (go_at_call 20; ((with_reducible refine (HX.out _ ((Fr.alloc S0 W _).trans0 (Fr.drew S0 _))).mono ?_); rintro _ w3 ⟨rfl, hf, t3⟩; have HT3 := Lib.hid t3; have HS3 := Lib.hid (show _ ∧ _ ∧ _ ∧ _ from ⟨(HQ2.out _ t3).1, (HQ2.out _ t3).2, hf.cell (a := ⟨W.heap.size, 2, none⟩) (HBOX.out _ (Fr.drew _ _)).2.2.1 HLC.out, hf.cell (a := ⟨W.heap.size, 3, none⟩) (HBOX.out _ (Fr.drew _ _)).2.2.2 HLC.out⟩); clear hf t3))
        | (go_at_call 22; ((with_reducible refine (HY.out _ HT3.out).mono ?_); rintro _ w4 ⟨rfl, hf, hq4⟩; have HQ4 := Lib.hid hq4; have HS4 := Lib.hid (show _ ∧ _ ∧ _ ∧ _ from ⟨hq4.cs, hq4.cw, hf.cell HS3.out.2.2.1 HLD.out, hf.cell HS3.out.2.2.2 HLD.out⟩); clear hf hq4))
        | fail)
    all_goals
      go_wp2_with fail
      go_ret
      exact ⟨rfl, HQ4.out⟩
theorem do_press (kd : Nat) (who : Bool) (v : Int) (n : Nat) (hw : (who = false ∧ a = 0 ∧ b = 1) ∨ (who = true ∧ a = 1 ∧ b = 0)) (hk : kd % 8 = 7) (hl : MA.all.length ≤ 400000000000) :
    Calls Tryz.prog 16 #[.slice (some ⟨gs, 0, none⟩) 2 2, .slice (some ⟨gw, 0, none⟩) 2 2, .agg #[.int .u8 (kd : Nat), .bool who, .int .i64 v, .int .u64 (n : Nat)]] W fun e w' => e = .returned (.bool true) ∧ Quad xo MO DIs w w' gs gw a b xA xB rA rB MA.press MB MA.press MB := by
  obtain ⟨C, CB, h1, k1, hdis, hturn⟩ := q.codeA obD
  have HX := Lib.hid (fun W2 (f : Fr S0 W W2) => show Calls Tryz.prog 23 #[.pointer (some ⟨xA, 0, none⟩)] W2 (fun e w' => e = .returned (.tuple #[]) ∧ Quad xo MO DIs w w' gs gw a b xA xB rA rB MA.press MB MA MB) from by
    obtain ⟨p1, n1, c1, q1, m1, e1, s⟩ := h1.fr0 f
    exact (press_any xA C p1 n1 c1 q1 m1 e1 MA W2 s (by omega)).mono fun e w' h => ⟨h.1, hturn _ _ (HTurn.from f h.2)⟩)
  have HY := Lib.hid (fun W2 (q2 : Quad xo MO DIs w W2 gs gw a b xA xB rA rB MA.press MB MA MB) => show Calls Tryz.prog 24 #[.pointer (some ⟨rA, 0, none⟩)] W2 (fun e w' => e = .returned (.tuple #[]) ∧ Quad xo MO DIs w w' gs gw a b xA xB rA rB MA.press MB MA.press MB) from by
    obtain ⟨D, DB, ⟨p1, n1, c1, q1, m1, e1, s⟩, -, -, ht⟩ := q2.refA obD
    exact (rpress_any rA D p1 n1 c1 q1 m1 e1 MA W2 s (by omega)).mono fun e w' h => ⟨h.1, ht _ _ h.2⟩)
  have HQ := Lib.hid q
  have e7 : (kd : Int) % 8 = 7 := by omega
  clear q h1 k1 hdis hturn hk
  rcases hw with ⟨rfl, rfl, rfl⟩ | ⟨rfl, rfl, rfl⟩
  · have k0 := (HQ.out.fr0 obD (Fr.alloc S0 W (.cells #[.int .u8 (kd : Nat), .bool false, .int .i64 v, .int .u64 (n : Nat)] 51))).cs
    go_enter Tryz.func16, Tryz.ntmps16
    go_wp2_with fail
    refine (HX.out _ (Fr.alloc S0 W _)).mono ?_
    rintro e1 w1 ⟨rfl, q1⟩
    have HQ1 := Lib.hid q1
    have k1 := q1.cw
    clear q1 HX k0
    go_wp2_with fail
    refine (HY.out _ HQ1.out).mono ?_
    rintro e2 w2 ⟨rfl, q2⟩
    have HQ2 := Lib.hid q2
    clear q2 HY
    go_wp2_with fail
    go_ret
    exact ⟨rfl, HQ2.out⟩
  · have k0 := (HQ.out.fr0 obD (Fr.alloc S0 W (.cells #[.int .u8 (kd : Nat), .bool true, .int .i64 v, .int .u64 (n : Nat)] 51))).cs
    go_enter Tryz.func16, Tryz.ntmps16
    go_wp2_with fail
    refine (HX.out _ (Fr.alloc S0 W _)).mono ?_
    rintro e1 w1 ⟨rfl, q1⟩
    have HQ1 := Lib.hid q1
    have k1 := q1.cw
    clear q1 HX k0
    go_wp2_with fail
    refine (HY.out _ HQ1.out).mono ?_
    rintro e2 w2 ⟨rfl, q2⟩
    have HQ2 := Lib.hid q2
    clear q2 HY
    go_wp2_with fail
    go_ret
    exact ⟨rfl, HQ2.out⟩
end
end Go.Proofs.YtmieeoceckcnkaaGreat
