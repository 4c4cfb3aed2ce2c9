/- HwTold -/
import Derived.Test.YtnndgpggjlhhpaaGreatPr1
import Derived.Test.YtnndgpggjlhhpaaGreatPr2
import Derived.Test.YtnndgpggjlhhpaaGreatPr3
import Derived.Test.YtnndgpggjlhhpaaGreatPr4
import Derived.Test.YtnndgpggjlhhpaaGreatPr5
import Derived.Test.YtnndgpggjlhhpaaGreatPr6
import Derived.Test.YtnndgpggjlhhpaaGreatPr7
import Derived.Test.YtnndgpggjlhhpaaGreatPr8
import Derived.Test.YtnndgpggjlhhpaaGreatPr9
import Derived.Test.YtnndgpggjlhhpaaGreatPr10
import Derived.Test.YtnndgpggjlhhpaaGreatPr11
import Derived.Test.YtnndgpggjlhhpaaGreatPr12
import Derived.Test.YtnndgpggjlhhpaaGreatPr13
import Derived.Test.YtnndgpggjlhhpaaGreatPr14
import Derived.Test.YtnndgpggjlhhpaaGreatPr15
import Derived.Test.YtnndgpggjlhhpaaGreatPr16
import Derived.Test.YtnndgpggjlhhpaaGreatPr17
import Derived.Test.YtnndgpggjlhhpaaGreatPr18
import Derived.Test.YtnndgpggjlhhpaaGreatPr19
import Derived.Test.YtnndgpggjlhhpaaGreatPr20
import Derived.Test.YtnndgpggjlhhpaaGreatPr21
import Derived.Test.YtnndgpggjlhhpaaGreatPr22
import Derived.Test.YtnndgpggjlhhpaaGreatPr23
import Derived.Test.YtnndgpggjlhhpaaGreatPr24
import Derived.Test.YtnndgpggjlhhpaaGreatPr25
import Derived.Test.YtnndgpggjlhhpaaGreatPr26
import Derived.Test.YtnndgpggjlhhpaaGreatPr27
import Derived.Test.YtnndgpggjlhhpaaGreatPr28
import Derived.Test.YtnndgpggjlhhpaaGreatPr29
import Derived.Test.YtnndgpggjlhhpaaGreatPr30
import Derived.Test.YtnndgpggjlhhpaaGreatPr31
import Derived.Test.YtnndgpggjlhhpaaGreatPr32
import Derived.Test.YtnndgpggjlhhpaaGreatPr33
import Derived.Test.YtnndgpggjlhhpaaGreatPr34
import Derived.Test.YtnndgpggjlhhpaaGreatPr35
import Derived.Test.YtnndgpggjlhhpaaGreatPr36
import Derived.Test.YtnndgpggjlhhpaaGreatPr37
import Derived.Test.YtnndgpggjlhhpaaGreatPr38
import Derived.BigRegion
import Derived.RangeFuncNested
import Derived.RangeFuncBound
import Derived.RangeFuncCalls
import Derived.RangeFuncLeaves
import Derived.Shelf.Abstract
import Derived.Shelf.RegionOpen
import Derived.WalkKit
import Derived.OwnWalkIn
import Derived.TacticsInMore
import Derived.LoopNIn
import Derived.LoopIn
import Derived.Sort.BigQuietIn
import Derived.Lib.Repeat
import Derived.StillTailTactics
import Derived.Laws.BitsAllLaws
import Derived.Laws.BytesArg
import Derived.Lib.SlBytesConst
import Derived.Maps.AppendAt
import Derived.Laws.AppendOwnNone
import Derived.WalkSpells
import Derived.WalkLawsBesides
import Derived.Deep.QuietTactic
import Derived.BigQuiet
import Derived.RegionTactic
import Derived.Deep.AppendLies
import Derived.Deep.RegionLaw
import Derived.Laws.ResultCell
import Derived.Laws.EntriesVeiled
import Derived.Lib.Hide
import Derived.Test.YtnndgpggjlhhpaaGreatRows
import Derived.Maps.RangeWalk
import Derived.Deep.RegionHeld3
import Derived.Deep.CutBlock
import Derived.Deep.DeepCutAuto
import Derived.Deep.CutRange
import Derived.Lib.BitFns
import Derived.Shelf.Small.Bits
import Derived.Shelf.Strconv.Itoa0
import Derived.Shelf.Bits.Mul64
import Derived.Laws.Externs
import Derived.Shelf.Spec.BitsCarry
import Derived.Shelf.SlSortCmp.WholeK
import Derived.Shelf.Strings.Repeat
import Derived.Lib.AppendZerosOnto
import Derived.Lib.SliceRun
import Derived.Lib.Walk
import Derived.Laws.MakeOwn
import Derived.Laws.OwnMore
import Derived.IntWalk
import Derived.Lib.MakeNoZero
import Derived.Laws.CopyOwn
import Derived.Laws.Tables
import Derived.Defers
import Derived.Recover
import Derived.DeepKeys4
import Derived.WideKeyPair
import Derived.MapKept
import Derived.ChangeMaps
import Derived.Laws.Cover3
import Derived.Stop.BytesEq
set_option maxRecDepth 100000
set_option maxHeartbeats 8000000
namespace Go.Proofs.YtnndgpggjlhhpaaGreat
open Go.RowKit Go.ChangeMaps
theorem hcatch_given (p q : Nat) (V : Value) (E : Int) (w : World) (hp : w.heap[p]? = some (.cells #[V] 29 (0, 0))) (hq : w.heap[q]? = some (.cells #[.int .i64 E] 36 (0, 0))) (pq : p ≠ q) :
    CallsD Tryz.prog 60 #[.pointer (some ⟨p, 0, none⟩), .pointer (some ⟨q, 0, none⟩)] (.panicking gup) w fun e u' w' => e = .returned (.tuple #[]) ∧ settle u' = .returning ∧
      Fr (fun j => j = p ∨ j = q) w w' ∧ w'.heap[p]? = some (.cells #[.pointer none] 29 (0, 0)) ∧ w'.heap[q]? = some (.cells #[.int .i64 9] 36 (0, 0)) := by
  have hnn : ∀ (v : Value) w, (binOp .eql 20 (.iface 102 v) .nilIface).run Tryz.prog w = .ok (.bool false) w := fun v w => by kernel_rfl
  have hta : ∀ (v : Value) w, (Instr.typeAssert (.iface 102 v) 20 102 true).run Tryz.prog w = .ok (.tuple #[v, .bool true]) w := fun v w => by kernel_rfl
  unfold gup
  refine callsD_of_wpS Tryz.func60 rfl fun c₀ cs hu => ?_
  apply wpS_seq
  apply wpS_region
  simp [wpOpsS, go_sem, recoverD, hu, Tryz.ntmps60, Exit.thenS]
  refine wpS_of_wp ?_
  have et : ∀ v : Value, (#[Value.pointer (some ⟨p, 0, none⟩), Value.pointer (some ⟨q, 0, none⟩)] ++ (Array.replicate 9 undef).setIfInBounds 3 v) = #[Value.pointer (some ⟨p, 0, none⟩), Value.pointer (some ⟨q, 0, none⟩), undef, undef, undef, v, undef, undef, undef, undef, undef] := fun v => rfl
  rw [et]
  have HU := Lib.hid hu
  have HFA := Lib.hid (Fr.alloc S0 w (.cells #[] 102))
  have bp := HFA.out.row hp (fun h => h)
  have bq := HFA.out.row hq (fun h => h)
  have HE := Lib.hid (set_first (y := .pointer none) bp)
  have e2 := (Fr.setCell (· = p) (w.alloc (.cells #[] 102)) ⟨p, 0, none⟩ (.pointer none) rfl).row bq (fun e => pq e.symm)
  have HE3 := Lib.hid (set_first (y := .int .i64 9) e2)
  have HE4 := Lib.hid ((Fr.setCell (· = q) ((w.alloc (.cells #[] 102)).setCell ⟨p, 0, none⟩ (.pointer none)) ⟨q, 0, none⟩ (.int .i64 9) rfl).row HE.out pq)
  have HF9 := Lib.hid (((HFA.out.mono (fun _ _ e => e.elim)).trans (Fr.setCell (fun j => j = p ∨ j = q) _ ⟨p, 0, none⟩ (.pointer none) (.inl rfl)) (fun _ _ e => e)).trans (Fr.setCell (fun j => j = p ∨ j = q) _ ⟨q, 0, none⟩ (.int .i64 9) (.inr rfl)) (fun _ _ e => e))
  have c1 : (w.alloc (.cells #[] 102)).cell? ⟨p, 0, none⟩ = some V := by simp [World.cell?, bp]
  have z1 : (w.alloc (.cells #[] 102)).frozen? ⟨p, 0, none⟩ = false := by simp [World.frozen?, bp]
  have c2 : ((w.alloc (.cells #[] 102)).setCell ⟨p, 0, none⟩ (.pointer none)).cell? ⟨q, 0, none⟩ = some (.int .i64 E) := by simp [World.cell?, e2]
  have z2 : ((w.alloc (.cells #[] 102)).setCell ⟨p, 0, none⟩ (.pointer none)).frozen? ⟨q, 0, none⟩ = false := by simp [World.frozen?, e2]
  clear hu bp bq e2 hp hq
  go_wp2_with fail
  exact ⟨rfl, .panicking [{ v := .iface 102 (.agg #[]), recovered := true }], rfl, .tuple #[], by simp [results, Tryz.results60], rfl, rfl, HF9.out, HE4.out, HE3.out⟩
theorem hcatch_idle (p q : Addr) (w : World) :
    CallsD Tryz.prog 60 #[.pointer (some p), .pointer (some q)] .returning w fun e u' w' => e = .returned (.tuple #[]) ∧ u' = .returning ∧ w' = w := by
  have hnn : ∀ w, (binOp .eql 20 .nilIface .nilIface).run Tryz.prog w = .ok (.bool true) w := fun w => by kernel_rfl
  refine callsD_of_wpS Tryz.func60 rfl fun c₀ cs hu => ?_
  apply wpS_seq
  apply wpS_region
  simp [wpOpsS, go_sem, recoverD, hu, Tryz.ntmps60, Exit.thenS]
  refine wpS_of_wp ?_
  have et : (#[Value.pointer (some p), Value.pointer (some q)] ++ (Array.replicate 9 undef).setIfInBounds 3 Value.nilIface) = #[Value.pointer (some p), Value.pointer (some q), undef, undef, undef, .nilIface, undef, undef, undef, undef, undef] := rfl
  rw [et]
  go_wp2_with fail
  exact ⟨rfl, .returning, by cases c₀; simp_all, .tuple #[], by simp [results, Tryz.results60], rfl, rfl, rfl⟩
theorem hres2 {tmps : Array Value} {w : World} {p q : Nat} {v : Value} {e : Int} (h4 : tmps.getD 4 undef = .pointer (some ⟨p, 0, none⟩)) (h5 : tmps.getD 5 undef = .pointer (some ⟨q, 0, none⟩))
    (hp : w.heap[p]? = some (.cells #[v] 29 (0, 0))) (hq : w.heap[q]? = some (.cells #[.int .i64 e] 36 (0, 0))) :
    (results Tryz.f39 tmps).run Tryz.prog w = .ok (.tuple #[v, .int .i64 e]) w := by
  have c1 : w.cell? ⟨p, 0, none⟩ = some v := by simp [World.cell?, hp]
  have c2 : w.cell? ⟨q, 0, none⟩ = some (.int .i64 e) := by simp [World.cell?, hq]
  have h4' : tmps[4]?.getD undef = .pointer (some ⟨p, 0, none⟩) := by simpa using h4
  have h5' : tmps[5]?.getD undef = .pointer (some ⟨q, 0, none⟩) := by simpa using h5
  simp [results, Tryz.results39, asAddr, h4', h5', go_sem, c1, c2]
def HRdEnds (Pf : Hm → Prop) (w w' : World) (e : Ending) : Prop :=
  Fr S0 w w' ∧ ((∃ M g hm, e = .returned (.pointer (some ⟨g, 0, none⟩)) ∧ HistIs w' g hm M ∧ Pf M ∧ w.heap.size ≤ g ∧ w.heap.size ≤ hm) ∨ ((¬ ∃ M, Pf M) ∧ e = .panicked gup))
def TdEnds (Pf : Hm → Prop) (w w' : World) (e : Ending) : Prop :=
  Fr S0 w w' ∧ ((∃ M g hm, e = .returned (.tuple #[.pointer (some ⟨g, 0, none⟩), .int .i64 0]) ∧ HistIs w' g hm M ∧ Pf M ∧ w.heap.size ≤ g ∧ w.heap.size ≤ hm) ∨ ((¬ ∃ M, Pf M) ∧ e = .returned (.tuple #[.pointer none, .int .i64 9])))
theorem box_two (w : World) (v : Value) (e : Int) : ((w.alloc (.cells #[v] 29)).alloc (.cells #[.int .i64 e] 36)).heap[w.heap.size]? = some (.cells #[v] 29 (0, 0)) ∧ ((w.alloc (.cells #[v] 29)).alloc (.cells #[.int .i64 e] 36)).heap[w.heap.size + 1]? = some (.cells #[.int .i64 e] 36 (0, 0)) := by
  have h1 := heap_alloc_new (w.alloc (.cells #[v] 29)) (.cells #[.int .i64 e] 36)
  rw [size_alloc] at h1
  exact ⟨(Fr.alloc S0 _ _).row (heap_alloc_new w _) fun h => h, h1⟩
theorem told_any (B : Nat) (hEm : ∀ args w, (callFunc B args).run Tryz.prog w = .ok (.enter B args) w) (Pf : Hm → Prop) (p : Option Addr) (n d : Nat) (w : World) (hread : ∀ W, Fr S0 w W → Calls Tryz.prog B #[.slice p n d] W fun e w' => HRdEnds Pf W w' e) :
    Calls Tryz.prog 39 #[.slice p n d, .func (.func B) #[] #[]] w fun e w' => TdEnds Pf w w' e := by
  have HRD := Lib.hid hread
  have hmf : ∀ (fn : Fn) (first cap : Array Value) (w : World), (Instr.makeFunc fn first cap).run Tryz.prog w = .ok (.func fn first cap) w := fun _ _ _ _ => rfl
  have HT := Lib.hid (box_two w (.pointer none) 0)
  clear hread
  go_enter_defers Tryz.func39, Tryz.ntmps39
  have F0 := Lib.hid ((Fr.alloc S0 w (.cells #[.pointer none] 29)).trans0 (Fr.alloc S0 _ (.cells #[.int .i64 0] 36)))
  have HSZ : Hid (((w.alloc (.cells #[.pointer none] 29)).alloc (.cells #[.int .i64 0] 36)).heap.size = w.heap.size + 2) := Lib.hid (by simp)
  go_wp2_with fail
  refine (HRD.out _ F0.out).mono ?_
  rintro e w3 ⟨f3, h3⟩
  have HT1 := Lib.hid (And.intro (f3.row HT.out.1 fun h => h) (f3.row HT.out.2 fun h => h))
  have F3 := Lib.hid (F0.out.trans0 f3)
  rcases h3 with ⟨M, g, hm, rfl, hist, hpf, hg, hh⟩ | ⟨hno, rfl⟩
  · have HH := Lib.hid hist
    have HG : Hid ((w.heap.size + 2 ≤ g ∧ w.heap.size + 2 ≤ hm) ∧ Pf M) := Lib.hid ⟨by rw [HSZ.out] at hg hh; exact ⟨hg, hh⟩, hpf⟩
    have d1 : w3.cell? ⟨w.heap.size, 0, none⟩ = some (.pointer none) := by simp [World.cell?, HT1.out.1]
    have d2 : w3.cell? ⟨w.heap.size + 1, 0, none⟩ = some (.int .i64 0) := by simp [World.cell?, HT1.out.2]
    have z1 : w3.frozen? ⟨w.heap.size, 0, none⟩ = false := by simp [World.frozen?, HT1.out.1]
    have z2 : w3.frozen? ⟨w.heap.size + 1, 0, none⟩ = false := by simp [World.frozen?, HT1.out.2]
    have f9 : Fr (fun j => j = w.heap.size ∨ j = w.heap.size + 1) w3 ((w3.setCell ⟨w.heap.size, 0, none⟩ (.pointer (some ⟨g, 0, none⟩))).setCell ⟨w.heap.size + 1, 0, none⟩ (.int .i64 0)) := (Fr.setCell _ _ _ _ (.inl rfl)).trans (Fr.setCell _ _ _ _ (.inr rfl)) (fun _ _ e => e)
    have e1 := set_first (y := .pointer (some ⟨g, 0, none⟩)) HT1.out.1
    have e2 := (Fr.setCell (· = w.heap.size) w3 ⟨w.heap.size, 0, none⟩ (.pointer (some ⟨g, 0, none⟩)) rfl).row HT1.out.2 (by omega)
    have e3 := set_first (y := .int .i64 0) e2
    have e4 := (Fr.setCell (· = w.heap.size + 1) (w3.setCell ⟨w.heap.size, 0, none⟩ (.pointer (some ⟨g, 0, none⟩))) ⟨w.heap.size + 1, 0, none⟩ (.int .i64 0) rfl).row e1 (by omega)
    have E3 := Lib.hid e3
    have E4 := Lib.hid e4
    have F9 := Lib.hid f9
    have HH9 := Lib.hid (HH.out.fr f9 (fun e => by have := HG.out.1; omega) (fun e => by have := HG.out.1; omega))
    clear f9 e1 e2 e3 e4 hist hpf hg hh f3
    go_wp2_with fail
    refine leaves_cons (f := 60) (args := #[.pointer (some ⟨w.heap.size, 0, none⟩), .pointer (some ⟨w.heap.size + 1, 0, none⟩)]) (by simp) (by simp [go_sem]) ?_
    refine (hcatch_idle ⟨w.heap.size, 0, none⟩ ⟨w.heap.size + 1, 0, none⟩ _).mono ?_
    rintro e u' wz ⟨rfl, rfl, rfl⟩
    exact ⟨_, hres2 rfl rfl E4.out E3.out, F3.out.trans F9.out (fun j hj e => by omega), .inl ⟨M, g, hm, rfl, HH9.out, HG.out.2, by have := HG.out.1; omega, by have := HG.out.1; omega⟩⟩
  · have HNO := Lib.hid hno
    clear f3 hno
    refine leaves_cons (f := 60) (args := #[.pointer (some ⟨w.heap.size, 0, none⟩), .pointer (some ⟨w.heap.size + 1, 0, none⟩)]) (by simp) (by simp [go_sem]) ?_
    refine (hcatch_given w.heap.size (w.heap.size + 1) _ _ _ HT1.out.1 HT1.out.2 (by omega)).mono ?_
    rintro e u' wz ⟨rfl, hset, fz, z1, z2⟩
    show Leaves _ _ _ _ [] (settle u') wz
    rw [hset]
    exact ⟨_, hres2 rfl rfl z1 z2, F3.out.trans fz (fun j hj e => by omega), .inr ⟨HNO.out, rfl⟩⟩
end Go.Proofs.YtnndgpggjlhhpaaGreat
