/- DwPeek, DwWrite, DwJoin, DwAlive -/
import Derived.Test.YtaemgflhgdlmiaaGreatPw1
import Derived.Test.YtaemgflhgdlmiaaGreatPw2
import Derived.Test.YtaemgflhgdlmiaaGreatPw3
import Derived.Test.YtaemgflhgdlmiaaGreatPw4
import Derived.Test.YtaemgflhgdlmiaaGreatPw5
import Derived.Test.YtaemgflhgdlmiaaGreatPw6
import Derived.Test.YtaemgflhgdlmiaaGreatPw7
import Derived.Test.YtaemgflhgdlmiaaGreatPw8
import Derived.Test.YtaemgflhgdlmiaaGreatPw9
import Derived.Test.YtaemgflhgdlmiaaGreatPw10
import Derived.Test.YtaemgflhgdlmiaaGreatPw11
import Derived.Test.YtaemgflhgdlmiaaGreatPw12
import Derived.Test.YtaemgflhgdlmiaaGreatPw13
import Derived.Test.YtaemgflhgdlmiaaGreatPw14
import Derived.Test.YtaemgflhgdlmiaaGreatPw15
import Derived.Test.YtaemgflhgdlmiaaGreatPw16
import Derived.Test.YtaemgflhgdlmiaaGreatPw17
import Derived.Test.YtaemgflhgdlmiaaGreatPw18
import Derived.Test.YtaemgflhgdlmiaaGreatPw19
import Derived.Test.YtaemgflhgdlmiaaGreatPw20
import Derived.Test.YtaemgflhgdlmiaaGreatPw21
import Derived.Test.YtaemgflhgdlmiaaGreatPw22
import Derived.Test.YtaemgflhgdlmiaaGreatPw23
import Derived.Test.YtaemgflhgdlmiaaGreatPw24
import Derived.Test.YtaemgflhgdlmiaaGreatPw25
import Derived.Test.YtaemgflhgdlmiaaGreatPw26
import Derived.Test.YtaemgflhgdlmiaaGreatPw27
import Derived.Test.YtaemgflhgdlmiaaGreatPw28
import Derived.Test.YtaemgflhgdlmiaaGreatPw29
import Derived.Test.YtaemgflhgdlmiaaGreatPw30
import Derived.Defers
import Derived.Recover
import Derived.Deep.RegionHeld2
import Derived.StillTailTactics
import Derived.WalkKit
import Derived.Laws.BitsAllLaws
import Derived.Laws.BytesArg
import Derived.Lib.SlBytesConst
import Derived.Maps.AppendAt
import Derived.Laws.AppendOwnNone
import Derived.WalkSpells
import Derived.WalkLawsBesides
import Derived.Deep.QuietTactic
import Derived.BigQuiet
import Derived.RegionTactic
import Derived.Deep.AppendLies
import Derived.Deep.RegionLaw
import Derived.Laws.ResultCell
import Derived.Laws.EntriesVeiled
import Derived.Lib.Hide
import Derived.Test.YtaemgflhgdlmiaaGreatRows
import Derived.Deep.RegionHeld3
import Derived.Lib.SliceRun
import Derived.BigRegion
import Derived.Laws.Externs
import Derived.Shelf.Spec.BitsCarry
import Derived.Deep.CutBlock
import Derived.Deep.CutRange
import Derived.Deep.DeepCutAuto
import Derived.Lib.BitFns
import Derived.Shelf.Small.Bits
import Derived.Shelf.Strconv.Itoa0
import Derived.Shelf.Bits.Mul64
import Derived.Lib.AppendZeros
import Derived.Laws.CopyOwn
import Derived.Lib.Overlaps
import Derived.Lib.AppendZerosOnto
import Derived.Laws.OwnMore
import Derived.Shelf.SlSortCmp.WholeK
set_option maxRecDepth 100000
set_option maxHeartbeats 8000000
namespace Go.Proofs.YtaemgflhgdlmiaaGreat
open Go.RowKit Go.ChangeMaps
theorem frozen_row {w : World} {g : Nat} {v : Value} {t : TypeId} (h : w.heap[g]? = some (.cells #[v] t (0, 0))) : w.frozen? ⟨g, 0, none⟩ = false := by simp [World.frozen?, h]
def PkOk (l : List Nat) (A m : Nat) : Prop := (∃ e, drdH l = some ((A, m), e)) ∧ 100 ≤ A ∧ A ≤ 5000 ∧ 2 ≤ m ∧ m ≤ 4096
def PeEnds (w w' : World) (g : Nat) (l : List Nat) (e : Ending) : Prop :=
  (∃ A m, PkOk l A m ∧ e = .returned (.agg #[.int .i64 (A : Nat), .int .i64 (m : Nat)]) ∧ Fr (· = g) w w') ∨ ((¬ ∃ A m, PkOk l A m) ∧ e = .panicked dgup ∧ Fr (· = g) w w')
theorem peeked_any (g c : Nat) (p : Option Addr) (l : List Nat) (w : World) (h : wRdIs w g p c l 0) :
    Calls Tryz.prog 32 #[srcV g] w fun e w' => PeEnds w w' g l e := by
  have hgl : g < w.heap.size := (Array.getElem?_eq_some_iff.1 h.blk).1
  have HGL := Lib.hid hgl
  have FA := (Fr.alloc S0 w (.cells #[.pointer (some ⟨g, 0, none⟩)] 76)).trans0 (Fr.alloc S0 _ (.cells #[.int .i64 0, .int .i64 0] 69))
  have HH := Lib.hid (head_two g c p l w _ ((h.self).on FA))
  have HB1 : Hid (∀ W, Fr S0 ((w.alloc (.cells #[.pointer (some ⟨g, 0, none⟩)] 76)).alloc (.cells #[.int .i64 0, .int .i64 0] 69)) W ∨ Fr (· = g) ((w.alloc (.cells #[.pointer (some ⟨g, 0, none⟩)] 76)).alloc (.cells #[.int .i64 0, .int .i64 0] 69)) W → W.heap[w.heap.size + 1]? = some (.cells #[.int .i64 0, .int .i64 0] 69 (0, 0))) := Lib.hid fun W f => by
    have h1 := heap_alloc_new (w.alloc (.cells #[.pointer (some ⟨g, 0, none⟩)] 76)) (.cells #[.int .i64 0, .int .i64 0] 69)
    rw [size_alloc] at h1
    rcases f with f | f
    · exact f.row h1 fun h => h
    · exact f.row h1 (fun e => by have e2 : w.heap.size + 1 = g := e; omega)
  have q0 : ((w.alloc (.cells #[.pointer (some ⟨g, 0, none⟩)] 76)).alloc (.cells #[.int .i64 0, .int .i64 0] 69)).cell? ⟨w.heap.size, 0, none⟩ = some (.pointer (some ⟨g, 0, none⟩)) := boxed1 (Fr.alloc S0 _ _)
  have HYES := Lib.hid (fun A m W (h1 : 100 ≤ A) (h2 : A ≤ 5000) (h3 : 2 ≤ m) (h4 : m ≤ 4096) => ddnew_yes A m W h1 h2 h3 h4)
  have HNO := Lib.hid (fun A m W (h1 : A < 100 ∨ 5000 < A ∨ m < 2 ∨ 4096 < m) => ddnew_no A m W h1)
  clear h FA hgl
  unfold srcV at *
  unfold PeEnds
  go_enter Tryz.func32, Tryz.ntmps32
  go_wp2_with fail
  refine HH.out.mono ?_
  rintro e w1 (⟨A, m, e1, hd, rfl, t1, f1⟩ | ⟨hd, rfl, f1⟩)
  · have HD := Lib.hid hd
    have T1 := Lib.hid t1.fr
    have HZ := Lib.hid (HB1.out w1 (.inr f1))
    have HSZ1 : Hid (w.heap.size + 1 < w1.heap.size) := Lib.hid (Array.getElem?_eq_some_iff.1 HZ.out).1
    clear hd t1 f1 HH q0
    have HN1 : ∀ W : World, (W.alloc (.cells #[.int .i64 (A : Nat), .int .i64 (m : Nat)] 69)).cell? ⟨W.heap.size, 0, none⟩ = some (.int .i64 (A : Nat)) := fun W => (cell_pair (heap_alloc_new W _)).1
    have HN2 : ∀ W : World, (W.alloc (.cells #[.int .i64 (A : Nat), .int .i64 (m : Nat)] 69)).cell? ⟨W.heap.size, 1, none⟩ = some (.int .i64 (m : Nat)) := fun W => (cell_pair (heap_alloc_new W _)).2
    have HFA := Lib.hid (Fr.alloc S0 w1 (.cells #[.int .i64 (A : Nat), .int .i64 (m : Nat)] 69))
    by_cases hok : 100 ≤ A ∧ A ≤ 5000 ∧ 2 ≤ m ∧ m ≤ 4096
    · have HNW := Lib.hid (HYES.out A m (w1.alloc (.cells #[.int .i64 (A : Nat), .int .i64 (m : Nat)] 69)) hok.1 hok.2.1 hok.2.2.1 hok.2.2.2)
      have HOK := Lib.hid hok
      clear HYES HNO hok
      go_wp2_with ((with_reducible show wpList _ _ _ (Oper.mk none (.store _ (.tmp 3) (.tmp 7)) _ _ _ _ :: _) _ _); refine store_new 69 (.tmp 3) (.tmp 7) rfl rfl rfl rfl szHead rfl (oneHead _ _) ?_)
      refine HNW.out.mono ?_
      rintro e w2 ⟨gs, h, s, rfl, hk⟩
      have F2 := Lib.hid hk.fr
      have hb2 := hk.fr.row (heap_alloc_new w1 (.cells #[.int .i64 (A : Nat), .int .i64 (m : Nat)] 69)) (fun h => h)
      have hz2 := (HFA.out.trans0 hk.fr).row HZ.out (fun h => h)
      obtain ⟨c0, c1⟩ := cell_pair hb2
      have HZ2 := Lib.hid hz2
      clear hk HNW hb2 hz2 HN1 HN2
      go_wp2_with fail
      refine (ddemand_yes _).mono ?_
      rintro e w3 ⟨rfl, rfl⟩
      go_wp2_with ((with_reducible show wpList _ _ _ (Oper.mk none (.store _ (.tmp 2) (.tmp 19)) _ _ _ _ :: _) _ _); refine store_at 69 (.tmp 2) (.tmp 19) rfl rfl rfl rfl HZ2.out szHead rfl (oneHead _ _) ?_; intro w4 hb4 f4)
      refine bodyPost_ret (v := .agg #[.int .i64 (A : Nat), .int .i64 (m : Nat)]) (results_cell Tryz.results32 _ _ rfl hb4 Tryz.underlying69 rfl szHead) rfl (.inl ⟨A, m, ⟨⟨e1, HD.out⟩, HOK.out⟩, rfl, ((T1.out.trans0 HFA.out).trans0 F2.out).trans f4 fun j hj e => by have e2 : j = w.heap.size + 1 := e; omega⟩)
    · have HNW := Lib.hid (HNO.out A m (w1.alloc (.cells #[.int .i64 (A : Nat), .int .i64 (m : Nat)] 69)) (by omega))
      have HNOK : Hid (¬ ∃ A m, PkOk l A m) := Lib.hid (by
        rintro ⟨A', m', ⟨e', hd'⟩, h1⟩
        rw [HD.out] at hd'
        simp only [Option.some.injEq, Prod.mk.injEq] at hd'
        obtain ⟨⟨rfl, rfl⟩, -⟩ := hd'
        exact hok h1)
      clear HYES HNO hok
      go_wp2_with ((with_reducible show wpList _ _ _ (Oper.mk none (.store _ (.tmp 3) (.tmp 7)) _ _ _ _ :: _) _ _); refine store_new 69 (.tmp 3) (.tmp 7) rfl rfl rfl rfl szHead rfl (oneHead _ _) ?_)
      refine HNW.out.mono ?_
      rintro e w2 ⟨rfl, f2⟩
      have F2 := Lib.hid ((T1.out.trans0 HFA.out).trans0 f2)
      clear HNW HN1 HN2 f2
      go_wp2_with fail
      refine (ddemand_no _).mono ?_
      rintro e w3 ⟨rfl, rfl⟩
      exact ⟨rfl, .inr ⟨HNOK.out, rfl, F2.out⟩⟩
  · have HNOK : ¬ ∃ A m, PkOk l A m := by
      rintro ⟨A', m', ⟨e', hd'⟩, h1⟩
      rw [hd] at hd'
      cases hd'
    exact ⟨rfl, .inr ⟨HNOK, rfl, f1⟩⟩
theorem hres {tmps : Array Value} {w : World} {p q : Nat} {a b e : Int} (h4 : tmps.getD 4 undef = .pointer (some ⟨p, 0, none⟩)) (h5 : tmps.getD 5 undef = .pointer (some ⟨q, 0, none⟩)) (hp : w.heap[p]? = some (.cells #[.int .i64 a, .int .i64 b] 69 (0, 0))) (hq : w.heap[q]? = some (.cells #[.int .i64 e] 31 (0, 0))) :
    (results Tryz.f31 tmps).run Tryz.prog w = .ok (.tuple #[.agg #[.int .i64 a, .int .i64 b], .int .i64 e]) w := by
  have c2 : w.cell? ⟨q, 0, none⟩ = some (.int .i64 e) := by simp [World.cell?, hq]
  have h4' : tmps[4]?.getD undef = .pointer (some ⟨p, 0, none⟩) := by simpa using h4
  have h5' : tmps[5]?.getD undef = .pointer (some ⟨q, 0, none⟩) := by simpa using h5
  obtain ⟨c0, c1⟩ := cell_pair hp
  simp [results, Tryz.results31, asAddr, h4', h5', go_sem, c2, c0, c1, Result.andThen]
def ThEnds (w w' : World) (l : List Nat) (e : Ending) : Prop :=
  (∃ A m, PkOk l A m ∧ e = .returned (.tuple #[.agg #[.int .i64 (A : Nat), .int .i64 (m : Nat)], .int .i64 0]) ∧ Fr S0 w w') ∨ ((¬ ∃ A m, PkOk l A m) ∧ e = .returned (.tuple #[.agg #[.int .i64 0, .int .i64 0], .int .i64 9]) ∧ Fr S0 w w')
theorem has_peeked : Has 32 := fun _ _ => by kernel_rfl
theorem htold_any (q : Option Addr) (d n : Nat) (l : List Nat) (w : World) (hn : l.length = n) (hl : SlI w .u8 q l) (h8 : ∀ x ∈ l, x < 256) (hq : q = none → d = 0) (hL : n ≤ 1000000) :
    Calls Tryz.prog 31 #[.slice q n d, .func (.func 32) #[] #[]] w fun e w' => ThEnds w w' l e := by
  have HN := Lib.hid (fun W (f : Fr S0 w W) => rnew_any q d n l W hn (hl.fr0 f) h8 hq hL)
  have HSK := Lib.hid (fun g p c W (h : wRdIs W g p c l 0) => peeked_any g c p l W h)
  have hcf := has_peeked
  have hmf : ∀ (fn : Fn) (first cap : Array Value) (w : World), (Instr.makeFunc fn first cap).run Tryz.prog w = .ok (.func fn first cap) w := fun _ _ _ _ => rfl
  have F0 := Lib.hid ((Fr.alloc S0 w (.cells #[.int .i64 0, .int .i64 0] 69)).trans0 (Fr.alloc S0 _ (.cells #[.int .i64 0] 31)))
  have HTA := Lib.hid ((Fr.alloc S0 (w.alloc (.cells #[.int .i64 0, .int .i64 0] 69)) (.cells #[.int .i64 0] 31)).row (heap_alloc_new w (.cells #[.int .i64 0, .int .i64 0] 69)) fun h => h)
  have HTB : Hid (((w.alloc (.cells #[.int .i64 0, .int .i64 0] 69)).alloc (.cells #[.int .i64 0] 31)).heap[w.heap.size + 1]? = some (.cells #[.int .i64 0] 31 (0, 0))) := Lib.hid (by
    have h1 := heap_alloc_new (w.alloc (.cells #[.int .i64 0, .int .i64 0] 69)) (.cells #[.int .i64 0] 31)
    rw [size_alloc] at h1
    exact h1)
  have HSZ : Hid (((w.alloc (.cells #[.int .i64 0, .int .i64 0] 69)).alloc (.cells #[.int .i64 0] 31)).heap.size = w.heap.size + 2) := Lib.hid (by rw [size_alloc, size_alloc])
  unfold srcV at HSK
  clear hl h8 hq hn
  go_enter_defers Tryz.func31, Tryz.ntmps31
  go_wp2_with fail
  refine (HN.out _ F0.out).mono ?_
  rintro e w2 ⟨g, p, c, rfl, hr, hg, f2⟩
  have HG := Lib.hid (And.intro hg f2)
  have HS2 := Lib.hid (HSK.out g p c w2 hr)
  have HF := hcf #[.agg #[.pointer (some ⟨g, 0, none⟩)]] w2
  clear hr hg f2 HN HSK
  go_wp2_with fail
  refine HS2.out.mono ?_
  rintro e w3 h3
  unfold PeEnds at h3
  have hfr : Fr (· = g) w2 w3 := by
    rcases h3 with ⟨_, _, -, -, f⟩ | ⟨-, -, f⟩ <;> exact f
  have HG2 : Hid (w.heap.size + 2 ≤ g) := Lib.hid (by have := HG.out.1; rw [HSZ.out] at this; exact this)
  have F3 : Hid (Fr S0 w w3) := Lib.hid (((F0.out.trans0 HG.out.2)).trans hfr fun j hj e => by have e2 : j = g := e; have := HG2.out; omega)
  have hrA := hfr.row (HG.out.2.row HTA.out fun h => h) (fun e => by have e2 : w.heap.size = g := e; have := HG2.out; omega)
  have hrB := hfr.row (HG.out.2.row HTB.out fun h => h) (fun e => by have e2 : w.heap.size + 1 = g := e; have := HG2.out; omega)
  have HRA := Lib.hid hrA
  have HRB := Lib.hid hrB
  rcases h3 with ⟨A, m, hok, rfl, -⟩ | ⟨hno, rfl, -⟩
  · have HOK := Lib.hid hok
    clear hok hfr HS2 hrA hrB
    go_wp2_with (first
      | ((with_reducible show wpList _ _ _ (Oper.mk none (.store _ (.tmp 4) (.tmp 11)) _ _ _ _ :: _) _ _); refine store_at 69 (.tmp 4) (.tmp 11) rfl rfl rfl rfl HRA.out szHead rfl (oneHead _ _) ?_; intro w4 hb4 f4; have HB4 := Lib.hid hb4; have F4 := Lib.hid f4; have HRB4 := Lib.hid (f4.row HRB.out (fun e => by have e2 : w.heap.size + 1 = w.heap.size := e; omega)); have c2 : w4.cell? ⟨w.heap.size + 1, 0, none⟩ = some (.int .i64 0) := cell_row HRB4.out; have z2 : w4.frozen? ⟨w.heap.size + 1, 0, none⟩ = false := (frozen_row HRB4.out); clear hb4 f4)
      | fail)
    have f9 : Fr (fun j => j = w.heap.size + 1) w4 (w4.setCell ⟨w.heap.size + 1, 0, none⟩ (.int .i64 0)) := Fr.setCell _ _ _ _ rfl
    have HE := Lib.hid (set_first (y := .int .i64 0) HRB4.out)
    have HEA := Lib.hid (f9.row HB4.out (fun e => by have e2 : w.heap.size = w.heap.size + 1 := e; omega))
    refine leaves_cons (f := 57) (args := #[.pointer (some ⟨w.heap.size + 1, 0, none⟩)]) (by simp) (by simp [go_sem]) ?_
    refine (hcatch_idle ⟨w.heap.size + 1, 0, none⟩ _).mono ?_
    rintro e u' wz ⟨rfl, rfl, rfl⟩
    exact ⟨_, hres rfl rfl HEA.out HE.out, .inl ⟨A, m, HOK.out, rfl, (F3.out.trans F4.out fun j hj e => by have e2 : j = w.heap.size := e; omega).trans f9 fun j hj e => by have e2 : j = w.heap.size + 1 := e; omega⟩⟩
  · have HNO := Lib.hid hno
    clear hno hfr HS2 hrA hrB
    refine leaves_cons (f := 57) (args := #[.pointer (some ⟨w.heap.size + 1, 0, none⟩)]) (by simp) (by simp [go_sem]) ?_
    refine (hcatch_given (w.heap.size + 1) _ _ HRB.out).mono ?_
    rintro e u' wz ⟨rfl, hset, fz, z2⟩
    show Leaves _ _ _ _ [] (settle u') wz
    rw [hset]
    exact ⟨_, hres rfl rfl (fz.row HRA.out (fun e => by have e2 : w.heap.size = w.heap.size + 1 := e; omega)) z2, .inr ⟨HNO.out, rfl, F3.out.trans fz fun j hj e => by have e2 : j = w.heap.size + 1 := e; omega⟩⟩
def PkEnds (w w' : World) (l : List Nat) (e : Ending) : Prop :=
  (∃ A m, PkOk l A m ∧ e = .returned (.tuple #[.int .i64 (A : Nat), .int .i64 (m : Nat), .int .i64 0]) ∧ Fr S0 w w') ∨ ((¬ ∃ A m, PkOk l A m) ∧ e = .returned (.tuple #[.int .i64 0, .int .i64 0, .int .i64 9]) ∧ Fr S0 w w')
theorem dpeek_any (q : Option Addr) (d n : Nat) (l : List Nat) (w : World) (hn : l.length = n) (hl : SlI w .u8 q l) (h8 : ∀ x ∈ l, x < 256) (hq : q = none → d = 0) (hL : n ≤ 1000000) :
    Calls Tryz.prog 10 #[.slice q n d] w fun e w' => PkEnds w w' l e := by
  have H := Lib.hid (htold_any q d n l w hn hl h8 hq hL)
  have HN1 : ∀ (W : World) (a b : Int), (W.alloc (.cells #[.int .i64 a, .int .i64 b] 69)).cell? ⟨W.heap.size, 0, none⟩ = some (.int .i64 a) := fun W a b => (cell_pair (heap_alloc_new W _)).1
  have HN2 : ∀ (W : World) (a b : Int), (W.alloc (.cells #[.int .i64 a, .int .i64 b] 69)).cell? ⟨W.heap.size, 1, none⟩ = some (.int .i64 b) := fun W a b => (cell_pair (heap_alloc_new W _)).2
  clear hn hl h8 hq hL
  go_enter Tryz.func10, Tryz.ntmps10
  go_wp2_with fail
  refine H.out.mono ?_
  rintro e w1 (⟨A, m, hok, rfl, f1⟩ | ⟨hno, rfl, f1⟩)
  · have HK := Lib.hid (And.intro hok (f1.trans0 (Fr.alloc S0 w1 (.cells #[.int .i64 (A : Nat), .int .i64 (m : Nat)] 69))))
    clear hok f1 H
    go_wp2_with ((with_reducible show wpList _ _ _ (Oper.mk none (.store _ (.tmp 5) (.tmp 10)) _ _ _ _ :: _) _ _); refine store_new 69 (.tmp 5) (.tmp 10) rfl rfl rfl rfl szHead rfl (oneHead _ _) ?_)
    go_quiet (fail)
    go_wp2_with fail
    go_ret3
    exact .inl ⟨A, m, HK.out.1, rfl, HK.out.2.trans0 (Fr.drewN _ _ _)⟩
  · have HK := Lib.hid (And.intro hno (f1.trans0 (Fr.alloc S0 w1 (.cells #[.int .i64 0, .int .i64 0] 69))))
    clear hno f1 H
    go_wp2_with ((with_reducible show wpList _ _ _ (Oper.mk none (.store _ (.tmp 5) (.tmp 10)) _ _ _ _ :: _) _ _); refine store_new 69 (.tmp 5) (.tmp 10) rfl rfl rfl rfl szHead rfl (oneHead 0 0) ?_)
    go_quiet (fail)
    go_wp2_with fail
    go_ret3
    exact .inr ⟨HK.out.1, rfl, HK.out.2.trans0 (Fr.drewN _ _ _)⟩
end Go.Proofs.YtaemgflhgdlmiaaGreat

namespace Go.Proofs.YtaemgflhgdlmiaaGreat
open Go.RowKit
theorem sl_lits {w : World} (t : TypeId) (xs : List Nat) (hn : xs.length ≤ 1000) : SlI (w.alloc (.cells (xs.map fun (x : Nat) => Value.int .u64 (x : Int)).toArray t)) .u64 (some ⟨w.heap.size, 0, none⟩) xs := by
  refine ⟨by unfold maxLen; omega, fun _ => ⟨w.heap.size, 0, rfl, fun i hi => ?_⟩⟩
  have hb := heap_alloc_new w (.cells (xs.map fun (x : Nat) => Value.int .u64 (x : Int)).toArray t)
  generalize w.alloc (.cells (xs.map fun (x : Nat) => Value.int .u64 (x : Int)).toArray t) = W at hb
  simp [World.cell?, hb, hi]
theorem forms_4v : formsS (pat ⟨#[118, 118, 118, 118]⟩) = some [7, 7, 7, 7] := by kernel_rfl
theorem forms_zv : formsS (pat ⟨#[122, 118]⟩) = some [8, 7] := by kernel_rfl
theorem forms_vv : formsS (pat ⟨#[118, 118]⟩) = some [7, 7] := by kernel_rfl
theorem fits_v {n : Nat} (h : n < 18446744073709551616) : fits 7 n = true := fits_big h (by decide)
theorem fits_z {n : Nat} (h : n < 18446744073709551616) : fits 8 n = true := fits_big h (by decide)
theorem put_4v (a b c d : Nat) (ha : a < 18446744073709551616) (hb : b < 18446744073709551616) (hc : c < 18446744073709551616) (hd : d < 18446744073709551616) : putS (pat ⟨#[118, 118, 118, 118]⟩) [a, b, c, d] = .ok (enc 7 a ++ (enc 7 b ++ (enc 7 c ++ enc 7 d))) := by
  unfold putS
  rw [forms_4v]
  simp only [List.length_cons, List.length_nil, if_true]
  rw [putRows_cons, fits_v ha, putRows_cons, fits_v hb, putRows_cons, fits_v hc, putRows_cons, fits_v hd, putRows_nil]
  simp [wpre]
theorem put_zv (a b : Nat) (ha : a < 18446744073709551616) (hb : b < 18446744073709551616) : putS (pat ⟨#[122, 118]⟩) [a, b] = .ok (enc 8 a ++ enc 7 b) := by
  unfold putS
  rw [forms_zv]
  simp only [List.length_cons, List.length_nil, if_true]
  rw [putRows_cons, fits_z ha, putRows_cons, fits_v hb, putRows_nil]
  simp [wpre]
theorem put_vv (a b : Nat) (ha : a < 18446744073709551616) (hb : b < 18446744073709551616) : putS (pat ⟨#[118, 118]⟩) [a, b] = .ok (enc 7 a ++ enc 7 b) := by
  unfold putS
  rw [forms_vv]
  simp only [List.length_cons, List.length_nil, if_true]
  rw [putRows_cons, fits_v ha, putRows_cons, fits_v hb, putRows_nil]
  simp [wpre]
theorem dput_any (s : ByteArray) (p : Option Addr) (c n : Nat) (l bs : List Nat) (w : World) (hn : l.length = n) (hs : s.size ≤ maxLen) (hl : SlI w .u64 p l) (hb : ∀ x ∈ l, x < 18446744073709551616) (h : putS (pat s) l = .ok bs) :
    Calls Tryz.prog 30 #[.string s, .slice p n c] w fun e w' => ∃ v, e = .returned v ∧ RowNew w w' v bs ∧ Fr S0 w w' := by
  subst hn
  have H := Lib.hid (wput_any s p c l w hs hl hb)
  rw [h] at H
  clear hs hl hb h
  go_enter Tryz.func30, Tryz.ntmps30
  go_wp2_with fail
  refine H.out.mono ?_
  rintro e w1 ⟨f1, v, rfl, own, hf⟩
  have HK := Lib.hid (And.intro (RowNew.mk own hf) f1)
  clear f1 own hf H
  go_wp2_with fail
  go_ret
  exact ⟨v, rfl, HK.out⟩
structure AccB (w wr : World) (v : Value) (N : Nat) (L : List Nat) : Prop where
  own : wr.ownsRow 0 5 1 v N (u8s L)
  fresh : Fresh w v
  fr : Fr S0 w wr
theorem AccB.len {w wr : World} {v : Value} {N : Nat} {L : List Nat} (h : AccB w wr v N L) : L.length = N := by
  have := h.own.1
  simp [u8s] at this
  exact this
theorem AccB.fr0 {w wr w2 : World} {v : Value} {N : Nat} {L : List Nat} (h : AccB w wr v N L) (f : Fr S0 wr w2) : AccB w w2 v N L := ⟨f.owns h.own fun _ _ h => h, h.fresh, h.fr.trans0 f⟩
theorem AccB.app {w wr w3 : World} {v : Value} {N M c : Nat} {q : Option Addr} {L K : List Nat} (h : AccB w wr v N L) (own : w3.ownsRow 0 5 1 (.slice q M c) M (u8s L ++ u8s K)) (hg : wr.grownBy w3 v.ownBlock) (hat : Value.ownBlock (.slice q M c) = v.ownBlock ∨ Value.ownBlock (.slice q M c) = some wr.heap.size) : AccB w w3 (.slice q M c) M (L ++ K) :=
  ⟨by rw [← u8s_append]; exact own, fresh_many h.fresh h.fr.size hat, h.fr.append hg h.fresh⟩
def letS : Bool → ByteArray
  | true => ⟨#[122]⟩
  | false => ⟨#[118]⟩
theorem pri_from {l : List Pr} (hall : ∀ x ∈ l, -1048576 ≤ x.1 ∧ x.1 ≤ 1048576) {j : Nat} (hj : j < l.length) : -1048576 ≤ l[j].1 ∧ l[j].1 ≤ 1048576 := hall _ (List.getElem_mem hj)
theorem szPr : (Tryz.prog.info? 67).map (·.size) = some 2 := by kernel_rfl
theorem onePr (a : Int) (b : Nat) : (#[Value.int .i64 a, .int .u64 (b : Int)]).all (·.oneCell') = true := by simp [Value.oneCell']
theorem ones8 (l : List Nat) : ∀ y ∈ u8s l, y.oneCell' = true := ones l
theorem dwrite_any (g h s A m : Nat) (a : List Pr) (w : World) (k : SkIs w g h s A m a) :
    Calls Tryz.prog 9 #[.pointer (some ⟨g, 0, none⟩)] w fun e w' => ∃ v, e = .returned (.tuple #[v, .int .i64 0]) ∧ AccB w w' v (ddB A m (cutN a m) (cutA a m)).length (ddB A m (cutN a m) (cutA a m)) := by
  have HP := Lib.hid (dpairs_any g h s A m a w k)
  have HA := Lib.hid (fun W (f : Fr S0 w W) => daccuracy_any g h s A m a W (k.fr0 f))
  have HB := Lib.hid (fun W (f : Fr S0 w W) => dbudget_any g h s A m a W (k.fr0 f))
  have HF := Lib.hid (fun W (f : Fr S0 w W) => dfolded_any g h s A m a W (k.fr0 f))
  have hok := DdOk.of k.ok k.m2 k.m3 k.a1 k.a2 k.ks
  obtain ⟨-, hf64, -, -, -⟩ := ddOk_good hok
  have hg := hok.ld.good
  have hlen := hok.ld.len
  have hm3 := k.m3
  have ha2 := k.a2
  obtain ⟨L, eL⟩ : ∃ L, cutN a m = L := ⟨_, rfl⟩
  obtain ⟨f, ef⟩ : ∃ f, cutA a m = f := ⟨_, rfl⟩
  rw [eL] at HP hg hlen
  rw [ef] at HF hf64
  rw [eL, ef]
  have HG := Lib.hid hg
  have HDD : Hid (ddB A m L f = enc 7 A ++ (enc 7 m ++ (enc 7 L.length ++ enc 7 f)) ++ wrP true 0 L) := Lib.hid (by simp [ddB, List.append_assoc])
  have H64 : Hid (∀ x ∈ L, x.2 < 18446744073709551616) := Lib.hid fun x hx => by
    have h1 := cnt_mem hg.srt hx
    have h2 := cnt_tot L x.1
    have := hg.tot
    omega
  have hAb : (A : Int) ≤ 5000 := by omega
  have hmb : (m : Int) ≤ 4096 := by omega
  have hb1 : ∀ a b c d : Nat, a < 18446744073709551616 → b < 18446744073709551616 → c < 18446744073709551616 → d < 18446744073709551616 → ∀ x ∈ [a, b, c, d], x < 18446744073709551616 := by
    intro a b c d h1 h2 h3 h4 x hx
    simp only [List.mem_cons, List.not_mem_nil, or_false] at hx
    rcases hx with rfl | rfl | rfl | rfl <;> assumption
  have HLL : Hid (L.length ≤ 4096) := Lib.hid (by omega)
  have HPUT : Hid (∀ W, Calls Tryz.prog 30 #[.string ⟨#[118, 118, 118, 118]⟩, .slice (some ⟨W.heap.size, 0, none⟩) 4 4] (W.alloc (.cells #[.int .u64 (A : Int), .int .u64 (m : Int), .int .u64 (L.length : Int), .int .u64 (f : Int)] 51)) fun e w' => ∃ v, e = .returned v ∧ RowNew W w' v (enc 7 A ++ (enc 7 m ++ (enc 7 L.length ++ enc 7 f))) ∧ Fr S0 W w') := Lib.hid fun W =>
    (dput_any ⟨#[118, 118, 118, 118]⟩ _ 4 4 [A, m, L.length, f] _ _ rfl (by decide) (sl_lits 51 [A, m, L.length, f] (by simp)) (hb1 _ _ _ _ (by omega) (by omega) (by omega) hf64) (put_4v _ _ _ _ (by omega) (by omega) (by omega) hf64)).mono fun e w' ⟨v, he, hr, fr⟩ => ⟨v, he, ⟨hr.own, fun k hk => Nat.le_trans (by simp) (hr.fresh k hk)⟩, (Fr.alloc S0 W _).trans0 fr⟩
  have HKV : Hid (∀ (first : Bool) (x n : Nat) W, x < 18446744073709551616 → n < 18446744073709551616 → Calls Tryz.prog 30 #[.string (if first then ⟨#[122, 118]⟩ else ⟨#[118, 118]⟩), .slice (some ⟨W.heap.size, 0, none⟩) 2 2] (W.alloc (.cells #[.int .u64 (x : Int), .int .u64 (n : Int)] 51)) fun e w' => ∃ v, e = .returned v ∧ RowNew W w' v (enc (letr first) x ++ enc 7 n) ∧ Fr S0 W w') := Lib.hid (by
    intro first x n W hx hn
    have hb : ∀ y ∈ [x, n], y < 18446744073709551616 := by
      intro y hy
      simp only [List.mem_cons, List.not_mem_nil, or_false] at hy
      rcases hy with rfl | rfl <;> assumption
    cases first with
    | true => exact (dput_any ⟨#[122, 118]⟩ _ 2 2 [x, n] _ _ rfl (by decide) (sl_lits 51 [x, n] (by simp)) hb (put_zv _ _ hx hn)).mono fun e w' ⟨v, he, hr, fr⟩ => ⟨v, he, ⟨hr.own, fun k hk => Nat.le_trans (by simp) (hr.fresh k hk)⟩, (Fr.alloc S0 W _).trans0 fr⟩
    | false => exact (dput_any ⟨#[118, 118]⟩ _ 2 2 [x, n] _ _ rfl (by decide) (sl_lits 51 [x, n] (by simp)) hb (put_vv _ _ hx hn)).mono fun e w' ⟨v, he, hr, fr⟩ => ⟨v, he, ⟨hr.own, fun k hk => Nat.le_trans (by simp) (hr.fresh k hk)⟩, (Fr.alloc S0 W _).trans0 fr⟩)
  clear hok hf64 hg k hm3 ha2 eL ef hb1
  go_enter Tryz.func9, Tryz.ntmps9
  go_wp2_with fail
  refine HP.out.mono ?_
  rintro e w1 ⟨p, c, n, rfl, hp⟩
  have hnl : L.length = n := by have := hp.own.1; rw [prs_len] at this; omega
  have hn4 : n ≤ 4096 := by have := HLL.out; omega
  have HPR := Lib.hid (And.intro (hp.pri (by omega)) hp.fr)
  rw [hnl] at HPUT
  have HNL := Lib.hid hnl
  clear hp HP hlen hnl
  have hnb : (n : Int) ≤ 4096 := by omega
  go_wp2_with fail
  refine (HA.out _ HPR.out.2).mono ?_
  rintro e w2 ⟨rfl, rfl⟩
  go_wp2_with fail
  refine (HB.out _ HPR.out.2).mono ?_
  rintro e w2 ⟨rfl, f2⟩
  have F2 := Lib.hid f2
  have R2 := Lib.hid (HPR.out.2.trans0 f2)
  clear f2
  go_wp2_with fail
  refine (HF.out _ R2.out).mono ?_
  rintro e w3 ⟨rfl, f3⟩
  have F3 := Lib.hid (F2.out.trans0 f3)
  have R3 := Lib.hid (R2.out.trans0 f3)
  clear f3
  go_wp2_with fail
  refine (HPUT.out w3).mono ?_
  rintro e w4 ⟨v, rfl, hr, f4⟩
  obtain ⟨pv, cv, rfl⟩ := slFormN hr.own
  have HAC : Hid (AccB w3 w4 (.slice pv (enc 7 A ++ (enc 7 m ++ (enc 7 n ++ enc 7 f))).length cv) (enc 7 A ++ (enc 7 m ++ (enc 7 n ++ enc 7 f))).length (enc 7 A ++ (enc 7 m ++ (enc 7 n ++ enc 7 f)))) := Lib.hid ⟨hr.own, hr.fresh, f4⟩
  have HPW := Lib.hid (HPR.out.1.fr0 F3.out)
  have HD0 : Hid ((enc 7 A ++ (enc 7 m ++ (enc 7 n ++ enc 7 f))).length ≤ 40) := Lib.hid (by
    have h1 := enc_length 7 A (by decide)
    have h2 := enc_length 7 m (by decide)
    have h3 := enc_length 7 n (by decide)
    have h4 := enc_length 7 f (by decide)
    simp only [List.length_append]
    omega)
  rw [HNL.out] at HDD
  obtain ⟨H0, eH0⟩ : ∃ x, enc 7 A ++ (enc 7 m ++ (enc 7 n ++ enc 7 f)) = x := ⟨_, rfl⟩
  rw [eH0] at HAC HD0 HDD
  obtain ⟨N0, eN0⟩ : ∃ x, H0.length = x := ⟨_, rfl⟩
  rw [eH0, eN0]
  rw [eN0] at HAC HD0
  clear hr f4 HPUT HA HB HF F2 F3 R2 eH0 HPR eN0
  go_wp2_with fail
  go_loopw [5, 6, 7, 29] (fun bv st fm i wr => ∃ (j N : Nat) (first : Bool) (from_ : Int) (C : List Nat) (pv : Option Addr) (cv : Nat), j ≤ n ∧ N ≤ 40 + 20 * j ∧ i = .int .i64 j ∧ bv = .slice pv N cv ∧ (∃ SS, st = .string SS ∧ Hid (SS = letS first)) ∧ fm = .int .i64 from_ ∧ -1048577 ≤ from_ ∧ from_ ≤ 1048577 ∧ Hid (AccB w3 wr (.slice pv N cv) N C) ∧ Hid (ddB A m L f = C ++ wrP first from_ (L.drop j)) ∧ Hid (first = true → j = 0 ∧ from_ = 0)) (fun _ _ _ i _ => n - (intOf i).toNat)
  case atStart => exact ⟨0, N0, true, 0, H0, pv, cv, by omega, by have := HD0.out; omega, rfl, rfl, ⟨_, rfl, Lib.hid rfl⟩, rfl, by omega, by omega, HAC, HDD, Lib.hid fun _ => ⟨rfl, rfl⟩⟩
  case round =>
    clear HAC HDD HD0
    obtain ⟨j, N, first, from_, C, pv, cv, hj, hN, rfl, rfl, ⟨SS, rfl, hSS⟩, rfl, hf1, hf2, hacc, heq, hfst⟩ := hrel
    by_cases hjn : (j : Int) < (n : Int)
    · have hjl : j < L.length := by rw [HNL.out]; omega
      obtain ⟨b, o, hpe, d0, d1⟩ := (HPW.out.fr0 hacc.out.fr).at j hjl
      have hkk := pri_from HG.out.all hjl
      have hn64 := H64.out _ (List.getElem_mem hjl)
      have hdr := List.drop_eq_getElem_cons hjl
      obtain ⟨⟨tk, tn⟩, hx⟩ : ∃ x, L[j] = x := ⟨_, rfl⟩
      rw [hx] at d0 d1 hkk hn64 hdr
      simp only at d0 d1 hkk hn64
      obtain ⟨hk1, hk2⟩ := hkk
      obtain ⟨X, hX⟩ : ∃ X, numb (tk - from_) = X := ⟨_, rfl⟩
      have hX64 : X < 18446744073709551616 := by rw [← hX]; exact numb_lt _
      have esub : IntKind.i64.wrap (tk - from_) = tk - from_ := by simp [IntKind.wrap, IntKind.bits, IntKind.signed]; omega
      have eX : (tk - from_) % 18446744073709551616 = (X : Int) := by rw [← hX, numb]; omega
      have eX2 : IntKind.u64.wrap (tk - from_) = (X : Int) := by rw [← eX]; simp [IntKind.wrap, IntKind.bits, IntKind.signed]
      obtain ⟨ST, hST⟩ : ∃ ST, enc (letr first) X ++ enc 7 tn = ST := ⟨_, rfl⟩
      have hSTl : ST.length ≤ 20 := by
        have h1 := enc_length (letr first) X (by unfold letr; split <;> decide)
        have h2 := enc_length 7 tn (by decide)
        rw [← hST, List.length_append]
        omega
      have HNX : Hid (ddB A m L f = (C ++ ST) ++ wrP false (tk + 1) (L.drop (j + 1))) := Lib.hid (by
        rw [heq.out, hdr, wrP]
        simp only
        rw [hX, ← hST]
        simp [List.append_assoc])
      have htn : (tn : Int) < 18446744073709551616 := by omega
      subst hpe
      clear heq hdr hx hX hfst
      cases first with
      | true =>
        have HKW : Hid (∀ W B, W.heap.size = B → Calls Tryz.prog 30 #[.string ⟨#[122, 118]⟩, .slice (some ⟨B, 0, none⟩) 2 2] (W.alloc (.cells #[.int .u64 (X : Int), .int .u64 (tn : Int)] 51)) fun e w' => ∃ v, e = .returned v ∧ RowNew W w' v ST ∧ Fr S0 W w') := Lib.hid fun W B hB => by
          subst hB
          have := HKV.out true X tn W hX64 hn64
          rw [hST] at this
          exact this
        obtain rfl : SS = ⟨#[122]⟩ := hSS.out
        have hadd : ∀ W, (binOp .add 9 (.string ⟨#[122]⟩) (.string ⟨#[118]⟩)).run Tryz.prog W = .ok (.string ⟨#[122, 118]⟩) W := fun W => by kernel_rfl
        clear hX64 hST
        obtain ⟨q0, q1⟩ := cell_pair (heap_alloc_new wr (.cells #[.int .i64 tk, .int .u64 (tn : Int)] 67))
        go_wp2_with (first
          | ((with_reducible show wpList _ _ _ (Oper.mk none (.store _ _ _) _ _ _ _ :: _) _ _); refine store_new 67 (.tmp 9) (.tmp 32) rfl rfl rfl rfl szPr rfl (onePr _ _) ?_)
          | fail)
        refine (HKW.out _ _ (size_alloc _ _)).mono ?_
        rintro e w5 ⟨u, rfl, hr, f5⟩
        obtain ⟨pu, cu, rfl⟩ := slFormN hr.own
        have HS5 := Lib.hid (SrcIs.ofOwns hr.own)
        have HAW := Lib.hid ((hacc.out.fr0 (Fr.alloc S0 wr _)).fr0 f5)
        have hbx := f5.row (heap_alloc_new wr (.cells #[.int .i64 tk, .int .u64 (tn : Int)] 67)) fun h => h
        have HBX := Lib.hid hbx
        have HRO : Hid (∀ k, (Value.slice pv N cv).ownBlock = some k → k ≠ wr.heap.size) := Lib.hid fun k hk => by have := (hacc.out.own.lt k hk).2; omega
        clear hr f5 HKW hbx
        go_wp2_with (first
          | ((with_reducible show wpList _ _ _ (Oper.mk (some 45) _ _ _ _ _ :: _) _ _); refine app_many el8 (.tmp 33) (.tmp 44) HAW.out.own HS5.out rfl rfl rfl rfl rfl (ones8 _) (Room.mk (by omega)) ?_; intro p6 c6 w6 own6 g6 at6; have HA6 := Lib.hid (HAW.out.app own6 g6 at6); have c0 := ((Fr.grown g6).cell (cell_pair HBX.out).1 (fun e => HRO.out _ e rfl)); clear own6 g6 at6)
          | fail)
        go_quiet (fail)
        go_wp2_with fail
        go_roundw
        case rel => exact ⟨j + 1, N + ST.length, false, tk + 1, C ++ ST, p6, c6, by omega, by omega, by go_num, rfl, ⟨_, rfl, Lib.hid rfl⟩, rfl, by omega, by omega, Lib.hid (HA6.out.fr0 (Fr.drewN S0 _ _)), HNX, Lib.hid fun h => (by cases h)⟩
        case measure => simp [intOf]; omega
      | false =>
        have HKW : Hid (∀ W B, W.heap.size = B → Calls Tryz.prog 30 #[.string ⟨#[118, 118]⟩, .slice (some ⟨B, 0, none⟩) 2 2] (W.alloc (.cells #[.int .u64 (X : Int), .int .u64 (tn : Int)] 51)) fun e w' => ∃ v, e = .returned v ∧ RowNew W w' v ST ∧ Fr S0 W w') := Lib.hid fun W B hB => by
          subst hB
          have := HKV.out false X tn W hX64 hn64
          rw [hST] at this
          exact this
        obtain rfl : SS = ⟨#[118]⟩ := hSS.out
        have hadd : ∀ W, (binOp .add 9 (.string ⟨#[118]⟩) (.string ⟨#[118]⟩)).run Tryz.prog W = .ok (.string ⟨#[118, 118]⟩) W := fun W => by kernel_rfl
        clear hX64 hST
        obtain ⟨q0, q1⟩ := cell_pair (heap_alloc_new wr (.cells #[.int .i64 tk, .int .u64 (tn : Int)] 67))
        go_wp2_with (first
          | ((with_reducible show wpList _ _ _ (Oper.mk none (.store _ _ _) _ _ _ _ :: _) _ _); refine store_new 67 (.tmp 9) (.tmp 32) rfl rfl rfl rfl szPr rfl (onePr _ _) ?_)
          | fail)
        refine (HKW.out _ _ (size_alloc _ _)).mono ?_
        rintro e w5 ⟨u, rfl, hr, f5⟩
        obtain ⟨pu, cu, rfl⟩ := slFormN hr.own
        have HS5 := Lib.hid (SrcIs.ofOwns hr.own)
        have HAW := Lib.hid ((hacc.out.fr0 (Fr.alloc S0 wr _)).fr0 f5)
        have hbx := f5.row (heap_alloc_new wr (.cells #[.int .i64 tk, .int .u64 (tn : Int)] 67)) fun h => h
        have HBX := Lib.hid hbx
        have HRO : Hid (∀ k, (Value.slice pv N cv).ownBlock = some k → k ≠ wr.heap.size) := Lib.hid fun k hk => by have := (hacc.out.own.lt k hk).2; omega
        clear hr f5 HKW hbx
        go_wp2_with (first
          | ((with_reducible show wpList _ _ _ (Oper.mk (some 45) _ _ _ _ _ :: _) _ _); refine app_many el8 (.tmp 33) (.tmp 44) HAW.out.own HS5.out rfl rfl rfl rfl rfl (ones8 _) (Room.mk (by omega)) ?_; intro p6 c6 w6 own6 g6 at6; have HA6 := Lib.hid (HAW.out.app own6 g6 at6); have c0 := ((Fr.grown g6).cell (cell_pair HBX.out).1 (fun e => HRO.out _ e rfl)); clear own6 g6 at6)
          | fail)
        go_quiet (fail)
        go_wp2_with fail
        go_roundw
        case rel => exact ⟨j + 1, N + ST.length, false, tk + 1, C ++ ST, p6, c6, by omega, by omega, by go_num, rfl, ⟨_, rfl, Lib.hid rfl⟩, rfl, by omega, by omega, Lib.hid (HA6.out.fr0 (Fr.drewN S0 _ _)), HNX, Lib.hid fun h => (by cases h)⟩
        case measure => simp [intOf]; omega
    · obtain rfl : j = n := by omega
      have HE : Hid (ddB A m L f = C) := Lib.hid (by rw [heq.out, ← HNL.out, List.drop_length]; cases first <;> simp [wrP])
      clear heq hfst
      go_wp2_with fail
      go_ret2
      rw [HE.out, hacc.out.len]
      exact ⟨_, rfl, hacc.out.own, fun k hk => Nat.le_trans R3.out.size (hacc.out.fresh k hk), R3.out.trans0 hacc.out.fr⟩
theorem dwrite_nil (w : World) : Calls Tryz.prog 9 #[.pointer none] w fun e w' => e = .returned (.tuple #[.slice none 0 0, .int .i64 1]) ∧ Fr S0 w w' := by
  go_enter Tryz.func9, Tryz.ntmps9
  go_wp2_with fail
  go_ret2
  exact ⟨rfl, Fr.refl _ _⟩
theorem dsize_nil (w : World) : Calls Tryz.prog 14 #[.pointer none] w fun e w' => e = .returned (.int .i64 0) ∧ Fr S0 w w' := by
  have H := Lib.hid (dwrite_nil w)
  go_enter Tryz.func14, Tryz.ntmps14
  go_wp2_with fail
  refine H.out.mono ?_
  rintro e w1 ⟨rfl, f1⟩
  have F1 := Lib.hid f1
  clear f1
  go_wp2_with fail
  go_ret
  exact ⟨rfl, F1.out⟩
theorem dsize_any (g h s A m : Nat) (a : List Pr) (w : World) (k : SkIs w g h s A m a) :
    Calls Tryz.prog 14 #[.pointer (some ⟨g, 0, none⟩)] w fun e w' => e = .returned (.int .i64 ((ddB A m (cutN a m) (cutA a m)).length : Nat)) ∧ Fr S0 w w' := by
  have H := Lib.hid (dwrite_any g h s A m a w k)
  obtain ⟨B, hB⟩ : ∃ B, ddB A m (cutN a m) (cutA a m) = B := ⟨_, rfl⟩
  rw [hB] at H ⊢
  clear k hB
  go_enter Tryz.func14, Tryz.ntmps14
  go_wp2_with fail
  refine H.out.mono ?_
  rintro e w1 ⟨v, rfl, ha⟩
  obtain ⟨p, c, rfl⟩ := slFormN ha.own
  have F1 := Lib.hid ha.fr
  clear ha H
  go_wp2_with fail
  go_ret
  exact ⟨rfl, F1.out⟩
end Go.Proofs.YtaemgflhgdlmiaaGreat

namespace Go.Proofs.YtaemgflhgdlmiaaGreat
open Go.RowKit
theorem AccB.back {w W w' : World} {v : Value} {N : Nat} {L : List Nat} (f : Fr S0 w W) (h : AccB W w' v N L) : AccB w w' v N L := ⟨h.own, fun k hk => Nat.le_trans f.size (h.fresh k hk), f.trans0 h.fr⟩
end Go.Proofs.YtaemgflhgdlmiaaGreat

namespace Go.Proofs.YtaemgflhgdlmiaaGreat
open Go.RowKit
theorem NewSk.turn {w W W' : World} {g h h' s A m : Nat} {a l : List Pr} (k : NewSk w W g h s A m a) (t : TurnS W W' g h h' s A m l) : NewSk w W' g h' s A m l := by
  have h0 := k.h0
  have hl := k.hl
  have hs := t.fr.size
  have hf := k.fr.size
  refine ⟨t.is, k.g0, ?_, ?_, k.s0, k.fr.trans t.fr fun j hj e => ?_⟩
  · rcases t.row with rfl | ⟨x, _⟩
    · exact h0
    · omega
  · rcases t.row with rfl | ⟨_, x⟩
    · omega
    · exact x
  · have := k.g0
    omega
theorem NewSk.fr0 {w W W' : World} {g h s A m : Nat} {a : List Pr} (k : NewSk w W g h s A m a) (f : Fr S0 W W') : NewSk w W' g h s A m a :=
  ⟨k.is.fr0 f, k.g0, k.h0, Nat.lt_of_lt_of_le k.hl f.size, k.s0, k.fr.trans0 f⟩
theorem NewSk.back {w W W' : World} {g h s A m : Nat} {a : List Pr} (f : Fr S0 w W) (k : NewSk W W' g h s A m a) : NewSk w W' g h s A m a :=
  ⟨k.is, Nat.le_trans f.size k.g0, Nat.le_trans f.size k.h0, k.hl, Nat.le_trans f.size k.s0, f.trans0 k.fr⟩
theorem AccB.sl {w w' : World} {v : Value} {N : Nat} {L : List Nat} (h : AccB w w' v N L) : ∃ q c, v = .slice q N c ∧ SlI w' .u8 q L ∧ (q = none → c = 0) ∧ N ≤ c ∧ c ≤ maxLen := by
  obtain ⟨q, c, rfl, h0, h1, h2⟩ := slForm h.own
  exact ⟨q, c, rfl, SlI.ofOwns h.own, h0, h1, h2⟩
theorem sl_txt {w : World} {q : Option Addr} {n d : Nat} {l : List Nat} (h : SlI w .u8 q l) (hn : l.length = n) : (convert 30 9 (.slice q n d)).run Tryz.prog w = .ok (.string (strB l)) w := by
  have := conv_sl h n d (by omega)
  rwa [List.take_of_length_le (by omega)] at this
theorem ex21_k8 : skeyI 5000 8 = 2 := by kernel_rfl
theorem ex21_k1 : skeyI 5000 1 = 1 := by kernel_rfl
theorem ex21_l1 : ddL 5000 [] 8 1 = [(2, 1)] := by
  unfold ddL
  rw [ex21_k8]
  decide
theorem ex21_l2 : ddL 5000 [(2, 1)] 1 1 = [(1, 1), (2, 1)] := by
  unfold ddL
  rw [ex21_k1]
  decide
def ex21B : List Nat := [136, 39, 2, 2, 0, 2, 1, 0, 1]
theorem ex21_b : ddB 5000 2 (cutN [(1, 1), (2, 1)] 2) (cutA [(1, 1), (2, 1)] 2) = ex21B := by kernel_rfl
theorem ex21_c : cutN [(1, 1), (2, 1)] 2 = [(1, 1), (2, 1)] ∧ cutA [(1, 1), (2, 1)] 2 = 0 := by decide
theorem ex21_new (W : World) : Calls Tryz.prog 24 #[.int .i64 5000, .int .i64 2] W fun e w' => ∃ g h s, e = .returned (.tuple #[.pointer (some ⟨g, 0, none⟩), .int .i64 0]) ∧ NewSk W w' g h s 5000 2 [] := ddnew_yes 5000 2 W (by decide) (by decide) (by decide) (by decide)
theorem ex21_add1 {w W : World} {g h s : Nat} (k : NewSk w W g h s 5000 2 []) :
    Calls Tryz.prog 25 #[.pointer (some ⟨g, 0, none⟩), .int .i64 8, .int .u64 1] W fun e w' => ∃ v h', e = .returned v ∧ NewSk w w' g h' s 5000 2 [(2, 1)] := by
  have := dadd_any g h s 5000 2 1 8 [] W k.is k.hl (by decide) (by decide) (by decide)
  rw [ex21_l1] at this
  exact this.mono fun e w' ⟨h1, h', t⟩ => ⟨_, h', h1, k.turn t⟩
theorem ex21_add2 {w W : World} {g h s : Nat} (k : NewSk w W g h s 5000 2 [(2, 1)]) :
    Calls Tryz.prog 25 #[.pointer (some ⟨g, 0, none⟩), .int .i64 1, .int .u64 1] W fun e w' => ∃ v h', e = .returned v ∧ NewSk w w' g h' s 5000 2 [(1, 1), (2, 1)] := by
  have := dadd_any g h s 5000 2 1 1 [(2, 1)] W k.is k.hl (by decide) (by decide) (by decide)
  rw [ex21_l2] at this
  exact this.mono fun e w' ⟨h1, h', t⟩ => ⟨_, h', h1, k.turn t⟩
theorem ex21_write {w W : World} {g h s : Nat} (k : NewSk w W g h s 5000 2 [(1, 1), (2, 1)]) :
    Calls Tryz.prog 9 #[.pointer (some ⟨g, 0, none⟩)] W fun e w' => ∃ q c, e = .returned (.tuple #[.slice q 9 c, .int .i64 0]) ∧ SlI w' .u8 q ex21B ∧ (q = none → c = 0) ∧ Fr S0 w w' ∧ RdOk ex21B 5000 2 [(1, 1), (2, 1)] 0 := by
  have hd := DdOk.of k.is.ok k.is.m2 k.is.m3 k.is.a1 k.is.a2 k.is.ks
  have hr : RdOk ex21B 5000 2 (cutN [(1, 1), (2, 1)] 2) (cutA [(1, 1), (2, 1)] 2) := (rdOk_iff (by decide)).2 ⟨ex21_b.symm, hd⟩
  rw [ex21_c.1, ex21_c.2] at hr
  refine (dwrite_any g h s 5000 2 _ W k.is).mono ?_
  rintro e w' ⟨v, rfl, acc⟩
  rw [ex21_b] at acc
  obtain ⟨q, c, rfl, a1, a2, -⟩ := acc.sl
  exact ⟨q, c, rfl, a1, a2, k.fr.trans0 acc.fr, hr⟩
theorem ex21_read {w : World} {q : Option Addr} {c : Nat} (hs : SlI w .u8 q ex21B) (h0 : q = none → c = 0) (hr : RdOk ex21B 5000 2 [(1, 1), (2, 1)] 0) :
    Calls Tryz.prog 11 #[.slice q 9 c] w fun e w' => ∃ g, e = .returned (.tuple #[.pointer (some ⟨g, 0, none⟩), .int .i64 0]) ∧ Fr S0 w w' ∧ (∀ W, Fr S0 w' W → Calls Tryz.prog 26 #[.pointer (some ⟨g, 0, none⟩)] W fun e w' => e = .returned (.int .u64 2) ∧ Fr S0 W w') := by
  refine (dread_any q c 9 ex21B w rfl hs (by decide) h0 (by decide)).mono ?_
  rintro e w' (⟨A, m, L, f, a, gs, h, s, hr2, rfl, k, e1, e2⟩ | ⟨hno, -⟩)
  · refine ⟨gs, rfl, k.fr, fun W fW => ?_⟩
    have hx := hr.1.symm.trans hr2.1
    simp only [Option.some.injEq, Prod.mk.injEq, and_true] at hx
    obtain ⟨rfl, rfl, rfl, rfl⟩ := hx
    have ht : ltot a = 2 := by
      have := cut_tot (m := 2) k.is.ok.srt k.is.ok.pos (by decide)
      rw [e1] at this
      exact this.symm.trans (by decide)
    have hc := dtotal_any gs h s 5000 2 a W (k.is.fr0 fW)
    rwa [ht] at hc
  · exact absurd ⟨_, _, _, _, hr⟩ hno
theorem alive21_any (w : World) : Calls Tryz.prog 7 #[] w fun e w' => e = .returned (.bool true) ∧ Fr S0 w w' := by
  have HN := Lib.hid (ex21_new w)
  go_enter Tryz.func7, Tryz.ntmps7
  go_wp2_with fail
  refine HN.out.mono ?_
  rintro e w1 ⟨g, h, s, rfl, k⟩
  have H1 := Lib.hid (ex21_add1 k)
  clear k HN
  go_wp2_with fail
  refine H1.out.mono ?_
  rintro e w2 ⟨v, h2, rfl, k⟩
  have H2 := Lib.hid (ex21_add2 k)
  clear k H1
  go_wp2_with fail
  refine H2.out.mono ?_
  rintro e w3 ⟨v3, h3, rfl, k⟩
  have H3 := Lib.hid (ex21_write k)
  clear k H2
  go_wp2_with fail
  refine H3.out.mono ?_
  rintro e w4 ⟨q, c, rfl, sl, h0, f4, hr⟩
  have F4 := Lib.hid f4
  have HSL := Lib.hid sl
  have H4 := Lib.hid (ex21_read sl h0 hr)
  clear sl h0 hr f4 H3
  go_wp2_with fail
  refine H4.out.mono ?_
  rintro e w5 ⟨gt, rfl, f5, ht⟩
  have cva : ∀ c, (convert 30 9 (.slice q 9 c)).run Tryz.prog w5 = .ok (.string { data := #[136, 39, 2, 2, 0, 2, 1, 0, 1] }) w5 := fun c => sl_txt (HSL.out.fr0 f5) rfl
  have F5 := Lib.hid (F4.out.trans0 f5)
  have HT := Lib.hid ht
  clear f5 ht H4 HSL F4
  go_wp2_with fail
  refine (HT.out _ (Fr.refl _ _)).mono ?_
  rintro e w6 ⟨rfl, f6⟩
  have F6 := Lib.hid (F5.out.trans0 f6)
  clear f6
  go_wp2_with fail
  go_ret
  exact ⟨rfl, F6.out⟩
end Go.Proofs.YtaemgflhgdlmiaaGreat
