/- ZlOpen -/
import Derived.Test.YtnndgpggjlhhpaaGreatPt1
import Derived.Test.YtnndgpggjlhhpaaGreatPt2
import Derived.Test.YtnndgpggjlhhpaaGreatPt15
import Derived.Test.YtnndgpggjlhhpaaGreatPt19
import Derived.Test.YtnndgpggjlhhpaaGreatPt20
import Derived.Test.YtnndgpggjlhhpaaGreatPt21
import Derived.Test.YtnndgpggjlhhpaaGreatPt22
import Derived.Test.YtnndgpggjlhhpaaGreatPt23
import Derived.Test.YtnndgpggjlhhpaaGreatPt24
import Derived.Test.YtnndgpggjlhhpaaGreatPt33
import Derived.Test.YtnndgpggjlhhpaaGreatPt34
import Derived.Defers
import Derived.Recover
import Derived.Stop.BytesEq
import Derived.Laws.Cover3
import Derived.WalkKit
import Derived.StillTailTactics
import Derived.WalkSpells
import Derived.WalkLawsBesides
import Derived.Deep.QuietTactic
import Derived.BigQuiet
import Derived.RegionTactic
import Derived.Deep.AppendLies
import Derived.Deep.RegionLaw
import Derived.Laws.ResultCell
import Derived.Laws.EntriesVeiled
import Derived.Lib.Hide
import Derived.Test.YtnndgpggjlhhpaaGreatRows
import Derived.Laws.BytesArg
import Derived.Lib.SlBytesConst
import Derived.Maps.AppendAt
import Derived.Laws.AppendOwnNone
import Derived.Laws.MakeOwn
import Derived.BigRegion
import Derived.Laws.OwnMore
import Derived.IntWalk
import Derived.Lib.MakeNoZero
import Derived.Laws.CopyOwn
import Derived.Laws.Tables
import Derived.Deep.RegionHeld3
set_option maxRecDepth 100000
set_option maxHeartbeats 8000000
namespace Go.Proofs.YtnndgpggjlhhpaaGreat
open Go.RowKit
theorem zcatch_idle (p q : Addr) (w : World) :
    CallsD Tryz.prog 103 #[.pointer (some p), .pointer (some q)] .returning w fun e u' w' => e = .returned (.tuple #[]) ∧ u' = .returning ∧ w' = w := by
  have hnn : ∀ w, (binOp .eql 20 .nilIface .nilIface).run Tryz.prog w = .ok (.bool true) w := fun w => by kernel_rfl
  refine callsD_of_wpS Tryz.func103 rfl fun c₀ cs hu => ?_
  apply wpS_seq
  apply wpS_region
  simp [wpOpsS, go_sem, recoverD, hu, Tryz.ntmps103, Exit.thenS]
  refine wpS_of_wp ?_
  have et : (#[Value.pointer (some p), Value.pointer (some q)] ++ (Array.replicate 11 undef).setIfInBounds 3 Value.nilIface) = #[Value.pointer (some p), Value.pointer (some q), undef, undef, undef, .nilIface, undef, undef, undef, undef, undef, undef, undef] := rfl
  rw [et]
  go_wp2_with fail
  exact ⟨rfl, .returning, by cases c₀; simp_all, .tuple #[], by simp [results, Tryz.results103], rfl, rfl, rfl⟩
theorem zcatch_given (p q : Nat) (m : Nat) (V : Value) (E : Int) (w : World) (hp : w.heap[p]? = some (.cells #[V] 31 (0, 0))) (hq : w.heap[q]? = some (.cells #[.int .i64 E] 36 (0, 0))) (pq : p ≠ q) :
    CallsD Tryz.prog 103 #[.pointer (some ⟨p, 0, none⟩), .pointer (some ⟨q, 0, none⟩)] (.panicking (zch m)) w fun e u' w' => e = .returned (.tuple #[]) ∧ settle u' = .returning ∧
      Fr (fun j => j = p ∨ j = q) w w' ∧ w'.heap[p]? = some (.cells #[.slice none 0 0] 31 (0, 0)) ∧ w'.heap[q]? = some (.cells #[.int .i64 (m : Nat)] 36 (0, 0)) := by
  have hnn : ∀ (v : Value) w, (binOp .eql 20 (.iface 144 v) .nilIface).run Tryz.prog w = .ok (.bool false) w := fun v w => by kernel_rfl
  have hta : ∀ (v : Value) w, (Instr.typeAssert (.iface 144 v) 20 144 true).run Tryz.prog w = .ok (.tuple #[v, .bool true]) w := fun v w => by kernel_rfl
  unfold zch
  refine callsD_of_wpS Tryz.func103 rfl fun c₀ cs hu => ?_
  apply wpS_seq
  apply wpS_region
  simp [wpOpsS, go_sem, recoverD, hu, Tryz.ntmps103, Exit.thenS]
  refine wpS_of_wp ?_
  have et : ∀ v : Value, (#[Value.pointer (some ⟨p, 0, none⟩), Value.pointer (some ⟨q, 0, none⟩)] ++ (Array.replicate 11 undef).setIfInBounds 3 v) = #[Value.pointer (some ⟨p, 0, none⟩), Value.pointer (some ⟨q, 0, none⟩), undef, undef, undef, v, undef, undef, undef, undef, undef, undef, undef] := fun _ => rfl
  rw [et]
  have HU := Lib.hid hu
  clear hu
  go_wp2_with fail
  have fa := Fr.alloc S0 w (.cells #[.int .i64 (m : Nat)] 144)
  have b0 := heap_alloc_new w (.cells #[.int .i64 (m : Nat)] 144)
  have bp := fa.row hp (fun h => h)
  have bq := fa.row hq (fun h => h)
  have np : p ≠ w.heap.size := Nat.ne_of_lt (Array.getElem?_eq_some_iff.1 hp).1
  have nq : q ≠ w.heap.size := Nat.ne_of_lt (Array.getElem?_eq_some_iff.1 hq).1
  have FA := Lib.hid fa
  generalize w.alloc (.cells #[.int .i64 (m : Nat)] 144) = W at b0 bp bq FA ⊢
  generalize w.heap.size = n at b0 np nq ⊢
  have BP := Lib.hid bp
  have BQ := Lib.hid bq
  clear hp hq fa
  have hc0 : W.cell? ⟨n, 0, none⟩ = some (.int .i64 (m : Nat)) := by simp [World.cell?, b0]
  have hc1 : W.cell? ⟨p, 0, none⟩ = some V := by simp [World.cell?, bp]
  have hc2 : W.cell? ⟨q, 0, none⟩ = some (.int .i64 E) := by simp [World.cell?, bq]
  have hz1 : W.frozen? ⟨p, 0, none⟩ = false := by simp [World.frozen?, bp]
  have hz2 : W.frozen? ⟨q, 0, none⟩ = false := by simp [World.frozen?, bq]
  clear b0 bp bq hta hnn et
  go_region
  have f1 : Fr (fun j => j = p ∨ j = q) W (W.setCell ⟨p, 0, none⟩ (.slice none 0 0)) := Fr.setCell _ _ _ _ (.inl rfl)
  have f2 : Fr (fun j => j = p ∨ j = q) _ ((W.setCell ⟨p, 0, none⟩ (.slice none 0 0)).setCell ⟨q, 0, none⟩ (.int .i64 (m : Nat))) := Fr.setCell _ _ _ _ (.inr rfl)
  have g1 : (W.setCell ⟨p, 0, none⟩ (.slice none 0 0)).heap[p]? = some (.cells #[.slice none 0 0] 31 (0, 0)) := heap_setCell_same W p 0 _ _ _ BP.out
  have g2 := (Fr.setCell (· = p) W ⟨p, 0, none⟩ (.slice none 0 0) rfl).row BQ.out (fun e => pq e.symm)
  generalize W.setCell ⟨p, 0, none⟩ (.slice none 0 0) = W1 at f1 f2 g1 g2 ⊢
  have k1 := (Fr.setCell (· = q) W1 ⟨q, 0, none⟩ (.int .i64 (m : Nat)) rfl).row g1 pq
  have k2 : (W1.setCell ⟨q, 0, none⟩ (.int .i64 (m : Nat))).heap[q]? = some (.cells #[.int .i64 (m : Nat)] 36 (0, 0)) := heap_setCell_same W1 q 0 _ _ _ g2
  generalize W1.setCell ⟨q, 0, none⟩ (.int .i64 (m : Nat)) = W2 at f2 k1 k2 ⊢
  have HFF : Hid (Fr (fun j => j = p ∨ j = q) w W2.drew) := Lib.hid ((((FA.out.mono (fun _ _ h => h.elim)).trans f1 (fun _ _ h => h)).trans f2 (fun _ _ h => h)).trans0 (Fr.drew _ _))
  have L1 := Lib.hid k1
  have L2 := Lib.hid k2
  clear f1 f2 g1 g2 k1 k2 hc0 hc1 hc2 hz1 hz2 FA
  go_wp2_with fail
  exact ⟨rfl, .panicking [{ v := .iface 144 (.agg #[.int .i64 (m : Nat)]), recovered := true }], rfl, .tuple #[], by simp [results, Tryz.results103], rfl, rfl, HFF.out, L1.out, L2.out⟩
def OpenEnds (x : Res (List Nat)) (w : World) (e : Ending) (w' : World) : Prop :=
  Fr S0 w w' ∧ match x with
  | .ok T _ => ∃ v, e = .returned (.tuple #[v, .int .i64 0]) ∧ RowNew w w' v T
  | .no m => e = .returned (.tuple #[.slice none 0 0, .int .i64 (m : Nat)])
theorem OpenEnds.no {x : Res (List Nat)} {w w' : World} {m : Nat} (h : x = .no m) (hf : Fr S0 w w') : OpenEnds x w (.returned (.tuple #[.slice none 0 0, .int .i64 (m : Nat)])) w' := by subst h; exact ⟨hf, rfl⟩
theorem OpenEnds.ok {x : Res (List Nat)} {w w' : World} {T : List Nat} {k : Nat} {v : Value} (h : x = .ok T k) (hf : Fr S0 w w') (hv : RowNew w w' v T) : OpenEnds x w (.returned (.tuple #[v, .int .i64 0])) w' := by subst h; exact ⟨hf, v, rfl, hv⟩
theorem OpnIs.fr {S : Nat → Prop} {w w' : World} {g B o n c : Nat} {l : List Nat} (h : OpnIs w g B o n c l) (f : Fr S w w') (hg : ¬ S g) (hB : ¬ S B) : OpnIs w' g B o n c l :=
  ⟨f.row h.blk hg, h.sl.fr f (fun _ a e => by simp only [Option.some.injEq] at e; subst e; exact hB), h.len, h.cap, h.ne⟩
theorem set_first {w : World} {g : Nat} {x y : Value} {t : TypeId} (h : w.heap[g]? = some (.cells #[x] t (0, 0))) : (w.setCell ⟨g, 0, none⟩ y).heap[g]? = some (.cells #[y] t (0, 0)) := by rw [heap_setCell_same w g 0 _ _ _ h]; rfl
theorem res2 {tmps : Array Value} {w : World} {p q : Nat} {v : Value} {e : Int} (h4 : tmps.getD 4 undef = .pointer (some ⟨p, 0, none⟩)) (h5 : tmps.getD 5 undef = .pointer (some ⟨q, 0, none⟩))
    (hp : w.heap[p]? = some (.cells #[v] 31 (0, 0))) (hq : w.heap[q]? = some (.cells #[.int .i64 e] 36 (0, 0))) :
    (results Tryz.f67 tmps).run Tryz.prog w = .ok (.tuple #[v, .int .i64 e]) w := by
  have c1 : w.cell? ⟨p, 0, none⟩ = some v := by simp [World.cell?, hp]
  have c2 : w.cell? ⟨q, 0, none⟩ = some (.int .i64 e) := by simp [World.cell?, hq]
  have h4' : tmps[4]?.getD undef = .pointer (some ⟨p, 0, none⟩) := by simpa using h4
  have h5' : tmps[5]?.getD undef = .pointer (some ⟨q, 0, none⟩) := by simpa using h5
  simp [results, Tryz.results67, asAddr, h4', h5', go_sem, c1, c2]
structure Two (w0 w : World) (v : Value) (e : Int) : Prop where
  c1 : w.heap[w0.heap.size]? = some (.cells #[v] 31 (0, 0))
  c2 : w.heap[w0.heap.size + 1]? = some (.cells #[.int .i64 e] 36 (0, 0))
  fr : Fr S0 w0 w
theorem Two.to {w0 w w' : World} {g : Nat} {v : Value} {e : Int} (h : Two w0 w v e) (f : Fr (· = g) w w') (hg : w0.heap.size + 2 ≤ g) : Two w0 w' v e :=
  ⟨f.row h.c1 (by omega), f.row h.c2 (by omega), h.fr.trans f (fun j hj e => by omega)⟩
theorem Two.to0 {w0 w w' : World} {v : Value} {e : Int} (h : Two w0 w v e) (f : Fr S0 w w') : Two w0 w' v e := ⟨f.row h.c1 (fun h => h), f.row h.c2 (fun h => h), h.fr.trans0 f⟩
theorem Two.mk2 (w : World) (v : Value) (e : Int) : Two w ((w.alloc (.cells #[v] 31)).alloc (.cells #[.int .i64 e] 36)) v e ∧ ((w.alloc (.cells #[v] 31)).alloc (.cells #[.int .i64 e] 36)).heap.size = w.heap.size + 2 := by
  have f2 := Fr.alloc S0 (w.alloc (.cells #[v] 31)) (.cells #[.int .i64 e] 36)
  have b2 := heap_alloc_new (w.alloc (.cells #[v] 31)) (.cells #[.int .i64 e] 36)
  rw [size_alloc] at b2
  exact ⟨⟨f2.row (heap_alloc_new w _) (fun h => h), b2, (Fr.alloc S0 w _).trans0 f2⟩, by rw [size_alloc, size_alloc]⟩
theorem open_few {x : Res (List Nat)} (p : Option Addr) (n d lim : Nat) (w : World) (hn : n < 2) (hl : lim ≤ 1048576) (hx : x = .no 20) :
    Calls Tryz.prog 67 #[.slice p n d, .int .i64 (lim : Nat)] w (OpenEnds x w) := by
  have K := Lib.hid hx
  have HT := Lib.hid (Two.mk2 w (.slice none 0 0) 0)
  have hmf : ∀ (fn : Fn) (first cap : Array Value) (w : World), (Instr.makeFunc fn first cap).run Tryz.prog w = .ok (.func fn first cap) w := fun _ _ _ _ => rfl
  have i1 : (lim : Int) ≥ 0 := by omega
  have i2 : (lim : Int) ≤ 1048576 := by omega
  clear hx
  go_enter_defers Tryz.func67, Tryz.ntmps67
  go_wp2_with fail
  have HT1 := Lib.hid HT.out.1
  have HSZ := Lib.hid HT.out.2
  generalize (w.alloc (.cells #[.slice none 0 0] 31)).alloc (.cells #[.int .i64 0] 36) = W at HT1 HSZ ⊢
  clear HT
  refine (zdemand_yes 1 _).mono ?_
  rintro _ w1 ⟨rfl, rfl⟩
  go_wp2_with fail
  have HT2 := Lib.hid (HT1.out.to0 (Fr.alloc S0 W (.cells #[.slice p n d] 148)))
  have b3 := heap_alloc_new W (.cells #[.slice p n d] 148)
  generalize W.alloc (.cells #[.slice p n d] 148) = W3 at b3 HT2 ⊢
  have c3 : W3.cell? ⟨W.heap.size, 0, none⟩ = some (.slice p n d) := by simp [World.cell?, b3]
  refine (head_few W.heap.size n d p W3 c3 hn).mono ?_
  rintro _ w4 ⟨rfl, rfl⟩
  go_wp2_with fail
  refine leaves_cons (f := 103) (args := #[.pointer (some ⟨w.heap.size, 0, none⟩), .pointer (some ⟨w.heap.size + 1, 0, none⟩)]) (by simp) (by simp [go_sem]) ?_
  refine (zcatch_given w.heap.size (w.heap.size + 1) 20 _ _ _ HT2.out.c1 HT2.out.c2 (by omega)).mono ?_
  rintro e u' wz ⟨rfl, hset, fz, z1, z2⟩
  show Leaves _ _ _ _ [] (settle u') wz
  rw [hset]
  exact ⟨_, res2 rfl rfl z1 z2, OpenEnds.no K.out (HT2.out.fr.trans fz (fun j hj e => by omega))⟩
theorem open_any {x : Res (List Nat)} (p : Option Addr) (n d lim : Nat) (b : List Nat) (w : World) (hn : b.length = n) (hb : SlI w .u8 p b) (h8 : ∀ x ∈ b, x < 256) (hd : n ≤ d) (hdm : d ≤ maxLen) (hs : n ≤ 1000000) (hl : lim ≤ 1048576) (hx : zopen b lim = x) :
    Calls Tryz.prog 67 #[.slice p n d, .int .i64 (lim : Nat)] w (OpenEnds x w) := by
  by_cases h2 : n < 2
  · exact open_few p n d lim w h2 hl (by rw [← hx]; unfold zopen; rw [if_pos (by omega)])
  · obtain ⟨B, o, rfl, -⟩ := hb.at 0 (by omega)
    have HT := Lib.hid (Two.mk2 w (.slice none 0 0) 0)
    have hmf : ∀ (fn : Fn) (first cap : Array Value) (w : World), (Instr.makeFunc fn first cap).run Tryz.prog w = .ok (.func fn first cap) w := fun _ _ _ _ => rfl
    have i1 : (lim : Int) ≥ 0 := by omega
    have i2 : (lim : Int) ≤ 1048576 := by omega
    have HB := Lib.hid hb
    have H8 := Lib.hid h8
    have HBL := Lib.hid (hb.lt (by intro e; subst e; simp at hn; omega) _ rfl)
    have HN := Lib.hid hn
    have HC := Lib.hid (And.intro hd (And.intro hdm (And.intro hs (And.intro hl h2))))
    have HX : Hid ((if hdB b = false then Res.no 90 else (infl (b.drop 2) lim).then fun T k => rest9 ((b.drop 2).drop (upN k / 8)) T) = x) := Lib.hid (by rw [← hx]; unfold zopen; exact (if_neg (by omega)).symm)
    clear hb h8 hn hd hdm hs hl h2 hx
    go_enter_defers Tryz.func67, Tryz.ntmps67
    go_wp2_with fail
    have HT1 := Lib.hid HT.out.1
    have HSZ := Lib.hid HT.out.2
    generalize (w.alloc (.cells #[.slice none 0 0] 31)).alloc (.cells #[.int .i64 0] 36) = W at HT1 HSZ ⊢
    clear HT
    refine (zdemand_yes 1 _).mono ?_
    rintro _ w1 ⟨rfl, rfl⟩
    go_wp2_with fail
    have f3 := Fr.alloc S0 W (.cells #[.slice (some ⟨B, o, none⟩) n d] 148)
    have HT2 := Lib.hid (HT1.out.to0 f3)
    have b3 := heap_alloc_new W (.cells #[.slice (some ⟨B, o, none⟩) n d] 148)
    have HG : Hid (w.heap.size + 2 ≤ W.heap.size) := Lib.hid (by rw [HSZ.out]; exact Nat.le_refl _)
    generalize W.alloc (.cells #[.slice (some ⟨B, o, none⟩) n d] 148) = W3 at b3 f3 HT2 ⊢
    obtain ⟨g, hg⟩ : ∃ g, W.heap.size = g := ⟨_, rfl⟩
    rw [hg] at b3 HG ⊢
    have HO : Hid (OpnIs W3 g B o n d b) := Lib.hid ⟨b3, (HB.out.fr0 HT2.out.fr), HN.out, ⟨HC.out.1, HC.out.2.1⟩, fun e => by have a : B < w.heap.size := HBL.out; have c := HG.out; omega⟩
    have KH := Lib.hid (head_any W3 HO.out H8.out (by have := HC.out.2.2.2.2; omega))
    clear b3 f3 HT1 HSZ hg i1 i2 HO HB HN
    refine KH.out.mono ?_
    rintro _ w4 ⟨f4, h4⟩
    have HT4 := Lib.hid (HT2.out.to f4 HG.out)
    cases hh : hdB b with
    | false =>
      rw [hh] at h4 HX
      have K := Lib.hid HX.out.symm
      rw [if_neg (by decide)] at h4
      subst h4
      clear f4 hh KH HX HT2
      go_wp2_with fail
      refine leaves_cons (f := 103) (args := #[.pointer (some ⟨w.heap.size, 0, none⟩), .pointer (some ⟨w.heap.size + 1, 0, none⟩)]) (by simp) (by simp [go_sem]) ?_
      refine (zcatch_given w.heap.size (w.heap.size + 1) 90 _ _ _ HT4.out.c1 HT4.out.c2 (by omega)).mono ?_
      rintro e u' wz ⟨rfl, hset, fz, z1, z2⟩
      show Leaves _ _ _ _ [] (settle u') wz
      rw [hset]
      exact ⟨_, res2 rfl rfl z1 z2, OpenEnds.no K.out (HT4.out.fr.trans fz (fun j hj e => by omega))⟩
    | true =>
      rw [hh] at h4 HX
      rw [if_pos rfl] at h4
      obtain ⟨rfl, o4, k4⟩ := h4
      have H84 : Hid (∀ x ∈ b.drop 2, x < 256) := Lib.hid (fun x hx => H8.out x (List.mem_of_mem_drop hx))
      have K4 := Lib.hid k4
      have KS := Lib.hid (stream_any lim w4 k4 H84.out (by have := HC.out.2.2.1; omega) HC.out.2.2.2.1)
      have HX4 : Hid (((infl (b.drop 2) lim).then fun T k => rest9 ((b.drop 2).drop (upN k / 8)) T) = x) := Lib.hid (by have := HX.out; rw [if_neg (by decide)] at this; exact this)
      clear f4 hh KH HX HT2 k4 H8
      go_wp2_with fail
      refine KS.out.mono ?_
      rintro _ w5 ⟨f5, h5⟩
      have HT5 := Lib.hid (HT4.out.to f5 HG.out)
      have HI8 : Hid (∀ T k, infl (b.drop 2) lim = .ok T k → ∀ y ∈ T, y < 256) := Lib.hid fun T k e => infl_256 H84.out e
      generalize infl (b.drop 2) lim = R at h5 HX4 HI8
      cases R with
      | no m =>
        dsimp only at h5
        subst h5
        have K := Lib.hid HX4.out.symm
        clear f5 KS HX4 HT4 K4
        go_wp2_with fail
        refine leaves_cons (f := 103) (args := #[.pointer (some ⟨w.heap.size, 0, none⟩), .pointer (some ⟨w.heap.size + 1, 0, none⟩)]) (by simp) (by simp [go_sem]) ?_
        refine (zcatch_given w.heap.size (w.heap.size + 1) m _ _ _ HT5.out.c1 HT5.out.c2 (by omega)).mono ?_
        rintro e u' wz ⟨rfl, hset, fz, z1, z2⟩
        show Leaves _ _ _ _ [] (settle u') wz
        rw [hset]
        exact ⟨_, res2 rfl rfl z1 z2, OpenEnds.no K.out (HT5.out.fr.trans fz (fun j hj e => by omega))⟩
      | ok T k =>
        obtain ⟨v, rfl, V5, o5, k5⟩ := h5
        obtain ⟨q, cq, rfl, hq, hcq, -⟩ := slForm V5.own
        have K5 := Lib.hid k5
        have HV5 : Hid (RowNew w w5 (.slice q T.length cq) T) := Lib.hid ⟨V5.own, fun j hj => by have a := V5.fresh j hj; have b := HT4.out.fr.size; omega⟩
        have HVT : Hid (∀ j, Value.ownBlock (.slice q T.length cq) = some j → w.heap.size + 2 ≤ j ∧ j ≠ g) := Lib.hid fun j hj => by
          have a := V5.fresh j hj
          have b : g < w4.heap.size := (Array.getElem?_eq_some_iff.1 K4.out.blk).1
          have c := HG.out
          omega
        have HXR : Hid (rest9 ((b.drop 2).drop (upN k / 8)) T = x) := Lib.hid HX4.out
        have HT8 : Hid (∀ y ∈ T, y < 256) := Lib.hid (HI8.out T k rfl)
        have H85 : Hid (∀ x ∈ (b.drop 2).drop (upN k / 8), x < 256) := Lib.hid (fun x hx => H84.out x (List.mem_of_mem_drop hx))
        obtain ⟨r, hr⟩ : ∃ r, (b.drop 2).drop (upN k / 8) = r := ⟨_, rfl⟩
        obtain ⟨n5, hn5⟩ : ∃ n5, n - 2 - upN k / 8 = n5 := ⟨_, rfl⟩
        obtain ⟨d5, hd5⟩ : ∃ d5, d - 2 - upN k / 8 = d5 := ⟨_, rfl⟩
        rw [hr] at K5 HXR H85
        rw [hn5, hd5] at K5
        obtain ⟨N, hN⟩ : ∃ N, T.length = N := ⟨_, rfl⟩
        have HN := Lib.hid hN
        rw [hN] at HV5 HVT hcq ⊢
        have HCQ := Lib.hid hcq
        have HC5 := Lib.hid HT5.out.c1
        have c5 : w5.cell? ⟨w.heap.size, 0, none⟩ = some (.slice none 0 0) := by simp [World.cell?, HT5.out.c1]
        have z5 : w5.frozen? ⟨w.heap.size, 0, none⟩ = false := by simp [World.frozen?, HT5.out.c1]
        clear f5 KS HX4 HT4 K4 V5 k5 hr hn5 hd5 hN hq hcq H84
        go_wp2_with fail
        have f6 : Fr (· = w.heap.size) w5 (w5.setCell ⟨w.heap.size, 0, none⟩ (.slice q N cq)) := Fr.setCell _ _ _ _ rfl
        have b6 := set_first (y := .slice q N cq) HC5.out
        have HT6 : Hid (Two w (w5.setCell ⟨w.heap.size, 0, none⟩ (.slice q N cq)) (.slice q N cq) 0) := Lib.hid ⟨b6, f6.row HT5.out.c2 (by omega), HT5.out.fr.trans f6 (fun j hj e => by omega)⟩
        have K6 : Hid (OpnIs (w5.setCell ⟨w.heap.size, 0, none⟩ (.slice q N cq)) g B o5 n5 d5 r) := Lib.hid (K5.out.fr f6 (by have := HG.out; omega) (by have a : B < w.heap.size := HBL.out; omega))
        have HV6 : Hid ((w5.setCell ⟨w.heap.size, 0, none⟩ (.slice q N cq)).ownsRow 0 5 1 (.slice q N cq) N (u8s T)) := Lib.hid (f6.owns (by have a := HV5.out.own; rw [HN.out] at a; exact a) (fun j hj e => by have := HVT.out j hj; omega))
        generalize w5.setCell ⟨w.heap.size, 0, none⟩ (.slice q N cq) = w6 at HT6 K6 HV6 ⊢
        clear f6 b6 c5 z5 HC5 HT5 K5
        have KSL := Lib.hid (zseal_any q N cq T w6 HN.out (SlI.ofOwns HV6.out) HT8.out HCQ.out)
        have c6 : w6.cell? ⟨w.heap.size, 0, none⟩ = some (.slice q N cq) := by simp [World.cell?, HT6.out.c1]
        go_wp2_with fail
        refine KSL.out.mono ?_
        rintro _ w7 ⟨rfl, f7⟩
        have HT7 := Lib.hid (HT6.out.to0 f7)
        have K7 := Lib.hid (K6.out.fr0 f7)
        have HV7 := Lib.hid (f7.owns HV6.out (fun _ _ h => h))
        have KSM : Hid (Calls Tryz.prog 107 #[.pointer (some ⟨g, 0, none⟩), .agg (sum4v T)] w7 (SumEnds w7 g B n5 d5 r (sum4 T))) := Lib.hid (by
          by_cases q4 : n5 < 4
          · exact zsum_few w7 K7.out q4 (sum4_length T)
          · exact zsum_any w7 K7.out H85.out (by omega) (sum4_length T) (sum4_256 T))
        clear f7 KSL c6 HT6 K6 HV6 HV5
        go_wp2_with fail
        refine KSM.out.mono ?_
        rintro _ w8 ⟨f8, h8⟩
        have HT8' := Lib.hid (HT7.out.to f8 HG.out)
        have HV8 := Lib.hid (f8.owns HV7.out (fun j hj e => (HVT.out j hj).2 e))
        have HRL := Lib.hid K7.out.len
        clear f8 KSM HT7 K7 HV7
        by_cases q4 : n5 < 4
        · rw [if_pos q4] at h8
          subst h8
          have K : Hid (x = .no 20) := Lib.hid (by rw [← HXR.out]; unfold rest9; rw [if_pos (by rw [HRL.out]; exact q4)])
          clear q4
          go_wp2_with fail
          refine leaves_cons (f := 103) (args := #[.pointer (some ⟨w.heap.size, 0, none⟩), .pointer (some ⟨w.heap.size + 1, 0, none⟩)]) (by simp) (by simp [go_sem]) ?_
          refine (zcatch_given w.heap.size (w.heap.size + 1) 20 _ _ _ HT8'.out.c1 HT8'.out.c2 (by omega)).mono ?_
          rintro e u' wz ⟨rfl, hset, fz, z1, z2⟩
          show Leaves _ _ _ _ [] (settle u') wz
          rw [hset]
          exact ⟨_, res2 rfl rfl z1 z2, OpenEnds.no K.out (HT8'.out.fr.trans fz (fun j hj e => by omega))⟩
        · rw [if_neg q4] at h8
          by_cases q5 : r.take 4 ≠ sum4 T
          · rw [if_pos q5] at h8
            subst h8
            have K : Hid (x = .no 91) := Lib.hid (by rw [← HXR.out]; unfold rest9; rw [if_neg (by rw [HRL.out]; exact q4), if_pos q5])
            clear q4 q5
            go_wp2_with fail
            refine leaves_cons (f := 103) (args := #[.pointer (some ⟨w.heap.size, 0, none⟩), .pointer (some ⟨w.heap.size + 1, 0, none⟩)]) (by simp) (by simp [go_sem]) ?_
            refine (zcatch_given w.heap.size (w.heap.size + 1) 91 _ _ _ HT8'.out.c1 HT8'.out.c2 (by omega)).mono ?_
            rintro e u' wz ⟨rfl, hset, fz, z1, z2⟩
            show Leaves _ _ _ _ [] (settle u') wz
            rw [hset]
            exact ⟨_, res2 rfl rfl z1 z2, OpenEnds.no K.out (HT8'.out.fr.trans fz (fun j hj e => by omega))⟩
          · rw [if_neg q5] at h8
            obtain ⟨rfl, o8, k8⟩ := h8
            have HQ := Lib.hid (And.intro q4 q5)
            have c8 := k8.c0
            clear q4 q5
            by_cases q6 : n5 - 4 = 0
            · have K : Hid (x = .ok T 0) := Lib.hid (by rw [← HXR.out]; unfold rest9; rw [if_neg (by rw [HRL.out]; exact HQ.out.1), if_neg HQ.out.2, if_neg (by rw [HRL.out]; omega)])
              rw [q6] at c8
              clear q6 k8
              go_wp2_with fail
              refine (end_yes g _ _ w8 c8).mono ?_
              rintro _ w9 ⟨rfl, rfl⟩
              have d1 : w8.cell? ⟨w.heap.size, 0, none⟩ = some (.slice q N cq) := by simp [World.cell?, HT8'.out.c1]
              have d2 : w8.cell? ⟨w.heap.size + 1, 0, none⟩ = some (.int .i64 0) := by simp [World.cell?, HT8'.out.c2]
              have z1 : w8.frozen? ⟨w.heap.size, 0, none⟩ = false := by simp [World.frozen?, HT8'.out.c1]
              have z2 : w8.frozen? ⟨w.heap.size + 1, 0, none⟩ = false := by simp [World.frozen?, HT8'.out.c2]
              have f9 : Fr (fun j => j = w.heap.size ∨ j = w.heap.size + 1) w8 ((w8.setCell ⟨w.heap.size, 0, none⟩ (.slice q N cq)).setCell ⟨w.heap.size + 1, 0, none⟩ (.int .i64 0)) := (Fr.setCell _ _ _ _ (.inl rfl)).trans (Fr.setCell _ _ _ _ (.inr rfl)) (fun _ _ h => h)
              have e1 := set_first (y := .slice q N cq) HT8'.out.c1
              have e2 := (Fr.setCell (· = w.heap.size) w8 ⟨w.heap.size, 0, none⟩ (.slice q N cq) rfl).row HT8'.out.c2 (by omega)
              have e3 := set_first (y := .int .i64 0) e2
              have e4 := (Fr.setCell (· = w.heap.size + 1) (w8.setCell ⟨w.heap.size, 0, none⟩ (.slice q N cq)) ⟨w.heap.size + 1, 0, none⟩ (.int .i64 0) rfl).row e1 (by omega)
              have E3 := Lib.hid e3
              have E4 := Lib.hid e4
              have F9 := Lib.hid f9
              have HRN : Hid (RowNew w ((w8.setCell ⟨w.heap.size, 0, none⟩ (.slice q N cq)).setCell ⟨w.heap.size + 1, 0, none⟩ (.int .i64 0)) (.slice q N cq) T) := Lib.hid ⟨by rw [HN.out]; exact f9.owns HV8.out (fun j hj e => by have := HVT.out j hj; omega), fun j hj => by have := HVT.out j hj; omega⟩
              clear f9 e1 e2 e3 e4
              go_wp2_with fail
              refine leaves_cons (f := 103) (args := #[.pointer (some ⟨w.heap.size, 0, none⟩), .pointer (some ⟨w.heap.size + 1, 0, none⟩)]) (by simp) (by simp [go_sem]) ?_
              refine (zcatch_idle ⟨w.heap.size, 0, none⟩ ⟨w.heap.size + 1, 0, none⟩ _).mono ?_
              rintro e u' wz ⟨rfl, rfl, rfl⟩
              exact ⟨_, res2 rfl rfl E4.out E3.out, OpenEnds.ok K.out (HT8'.out.fr.trans F9.out (fun j hj e => by omega)) HRN.out⟩
            · have K : Hid (x = .no 92) := Lib.hid (by rw [← HXR.out]; unfold rest9; rw [if_neg (by rw [HRL.out]; exact HQ.out.1), if_neg HQ.out.2, if_pos (by rw [HRL.out]; omega)])
              clear k8
              go_wp2_with fail
              refine (end_no g _ _ _ w8 c8 q6).mono ?_
              rintro _ w9 ⟨rfl, rfl⟩
              go_wp2_with fail
              refine leaves_cons (f := 103) (args := #[.pointer (some ⟨w.heap.size, 0, none⟩), .pointer (some ⟨w.heap.size + 1, 0, none⟩)]) (by simp) (by simp [go_sem]) ?_
              refine (zcatch_given w.heap.size (w.heap.size + 1) 92 _ _ _ HT8'.out.c1 HT8'.out.c2 (by omega)).mono ?_
              rintro e u' wz ⟨rfl, hset, fz, z1, z2⟩
              show Leaves _ _ _ _ [] (settle u') wz
              rw [hset]
              exact ⟨_, res2 rfl rfl z1 z2, OpenEnds.no K.out (HT8'.out.fr.trans fz (fun j hj e => by omega))⟩
end Go.Proofs.YtnndgpggjlhhpaaGreat
