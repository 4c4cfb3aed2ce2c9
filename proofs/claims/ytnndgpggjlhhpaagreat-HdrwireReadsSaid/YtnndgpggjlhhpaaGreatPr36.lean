/- ZlNext, ZlStream, ZlSum -/
import Derived.Test.YtnndgpggjlhhpaaGreatPr1
import Derived.Test.YtnndgpggjlhhpaaGreatPr2
import Derived.Test.YtnndgpggjlhhpaaGreatPr15
import Derived.Test.YtnndgpggjlhhpaaGreatPr19
import Derived.Test.YtnndgpggjlhhpaaGreatPr20
import Derived.Test.YtnndgpggjlhhpaaGreatPr21
import Derived.Test.YtnndgpggjlhhpaaGreatPr22
import Derived.Test.YtnndgpggjlhhpaaGreatPr23
import Derived.Test.YtnndgpggjlhhpaaGreatPr24
import Derived.WalkKit
import Derived.StillTailTactics
import Derived.WalkSpells
import Derived.WalkLawsBesides
import Derived.Deep.QuietTactic
import Derived.BigQuiet
import Derived.RegionTactic
import Derived.Deep.AppendLies
import Derived.Deep.RegionLaw
import Derived.Laws.ResultCell
import Derived.Laws.EntriesVeiled
import Derived.Lib.Hide
import Derived.Test.YtnndgpggjlhhpaaGreatRows
import Derived.Laws.BytesArg
import Derived.Lib.SlBytesConst
import Derived.Maps.AppendAt
import Derived.Laws.AppendOwnNone
import Derived.Laws.MakeOwn
import Derived.BigRegion
import Derived.Laws.OwnMore
import Derived.IntWalk
import Derived.Lib.MakeNoZero
import Derived.Laws.CopyOwn
import Derived.Laws.Tables
import Derived.Defers
import Derived.Recover
import Derived.Deep.RegionHeld3
import Derived.Laws.Cover3
import Derived.Stop.BytesEq
set_option maxRecDepth 100000
set_option maxHeartbeats 8000000
namespace Go.Proofs.YtnndgpggjlhhpaaGreat
open Go.RowKit
structure OpnIs (w : World) (g B o n c : Nat) (l : List Nat) : Prop where
  blk : w.heap[g]? = some (.cells #[.slice (some ⟨B, o, none⟩) n c] 148 (0, 0))
  sl : SlI w .u8 (some ⟨B, o, none⟩) l
  len : l.length = n
  cap : n ≤ c ∧ c ≤ maxLen
  ne : B ≠ g
theorem OpnIs.fr0 {w w' : World} {g B o n c : Nat} {l : List Nat} (h : OpnIs w g B o n c l) (f : Fr S0 w w') : OpnIs w' g B o n c l := ⟨f.row h.blk (fun h => h), h.sl.fr0 f, h.len, h.cap, h.ne⟩
theorem OpnIs.c0 {w : World} {g B o n c : Nat} {l : List Nat} (h : OpnIs w g B o n c l) : w.cell? ⟨g, 0, none⟩ = some (.slice (some ⟨B, o, none⟩) n c) := by simp [World.cell?, h.blk]
theorem OpnIs.z0 {w : World} {g B o n c : Nat} {l : List Nat} (h : OpnIs w g B o n c l) : w.frozen? ⟨g, 0, none⟩ = false := by simp [World.frozen?, h.blk]
theorem OpnIs.go {w : World} {g B o n c : Nat} {l : List Nat} (h : OpnIs w g B o n c l) (m o' : Nat) (hm : m ≤ n) (ho : m < c → o' = o + m) :
    OpnIs (w.setCell ⟨g, 0, none⟩ (.slice (some ⟨B, o', none⟩) (n - m) (c - m))) g B o' (n - m) (c - m) (l.drop m) ∧ Fr (· = g) w (w.setCell ⟨g, 0, none⟩ (.slice (some ⟨B, o', none⟩) (n - m) (c - m))) := by
  have f : Fr (· = g) w (w.setCell ⟨g, 0, none⟩ (.slice (some ⟨B, o', none⟩) (n - m) (c - m))) := Fr.setCell _ _ _ _ rfl
  have hl := h.len
  have hc := h.cap
  refine ⟨⟨by rw [heap_setCell_same w g 0 _ _ _ h.blk]; rfl, ?_, by rw [List.length_drop]; omega, by omega, h.ne⟩, f⟩
  by_cases q : m < n
  · have e := ho (by omega)
    subst e
    exact (h.sl.fr f (fun _ a e => by simp only [Option.some.injEq] at e; subst e; exact h.ne)).drop m
  · rw [List.drop_eq_nil_of_le (by omega)]
    exact SlI.nil _ _ _
theorem next_no (g n c m : Nat) (p : Option Addr) (w : World) (hc : w.cell? ⟨g, 0, none⟩ = some (.slice p n c)) (hm : n < m) :
    Calls Tryz.prog 145 #[.pointer (some ⟨g, 0, none⟩), .int .i64 m] w fun e w' => e = Ending.panicked (zch 20) ∧ w = w' := by
  have HD := Lib.hid (zdemand_no 20 w)
  have h1 : ¬ (m : Int) ≤ (n : Int) := by omega
  clear hm
  go_enter Tryz.func145, Tryz.ntmps145
  go_wp2_with fail
  refine HD.out.mono ?_
  rintro e w' ⟨rfl, rfl⟩
  exact ⟨rfl, rfl, rfl⟩
theorem next_yes {g B o n c : Nat} {l : List Nat} (m : Nat) (w : World) (h : OpnIs w g B o n c l) (hm : m ≤ n) :
    Calls Tryz.prog 145 #[.pointer (some ⟨g, 0, none⟩), .int .i64 m] w fun e w' => e = .returned (.slice (some ⟨B, o, none⟩) m c) ∧ Fr (· = g) w w' ∧ ∃ o', OpnIs w' g B o' (n - m) (c - m) (l.drop m) := by
  have HD := Lib.hid (zdemand_yes 20 w)
  have H := Lib.hid h
  have c0 := h.c0
  have z0 := h.z0
  have hcap := h.cap
  unfold maxLen at hcap
  have HM := Lib.hid hm
  have h1 : (m : Int) ≤ (n : Int) := by omega
  have h2 : (m : Int) ≤ (c : Int) := by omega
  have h3 : (n : Int) ≤ (c : Int) := by omega
  clear h
  by_cases q : c = m
  · go_enter Tryz.func145, Tryz.ntmps145
    go_wp2_with fail
    refine HD.out.mono ?_
    rintro e w' ⟨rfl, rfl⟩
    go_wp2_with fail
    go_ret
    have k := H.out.go m o HM.out (fun h => by omega)
    have e0 : c - m = 0 := by omega
    rw [e0] at k ⊢
    exact ⟨by rw [q]; rfl, k.2, o, k.1⟩
  · go_enter Tryz.func145, Tryz.ntmps145
    go_wp2_with fail
    refine HD.out.mono ?_
    rintro e w' ⟨rfl, rfl⟩
    go_wp2_with fail
    go_ret
    exact ⟨rfl, (H.out.go m (o + m) HM.out (fun _ => rfl)).2, o + m, (H.out.go m (o + m) HM.out (fun _ => rfl)).1⟩
theorem hdB_take (l : List Nat) (h : 2 ≤ l.length) : hdB (l.take 2) = hdB l := by
  match l, h with
  | x :: y :: r, _ => simp [hdB]
def HeadEnds (w : World) (g B n c : Nat) (l : List Nat) (e : Ending) (w' : World) : Prop :=
  Fr (· = g) w w' ∧ if hdB l = true then e = .returned (.tuple #[]) ∧ ∃ o', OpnIs w' g B o' (n - 2) (c - 2) (l.drop 2) else e = Ending.panicked (zch 90)
theorem head_few (g n c : Nat) (p : Option Addr) (w : World) (hc : w.cell? ⟨g, 0, none⟩ = some (.slice p n c)) (hm : n < 2) :
    Calls Tryz.prog 105 #[.pointer (some ⟨g, 0, none⟩)] w fun e w' => e = Ending.panicked (zch 20) ∧ w = w' := by
  have HN := Lib.hid (next_no g n c 2 p w hc hm)
  clear hc hm
  go_enter Tryz.func105, Tryz.ntmps105
  go_wp2_with fail
  refine HN.out.mono ?_
  rintro e w' ⟨rfl, rfl⟩
  exact ⟨rfl, rfl, rfl⟩
theorem head_any {g B o n c : Nat} {l : List Nat} (w : World) (h : OpnIs w g B o n c l) (h8 : ∀ x ∈ l, x < 256) (hn : 2 ≤ n) :
    Calls Tryz.prog 105 #[.pointer (some ⟨g, 0, none⟩)] w (HeadEnds w g B n c l) := by
  have HN := Lib.hid (next_yes 2 w h hn)
  have HH : Hid (∀ w', Fr (· = g) w w' → Calls Tryz.prog 144 #[.slice (some ⟨B, o, none⟩) 2 c] w' fun e w'' => e = .returned (.bool (hdB l)) ∧ Fr S0 w' w'') := Lib.hid fun w' f => by
    have k := zhead_any (some ⟨B, o, none⟩) 2 c (l.take 2) w' (by rw [List.length_take, h.len]; omega) ((h.sl.fr f (fun _ a e => by simp only [Option.some.injEq] at e; subst e; exact h.ne)).take 2) (fun x hx => h8 x (List.mem_of_mem_take hx))
    rw [hdB_take l (by rw [h.len]; exact hn)] at k
    exact k
  clear h h8 hn
  unfold HeadEnds
  cases hb : hdB l with
  | false =>
    rw [hb] at HH
    clear hb
    go_enter Tryz.func105, Tryz.ntmps105
    go_wp2_with fail
    refine HN.out.mono ?_
    rintro e w1 ⟨rfl, f1, o', k1⟩
    have F1 := Lib.hid f1
    have K := Lib.hid (HH.out w1 f1)
    clear f1 k1 HN HH
    go_wp2_with fail
    refine K.out.mono ?_
    rintro e w2 ⟨rfl, f2⟩
    have F2 := Lib.hid (F1.out.trans0 f2)
    clear f2 K F1
    go_wp2_with fail
    refine (zdemand_no 90 w2).mono ?_
    rintro e w3 ⟨rfl, rfl⟩
    exact ⟨rfl, F2.out, rfl⟩
  | true =>
    rw [hb] at HH
    clear hb
    go_enter Tryz.func105, Tryz.ntmps105
    go_wp2_with fail
    refine HN.out.mono ?_
    rintro e w1 ⟨rfl, f1, o', k1⟩
    have F1 := Lib.hid f1
    have K1 := Lib.hid k1
    have K := Lib.hid (HH.out w1 f1)
    clear f1 k1 HN HH
    go_wp2_with fail
    refine K.out.mono ?_
    rintro e w2 ⟨rfl, f2⟩
    have F2 := Lib.hid (F1.out.trans0 f2)
    have K2 := Lib.hid (K1.out.fr0 f2)
    clear f2 K F1 K1
    go_wp2_with fail
    refine (zdemand_yes 90 w2).mono ?_
    rintro e w3 ⟨rfl, rfl⟩
    go_wp2_with fail
    go_end0
    exact ⟨F2.out, rfl, o', K2.out⟩
theorem end_yes (g c : Nat) (p : Option Addr) (w : World) (hc : w.cell? ⟨g, 0, none⟩ = some (.slice p 0 c)) :
    Calls Tryz.prog 108 #[.pointer (some ⟨g, 0, none⟩)] w fun e w' => e = .returned (.tuple #[]) ∧ w = w' := by
  have HD := Lib.hid (zdemand_yes 92 w)
  go_enter Tryz.func108, Tryz.ntmps108
  go_wp2_with fail
  refine HD.out.mono ?_
  rintro e w' ⟨rfl, rfl⟩
  go_wp2_with fail
  go_end0
  exact ⟨rfl, rfl⟩
theorem end_no (g n c : Nat) (p : Option Addr) (w : World) (hc : w.cell? ⟨g, 0, none⟩ = some (.slice p n c)) (hn : n ≠ 0) :
    Calls Tryz.prog 108 #[.pointer (some ⟨g, 0, none⟩)] w fun e w' => e = Ending.panicked (zch 92) ∧ w = w' := by
  have HD := Lib.hid (zdemand_no 92 w)
  have h0 : ((n : Int) == 0) = false := by rw [beq_eq_false_iff_ne]; omega
  clear hn
  go_enter Tryz.func108, Tryz.ntmps108
  go_wp2_with fail
  refine HD.out.mono ?_
  rintro e w' ⟨rfl, rfl⟩
  exact ⟨rfl, rfl, rfl⟩
end Go.Proofs.YtnndgpggjlhhpaaGreat

namespace Go.Proofs.YtnndgpggjlhhpaaGreat
open Go.RowKit
def StreamEnds (w : World) (g B n c : Nat) (l : List Nat) (x : Res (List Nat)) (e : Ending) (w' : World) : Prop :=
  Fr (· = g) w w' ∧ match x with
  | .ok T k => ∃ v, e = .returned v ∧ RowNew w w' v T ∧ ∃ o', OpnIs w' g B o' (n - upN k / 8) (c - upN k / 8) (l.drop (upN k / 8))
  | .no m => e = Ending.panicked (zch m)
theorem stream_any {g B o n c : Nat} {l : List Nat} (lim : Nat) (w : World) (h : OpnIs w g B o n c l) (h8 : ∀ x ∈ l, x < 256) (hL : n ≤ 1000000) (hl : lim ≤ 1048576) :
    Calls Tryz.prog 106 #[.pointer (some ⟨g, 0, none⟩), .int .i64 (lim : Nat)] w (StreamEnds w g B n c l (infl l lim)) := by
  have hcap := h.cap
  unfold maxLen at hcap
  have HR : Hid (Calls Tryz.prog 146 #[.slice (some ⟨B, o, none⟩) n c, .int .i64 (lim : Nat)] w (ReadEnds (infl l lim) w)) := Lib.hid (by
    have k := read_ok (some ⟨B, o, none⟩) c l lim w h.sl h8 (fun e => by cases e) (by rw [h.len]; omega) hl
    rw [h.len] at k
    exact k)
  have H := Lib.hid h
  have c0 := h.c0
  have HU : Hid (∀ T k, infl l lim = .ok T k → upN k / 8 ≤ n) := Lib.hid fun T k e => by
    have := (infl_behind e).1
    rw [h.len] at this
    unfold upN
    omega
  have HZ : Hid (∀ m, infl l lim = .no m → m ≠ 0) := Lib.hid fun m e => infl_nz l lim m e
  clear h h8 hl hcap hL
  generalize infl l lim = R at HR HU HZ ⊢
  cases R with
  | no m =>
    have h0 : ((m : Int) == 0) = false := by rw [beq_eq_false_iff_ne]; have := HZ.out m rfl; omega
    clear HU HZ
    go_enter Tryz.func106, Tryz.ntmps106
    go_wp2_with fail
    refine HR.out.mono ?_
    rintro e w1 ⟨f1, rfl⟩
    have F1 := Lib.hid f1
    clear f1 HR c0
    go_wp2_with fail
    refine (zdemand_no m w1).mono ?_
    rintro e w2 ⟨rfl, rfl⟩
    exact ⟨rfl, F1.out.mono (fun _ _ h => h.elim), rfl⟩
  | ok T k =>
    obtain ⟨U, hU⟩ : ∃ U, upN k / 8 = U := ⟨_, rfl⟩
    have hUn := HU.out T k rfl
    have HUU := Lib.hid hU
    rw [hU] at hUn
    clear HU HZ hU
    go_enter Tryz.func106, Tryz.ntmps106
    go_wp2_with fail
    refine HR.out.mono ?_
    rintro e w1 ⟨f1, v, rfl, hv⟩
    have F1 := Lib.hid f1
    have V1 := Lib.hid hv
    have K := Lib.hid (next_yes U w1 (H.out.fr0 f1) hUn)
    rw [HUU.out]
    clear f1 HR c0 hv hUn
    go_wp2_with fail
    refine (zdemand_yes 0 w1).mono ?_
    rintro e w2 ⟨rfl, rfl⟩
    go_wp2_with fail
    refine K.out.mono ?_
    rintro e w3 ⟨rfl, f3, o', k3⟩
    have F3 := Lib.hid f3
    have K3 := Lib.hid k3
    clear f3 k3 K
    go_wp2_with fail
    go_ret
    refine ⟨F1.out.mono (fun _ _ h => h.elim) |>.trans F3.out (fun _ _ e => e), v, rfl, ⟨F3.out.owns V1.out.own (fun j hj e => ?_), V1.out.fresh⟩, o', by rw [HUU.out]; exact K3.out⟩
    have a := V1.out.fresh j hj
    have b := (Array.getElem?_eq_some_iff.1 H.out.blk).1
    omega
end Go.Proofs.YtnndgpggjlhhpaaGreat

namespace Go.Proofs.YtnndgpggjlhhpaaGreat
open Go.RowKit
theorem cells_u8 (l : List Nat) (h : ∀ x ∈ l, x < 256) : u8s l = (l.map UInt8.ofNat).map Extern.Stop.cell := by
  rw [List.map_map]
  unfold u8s
  refine List.map_congr_left fun x hx => ?_
  have := h x hx
  simp [Extern.Stop.cell]
  omega
theorem map8_eq (a b : List Nat) (ha : ∀ x ∈ a, x < 256) (hb : ∀ x ∈ b, x < 256) : (a.map UInt8.ofNat == b.map UInt8.ofNat) = decide (a = b) := by
  rw [Bool.eq_iff_iff, beq_iff_eq, decide_eq_true_iff]
  constructor
  · intro h
    have key : ∀ l : List Nat, (∀ x ∈ l, x < 256) → (l.map UInt8.ofNat).map UInt8.toNat = l := by
      intro l hl
      rw [List.map_map]
      conv => rhs; rw [← List.map_id l]
      refine List.map_congr_left fun x hx => ?_
      have := hl x hx
      simp; omega
    rw [← key a ha, ← key b hb, h]
  · rintro rfl; rfl
theorem size_u8 (w : World) : (sizeOf 5).run Tryz.prog w = .ok 1 w := by
  obtain ⟨i, hi, -, hs, -⟩ := info_parts info_u8
  simp [sizeOf, typeInfo, hi, hs]
theorem eq4 (a b : List Nat) (ha : ∀ x ∈ a, x < 256) (hb : ∀ x ∈ b, x < 256) (la : a.length = 4) (lb : b.length = 4) (w : World) :
    (binOp .eql 131 (.agg (u8s a).toArray) (.agg (u8s b).toArray)).run Tryz.prog w = .ok (.bool (decide (a = b))) w := by
  rw [cells_u8 a ha, cells_u8 b hb, run_eql_bytes w 131 5 4 Tryz.underlying131 Tryz.underlying5 (fun w => size_u8 w) _ _ (by simpa using la) (by simpa using lb), map8_eq a b ha hb]
theorem four_of {l : List Nat} (h : l.length = 4) : ∃ a b c d, l = [a, b, c, d] := by
  match l, h with
  | [a, b, c, d], _ => exact ⟨a, b, c, d, rfl⟩
def SumEnds (w : World) (g B n c : Nat) (l S : List Nat) (e : Ending) (w' : World) : Prop :=
  Fr (· = g) w w' ∧ if n < 4 then e = Ending.panicked (zch 20) else if l.take 4 ≠ S then e = Ending.panicked (zch 91) else e = .returned (.tuple #[]) ∧ ∃ o', OpnIs w' g B o' (n - 4) (c - 4) (l.drop 4)
theorem zsum_few {g B o n c : Nat} {l S : List Nat} (w : World) (h : OpnIs w g B o n c l) (hn : n < 4) (hS : S.length = 4) :
    Calls Tryz.prog 107 #[.pointer (some ⟨g, 0, none⟩), .agg (u8s S).toArray] w (SumEnds w g B n c l S) := by
  obtain ⟨a, b, d, e, rfl⟩ := four_of hS
  have HN : Hid (∀ W, Fr S0 w W → Calls Tryz.prog 145 #[.pointer (some ⟨g, 0, none⟩), .int .i64 4] W fun e w' => (e = .returned (.slice (some ⟨B, o, none⟩) 4 4) ∧ False) ∨ (e = Ending.panicked (zch 20) ∧ Fr S0 w w')) := Lib.hid fun W f =>
    (next_no g n c 4 (some ⟨B, o, none⟩) W (h.fr0 f).c0 hn).mono fun _ _ k => .inr ⟨k.1, k.2 ▸ f⟩
  have K : Hid (∀ w', Fr S0 w w' → SumEnds w g B n c l [a, b, d, e] (Ending.panicked (zch 20)) w') := Lib.hid fun w' f => ⟨f.mono (fun _ _ h => h.elim), by rw [if_pos hn]⟩
  have hat : ∀ w : World, (Instr.arrayAt 131 (.slice (some ⟨B, o, none⟩) 4 4)).run Tryz.prog w = .ok (.pointer (some ⟨B, o, none⟩)) w := fun w => run_arrayAt w _ _ 4 _ _ _ Tryz.underlying131 (by omega)
  have z8 : (u8s [a, b, d, e]).toArray = #[.int .u8 (a : Int), .int .u8 (b : Int), .int .u8 (d : Int), .int .u8 (e : Int)] := rfl
  rw [z8]
  have HD : Hid (∀ W, Calls Tryz.prog 104 #[.bool true, .int .i64 91] W fun e w' => e = .returned (.tuple #[]) ∧ W = w') := Lib.hid fun W => zdemand_yes 91 W
  clear h hn hS z8
  go_enter Tryz.func107, Tryz.ntmps107
  go_wp2_with fail
  have f1 : Fr S0 w (w.alloc (.cells #[.int .u8 (a : Int), .int .u8 (b : Int), .int .u8 (d : Int), .int .u8 (e : Int)] 131)) := Fr.alloc _ _ _
  have b1 := heap_alloc_new w (.cells #[.int .u8 (a : Int), .int .u8 (b : Int), .int .u8 (d : Int), .int .u8 (e : Int)] 131)
  obtain ⟨z, hz⟩ : ∃ z, w.heap.size = z := ⟨_, rfl⟩
  rw [hz] at b1 ⊢
  generalize w.alloc (.cells #[.int .u8 (a : Int), .int .u8 (b : Int), .int .u8 (d : Int), .int .u8 (e : Int)] 131) = W at f1 b1 ⊢
  obtain ⟨c0, c1, c2, c3, -⟩ := four_facts b1
  have F1 := Lib.hid f1
  clear f1 b1 hz
  go_region_law (first
    | (go_simp; go_at_call 145; (with_reducible refine (HN.out _ (F1.out.trans0 (Fr.drew _ _))).mono ?_); rintro _ w3 (⟨rfl, hF⟩ | ⟨rfl, f3⟩); have HBAD := Lib.hid hF; clear hF; have x0 : w3.cell? ⟨B, o, none⟩ = some (.int .u8 0) := HBAD.out.elim; have x1 : w3.cell? ⟨B, o + 1, none⟩ = some (.int .u8 0) := HBAD.out.elim; have x2 : w3.cell? ⟨B, o + 2, none⟩ = some (.int .u8 0) := HBAD.out.elim; have x3 : w3.cell? ⟨B, o + 3, none⟩ = some (.int .u8 0) := HBAD.out.elim; have y0 : w3.cell? ⟨z, 0, none⟩ = some (.int .u8 (a : Int)) := HBAD.out.elim; have y1 : w3.cell? ⟨z, 1, none⟩ = some (.int .u8 (b : Int)) := HBAD.out.elim; have y2 : w3.cell? ⟨z, 2, none⟩ = some (.int .u8 (d : Int)) := HBAD.out.elim; have y3 : w3.cell? ⟨z, 3, none⟩ = some (.int .u8 (e : Int)) := HBAD.out.elim; have heq : ∀ v1 v2 w, (binOp .eql 131 (.agg v1) (.agg v2)).run Tryz.prog w = .ok (.bool true) w := HBAD.out.elim; rotate_left; exact ⟨rfl, K.out _ f3⟩)
    | (go_simp; go_at_call 104; (with_reducible refine (HD.out _).mono ?_); rintro _ w4 ⟨rfl, rfl⟩))
  all_goals exact HBAD.out.elim
theorem zsum_any {g B o n c : Nat} {l S : List Nat} (w : World) (h : OpnIs w g B o n c l) (h8 : ∀ x ∈ l, x < 256) (hn : 4 ≤ n) (hS : S.length = 4) (hS8 : ∀ x ∈ S, x < 256) :
    Calls Tryz.prog 107 #[.pointer (some ⟨g, 0, none⟩), .agg (u8s S).toArray] w (SumEnds w g B n c l S) := by
  have hl := h.len
  have HEQ : Hid (∀ w, (binOp .eql 131 (.agg (u8s (l.take 4)).toArray) (.agg (u8s S).toArray)).run Tryz.prog w = .ok (.bool (decide (l.take 4 = S))) w) := Lib.hid (eq4 (l.take 4) S (fun x hx => h8 x (List.mem_of_mem_take hx)) hS8 (by rw [List.length_take]; omega) hS)
  obtain ⟨x, x', x'', x''', hx⟩ := four_of (l := l.take 4) (by rw [List.length_take]; omega)
  obtain ⟨a, b, d, e, rfl⟩ := four_of hS
  have hcells : ∀ W, Fr (· = g) w W → W.cell? ⟨B, o, none⟩ = some (.int .u8 (x : Int)) ∧ W.cell? ⟨B, o + 1, none⟩ = some (.int .u8 (x' : Int)) ∧ W.cell? ⟨B, o + 2, none⟩ = some (.int .u8 (x'' : Int)) ∧ W.cell? ⟨B, o + 3, none⟩ = some (.int .u8 (x''' : Int)) := fun W f => by
    have hs := ((h.sl.fr f (fun _ a e => by simp only [Option.some.injEq] at e; subst e; exact h.ne))).take 4
    rw [hx] at hs
    obtain ⟨B', o', e, hc⟩ := hs.2 (by simp)
    simp only [Option.some.injEq, Addr.mk.injEq] at e
    obtain ⟨rfl, rfl, -⟩ := e
    exact ⟨hc 0 (by simp), hc 1 (by simp), hc 2 (by simp), hc 3 (by simp)⟩
  have HX := Lib.hid hcells
  rw [hx] at HEQ
  have HN : Hid (∀ W, Fr S0 w W → Calls Tryz.prog 145 #[.pointer (some ⟨g, 0, none⟩), .int .i64 4] W fun e w' => e = .returned (.slice (some ⟨B, o, none⟩) 4 c) ∧ Fr (· = g) W w' ∧ ∃ o', OpnIs w' g B o' (n - 4) (c - 4) (l.drop 4)) := Lib.hid fun W f => next_yes 4 W (h.fr0 f) hn
  have hat : ∀ w : World, (Instr.arrayAt 131 (.slice (some ⟨B, o, none⟩) 4 c)).run Tryz.prog w = .ok (.pointer (some ⟨B, o, none⟩)) w := fun w => run_arrayAt w _ _ 4 _ _ _ Tryz.underlying131 (by omega)
  have hgl := (Array.getElem?_eq_some_iff.1 h.blk).1
  have z8 : (u8s [a, b, d, e]).toArray = #[.int .u8 (a : Int), .int .u8 (b : Int), .int .u8 (d : Int), .int .u8 (e : Int)] := rfl
  have z9 : (u8s [x, x', x'', x''']).toArray = #[.int .u8 (x : Int), .int .u8 (x' : Int), .int .u8 (x'' : Int), .int .u8 (x''' : Int)] := rfl
  rw [z8] at HEQ ⊢
  rw [z9] at HEQ
  have K : Hid (∀ e1 w', Fr (· = g) w w' → (if [x, x', x'', x'''] ≠ [a, b, d, e] then e1 = Ending.panicked (zch 91) else e1 = .returned (.tuple #[]) ∧ ∃ o', OpnIs w' g B o' (n - 4) (c - 4) (l.drop 4)) → SumEnds w g B n c l [a, b, d, e] e1 w') := Lib.hid fun e1 w' f k => ⟨f, by rw [if_neg (by omega), hx]; exact k⟩
  clear h h8 hn hS hS8 hl hx z8 z9 hcells
  have f1 : Fr S0 w (w.alloc (.cells #[.int .u8 (a : Int), .int .u8 (b : Int), .int .u8 (d : Int), .int .u8 (e : Int)] 131)) := Fr.alloc _ _ _
  have b1 := heap_alloc_new w (.cells #[.int .u8 (a : Int), .int .u8 (b : Int), .int .u8 (d : Int), .int .u8 (e : Int)] 131)
  cases hq : decide ([x, x', x'', x'''] = [a, b, d, e]) with
  | false =>
    have hne := of_decide_eq_false hq
    rw [hq] at HEQ
    have heq := HEQ.out
    have K' := Lib.hid (fun w' f => K.out (Ending.panicked (zch 91)) w' f (by rw [if_pos hne]))
    clear K hne hq HEQ
    have HD : Hid (∀ W, Fr (· = g) w W → Calls Tryz.prog 104 #[.bool false, .int .i64 91] W fun e w' => (e = .returned (.tuple #[]) ∧ False) ∨ (e = Ending.panicked (zch 91) ∧ Fr (· = g) w w')) := Lib.hid fun W f => (zdemand_no 91 W).mono fun _ _ k => .inr ⟨k.1, k.2 ▸ f⟩
    go_enter Tryz.func107, Tryz.ntmps107
    go_wp2_with fail
    obtain ⟨z, hz⟩ : ∃ z, w.heap.size = z := ⟨_, rfl⟩
    rw [hz] at b1 ⊢
    have HZ : Hid (z ≠ g) := Lib.hid (by omega)
    generalize w.alloc (.cells #[.int .u8 (a : Int), .int .u8 (b : Int), .int .u8 (d : Int), .int .u8 (e : Int)] 131) = W at f1 b1 ⊢
    obtain ⟨c0, c1, c2, c3, -⟩ := four_facts b1
    have F1 := Lib.hid f1
    have B1 := Lib.hid b1
    clear f1 b1 hz hgl
    go_region_law (first
      | (go_simp; go_at_call 145; (with_reducible refine (HN.out _ (F1.out.trans0 (Fr.drew _ _))).mono ?_); rintro _ w3 ⟨rfl, f3, o', k3⟩; have F3 := Lib.hid ((F1.out.mono (fun _ _ h => h.elim) : Fr (· = g) w W).trans ((Fr.drew (· = g) W).trans f3 (fun _ _ h => h)) (fun _ _ h => h)); obtain ⟨x0, x1, x2, x3⟩ := HX.out w3 F3.out; obtain ⟨y0, y1, y2, y3, -⟩ := four_facts (((Fr.drew (· = g) W).trans f3 (fun _ _ h => h)).row B1.out HZ.out); clear f3 k3)
      | (go_simp; go_at_call 104; (with_reducible refine (HD.out _ F3.out).mono ?_); rintro _ w4 (⟨rfl, hF⟩ | ⟨rfl, f4⟩); have HBAD := Lib.hid hF; clear hF; rotate_left; exact ⟨rfl, K'.out _ f4⟩))
    all_goals exact HBAD.out.elim
  | true =>
    have heq0 := of_decide_eq_true hq
    rw [hq] at HEQ
    have heq := HEQ.out
    have K' : Hid (∀ w' o', Fr (· = g) w w' → OpnIs w' g B o' (n - 4) (c - 4) (l.drop 4) → SumEnds w g B n c l [a, b, d, e] (.returned (.tuple #[])) w') := Lib.hid (fun w' o' f k => K.out _ w' f (by rw [if_neg (fun h => h heq0)]; exact ⟨rfl, o', k⟩))
    clear K heq0 hq HEQ
    have HD : Hid (∀ W, Calls Tryz.prog 104 #[.bool true, .int .i64 91] W fun e w' => e = .returned (.tuple #[]) ∧ W = w') := Lib.hid fun W => zdemand_yes 91 W
    go_enter Tryz.func107, Tryz.ntmps107
    go_wp2_with fail
    obtain ⟨z, hz⟩ : ∃ z, w.heap.size = z := ⟨_, rfl⟩
    rw [hz] at b1 ⊢
    have HZ : Hid (z ≠ g) := Lib.hid (by omega)
    generalize w.alloc (.cells #[.int .u8 (a : Int), .int .u8 (b : Int), .int .u8 (d : Int), .int .u8 (e : Int)] 131) = W at f1 b1 ⊢
    obtain ⟨c0, c1, c2, c3, -⟩ := four_facts b1
    have F1 := Lib.hid f1
    have B1 := Lib.hid b1
    clear f1 b1 hz hgl
    go_region_law (first
      | (go_simp; go_at_call 145; (with_reducible refine (HN.out _ (F1.out.trans0 (Fr.drew _ _))).mono ?_); rintro _ w3 ⟨rfl, f3, o', k3⟩; have K3 := Lib.hid k3; have F3 := Lib.hid ((F1.out.mono (fun _ _ h => h.elim) : Fr (· = g) w W).trans ((Fr.drew (· = g) W).trans f3 (fun _ _ h => h)) (fun _ _ h => h)); obtain ⟨x0, x1, x2, x3⟩ := HX.out w3 F3.out; obtain ⟨y0, y1, y2, y3, -⟩ := four_facts (((Fr.drew (· = g) W).trans f3 (fun _ _ h => h)).row B1.out HZ.out); clear f3 k3)
      | (go_simp; go_at_call 104; (with_reducible refine (HD.out _).mono ?_); rintro _ w4 ⟨rfl, rfl⟩))
    all_goals
      go_wp2_with fail
      go_end0
      exact K'.out _ _ F3.out K3.out
end Go.Proofs.YtnndgpggjlhhpaaGreat
