/- DefTwo, DefRefs -/
import Derived.Test.YtnndgpggjlhhpaaGreatPt1
import Derived.Test.YtnndgpggjlhhpaaGreatPt2
import Derived.Test.YtnndgpggjlhhpaaGreatPt15
import Derived.Test.YtnndgpggjlhhpaaGreatPt20
import Derived.Test.YtnndgpggjlhhpaaGreatPt22
import Derived.Test.YtnndgpggjlhhpaaGreatPt23
import Derived.Test.YtnndgpggjlhhpaaGreatPt25
import Derived.Test.YtnndgpggjlhhpaaGreatPt26
import Derived.IntWalk
import Derived.Laws.MakeOwn
import Derived.BigRegion
import Derived.Laws.OwnMore
import Derived.Lib.MakeNoZero
import Derived.Laws.CopyOwn
import Derived.StillTailTactics
import Derived.WalkKit
import Derived.WalkSpells
import Derived.WalkLawsBesides
import Derived.Deep.QuietTactic
import Derived.BigQuiet
import Derived.RegionTactic
import Derived.Deep.AppendLies
import Derived.Deep.RegionLaw
import Derived.Laws.ResultCell
import Derived.Laws.EntriesVeiled
import Derived.Lib.Hide
import Derived.Test.YtnndgpggjlhhpaaGreatRows
import Derived.Laws.BytesArg
import Derived.Lib.SlBytesConst
import Derived.Maps.AppendAt
import Derived.Laws.AppendOwnNone
import Derived.DeepKeys4
import Derived.WideKeyPair
import Derived.MapKept
import Derived.ChangeMaps
import Derived.Laws.Cover3
import Derived.Deep.RegionHeld3
import Derived.Laws.Tables
import Derived.Defers
import Derived.Recover
set_option maxRecDepth 100000
set_option maxHeartbeats 8000000
namespace Go.Proofs.YtnndgpggjlhhpaaGreat
open Go.RowKit
theorem fx_eq : fixLs' = fixLs := by decide +kernel
theorem fx_ful : ful fixLs := by decide +kernel
theorem fv_ful : ful fives := by decide +kernel
theorem fx_15 : ∀ x ∈ fixLs, x ≤ 15 := by decide +kernel
theorem fx_len (i : Nat) (h : i < 288) : 0 < len fixLs i ∧ len fixLs i ≤ 9 := by
  have key : ∀ k : Fin 288, 0 < len fixLs k.val ∧ len fixLs k.val ≤ 9 := by decide +kernel
  exact key ⟨i, h⟩
theorem fv_len (i : Nat) (h : i < 32) : len fives i = 5 := by
  have key : ∀ k : Fin 32, len fives k.val = 5 := by decide +kernel
  exact key ⟨i, h⟩
def Xb (gl gs : Nat) : Wx := ⟨[.pointer (some ⟨gl, 0, none⟩), .pointer (some ⟨gs, 0, none⟩)], 234⟩
structure Sets (w1 : World) (A B gl gs g : Nat) (r0 : Option Nat) : Prop where
  s1 : SetIs w1 A B gl fixLs
  s2 : SetIs w1 A B gs fives
  off : ∀ k, A ≤ k → k < B → ¬ WrB g r0 k
  hB : B ≤ w1.heap.size
theorem Sets.at {w1 w : World} {A B gl gs g : Nat} {r0 : Option Nat} {X : Wx} {L : List Nat} (h : Sets w1 A B gl gs g r0) (hw : WrTo X w1 w g r0 L) : SetIs w A B gl fixLs ∧ SetIs w A B gs fives := by
  obtain ⟨r, -, f, -⟩ := hw
  exact ⟨h.s1.fr f h.off, h.s2.fr f h.off⟩
theorem Sets.on {w1 w : World} {A B gl gs g : Nat} {r0 r : Option Nat} {X : Wx} {L : List Nat} (h : Sets w1 A B gl gs g r0) (hw : WrIs X w g r L) (f : Fr (WrB g r0) w1 w) (hr : r = r0 ∨ ∀ j, r = some j → w1.heap.size ≤ j) : Sets w A B gl gs g r := by
  have q := h.at ⟨r, hw, f, hr⟩
  refine ⟨q.1, q.2, fun k a b e => ?_, Nat.le_trans h.hB f.size⟩
  rcases e with e | e
  · exact h.off k a b (.inl e)
  · rcases hr with hr | hr
    · exact h.off k a b (.inr (hr ▸ e))
    · have := hr k e
      have := h.hB
      omega
theorem WrTo.cells {X : Wx} {w0 w : World} {g : Nat} {r0 : Option Nat} {L : List Nat} (h : WrTo X w0 w g r0 L) (k : Nat) (v : Value) (hv : X.tl[k]? = some v) : w.cell? ⟨g, k + 2, none⟩ = some v := by
  obtain ⟨r, h1, -, -⟩ := h
  obtain ⟨p, c, hb, -, -⟩ := h1.ex
  simp only [World.cell?, hb, Wx.cs]
  simpa using hv
theorem makeCodes_any (g : Nat) (w : World) (h : w.heap[g]? = some (.cells #[.slice none 0 0, .int .i64 0, .pointer none, .pointer none] 234 (0, 0))) :
    Calls Tryz.prog 183 #[.pointer (some ⟨g, 0, none⟩)] w fun e w' => e = .returned (.tuple #[]) ∧ ∃ B gl gs, WrTo (Xb gl gs) w' w' g none [] ∧ Sets w' w.heap.size B gl gs g none ∧ Fr (· = g) w w' := by
  have H := Lib.hid h
  have HG : Hid (g < w.heap.size) := Lib.hid (Array.getElem?_eq_some_iff.1 h).1
  have HFX := Lib.hid (fixed_any w)
  clear h
  go_enter Tryz.func183, Tryz.ntmps183
  go_wp2_with fail
  refine HFX.out.mono ?_
  rintro e w1 ⟨v, rfl, f1, hv⟩
  obtain ⟨p1, c1, rfl, hp1, -, -⟩ := slForm hv.own
  have HV := Lib.hid hv.own
  have HF1 := Lib.hid f1
  have HMK := Lib.hid (make_ok p1 c1 fixLs w1 (SlI.ofOwns HV.out) hp1 (by rw [fixLs_length]; decide) fx_15 (.inl fx_ful))
  clear hv f1 hp1 HFX
  go_wp2_with fail
  refine HMK.out.mono ?_
  rintro e w2 ⟨gl, rfl, ⟨f2, s2⟩, hgl⟩
  have HF2 : Hid (Fr S0 w w2) := Lib.hid (HF1.out.trans0 f2)
  have HS2 : Hid (SetIs w2 w.heap.size w2.heap.size gl fixLs) := Lib.hid (s2.mono HF1.out.size (Nat.le_refl _))
  have hb2 := HF2.out.row H.out (fun h => h)
  have k2 : w2.cell? ⟨g, 2, none⟩ = some (.pointer none) := by simp [World.cell?, hb2]
  have z2 : w2.frozen? ⟨g, 2, none⟩ = false := by simp [World.frozen?, hb2]
  have HB2 := Lib.hid hb2
  clear f2 s2 hgl HMK HF1 HV hb2
  go_wp2_with fail
  have hb3 : (w2.setCell ⟨g, 2, none⟩ (.pointer (some ⟨gl, 0, none⟩))).heap[g]? = some (.cells #[.slice none 0 0, .int .i64 0, .pointer (some ⟨gl, 0, none⟩), .pointer none] 234 (0, 0)) := by
    rw [heap_setCell_same w2 g 2 _ _ _ HB2.out]; rfl
  have f3 : Fr (· = g) w2 (w2.setCell ⟨g, 2, none⟩ (.pointer (some ⟨gl, 0, none⟩))) := Fr.setCell _ _ _ _ rfl
  generalize w2.setCell ⟨g, 2, none⟩ (.pointer (some ⟨gl, 0, none⟩)) = w3 at hb3 f3 ⊢
  have HB3 := Lib.hid hb3
  have HS3 : Hid (SetIs w3 w.heap.size w2.heap.size gl fixLs) := Lib.hid (HS2.out.fr f3 (fun k h1 h2 e => by have := HG.out; omega))
  have HF3 : Hid (Fr (· = g) w w3) := Lib.hid ((HF2.out.mono (T := (· = g)) (fun _ _ h => h.elim)).trans f3 (fun _ _ h => h))
  have hz3 := f3.size
  have HSP := Lib.hid (spans_any w3)
  clear hb3 f3 k2 z2 HB2 HS2 HF2
  refine HSP.out.mono ?_
  rintro e w4 ⟨q4, rfl, f4, s4⟩
  have HF4 : Hid (Fr (· = g) w w4) := Lib.hid (HF3.out.trans0 f4)
  have HS4 : Hid (SetIs w4 w.heap.size w2.heap.size gl fixLs) := Lib.hid (HS3.out.fr0 f4)
  have HB4 : Hid (w4.heap[g]? = some (.cells #[.slice none 0 0, .int .i64 0, .pointer (some ⟨gl, 0, none⟩), .pointer none] 234 (0, 0))) := Lib.hid (f4.row HB3.out (fun h => h))
  have HMK : Hid (Calls Tryz.prog 202 #[.slice (some ⟨q4, 0, none⟩) 32 32] w4 fun e w' => ∃ g, e = .returned (.tuple #[.pointer (some ⟨g, 0, none⟩), .int .i64 0]) ∧ (Fr S0 w4 w' ∧ SetIs w' w4.heap.size w'.heap.size g fives) ∧ w4.heap.size ≤ g) :=
    Lib.hid (make_ok (some ⟨q4, 0, none⟩) 32 (List.replicate 32 5) w4 s4 (fun h => by cases h) (by decide) (by decide) (.inl fv_ful))
  have hz4 := f4.size
  clear f4 s4 HSP HS3 HF3 HB3
  go_wp2_with fail
  refine HMK.out.mono ?_
  rintro e w5 ⟨gs, rfl, ⟨f5, s5⟩, hgs⟩
  have HF5 : Hid (Fr (· = g) w w5) := Lib.hid (HF4.out.trans0 f5)
  have hb5 := f5.row HB4.out (fun h => h)
  have k3 : w5.cell? ⟨g, 3, none⟩ = some (.pointer none) := by simp [World.cell?, hb5]
  have z3 : w5.frozen? ⟨g, 3, none⟩ = false := by simp [World.frozen?, hb5]
  have HS5 : Hid (SetIs w5 w.heap.size w5.heap.size gl fixLs ∧ SetIs w5 w.heap.size w5.heap.size gs fives) := Lib.hid ⟨(HS4.out.fr0 f5).mono (Nat.le_refl _) (Nat.le_trans hz3 (Nat.le_trans hz4 f5.size)), s5.mono HF4.out.size (Nat.le_refl _)⟩
  have HB5 := Lib.hid hb5
  clear f5 s5 hgs HMK HF4 HS4 hz3 hz4 HB4 hb5
  go_wp2_with fail
  have hb6 : (w5.setCell ⟨g, 3, none⟩ (.pointer (some ⟨gs, 0, none⟩))).heap[g]? = some (.cells #[.slice none 0 0, .int .i64 0, .pointer (some ⟨gl, 0, none⟩), .pointer (some ⟨gs, 0, none⟩)] 234 (0, 0)) := by
    rw [heap_setCell_same w5 g 3 _ _ _ HB5.out]; rfl
  have f6 : Fr (· = g) w5 (w5.setCell ⟨g, 3, none⟩ (.pointer (some ⟨gs, 0, none⟩))) := Fr.setCell _ _ _ _ rfl
  generalize w5.setCell ⟨g, 3, none⟩ (.pointer (some ⟨gs, 0, none⟩)) = w6 at hb6 f6 ⊢
  have HEND : Hid (∃ B gl gs, WrTo (Xb gl gs) w6 w6 g none [] ∧ Sets w6 w.heap.size B gl gs g none ∧ Fr (· = g) w w6) := Lib.hid
    ⟨w5.heap.size, gl, gs, WrIs.self ⟨⟨none, 0, hb6, World.ownsRow_nil _ _ _ _, rfl⟩, Bit01.nil, fun h => by cases h⟩,
      ⟨HS5.out.1.fr f6 (fun k h1 h2 e => by have := HG.out; omega), HS5.out.2.fr f6 (fun k h1 h2 e => by have := HG.out; omega), (fun k a b e => by have := HG.out; rcases e with e | e; omega; cases e), f6.size⟩, HF5.out.trans f6 (fun _ _ h => h)⟩
  clear hb6 f6 k3 z3 HS5 HF5 HB5
  go_wp2_with fail
  go_end0
  exact ⟨rfl, HEND.out⟩
theorem newBlock_any (w : World) :
    Calls Tryz.prog 155 #[] w fun e w' => ∃ w1 A B gl gs, e = .returned (.pointer (some ⟨w.heap.size, 0, none⟩)) ∧ WrTo (Xb gl gs) w1 w' w.heap.size none [1, 1, 0] ∧ Sets w1 A B gl gs w.heap.size none ∧ Fr S0 w w1 := by
  go_enter Tryz.func155, Tryz.ntmps155
  go_wp2_with fail
  have hb := heap_alloc_new w (.cells #[.slice none 0 0, .int .i64 0, .pointer none, .pointer none] 234)
  have f0 : Fr S0 w (w.alloc (.cells #[.slice none 0 0, .int .i64 0, .pointer none, .pointer none] 234)) := Fr.alloc _ _ _
  generalize w.alloc (.cells #[.slice none 0 0, .int .i64 0, .pointer none, .pointer none] 234) = w0 at hb f0 ⊢
  have HF0 := Lib.hid f0
  have HM := Lib.hid (makeCodes_any w.heap.size w0 hb)
  clear hb f0
  refine HM.out.mono ?_
  rintro e w1 ⟨rfl, B, gl, gs, h1, h2, f1⟩
  have HH : Hid (Calls Tryz.prog 179 #[.pointer (some ⟨w.heap.size, 0, none⟩), .int .u32 1, .bool true] w1 fun e w' => e = .returned (.tuple #[]) ∧ WrTo (Xb gl gs) w1 w' w.heap.size none [1, 1, 0]) := Lib.hid (head_to h1 1 true (by decide) (by decide))
  have HS := Lib.hid h2
  have HF1 : Hid (Fr S0 w w1) := Lib.hid (HF0.out.trans f1 (fun j hj e => by omega))
  clear h1 h2 f1 HM
  go_wp2_with fail
  refine HH.out.mono ?_
  rintro e w2 ⟨rfl, h2⟩
  have K := Lib.hid h2
  clear h2 HH
  go_wp2_with fail
  go_ret
  exact ⟨w1, _, B, gl, gs, rfl, K.out, HS.out, HF1.out⟩
theorem number_to {X : Wx} {w1 : World} {g : Nat} {L : List Nat} {r0 : Option Nat} (S n s c least gset A B : Nat) (l : List Nat) (w : World) (h : WrTo X w1 w g r0 L) (hE : zHas S)
    (hS : ∀ w', Calls Tryz.prog S #[.int .i64 n] w' fun e w'' => e = .returned (.tuple #[.int .i64 (s : Nat), .int .i64 (c : Nat), .int .i64 ((n - least : Nat) : Int)]) ∧ Fr S0 w' w'')
    (hset : ∀ (w' : World) (M : List Nat), WrTo X w1 w' g r0 M → SetIs w' A B gset l) (hi : 0 < len l s) (hi15 : len l s ≤ 15) (hr : n - least < 2 ^ c) (hc : c ≤ 13) (hn : n ≤ 100000) (hL : L.length + 100 ≤ 1099511627776) :
    Calls Tryz.prog 188 #[.pointer (some ⟨g, 0, none⟩), .int .i64 n, .func (.func S) #[] #[], .func (.func 187) #[.pointer (some ⟨gset, 0, none⟩)] #[]] w fun e w' => e = .returned (.tuple #[]) ∧ WrTo X w1 w' g r0 (L ++ numB l s n least c) := by
  have H := Lib.hid h
  have HS := Lib.hid (hS w)
  have HW := Lib.hid (fun w' (h' : WrTo X w1 w' g r0 L) => write_to h' A B gset l s (hset w' L h') hi (by omega))
  obtain ⟨M, hM⟩ : ∃ M, L ++ code (cod l s) (len l s) = M := ⟨_, rfl⟩
  have hMl : M.length ≤ L.length + 15 := by rw [← hM, List.length_append, code_length]; omega
  obtain ⟨r, hrr⟩ : ∃ r, n - least = r := ⟨_, rfl⟩
  have HG := Lib.hid (fun w' (h' : WrTo X w1 w' g r0 M) => group_to h' r c (by omega) (by omega) (by omega))
  have HE : Hid (M ++ grp r c = L ++ numB l s n least c) := Lib.hid (by rw [← hM, numB, hrr, List.append_assoc])
  have hEm : ∀ w, (callFunc S #[.int .i64 (n : Nat)]).run Tryz.prog w = .ok (.enter S #[.int .i64 (n : Nat)]) w := fun w => hE _ _
  rw [hM] at HW
  rw [HE.out] at HG
  rw [hrr] at HS
  have hrl : r ≤ 100000 := by omega
  clear h hS hset hi hi15 hr hL hM hrr hMl HE
  go_enter Tryz.func188, Tryz.ntmps188
  go_wp2_with fail
  refine HS.out.mono ?_
  rintro e w2 ⟨rfl, f2⟩
  have K2 := Lib.hid (HW.out w2 (H.out.fr0 f2))
  clear f2 HS HW hEm
  go_wp2_with fail
  refine K2.out.mono ?_
  rintro e w3 ⟨rfl, h3⟩
  have K3 := Lib.hid (HG.out w3 h3)
  clear h3 K2 HG
  go_wp2_with fail
  refine K3.out.mono ?_
  rintro e w4 ⟨rfl, h4⟩
  have K4 := Lib.hid h4
  clear h4 K3
  go_wp2_with fail
  go_end0
  exact ⟨rfl, K4.out⟩
end Go.Proofs.YtnndgpggjlhhpaaGreat
namespace Go.Proofs.YtnndgpggjlhhpaaGreat
open Go.RowKit
def TkOk (t : M.Tk) : Prop := (t.2.2 = 0 ∧ t.1 < 256) ∨ (3 ≤ t.2.1 ∧ t.2.1 ≤ 258 ∧ 0 < t.2.2 ∧ t.2.2 ≤ 32768)
theorem token_one {w1 : World} {A B gl gs g : Nat} {L : List Nat} {r0 : Option Nat} (tx tl : Nat) (w : World) (h : WrTo (Xb gl gs) w1 w g r0 L) (hs : Sets w1 A B gl gs g r0) (hx : tx < 256) (hL : L.length + 1000 ≤ 1099511627776) :
    Calls Tryz.prog 157 #[.pointer (some ⟨g, 0, none⟩), .agg #[.int .u8 tx, .int .i64 tl, .int .i64 0]] w fun e w' => e = .returned (.tuple #[]) ∧ WrTo (Xb gl gs) w1 w' g r0 (L ++ tkB (tx, tl, 0)) := by
  obtain ⟨w0, hw0⟩ : ∃ w0, w.alloc (.cells #[.int .u8 (tx : Nat), .int .i64 (tl : Nat), .int .i64 0] 186) = w0 := ⟨_, rfl⟩
  have f0 : Fr S0 w w0 := by rw [← hw0]; exact Fr.alloc _ _ _
  have hb := heap_alloc_new w (.cells #[.int .u8 (tx : Nat), .int .i64 (tl : Nat), .int .i64 0] 186)
  rw [hw0] at hb
  have c0 : w0.cell? ⟨w.heap.size, 0, none⟩ = some (.int .u8 (tx : Nat)) := by simp [World.cell?, hb]
  have c2 : w0.cell? ⟨w.heap.size, 2, none⟩ = some (.int .i64 0) := by simp [World.cell?, hb]
  have k2 := f0.cell (h.cells 0 (.pointer (some ⟨gl, 0, none⟩)) rfl) (fun h => h)
  have H0 := Lib.hid (h.fr0 f0)
  have HW : Hid (∀ w', WrTo (Xb gl gs) w1 w' g r0 L → Calls Tryz.prog 187 #[.pointer (some ⟨gl, 0, none⟩), .pointer (some ⟨g, 0, none⟩), .int .i64 tx] w' fun e w'' => e = .returned (.int .i64 0) ∧ WrTo (Xb gl gs) w1 w'' g r0 (L ++ tkB (tx, tl, 0))) := Lib.hid fun w' h' => by
    have := write_to h' A B gl fixLs tx (hs.at h').1 (fx_len tx (by omega)).1 (by omega)
    unfold tkB
    rw [if_pos rfl, fx_eq]
    exact this
  have hwx : IntKind.i64.wrap (tx : Int) = (tx : Int) := IntWalk.i64_in _ (by omega)
  clear h hs hb f0
  go_enter Tryz.func157, Tryz.ntmps157
  go_wp2_with fail
  go_region_law (first
    | (go_simp; go_at_call 187; refine (HW.out _ (H0.out.fr0 (Fr.drew _ _))).mono ?_; rintro e w2 ⟨rfl, h2⟩; have K := Lib.hid h2; clear h2; dsimp only))
  all_goals
    go_wp2_with fail
    refine bodyPost_ret (results_none rfl _ _ _) rfl ?_
    exact ⟨rfl, K.out⟩
theorem has_length : zHas 189 := fun _ _ => by kernel_rfl
theorem has_span : zHas 190 := fun _ _ => by kernel_rfl
theorem token_two {w1 : World} {A B gl gs g : Nat} {L : List Nat} {r0 : Option Nat} (tx tl td : Nat) (w : World) (h : WrTo (Xb gl gs) w1 w g r0 L) (hs : Sets w1 A B gl gs g r0) (h1 : 3 ≤ tl) (h2 : tl ≤ 258) (h3 : 0 < td) (h4 : td ≤ 32768) (hL : L.length + 1000 ≤ 1099511627776) :
    Calls Tryz.prog 157 #[.pointer (some ⟨g, 0, none⟩), .agg #[.int .u8 tx, .int .i64 tl, .int .i64 td]] w fun e w' => e = .returned (.tuple #[]) ∧ WrTo (Xb gl gs) w1 w' g r0 (L ++ tkB (tx, tl, td)) := by
  obtain ⟨w0, hw0⟩ : ∃ w0, w.alloc (.cells #[.int .u8 (tx : Nat), .int .i64 (tl : Nat), .int .i64 (td : Nat)] 186) = w0 := ⟨_, rfl⟩
  have f0 : Fr S0 w w0 := by rw [← hw0]; exact Fr.alloc _ _ _
  have hb := heap_alloc_new w (.cells #[.int .u8 (tx : Nat), .int .i64 (tl : Nat), .int .i64 (td : Nat)] 186)
  rw [hw0] at hb
  have c1 : w0.cell? ⟨w.heap.size, 1, none⟩ = some (.int .i64 (tl : Nat)) := by simp [World.cell?, hb]
  have c2 : w0.cell? ⟨w.heap.size, 2, none⟩ = some (.int .i64 (td : Nat)) := by simp [World.cell?, hb]
  have k2 := f0.cell (h.cells 0 (.pointer (some ⟨gl, 0, none⟩)) rfl) (fun h => h)
  obtain ⟨r, i1, f1, hr⟩ := h
  have HR : Hid (∀ w' M, WrTo (Xb gl gs) w0 w' g r M → WrTo (Xb gl gs) w1 w' g r0 M) := Lib.hid fun w' M h' => WrTo.step (f1.trans0 f0) hr h'
  have hso := hs.on (i1.fr0 f0) (f1.trans0 f0) hr
  have HSET : Hid (∀ w' M, WrTo (Xb gl gs) w0 w' g r M → SetIs w' A B gl fixLs ∧ SetIs w' A B gs fives) := Lib.hid fun w' M h' => hso.at h'
  have HC : Hid (∀ w' M, WrTo (Xb gl gs) w0 w' g r M → w'.cell? ⟨w.heap.size, 2, none⟩ = some (.int .i64 (td : Nat))) := Lib.hid fun w' M h' => by
    obtain ⟨r', -, f', -⟩ := h'
    refine f'.cell c2 fun e => ?_
    rcases e with e | e
    · have := i1.lt; simp only at e; omega
    · have := i1.rlt _ e; simp only at this; omega
  have H0 : Hid (WrTo (Xb gl gs) w0 w0 g r L) := Lib.hid (i1.fr0 f0).self
  have l1 := lenS_is h1 h2
  have l2 := lenS_le tl
  have l3 := spnS_is h3 h4
  have l4 := spnS_le td
  have l5 := fx_len (lenS tl) (by omega)
  have l6 := fv_len (spnS td) (by omega)
  have l7 := baseN_le (lenS tl) l2.1 l2.2
  have l8 := farN_le (spnS td) l4
  have HN1 : Hid (∀ w', WrTo (Xb gl gs) w0 w' g r L → Calls Tryz.prog 188 #[.pointer (some ⟨g, 0, none⟩), .int .i64 tl, .func (.func 189) #[] #[], .func (.func 187) #[.pointer (some ⟨gl, 0, none⟩)] #[]] w' fun e w'' => e = .returned (.tuple #[]) ∧ WrTo (Xb gl gs) w0 w'' g r (L ++ numB fixLs (lenS tl) tl (baseN (lenS tl)) (baseC (lenS tl)))) :=
    Lib.hid fun w' h' => number_to 189 tl (lenS tl) (baseC (lenS tl)) (baseN (lenS tl)) gl A B fixLs w' h' has_length (fun w' => length_yes tl w' h1 h2) (fun w' M h => (HSET.out w' M h).1) l5.1 (by omega) (by omega) (by omega) (by omega) (by omega)
  obtain ⟨L2, hL2⟩ : ∃ L2, L ++ numB fixLs (lenS tl) tl (baseN (lenS tl)) (baseC (lenS tl)) = L2 := ⟨_, rfl⟩
  have hl2 : L2.length ≤ L.length + 30 := by rw [← hL2, List.length_append, numB, List.length_append, code_length, grp_length]; omega
  have HN2 : Hid (∀ w', WrTo (Xb gl gs) w0 w' g r L2 → Calls Tryz.prog 188 #[.pointer (some ⟨g, 0, none⟩), .int .i64 td, .func (.func 190) #[] #[], .func (.func 187) #[.pointer (some ⟨gs, 0, none⟩)] #[]] w' fun e w'' => e = .returned (.tuple #[]) ∧ WrTo (Xb gl gs) w0 w'' g r (L2 ++ numB fives (spnS td) td (farN (spnS td)) (farC (spnS td)))) :=
    Lib.hid fun w' h' => number_to 190 td (spnS td) (farC (spnS td)) (farN (spnS td)) gs A B fives w' h' has_span (fun w' => span_yes td w' h3 h4) (fun w' M h => (HSET.out w' M h).2) (by omega) (by omega) (by omega) (by omega) (by omega) (by omega)
  have HE : Hid (L2 ++ numB fives (spnS td) td (farN (spnS td)) (farC (spnS td)) = L ++ tkB (tx, tl, td)) := Lib.hid (by
    unfold tkB
    rw [if_neg (by simp only; omega), fx_eq, ← List.append_assoc, hL2])
  rw [hL2] at HN1
  rw [HE.out] at HN2
  have hne : ((td : Int) == 0) = false := by rw [beq_eq_false_iff_ne]; omega
  have hmf : ∀ (fn : Fn) (first cap : Array Value) (w : World), (Instr.makeFunc fn first cap).run Tryz.prog w = .ok (.func fn first cap) w := fun _ _ _ _ => rfl
  clear hs hso hb f0 i1 f1 hr l1 l2 l3 l4 l5 l6 l7 l8 hL2 hl2 HE HSET
  go_enter Tryz.func157, Tryz.ntmps157
  go_wp2_with fail
  go_region_law (first
    | (go_simp; go_at_call 188; refine (HN1.out _ (H0.out.fr0 (Fr.drew _ _))).mono ?_; rintro e w2 ⟨rfl, i2⟩; have K := Lib.hid i2; clear i2; dsimp only))
  all_goals
    have d2 := HC.out w2 L2 K.out
    have k3 := K.out.cells 1 (.pointer (some ⟨gs, 0, none⟩)) rfl
    clear c1 c2 k2 hw0 H0 HN1
    go_wp2_with fail
    go_region_law (first
      | (go_simp; go_at_call 188; refine (HN2.out _ (K.out.fr0 (Fr.drew _ _))).mono ?_; rintro e w3 ⟨rfl, i3⟩; have K3 := Lib.hid (HR.out _ _ i3); clear i3; dsimp only))
    all_goals
      go_wp2_with fail
      go_end0
      exact ⟨rfl, K3.out⟩
theorem token_to {w1 : World} {A B gl gs g : Nat} {L : List Nat} {r0 : Option Nat} (t : M.Tk) (w : World) (h : WrTo (Xb gl gs) w1 w g r0 L) (hs : Sets w1 A B gl gs g r0) (ht : TkOk t) (hL : L.length + 1000 ≤ 1099511627776) :
    Calls Tryz.prog 157 #[.pointer (some ⟨g, 0, none⟩), .agg #[.int .u8 t.1, .int .i64 t.2.1, .int .i64 t.2.2]] w fun e w' => e = .returned (.tuple #[]) ∧ WrTo (Xb gl gs) w1 w' g r0 (L ++ tkB t) := by
  obtain ⟨tx, tl, td⟩ := t
  rcases ht with ⟨h1, h2⟩ | ⟨h1, h2, h3, h4⟩
  · obtain rfl : td = 0 := h1
    exact token_one tx tl w h hs h2 hL
  · exact token_two tx tl td w h hs h1 h2 h3 h4 hL
theorem close_any {w1 : World} {A B gl gs g : Nat} {L : List Nat} {r0 : Option Nat} (w : World) (h : WrTo (Xb gl gs) w1 w g r0 L) (hs : Sets w1 A B gl gs g r0) (hL : L.length + 1000 ≤ 1099511627776) :
    Calls Tryz.prog 158 #[.pointer (some ⟨g, 0, none⟩)] w fun e w' => ∃ v w2, e = .returned v ∧ WrTo (Xb gl gs) w1 w2 g r0 (L ++ code (cod fixLs' 256) (len fixLs' 256)) ∧ Fr S0 w2 w' ∧ RowNew w2 w' v (byt (L ++ code (cod fixLs' 256) (len fixLs' 256))) := by
  have k2 := h.cells 0 (.pointer (some ⟨gl, 0, none⟩)) rfl
  have H := Lib.hid h
  have l5 := fx_len 256 (by omega)
  obtain ⟨M, hM⟩ : ∃ M, L ++ code (cod fixLs' 256) (len fixLs' 256) = M := ⟨_, rfl⟩
  have hMl : M.length ≤ L.length + 9 := by rw [← hM, List.length_append, code_length, fx_eq]; omega
  have HW : Hid (∀ w', WrTo (Xb gl gs) w1 w' g r0 L → Calls Tryz.prog 187 #[.pointer (some ⟨gl, 0, none⟩), .pointer (some ⟨g, 0, none⟩), .int .i64 256] w' fun e w'' => e = .returned (.int .i64 0) ∧ WrTo (Xb gl gs) w1 w'' g r0 M) := Lib.hid fun w' h' => by
    rw [← hM, fx_eq]
    exact write_to h' A B gl fixLs 256 (hs.at h').1 l5.1 (by omega)
  have HB := Lib.hid (fun w' (h' : WrTo (Xb gl gs) w1 w' g r0 M) => bytes_to h' (by omega))
  rw [hM]
  clear h hs l5 hM hMl hL
  go_enter Tryz.func158, Tryz.ntmps158
  go_wp2_with fail
  go_region_law (first
    | (go_simp; go_at_call 187; refine (HW.out _ (H.out.fr0 (Fr.drew _ _))).mono ?_; rintro e w2 ⟨rfl, h2⟩; have K := Lib.hid h2; clear h2; dsimp only))
  all_goals
    have K1 := Lib.hid (HB.out _ K.out)
    go_wp2_with fail
    refine K1.out.mono ?_
    rintro e w3 ⟨v, rfl, f3, hv⟩
    have K3 := Lib.hid hv
    have K4 := Lib.hid f3
    clear hv f3 K1
    go_wp2_with fail
    go_ret
    exact ⟨v, w2, rfl, K.out, K4.out, K3.out⟩
end Go.Proofs.YtnndgpggjlhhpaaGreat
namespace Go.Proofs.YtnndgpggjlhhpaaGreat
open Go.RowKit
theorem tkB_len (t : M.Tk) (h : TkOk t) : (tkB t).length ≤ 60 := by
  unfold tkB
  rw [fx_eq]
  rcases h with ⟨h1, h2⟩ | ⟨h1, h2, h3, h4⟩
  · rw [if_pos h1, code_length]
    have := fx_len t.1 (by omega)
    omega
  · rw [if_neg (by omega)]
    have l2 := lenS_le t.2.1
    have l4 := spnS_le t.2.2
    have l5 := fx_len (lenS t.2.1) (by omega)
    have l6 := fv_len (spnS t.2.2) (by omega)
    have l7 := baseN_le (lenS t.2.1) l2.1 l2.2
    have l8 := farN_le (spnS t.2.2) l4
    rw [List.length_append, numB, numB, List.length_append, List.length_append, code_length, code_length, grp_length, grp_length]
    omega
theorem tksB_len : ∀ (l : List M.Tk), (∀ t ∈ l, TkOk t) → (tksB l).length ≤ 60 * l.length
  | [], _ => by simp [tksB]
  | t :: r, h => by
    have h1 := tkB_len t (h t (by simp))
    have h2 := tksB_len r fun u hu => h u (by simp [hu])
    rw [show tksB (t :: r) = tkB t ++ tksB r from rfl, List.length_append, List.length_cons]
    omega
theorem toks_ok (b : List Nat) (h8 : ∀ x ∈ b, x < 256) : ∀ (m k : Nat), b.length ≤ k + m → ∀ t ∈ M.toks b k, TkOk t
  | 0, k, h => by rw [M.toks_out b k (by omega)]; simp
  | m + 1, k, h => by
    by_cases hk : k < b.length
    · have hw := M.wid_pos b k hk
      rw [M.toks_in b k hk]
      intro t ht
      rcases List.mem_cons.1 ht with rfl | ht
      · rcases M.tok_is b k hk with ⟨e, -⟩ | ⟨s, d, e, h1, h2, h3, -, h4, -⟩
        · rw [e]; exact .inl ⟨rfl, by
            show b.getD k 0 < 256
            have : b.getD k 0 = b[k] := by simp [List.getD, hk]
            rw [this]
            exact h8 _ (List.getElem_mem hk)⟩
        · rw [e]; exact .inr ⟨h1, h2, h3, h4⟩
      · exact toks_ok b h8 m _ (by omega) t ht
    · rw [M.toks_out b k (by omega)]; simp
theorem fxB_len (b : List Nat) (h8 : ∀ x ∈ b, x < 256) : (fxB b).length ≤ 60 * b.length + 20 := by
  have h1 := tksB_len (M.toks b 0) (toks_ok b h8 b.length 0 (by omega))
  have h2 := M.toks_le b
  have h3 := fx_len 256 (by omega)
  unfold fxB
  rw [List.length_append, List.length_append, code_length, fx_eq]
  simp only [List.length_cons, List.length_nil]
  omega
theorem fixed_text (p : Option Addr) (d : Nat) (b : List Nat) (w : World) (hb : SlI w .u8 p b) (h8 : ∀ x ∈ b, x < 256) (hd : b.length ≤ d) (hL : b.length ≤ 1048576) :
    Calls Tryz.prog 130 #[.slice p b.length d] w fun e w' => ∃ v, e = .returned v ∧ Fr S0 w w' ∧ RowNew w w' v (fxd b) := by
  have HN := Lib.hid (newBlock_any w)
  have HB := Lib.hid hb
  have H8 := Lib.hid h8
  have HOK := Lib.hid (toks_ok b h8 b.length 0 (by omega))
  have HTL := Lib.hid (M.toks_le b)
  obtain ⟨m, hm⟩ : ∃ m, b.length = m := ⟨_, rfl⟩
  have HM := Lib.hid hm
  rw [hm] at hd hL ⊢
  clear hb h8 hm
  go_enter Tryz.func130, Tryz.ntmps130
  go_wp2_with fail
  refine HN.out.mono ?_
  rintro e w2 ⟨w1, A, B, gl, gs, rfl, h2, hs, f1⟩
  have HS := Lib.hid hs
  have HF1 := Lib.hid f1
  have H2 := Lib.hid h2
  have HF2 : Hid (Fr S0 w w2) := Lib.hid (h2.new f1 (Nat.le_refl _))
  have HFIND : Hid (Calls Tryz.prog 156 #[.slice p m d] w2 fun r w' => ∃ q n d, r = .returned (.slice q n d) ∧ n = (M.toks b 0).length ∧ w'.ownsRow 0 186 3 (.slice q n d) n (M.tkl (M.toks b 0)) ∧ Fr S0 w2 w' ∧ Fresh w2 (.slice q n d)) := Lib.hid (by
    have := M.find_any p d b w2 (HB.out.fr0 HF2.out) (by rw [HM.out]; exact hd) H8.out (by rw [HM.out]; exact hL)
    rw [HM.out] at this
    exact this)
  clear h2 hs f1 HN
  go_wp2_with fail
  refine HFIND.out.mono ?_
  rintro e w3 ⟨q, n, c, rfl, hn, own, f3, hv⟩
  obtain ⟨r, i1, i2, i3⟩ := H2.out.fr0 f3
  have HNN := Lib.hid hn
  have HOWN := Lib.hid own
  have HSO := Lib.hid (HS.out.on i1 i2 i3)
  have H3 : Hid (WrTo (Xb gl gs) w3 w3 w.heap.size r [1, 1, 0]) := Lib.hid i1.self
  have HR : Hid (∀ w' M, WrTo (Xb gl gs) w3 w' w.heap.size r M → Fr S0 w w') := Lib.hid fun w' M h' => (WrTo.step i2 i3 h').new HF1.out (Nat.le_refl _)
  have HQ : Hid (∀ k, Value.ownBlock (.slice q n c) = some k → ¬ WrB w.heap.size r k) := Lib.hid fun k hk e => by
    have a := hv k hk
    obtain ⟨r', j1, j2, j3⟩ := H2.out
    have := j1.lt
    have rr : r' = r := by
      have e1 := j1.fr0 f3
      obtain ⟨p1, c1, hb1, -, ho1⟩ := e1.ex
      obtain ⟨p2, c2, hb2, -, ho2⟩ := i1.ex
      rw [hb1] at hb2
      simp only [Option.some.injEq, Obj.cells.injEq, Wx.cs, Array.mk.injEq, List.cons.injEq, Value.slice.injEq, true_and, and_true] at hb2
      rw [← ho1, ← ho2, hb2.1, hb2.2]
    rcases e with e | e
    · omega
    · have := j1.rlt k (rr.trans e)
      omega
  have hnm : n ≤ m := by rw [hn, ← HM.out]; exact HTL.out
  clear hn own f3 hv HFIND H2 i1 i2 i3
  go_wp2_with fail
  have HTK : Hid (∀ w' L, WrTo (Xb gl gs) w3 w' w.heap.size r L → M.TkI w' q (M.toks b 0)) := Lib.hid fun w' L h' => by
    obtain ⟨r', -, f', -⟩ := h'
    refine (M.TkI.ofOwns HOWN.out).fr f' fun hne a ha e => ?_
    obtain ⟨gq, hq, -⟩ := (M.TkI.ofOwns HOWN.out) hne
    rw [hq] at ha
    cases ha
    exact HQ.out gq (by rw [hq]; rfl) e
  go_loopw [10] (fun i wr => ∃ j : Nat, j ≤ n ∧ i = .int .i64 j ∧ WrTo (Xb gl gs) w3 wr w.heap.size r ([1, 1, 0] ++ tksB ((M.toks b 0).take j))) (fun i _ => n - (intOf i).toNat)
  case atStart => exact ⟨0, by omega, rfl, H3.out⟩
  case round =>
    obtain ⟨j, hj, rfl, hto⟩ := hrel
    have HTO := Lib.hid hto
    clear hto
    by_cases hjn : (j : Int) < (n : Int)
    · have hjl : j < (M.toks b 0).length := by rw [← HNN.out]; omega
      obtain ⟨gq, rfl, c0, c1, c2⟩ := (HTK.out wr _ HTO.out).at j hjl
      have HTJ : Hid ((M.toks b 0).take (j + 1) = (M.toks b 0).take j ++ [(M.toks b 0)[j]]) := Lib.hid (List.take_succ_eq_append_getElem hjl)
      have HOKJ := Lib.hid (HOK.out _ (List.getElem_mem hjl))
      have HLJ : Hid (([1, 1, 0] ++ tksB ((M.toks b 0).take j)).length ≤ 100000000) := Lib.hid (by
        have := tksB_len ((M.toks b 0).take j) fun t ht => HOK.out t (List.mem_of_mem_take ht)
        rw [List.length_take] at this
        rw [List.length_append]
        simp only [List.length_cons, List.length_nil]
        omega)
      obtain ⟨⟨tx, tl, td⟩, ht⟩ : ∃ t, (M.toks b 0)[j] = t := ⟨_, rfl⟩
      rw [ht] at c0 c1 c2 HTJ HOKJ
      dsimp only at c0 c1 c2
      clear ht hjl
      go_wp2_with fail
      have HC := Lib.hid (token_to (tx, tl, td) _ (HTO.out.fr0 (Fr.alloc S0 wr (.cells #[.int .u8 (tx : Nat), .int .i64 (tl : Nat), .int .i64 (td : Nat)] 186))) HSO.out HOKJ.out (by have := HLJ.out; omega))
      clear c0 c1 c2
      refine HC.out.mono ?_
      rintro e w4 ⟨rfl, h4⟩
      rw [List.append_assoc, ← tksB_one, ← tksB_append, ← HTJ.out] at h4
      have K := Lib.hid h4
      clear h4 HC
      go_wp2_with fail
      go_roundw
      case rel => exact ⟨j + 1, by omega, by go_num, K.out⟩
      case measure => simp [intOf]; omega
    · have hTT : (M.toks b 0).take j = M.toks b 0 := List.take_of_length_le (by rw [← HNN.out]; omega)
      rw [hTT] at HTO
      have HE : Hid ([1, 1, 0] ++ tksB (M.toks b 0) ++ code (cod fixLs' 256) (len fixLs' 256) = fxB b) := Lib.hid rfl
      have hlb : (fxB b).length ≤ 100000000 := by have := fxB_len b H8.out; rw [HM.out] at this; omega
      have hlb2 : ([1, 1, 0] ++ tksB (M.toks b 0)).length ≤ 100000000 := by rw [← HE.out, List.length_append] at hlb; omega
      have HC := Lib.hid (close_any wr HTO.out HSO.out (by omega))
      rw [HE.out] at HC
      clear hTT hlb hlb2
      go_wp2_with fail
      refine HC.out.mono ?_
      rintro e w5 ⟨v, w4, rfl, h4, f5, hv⟩
      have K1 := Lib.hid (HR.out w4 _ h4)
      have K2 := Lib.hid f5
      have K3 := Lib.hid hv
      clear h4 f5 hv HC
      go_wp2_with fail
      go_ret
      exact ⟨v, rfl, K1.out.trans0 K2.out, K3.out.own, fun j hj => Nat.le_trans K1.out.size (K3.out.fresh j hj)⟩
theorem fxd_length (b : List Nat) (h8 : ∀ x ∈ b, x < 256) : (fxd b).length ≤ 8 * b.length + 4 := by
  have := fxB_len b h8
  unfold fxd
  rw [byt_length]
  omega
theorem fxB_bit (b : List Nat) : Bit01 (fxB b) := by
  unfold fxB
  refine Bit01.app (Bit01.app (fun x hx => by simp at hx; omega) ?_) (code_bit _ _)
  intro x hx
  obtain ⟨t, -, ht⟩ := List.mem_flatMap.1 hx
  unfold tkB at ht
  split at ht
  · exact code_bit _ _ x ht
  · simp only [numB, List.mem_append] at ht
    rcases ht with (ht | ht) | (ht | ht)
    · exact code_bit _ _ x ht
    · exact grp_bit _ _ x ht
    · exact code_bit _ _ x ht
    · exact grp_bit _ _ x ht
theorem fxd_256 (b : List Nat) : ∀ x ∈ fxd b, x < 256 := byt_lt _ (fxB_bit b)
theorem bst_256 (b : List Nat) (h8 : ∀ x ∈ b, x < 256) : ∀ x ∈ zbst b, x < 256 := by
  unfold zbst
  split
  · exact sto_256 b.length b (Nat.le_refl _) h8
  · exact fxd_256 b
theorem bst_length (b : List Nat) (h8 : ∀ x ∈ b, x < 256) : (zbst b).length ≤ 8 * b.length + 5 := by
  have h1 := fxd_length b h8
  have h2 := sto_length b.length b (Nat.le_refl _)
  unfold zbst
  split <;> omega
theorem best_any (p : Option Addr) (d : Nat) (b : List Nat) (w : World) (hb : SlI w .u8 p b) (h8 : ∀ x ∈ b, x < 256) (hp : p = none → d = 0) (hd : b.length ≤ d) (hL : b.length ≤ 1048576) :
    Calls Tryz.prog 92 #[.slice p b.length d] w fun e w' => ∃ v, e = .returned v ∧ Fr S0 w w' ∧ RowNew w w' v (zbst b) := by
  have HS := Lib.hid (dsto_any p d b w hb h8 hp hd hL)
  have HF := Lib.hid (fun w' (f : Fr S0 w w') => fixed_text p d b w' (hb.fr0 f) h8 hd hL)
  have h1 := fxd_length b h8
  have h2 := sto_length b.length b (Nat.le_refl _)
  obtain ⟨m, hm⟩ : ∃ m, b.length = m := ⟨_, rfl⟩
  rw [hm] at HS HF h1 h2 hL ⊢
  have HB : Hid (zbst b = if (sto b).length < (fxd b).length then sto b else fxd b) := Lib.hid rfl
  obtain ⟨l1, hl1⟩ : ∃ l, sto b = l := ⟨_, rfl⟩
  obtain ⟨l2, hl2⟩ : ∃ l, fxd b = l := ⟨_, rfl⟩
  rw [hl1] at HS HB h2
  rw [hl2] at HF HB h1
  obtain ⟨n1, hn1⟩ : ∃ n, l1.length = n := ⟨_, rfl⟩
  obtain ⟨n2, hn2⟩ : ∃ n, l2.length = n := ⟨_, rfl⟩
  have HN1 := Lib.hid hn1
  have HN2 := Lib.hid hn2
  rw [hn1] at h2
  rw [hn2] at h1
  rw [hn1, hn2] at HB
  clear hb h8 hp hd hm hl1 hl2 hn1 hn2
  go_enter Tryz.func92, Tryz.ntmps92
  go_wp2_with fail
  refine HS.out.mono ?_
  rintro e w1 ⟨v1, rfl, f1, hv1⟩
  obtain ⟨p1, c1, rfl, -, -, -⟩ := slForm hv1.own
  have HV1 := Lib.hid hv1
  have HF1 := Lib.hid f1
  have K := Lib.hid (HF.out w1 f1)
  rw [HN1.out]
  clear hv1 f1 HS HF
  go_wp2_with fail
  refine K.out.mono ?_
  rintro e w2 ⟨v2, rfl, f2, hv2⟩
  obtain ⟨p2, c2, rfl, -, -, -⟩ := slForm hv2.own
  have HV2 := Lib.hid hv2
  have HF2 := Lib.hid f2
  rw [HN2.out]
  clear hv2 f2 K
  by_cases hlt : n1 < n2
  · have hlt' : (n1 : Int) < (n2 : Int) := by omega
    have HE : Hid (zbst b = l1) := Lib.hid (by rw [HB.out, if_pos hlt])
    go_wp2_with fail
    go_ret
    refine ⟨.slice p1 n1 c1, rfl, HF1.out.trans0 HF2.out, ?_, ?_⟩
    · rw [HE.out, ← HN1.out]; exact HF2.out.owns HV1.out.own (fun _ _ h => h)
    · rw [← HN1.out]; exact HV1.out.fresh
  · have hlt' : ¬ (n1 : Int) < (n2 : Int) := by omega
    have HE : Hid (zbst b = l2) := Lib.hid (by rw [HB.out, if_neg hlt])
    go_wp2_with fail
    go_ret
    refine ⟨.slice p2 n2 c2, rfl, HF1.out.trans0 HF2.out, ?_, ?_⟩
    · rw [HE.out, ← HN2.out]; exact HV2.out.own
    · rw [← HN2.out]; exact fun j hj => Nat.le_trans HF1.out.size (HV2.out.fresh j hj)
end Go.Proofs.YtnndgpggjlhhpaaGreat
namespace Go.Proofs.YtnndgpggjlhhpaaGreat
open Go.RowKit
end Go.Proofs.YtnndgpggjlhhpaaGreat
namespace Go.Proofs.YtnndgpggjlhhpaaGreat
open Go.RowKit
end Go.Proofs.YtnndgpggjlhhpaaGreat

namespace Go.Proofs.YtnndgpggjlhhpaaGreat
open Go.RowKit
structure Grow (w3 w : World) (gb : Nat) (v : Value) (n : Nat) (L : List Nat) : Prop where
  own : w.ownsRow 0 5 1 v n (u8s L)
  fr : Fr (· = gb) w3 w
  wh : ∀ k, v.ownBlock = some k → k = gb ∨ w3.heap.size ≤ k
theorem Grow.fr0 {w3 w w' : World} {gb : Nat} {v : Value} {n : Nat} {L : List Nat} (h : Grow w3 w gb v n L) (f : Fr S0 w w') : Grow w3 w' gb v n L := ⟨f.owns h.own (fun _ _ h => h), h.fr.trans0 f, h.wh⟩
theorem Grow.app {w3 w w' : World} {gb : Nat} {v : Value} {n N : Nat} {L M : List Nat} {p : Option Addr} {c : Nat} (h : Grow w3 w gb v n L) (own : w'.ownsRow 0 5 1 (.slice p N c) N (u8s L ++ u8s M)) (g : w.grownBy w' v.ownBlock) (at' : Value.ownBlock (.slice p N c) = v.ownBlock ∨ Value.ownBlock (.slice p N c) = some w.heap.size) : Grow w3 w' gb (.slice p N c) N (L ++ M) := by
  refine ⟨by rw [← u8s_append]; exact own, h.fr.trans (Fr.grown g) fun j hj e => ?_, fun k hk => ?_⟩
  · rcases h.wh j e with q | q
    · exact q
    · omega
  · rcases at' with q | q
    · exact h.wh k (q ▸ hk)
    · rw [q] at hk
      cases hk
      exact .inr h.fr.size
end Go.Proofs.YtnndgpggjlhhpaaGreat
namespace Go.Proofs.YtnndgpggjlhhpaaGreat
open Go.RowKit
end Go.Proofs.YtnndgpggjlhhpaaGreat
namespace Go.Proofs.YtnndgpggjlhhpaaGreat
open Go.RowKit
structure RowG (w wr : World) (v : Value) (n : Nat) (L : List Nat) : Prop where
  own : wr.ownsRow 0 5 1 v n (u8s L)
  fr : Fr S0 w wr
  fresh : Fresh w v
theorem RowG.fr0 {w wr w' : World} {v : Value} {n : Nat} {L : List Nat} (h : RowG w wr v n L) (f : Fr S0 wr w') : RowG w w' v n L := ⟨f.owns h.own (fun _ _ h => h), h.fr.trans0 f, h.fresh⟩
theorem RowG.app {w wr w' : World} {v : Value} {n N : Nat} {L M : List Nat} {p : Option Addr} {c : Nat} (h : RowG w wr v n L) (own : w'.ownsRow 0 5 1 (.slice p N c) N (u8s L ++ u8s M)) (g : wr.grownBy w' v.ownBlock) (wh : Value.ownBlock (.slice p N c) = v.ownBlock ∨ Value.ownBlock (.slice p N c) = some wr.heap.size) : RowG w w' (.slice p N c) N (L ++ M) := by
  refine ⟨by rw [← u8s_append]; exact own, h.fr.append g h.fresh, fun k hk => ?_⟩
  rcases wh with q | q
  · exact h.fresh k (q ▸ hk)
  · rw [q] at hk; cases hk; exact h.fr.size
theorem SlI.add {w : World} {k : IntKind} {a : Addr} {l : List Nat} (h : SlI w k (some a) l) (n : Nat) : SlI w k (some (a.add n)) (l.drop n) := by
  by_cases hl : l = []
  · subst hl; rw [List.drop_nil]; exact SlI.nil _ _ _
  · obtain ⟨b, o, hp, -⟩ := h.2 hl
    obtain rfl := Option.some.inj hp
    have h2 := h.drop n
    unfold Addr.add
    split
    · rename_i h0; subst h0; simpa using h2
    · exact h2
end Go.Proofs.YtnndgpggjlhhpaaGreat
