/- A fixed block is begun; its tokens are written. -/
import Derived.Test.YtfibhgohenkfbaaDefWr
import Derived.Test.YtfibhgohenkfbaaDefSym2
import Derived.Test.YtfibhgohenkfbaaHufSpans
import Derived.Test.YtfibhgohenkfbaaMatFind
namespace Go.Proofs.Ytfibhgohenkfbaa
open Go.RowKit

theorem fx_eq : fixLs' = fixLs := by decide +kernel
theorem fx_ful : ful fixLs := by decide +kernel
theorem fv_ful : ful fives := by decide +kernel
theorem fx_15 : ∀ x ∈ fixLs, x ≤ 15 := by decide +kernel
theorem fx_len (i : Nat) (h : i < 288) : 0 < len fixLs i ∧ len fixLs i ≤ 9 := by
  have key : ∀ k : Fin 288, 0 < len fixLs k.val ∧ len fixLs k.val ≤ 9 := by decide +kernel
  exact key ⟨i, h⟩
theorem fv_len (i : Nat) (h : i < 32) : len fives i = 5 := by
  have key : ∀ k : Fin 32, len fives k.val = 5 := by decide +kernel
  exact key ⟨i, h⟩
theorem fixLs_256 : ∀ x ∈ fixLs, x < 256 := fun x hx => by have := fx_15 x hx; omega

/-- what stands behind a block's writer -/
def Xb (gl gs : Nat) : Wx := ⟨[.pointer (some ⟨gl, 0, none⟩), .pointer (some ⟨gs, 0, none⟩)], 68⟩
/-- the block's sets, as they stand in w1, away from the block and its row -/
structure Sets (w1 : World) (A B gl gs g : Nat) (r0 : Option Nat) : Prop where
  s1 : SetIs w1 A B gl fixLs
  s2 : SetIs w1 A B gs fives
  off : ∀ k, A ≤ k → k < B → ¬ WrB g r0 k
  hB : B ≤ w1.heap.size
theorem Sets.at {w1 w : World} {A B gl gs g : Nat} {r0 : Option Nat} {X : Wx} {L : List Nat} (h : Sets w1 A B gl gs g r0) (hw : WrTo X w1 w g r0 L) : SetIs w A B gl fixLs ∧ SetIs w A B gs fives := by
  obtain ⟨r, -, f, -⟩ := hw
  exact ⟨h.s1.fr f h.off, h.s2.fr f h.off⟩
/-- from another world on -/
theorem Sets.on {w1 w : World} {A B gl gs g : Nat} {r0 r : Option Nat} {X : Wx} {L : List Nat} (h : Sets w1 A B gl gs g r0) (hw : WrIs X w g r L) (f : Fr (WrB g r0) w1 w) (hr : r = r0 ∨ ∀ j, r = some j → w1.heap.size ≤ j) : Sets w A B gl gs g r := by
  have q := h.at ⟨r, hw, f, hr⟩
  refine ⟨q.1, q.2, fun k a b e => ?_, Nat.le_trans h.hB f.size⟩
  rcases e with e | e
  · exact h.off k a b (.inl e)
  · rcases hr with hr | hr
    · exact h.off k a b (.inr (hr ▸ e))
    · have := hr k e
      have := h.hB
      omega
theorem WrTo.cells {X : Wx} {w0 w : World} {g : Nat} {r0 : Option Nat} {L : List Nat} (h : WrTo X w0 w g r0 L) (k : Nat) (v : Value) (hv : X.tl[k]? = some v) : w.cell? ⟨g, k + 2, none⟩ = some v := by
  obtain ⟨r, h1, -, -⟩ := h
  obtain ⟨p, c, hb, -, -⟩ := h1.ex
  simp only [World.cell?, hb, Wx.cs]
  simpa using hv

set_option maxRecDepth 100000 in
set_option maxHeartbeats 1000000 in
theorem makeCodes_any (g : Nat) (w : World) (h : w.heap[g]? = some (.cells #[.slice none 0 0, .int .i64 0, .pointer none, .pointer none] 68 (0, 0))) :
    Calls Try.prog 43 #[.pointer (some ⟨g, 0, none⟩)] w fun e w' => e = .returned (.tuple #[]) ∧ ∃ B gl gs, WrTo (Xb gl gs) w' w' g none [] ∧ Sets w' w.heap.size B gl gs g none ∧ Fr (· = g) w w' := by
  have H := Lib.hid h
  have HG : Hid (g < w.heap.size) := Lib.hid (Array.getElem?_eq_some_iff.1 h).1
  have HFX := Lib.hid (fixed_any w)
  clear h
  go_enter Try.func43, Try.ntmps43
  go_wp2_with fail
  refine HFX.out.mono ?_
  rintro e w1 ⟨v, rfl, f1, hv⟩
  obtain ⟨p1, c1, rfl, hp1, -, -⟩ := slForm hv.own
  have HV := Lib.hid hv.own
  have HF1 := Lib.hid f1
  have HMK := Lib.hid (make_ok p1 c1 fixLs w1 (SlI.ofOwns HV.out) hp1 (by rw [fixLs_length]; decide) fx_15 (.inl fx_ful))
  clear hv f1 hp1 HFX
  go_wp2_with fail
  refine HMK.out.mono ?_
  rintro e w2 ⟨gl, rfl, ⟨f2, s2⟩, hgl⟩
  have HF2 : Hid (Fr S0 w w2) := Lib.hid (HF1.out.trans0 f2)
  have HS2 : Hid (SetIs w2 w.heap.size w2.heap.size gl fixLs) := Lib.hid (s2.mono HF1.out.size (Nat.le_refl _))
  have hb2 := HF2.out.row H.out (fun h => h)
  have k2 : w2.cell? ⟨g, 2, none⟩ = some (.pointer none) := by simp [World.cell?, hb2]
  have z2 : w2.frozen? ⟨g, 2, none⟩ = false := by simp [World.frozen?, hb2]
  have HB2 := Lib.hid hb2
  clear f2 s2 hgl HMK HF1 HV hb2
  go_wp2_with fail
  have hb3 : (w2.setCell ⟨g, 2, none⟩ (.pointer (some ⟨gl, 0, none⟩))).heap[g]? = some (.cells #[.slice none 0 0, .int .i64 0, .pointer (some ⟨gl, 0, none⟩), .pointer none] 68 (0, 0)) := by
    rw [heap_setCell_same w2 g 2 _ _ _ HB2.out]; rfl
  have f3 : Fr (· = g) w2 (w2.setCell ⟨g, 2, none⟩ (.pointer (some ⟨gl, 0, none⟩))) := Fr.setCell _ _ _ _ rfl
  generalize w2.setCell ⟨g, 2, none⟩ (.pointer (some ⟨gl, 0, none⟩)) = w3 at hb3 f3 ⊢
  have HB3 := Lib.hid hb3
  have HS3 : Hid (SetIs w3 w.heap.size w2.heap.size gl fixLs) := Lib.hid (HS2.out.fr f3 (fun k h1 h2 e => by have := HG.out; omega))
  have HF3 : Hid (Fr (· = g) w w3) := Lib.hid ((HF2.out.mono (T := (· = g)) (fun _ _ h => h.elim)).trans f3 (fun _ _ h => h))
  have hz3 := f3.size
  have HSP := Lib.hid (spans_any w3)
  clear hb3 f3 k2 z2 HB2 HS2 HF2
  refine HSP.out.mono ?_
  rintro e w4 ⟨q4, rfl, f4, s4⟩
  have HF4 : Hid (Fr (· = g) w w4) := Lib.hid (HF3.out.trans0 f4)
  have HS4 : Hid (SetIs w4 w.heap.size w2.heap.size gl fixLs) := Lib.hid (HS3.out.fr0 f4)
  have HB4 : Hid (w4.heap[g]? = some (.cells #[.slice none 0 0, .int .i64 0, .pointer (some ⟨gl, 0, none⟩), .pointer none] 68 (0, 0))) := Lib.hid (f4.row HB3.out (fun h => h))
  have HMK : Hid (Calls Try.prog 60 #[.slice (some ⟨q4, 0, none⟩) 32 32] w4 fun e w' => ∃ g, e = .returned (.tuple #[.pointer (some ⟨g, 0, none⟩), .int .i64 0]) ∧ (Fr S0 w4 w' ∧ SetIs w' w4.heap.size w'.heap.size g fives) ∧ w4.heap.size ≤ g) :=
    Lib.hid (make_ok (some ⟨q4, 0, none⟩) 32 (List.replicate 32 5) w4 s4 (fun h => by cases h) (by decide) (by decide) (.inl fv_ful))
  have hz4 := f4.size
  clear f4 s4 HSP HS3 HF3 HB3
  go_wp2_with fail
  refine HMK.out.mono ?_
  rintro e w5 ⟨gs, rfl, ⟨f5, s5⟩, hgs⟩
  have HF5 : Hid (Fr (· = g) w w5) := Lib.hid (HF4.out.trans0 f5)
  have hb5 := f5.row HB4.out (fun h => h)
  have k3 : w5.cell? ⟨g, 3, none⟩ = some (.pointer none) := by simp [World.cell?, hb5]
  have z3 : w5.frozen? ⟨g, 3, none⟩ = false := by simp [World.frozen?, hb5]
  have HS5 : Hid (SetIs w5 w.heap.size w5.heap.size gl fixLs ∧ SetIs w5 w.heap.size w5.heap.size gs fives) := Lib.hid ⟨(HS4.out.fr0 f5).mono (Nat.le_refl _) (Nat.le_trans hz3 (Nat.le_trans hz4 f5.size)), s5.mono HF4.out.size (Nat.le_refl _)⟩
  have HB5 := Lib.hid hb5
  clear f5 s5 hgs HMK HF4 HS4 hz3 hz4 HB4 hb5
  go_wp2_with fail
  have hb6 : (w5.setCell ⟨g, 3, none⟩ (.pointer (some ⟨gs, 0, none⟩))).heap[g]? = some (.cells #[.slice none 0 0, .int .i64 0, .pointer (some ⟨gl, 0, none⟩), .pointer (some ⟨gs, 0, none⟩)] 68 (0, 0)) := by
    rw [heap_setCell_same w5 g 3 _ _ _ HB5.out]; rfl
  have f6 : Fr (· = g) w5 (w5.setCell ⟨g, 3, none⟩ (.pointer (some ⟨gs, 0, none⟩))) := Fr.setCell _ _ _ _ rfl
  generalize w5.setCell ⟨g, 3, none⟩ (.pointer (some ⟨gs, 0, none⟩)) = w6 at hb6 f6 ⊢
  have HEND : Hid (∃ B gl gs, WrTo (Xb gl gs) w6 w6 g none [] ∧ Sets w6 w.heap.size B gl gs g none ∧ Fr (· = g) w w6) := Lib.hid
    ⟨w5.heap.size, gl, gs, WrIs.self ⟨⟨none, 0, hb6, World.ownsRow_nil _ _ _ _, rfl⟩, Bit01.nil, fun h => by cases h⟩,
      ⟨HS5.out.1.fr f6 (fun k h1 h2 e => by have := HG.out; omega), HS5.out.2.fr f6 (fun k h1 h2 e => by have := HG.out; omega), (fun k a b e => by have := HG.out; rcases e with e | e; omega; cases e), f6.size⟩, HF5.out.trans f6 (fun _ _ h => h)⟩
  clear hb6 f6 k3 z3 HS5 HF5 HB5
  go_wp2_with fail
  go_end0
  exact ⟨rfl, HEND.out⟩

set_option maxRecDepth 100000 in
set_option maxHeartbeats 1000000 in
theorem newBlock_any (w : World) :
    Calls Try.prog 22 #[] w fun e w' => ∃ w1 A B gl gs, e = .returned (.pointer (some ⟨w.heap.size, 0, none⟩)) ∧ WrTo (Xb gl gs) w1 w' w.heap.size none [1, 1, 0] ∧ Sets w1 A B gl gs w.heap.size none ∧ Fr S0 w w1 := by
  go_enter Try.func22, Try.ntmps22
  go_wp2_with fail
  have hb := heap_alloc_new w (.cells #[.slice none 0 0, .int .i64 0, .pointer none, .pointer none] 68)
  have f0 : Fr S0 w (w.alloc (.cells #[.slice none 0 0, .int .i64 0, .pointer none, .pointer none] 68)) := Fr.alloc _ _ _
  generalize w.alloc (.cells #[.slice none 0 0, .int .i64 0, .pointer none, .pointer none] 68) = w0 at hb f0 ⊢
  have HF0 := Lib.hid f0
  have HM := Lib.hid (makeCodes_any w.heap.size w0 hb)
  clear hb f0
  refine HM.out.mono ?_
  rintro e w1 ⟨rfl, B, gl, gs, h1, h2, f1⟩
  have HH : Hid (Calls Try.prog 44 #[.pointer (some ⟨w.heap.size, 0, none⟩), .int .u32 1, .bool true] w1 fun e w' => e = .returned (.tuple #[]) ∧ WrTo (Xb gl gs) w1 w' w.heap.size none [1, 1, 0]) := Lib.hid (head_to h1 1 true (by decide) (by decide))
  have HS := Lib.hid h2
  have HF1 : Hid (Fr S0 w w1) := Lib.hid (HF0.out.trans f1 (fun j hj e => by omega))
  clear h1 h2 f1 HM
  go_wp2_with fail
  refine HH.out.mono ?_
  rintro e w2 ⟨rfl, h2⟩
  have K := Lib.hid h2
  clear h2 HH
  go_wp2_with fail
  go_ret
  exact ⟨w1, _, B, gl, gs, rfl, K.out, HS.out, HF1.out⟩

set_option maxRecDepth 100000 in
set_option maxHeartbeats 1000000 in
theorem number_to {X : Wx} {w1 : World} {g : Nat} {L : List Nat} {r0 : Option Nat} (S n s c least gset A B : Nat) (l : List Nat) (w : World) (h : WrTo X w1 w g r0 L) (hE : Has S)
    (hS : ∀ w', Calls Try.prog S #[.int .i64 n] w' fun e w'' => e = .returned (.tuple #[.int .i64 (s : Nat), .int .i64 (c : Nat), .int .i64 ((n - least : Nat) : Int)]) ∧ Fr S0 w' w'')
    (hset : ∀ (w' : World) (M : List Nat), WrTo X w1 w' g r0 M → SetIs w' A B gset l) (hi : 0 < len l s) (hi15 : len l s ≤ 15) (hr : n - least < 2 ^ c) (hc : c ≤ 13) (hn : n ≤ 100000) (hL : L.length + 100 ≤ 1099511627776) :
    Calls Try.prog 49 #[.pointer (some ⟨g, 0, none⟩), .int .i64 n, .func (.func S) #[] #[], .func (.func 48) #[.pointer (some ⟨gset, 0, none⟩)] #[]] w fun e w' => e = .returned (.tuple #[]) ∧ WrTo X w1 w' g r0 (L ++ numB l s n least c) := by
  have H := Lib.hid h
  have HS := Lib.hid (hS w)
  have HW := Lib.hid (fun w' (h' : WrTo X w1 w' g r0 L) => write_to h' A B gset l s (hset w' L h') hi (by omega))
  obtain ⟨M, hM⟩ : ∃ M, L ++ code (cod l s) (len l s) = M := ⟨_, rfl⟩
  have hMl : M.length ≤ L.length + 15 := by rw [← hM, List.length_append, code_length]; omega
  obtain ⟨r, hrr⟩ : ∃ r, n - least = r := ⟨_, rfl⟩
  have HG := Lib.hid (fun w' (h' : WrTo X w1 w' g r0 M) => group_to h' r c (by omega) (by omega) (by omega))
  have HE : Hid (M ++ grp r c = L ++ numB l s n least c) := Lib.hid (by rw [← hM, numB, hrr, List.append_assoc])
  have hEm : ∀ w, (callFunc S #[.int .i64 (n : Nat)]).run Try.prog w = .ok (.enter S #[.int .i64 (n : Nat)]) w := fun w => hE _ _
  rw [hM] at HW
  rw [HE.out] at HG
  rw [hrr] at HS
  have hrl : r ≤ 100000 := by omega
  clear h hS hset hi hi15 hr hL hM hrr hMl HE
  go_enter Try.func49, Try.ntmps49
  go_wp2_with fail
  refine HS.out.mono ?_
  rintro e w2 ⟨rfl, f2⟩
  have K2 := Lib.hid (HW.out w2 (H.out.fr0 f2))
  clear f2 HS HW hEm
  go_wp2_with fail
  refine K2.out.mono ?_
  rintro e w3 ⟨rfl, h3⟩
  have K3 := Lib.hid (HG.out w3 h3)
  clear h3 K2 HG
  go_wp2_with fail
  refine K3.out.mono ?_
  rintro e w4 ⟨rfl, h4⟩
  have K4 := Lib.hid h4
  clear h4 K3
  go_wp2_with fail
  go_end0
  exact ⟨rfl, K4.out⟩
end Go.Proofs.Ytfibhgohenkfbaa
