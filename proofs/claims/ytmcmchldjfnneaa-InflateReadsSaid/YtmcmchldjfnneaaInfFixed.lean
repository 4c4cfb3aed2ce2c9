/- A block by the fixed codes. -/
import Derived.Test.YtmcmchldjfnneaaInfStored
import Derived.Test.YtmcmchldjfnneaaHufSpans
namespace Go.Proofs.Ytmcmchldjfnneaa
open Go.RowKit

theorem fix_eq : fixLs' = fixLs := by decide +kernel
theorem fix_ful : ful fixLs := by decide +kernel
theorem five_ful : ful (List.replicate 32 5) := by decide +kernel
theorem fix_15 : ∀ x ∈ fixLs, x ≤ 15 := by decide +kernel

/-- the fixed codes: none so far, or both -/
def FixIs (w : World) (g gr : Nat) (t : Option Nat) (L S : Value) : Prop :=
  (L = .pointer none ∧ S = .pointer none) ∨ ∃ A B A2 B2 gl gs, L = .pointer (some ⟨gl, 0, none⟩) ∧ S = .pointer (some ⟨gs, 0, none⟩) ∧ SetIs w A B gl fixLs ∧ SetIs w A2 B2 gs (List.replicate 32 5) ∧ Away w A B g gr t ∧ Away w A2 B2 g gr t
/-- the stream has gone on over a block -/
def BlkTo (w w' : World) (g gr : Nat) (r t : Option Nat) (b : List Nat) (k lim : Nat) (T : List Nat) : Prop :=
  ∃ t' L S, StIs w' g gr r t' b k lim T L S ∧ FixIs w' g gr t' L S ∧ Fr (StB g gr t) w w' ∧ (t' = t ∨ ∀ j, t' = some j → w.heap.size ≤ j)
def BlkEnds (x : Res (List Nat)) (w : World) (g gr : Nat) (r t : Option Nat) (b : List Nat) (lim : Nat) (e : Ending) (w' : World) : Prop :=
  match x with
  | .ok T k => e = .returned (.tuple #[]) ∧ BlkTo w w' g gr r t b k lim T
  | .no m => e = .panicked (chn m) ∧ Fr (StB g gr t) w w'
section
variable {g gr : Nat} {r t : Option Nat} {b : List Nat} {k lim : Nat} {T : List Nat} {L S : Value}
theorem BlkEnds.of {x y : Res (List Nat)} {w w' : World} {e : Ending} (h : x = y) (q : BlkEnds y w g gr r t b lim e w') : BlkEnds x w g gr r t b lim e w' := by rw [h]; exact q
theorem FixIs.to {w w' : World} {t' : Option Nat} (h : FixIs w g gr t L S) (hf : Fr (StB g gr t) w w') (ht : t' = t ∨ ∀ j, t' = some j → w.heap.size ≤ j) : FixIs w' g gr t' L S := by
  rcases h with h | ⟨A, B, A2, B2, gl, gs, h1, h2, h3, h4, h5, h6⟩
  · exact .inl h
  · exact .inr ⟨A, B, A2, B2, gl, gs, h1, h2, h3.fr hf h5.2, h4.fr hf h6.2, h5.to hf.size ht, h6.to hf.size ht⟩
theorem StEnds.blk {x : Res (List Nat)} {w0 w w' : World} {t0 : Option Nat} {e : Ending} (hx : FixIs w g gr t L S) (hf : Fr (StB g gr t0) w0 w) (ht : t = t0 ∨ ∀ j, t = some j → w0.heap.size ≤ j)
    (h : StEnds x w g gr r t b lim L S e w') : BlkEnds x w0 g gr r t0 b lim e w' := by
  cases x with
  | no m => exact ⟨h.1, frTo hf ht h.2⟩
  | ok T k =>
    obtain ⟨h1, t', h2, h3, h4⟩ := h
    refine ⟨h1, t', L, S, h2, hx.to h3 h4, frTo hf ht h3, ?_⟩
    rcases h4 with h4 | h4
    · subst h4; exact ht
    · exact .inr fun j hj => Nat.le_trans hf.size (h4 j hj)
theorem StIs.set3 {w : World} (h : StIs w g gr r t b k lim T L S) (v : Value) : StIs (w.setCell ⟨g, 3, none⟩ v) g gr r t b k lim T v S := by
  obtain ⟨p, c, h1, h2, h3⟩ := h.ex
  have a := h.apart
  have f : Fr (· = g) w (w.setCell ⟨g, 3, none⟩ v) := Fr.setCell _ _ _ _ rfl
  exact ⟨⟨p, c, by rw [heap_setCell_same w g 3 _ _ _ h1]; rfl, f.owns h2 (fun k hk e => a.2.2.1 (by rw [← h3, hk, e])), h3⟩, h.rd.fr f (fun e => a.1 e.symm) (fun j hj e => a.2.1 (by rw [hj, e])), h.bytes, h.few, h.apart⟩
theorem StIs.set4 {w : World} (h : StIs w g gr r t b k lim T L S) (v : Value) : StIs (w.setCell ⟨g, 4, none⟩ v) g gr r t b k lim T L v := by
  obtain ⟨p, c, h1, h2, h3⟩ := h.ex
  have a := h.apart
  have f : Fr (· = g) w (w.setCell ⟨g, 4, none⟩ v) := Fr.setCell _ _ _ _ rfl
  exact ⟨⟨p, c, by rw [heap_setCell_same w g 4 _ _ _ h1]; rfl, f.owns h2 (fun k hk e => a.2.2.1 (by rw [← h3, hk, e])), h3⟩, h.rd.fr f (fun e => a.1 e.symm) (fun j hj e => a.2.1 (by rw [hj, e])), h.bytes, h.few, h.apart⟩
/-- what was made later lies away -/
theorem StIs.away {w w1 : World} {A B : Nat} (h : StIs w g gr r t b k lim T L S) (hA : w.heap.size ≤ A) (hB : B ≤ w1.heap.size) : Away w1 A B g gr t := by
  refine ⟨hB, fun j h1 h2 h3 => ?_⟩
  have a1 := h.lt
  have a2 := h.rd.lt
  rcases h3 with h3 | h3 | h3
  · omega
  · omega
  · have := h.tlt j h3; omega

set_option maxRecDepth 100000 in
set_option maxHeartbeats 2000000 in
theorem fixed_block (w : World) (h : StIs w g gr r t b k lim T L S) (hx : FixIs w g gr t L S) :
    Calls Try.prog 41 #[.pointer (some ⟨g, 0, none⟩)] w (BlkEnds (rSyms b lim fixLs' (List.replicate 32 5) T k) w g gr r t b lim) := by
  have H := Lib.hid h
  have k3 := h.c3
  rcases hx with ⟨rfl, rfl⟩ | ⟨A, B, A2, B2, gl, gs, rfl, rfl, h3, h4, h5, h6⟩
  · have HFX := Lib.hid (fixed_any w)
    clear h
    go_enter Try.func41, Try.ntmps41
    go_wp2_with fail
    refine HFX.out.mono ?_
    rintro e w1 ⟨v, rfl, f1, hv⟩
    obtain ⟨p1, c1, rfl, hp1, -, -⟩ := slForm hv.own
    have HV := Lib.hid hv.own
    have HF1 := Lib.hid f1
    have HMK := Lib.hid (make_ok p1 c1 fixLs w1 (SlI.ofOwns HV.out) hp1 (by rw [fixLs_length]; decide) fix_15 (.inl fix_ful))
    clear hv f1 hp1 HFX k3
    go_wp2_with fail
    refine HMK.out.mono ?_
    rintro e w2 ⟨gl, rfl, ⟨f2, s2⟩, hgl⟩
    have HF2 : Hid (Fr S0 w w2) := Lib.hid (HF1.out.trans0 f2)
    have HS2 : Hid (SetIs w2 w.heap.size w2.heap.size gl fixLs) := Lib.hid (s2.mono HF1.out.size (Nat.le_refl _))
    have HG := Lib.hid (gotSet_yes (.pointer (some ⟨gl, 0, none⟩)) w2)
    have HSP := Lib.hid (spans_any w2)
    clear f2 s2 hgl HMK HF1 HV
    go_wp2_with fail
    refine HG.out.mono ?_
    rintro e w' ⟨rfl, rfl⟩
    go_wp2_with fail
    refine HSP.out.mono ?_
    rintro e w3 ⟨q3, rfl, f3, s3⟩
    have HF3 : Hid (Fr S0 w w3) := Lib.hid (HF2.out.trans0 f3)
    have HS3 : Hid (SetIs w3 w.heap.size w2.heap.size gl fixLs) := Lib.hid (HS2.out.fr0 f3)
    have HMK : Hid (Calls Try.prog 54 #[.slice (some ⟨q3, 0, none⟩) 32 32] w3 fun e w' => ∃ g, e = .returned (.tuple #[.pointer (some ⟨g, 0, none⟩), .int .i64 0]) ∧ (Fr S0 w3 w' ∧ SetIs w' w3.heap.size w'.heap.size g (List.replicate 32 5)) ∧ w3.heap.size ≤ g) :=
      Lib.hid (make_ok (some ⟨q3, 0, none⟩) 32 (List.replicate 32 5) w3 s3 (fun h => by cases h) (by decide) (by decide) (.inl five_ful))
    have hsz3 := f3.size
    clear f3 s3 HG HSP HS2 HF2
    go_wp2_with fail
    refine HMK.out.mono ?_
    rintro e w4 ⟨gs, rfl, ⟨f4, s4⟩, hgs⟩
    have HF4 : Hid (Fr S0 w w4) := Lib.hid (HF3.out.trans0 f4)
    have HS4 : Hid (SetIs w4 w.heap.size w4.heap.size gl fixLs) := Lib.hid ((HS3.out.fr0 f4).mono (Nat.le_refl _) (Nat.le_trans hsz3 f4.size))
    have HS5 : Hid (SetIs w4 w.heap.size w4.heap.size gs (List.replicate 32 5)) := Lib.hid (s4.mono HF3.out.size (Nat.le_refl _))
    have HG := Lib.hid (gotSet_yes (.pointer (some ⟨gs, 0, none⟩)) w4)
    have H4 := Lib.hid (H.out.fr0 HF4.out)
    have hfz3 := H4.out.fz 3
    have k3 := H4.out.c3
    clear f4 s4 HMK HF3 HS3 hgs hsz3
    go_wp2_with fail
    refine HG.out.mono ?_
    rintro e w' ⟨rfl, rfl⟩
    have H5 := Lib.hid (H4.out.set3 (.pointer (some ⟨gl, 0, none⟩)))
    have H6 := Lib.hid (H5.out.set4 (.pointer (some ⟨gs, 0, none⟩)))
    have hfz4 := H5.out.fz 4
    have k4 := H5.out.c4
    go_wp2_with fail
    have HFF : Hid (Fr (· = g) w4 ((w4.setCell ⟨g, 3, none⟩ (.pointer (some ⟨gl, 0, none⟩))).setCell ⟨g, 4, none⟩ (.pointer (some ⟨gs, 0, none⟩)))) := Lib.hid ((Fr.setCell (· = g) w4 ⟨g, 3, none⟩ _ rfl).trans (Fr.setCell (· = g) _ ⟨g, 4, none⟩ _ rfl) (fun _ _ h => h))
    generalize (w4.setCell ⟨g, 3, none⟩ (.pointer (some ⟨gl, 0, none⟩))).setCell ⟨g, 4, none⟩ (.pointer (some ⟨gs, 0, none⟩)) = W at H6 HFF ⊢
    clear hfz3 k3 H5 hfz4 k4 HG
    have k3 := H6.out.c3
    have k4 := H6.out.c4
    have HAW : Hid (Away W w.heap.size w4.heap.size g gr t) := Lib.hid (H.out.away (Nat.le_refl _) HFF.out.size)
    have HSL : Hid (SetIs W w.heap.size w4.heap.size gl fixLs) := Lib.hid (HS4.out.fr HFF.out (fun j q1 q2 e => HAW.out.2 j q1 q2 (.inl e)))
    have HSS : Hid (SetIs W w.heap.size w4.heap.size gs (List.replicate 32 5)) := Lib.hid (HS5.out.fr HFF.out (fun j q1 q2 e => HAW.out.2 j q1 q2 (.inl e)))
    have HFW : Hid (Fr (StB g gr t) w W) := Lib.hid (HF4.out.mono (fun _ _ h => h.elim) |>.trans HFF.out (fun _ _ e => .inl e))
    have HFIX : Hid (FixIs W g gr t (.pointer (some ⟨gl, 0, none⟩)) (.pointer (some ⟨gs, 0, none⟩))) := Lib.hid (.inr ⟨_, _, _, _, gl, gs, rfl, rfl, HSL.out, HSS.out, HAW.out, HAW.out⟩)
    have HSY : Hid (∀ W2, Fr S0 W W2 → Calls Try.prog 57 #[.pointer (some ⟨g, 0, none⟩), .pointer (some ⟨gl, 0, none⟩), .pointer (some ⟨gs, 0, none⟩)] W2 (BlkEnds (rSyms b lim fixLs' (List.replicate 32 5) T k) w g gr r t b lim)) := Lib.hid (fun W2 f => by
      rw [fix_eq]
      refine (symbols_any _ _ _ _ gl gs fixLs (List.replicate 32 5) W2 (H6.out.fr0 f) (HSL.out.fr0 f) (HSS.out.fr0 f) (HAW.out.to f.size (.inl rfl)) (HAW.out.to f.size (.inl rfl))).mono fun e w' q => ?_
      exact q.blk (HFIX.out.to (f.mono fun _ _ h => h.elim) (.inl rfl)) (HFW.out.trans0 f) (.inl rfl))
    clear HFIX HFW HSS HSL HAW HFF H6 HS4 HS5 H4 HF4 H
    go_still_tail 9, (by kernel_rfl)
    obtain ⟨W2, hw2, f2⟩ := drewFr W
    change wpList _ _ _ _ _ W.drew
    rw [hw2]
    have HC := Lib.hid (HSY.out W2 f2)
    clear hw2 f2 k3 k4 HSY
    go_wp2_with fail
    refine HC.out.mono ?_
    intro e w5 h5
    cases hx : rSyms b lim fixLs' (List.replicate 32 5) T k with
    | no m =>
      rw [hx] at h5
      obtain ⟨rfl, f5⟩ := h5
      have K := Lib.hid hx
      clear hx HC
      go_wp2_with fail
      exact ⟨rfl, BlkEnds.of K.out ⟨rfl, f5⟩⟩
    | ok T1 k1 =>
      rw [hx] at h5
      obtain ⟨rfl, f5⟩ := h5
      have K := Lib.hid hx
      clear hx HC
      go_wp2_with fail
      go_end0
      exact BlkEnds.of K.out ⟨rfl, f5⟩
  · have HFIX : Hid (FixIs w g gr t (.pointer (some ⟨gl, 0, none⟩)) (.pointer (some ⟨gs, 0, none⟩))) := Lib.hid (.inr ⟨A, B, A2, B2, gl, gs, rfl, rfl, h3, h4, h5, h6⟩)
    have HSY : Hid (∀ W2, Fr S0 w W2 → Calls Try.prog 57 #[.pointer (some ⟨g, 0, none⟩), .pointer (some ⟨gl, 0, none⟩), .pointer (some ⟨gs, 0, none⟩)] W2 (BlkEnds (rSyms b lim fixLs' (List.replicate 32 5) T k) w g gr r t b lim)) := Lib.hid (fun W2 f => by
      rw [fix_eq]
      refine (symbols_any _ _ _ _ gl gs fixLs (List.replicate 32 5) W2 (H.out.fr0 f) (h3.fr0 f) (h4.fr0 f) (h5.to f.size (.inl rfl)) (h6.to f.size (.inl rfl))).mono fun e w' q => ?_
      exact q.blk (HFIX.out.to (f.mono fun _ _ h => h.elim) (.inl rfl)) (f.mono fun _ _ h => h.elim) (.inl rfl))
    have k4 := h.c4
    clear h h3 h4 h5 h6 HFIX
    go_enter Try.func41, Try.ntmps41
    go_wp2_with fail
    go_still_tail 9, (by kernel_rfl)
    obtain ⟨W2, hw2, f2⟩ := drewFr w
    change wpList _ _ _ _ _ w.drew
    rw [hw2]
    have HC := Lib.hid (HSY.out W2 f2)
    clear hw2 f2 k3 k4 HSY
    go_wp2_with fail
    refine HC.out.mono ?_
    intro e w5 h5
    cases hx : rSyms b lim fixLs' (List.replicate 32 5) T k with
    | no m =>
      rw [hx] at h5
      obtain ⟨rfl, f5⟩ := h5
      have K := Lib.hid hx
      clear hx HC
      go_wp2_with fail
      exact ⟨rfl, BlkEnds.of K.out ⟨rfl, f5⟩⟩
    | ok T1 k1 =>
      rw [hx] at h5
      obtain ⟨rfl, f5⟩ := h5
      have K := Lib.hid hx
      clear hx HC
      go_wp2_with fail
      go_end0
      exact BlkEnds.of K.out ⟨rfl, f5⟩
end
end Go.Proofs.Ytmcmchldjfnneaa
