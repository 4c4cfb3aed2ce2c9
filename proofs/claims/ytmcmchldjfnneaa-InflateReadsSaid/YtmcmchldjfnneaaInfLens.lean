/- Lengths by their code. -/
import Derived.Test.YtmcmchldjfnneaaInfRun
namespace Go.Proofs.Ytmcmchldjfnneaa
open Go.RowKit

theorem rLens_end {b cl l : List Nat} {many k : Nat} (h : many ≤ l.length) : rLens b cl many l k = .ok l k := by rw [rLens, dif_pos h]
theorem rLens_no {b cl l : List Nat} {many k m : Nat} (h : ¬ many ≤ l.length) (hx : rRun b cl l k = .no m) : rLens b cl many l k = .no m := by rw [rLens, dif_neg h, hx]
theorem rLens_far {b cl l : List Nat} {many k x n k1 : Nat} (h : ¬ many ≤ l.length) (hx : rRun b cl l k = .ok (x, n) k1) (hf : many < l.length + n + 1) : rLens b cl many l k = .no 62 := by
  rw [rLens, dif_neg h, hx]
  show (if many < l.length + n + 1 then _ else _) = _
  rw [if_pos hf]
theorem rLens_go {b cl l : List Nat} {many k x n k1 : Nat} (h : ¬ many ≤ l.length) (hx : rRun b cl l k = .ok (x, n) k1) (hf : ¬ many < l.length + n + 1) : rLens b cl many l k = rLens b cl many (l ++ List.replicate (n + 1) x) k1 := by
  rw [rLens, dif_neg h, hx]
  show (if many < l.length + n + 1 then _ else _) = _
  rw [if_neg hf]
theorem getLastD_mem {l : List Nat} (h : l ≠ []) : l.getLastD 0 ∈ l := by
  rw [last_get l (List.length_pos_iff.2 h)]
  exact List.getElem_mem _
theorem rRun_15 {b cl l : List Nat} {k x n k1 : Nat} (h19 : cl.length ≤ 19) (hl : ∀ x ∈ l, x ≤ 15) (h : rRun b cl l k = .ok (x, n) k1) : x ≤ 15 ∧ n ≤ 200 := by
  unfold rRun at h
  cases hs : rSym b cl k with
  | no m => rw [hs] at h; cases h
  | ok s j =>
    have hs19 := Nat.lt_of_lt_of_le (rSym_lt hs) h19
    rw [hs, Res.then_ok] at h
    split at h
    · by_cases hl0 : l = []
      · rw [rIf_no (by simpa using hl0)] at h; cases h
      · rw [rIf_yes (by simpa using hl0), Res.then_ok] at h
        cases hg : rGrp b 2 j with
        | no m => rw [hg] at h; cases h
        | ok q i =>
          rw [hg, Res.then_ok] at h
          have := (rGrp_lt hg).1
          simp only [Res.ok.injEq, Prod.mk.injEq] at h
          obtain ⟨⟨rfl, rfl⟩, -⟩ := h
          exact ⟨hl _ (getLastD_mem hl0), by omega⟩
    · split at h
      · cases hg : rGrp b 3 j with
        | no m => rw [hg] at h; cases h
        | ok q i =>
          rw [hg, Res.then_ok] at h
          have := (rGrp_lt hg).1
          simp only [Res.ok.injEq, Prod.mk.injEq] at h
          obtain ⟨⟨rfl, rfl⟩, -⟩ := h
          exact ⟨by omega, by omega⟩
      · split at h
        · cases hg : rGrp b 7 j with
          | no m => rw [hg] at h; cases h
          | ok q i =>
            rw [hg, Res.then_ok] at h
            have := (rGrp_lt hg).1
            simp only [Res.ok.injEq, Prod.mk.injEq] at h
            obtain ⟨⟨rfl, rfl⟩, -⟩ := h
            exact ⟨by omega, by omega⟩
        · simp only [Res.ok.injEq, Prod.mk.injEq] at h
          obtain ⟨⟨rfl, rfl⟩, -⟩ := h
          exact ⟨by omega, by omega⟩

def LensEnds (x : Res (List Nat)) (many : Nat) (w : World) (gr : Nat) (r : Option Nat) (b : List Nat) (e : Ending) (w' : World) : Prop :=
  match x with
  | .ok U j => ∃ v, e = .returned v ∧ RdTo w w' gr r b j ∧ w'.ownsRow 0 5 1 v U.length (u8s U) ∧ Fresh w v ∧ (∀ x ∈ U, x ≤ 15) ∧ U.length = many
  | .no m => e = .panicked (chn m) ∧ Fr (· = gr) w w'
theorem LensEnds.of {x y : Res (List Nat)} {many : Nat} {w : World} {gr : Nat} {r : Option Nat} {b : List Nat} {e : Ending} {w' : World} (h : x = y) (k : LensEnds y many w gr r b e w') : LensEnds x many w gr r b e w' := by rw [h]; exact k
def slLen : Value → Nat
  | .slice _ n _ => n
  | _ => 0
section
variable {g gr : Nat} {r t : Option Nat} {b : List Nat} {k lim : Nat} {T : List Nat} {L S : Value}
theorem StIs.grown {w wa wb : World} {k1 k2 : Nat} {T1 : List Nat} {L1 S1 : Value} {row : Option Nat} (h : StIs wa g gr r t b k1 lim T1 L1 S1) (h0 : StIs w g gr r t b k2 lim T L S) (hg : wa.grownBy wb row) (hr : ∀ j, row = some j → w.heap.size ≤ j) : StIs wb g gr r t b k1 lim T1 L1 S1 := by
  have a1 := h0.lt
  have a2 := h0.rd.lt
  exact h.fr (Fr.grown hg) (fun e => by have := hr _ e; omega) (fun e => by have := hr _ e; omega) (fun j hj e => by have := hr _ e; have := h0.rd.rlt j hj; omega) (fun j hj e => by have := hr _ e; have := h0.tlt j hj; omega)
set_option maxRecDepth 100000 in
set_option maxHeartbeats 2000000 in
theorem lengths_any (A B gc many : Nat) (cl : List Nat) (w : World) (h : StIs w g gr r t b k lim T L S) (hs : SetIs w A B gc cl) (hB : B ≤ w.heap.size) (hw : gr < A ∨ B ≤ gr) (h19 : cl.length ≤ 19) (hm : many ≤ 320) :
    Calls Try.prog 58 #[.pointer (some ⟨g, 0, none⟩), .pointer (some ⟨gc, 0, none⟩), .int .i64 (many : Nat)] w (LensEnds (rLens b cl many [] k) many w gr r b) := by
  have H := Lib.hid h
  have HS := Lib.hid hs
  have HW := Lib.hid hw
  have HBB := Lib.hid hB
  have HRM : Hid (Room many) := Lib.hid (Room.mk (by omega))
  have HGR := Lib.hid h.rd.lt
  clear h hs hw hB
  go_enter Try.func58, Try.ntmps58
  go_wp2_with (first
    | ((with_reducible show wpList _ _ _ (Oper.mk (some 11) _ _ _ _ _ :: _) _ _); refine make_room el8 _ (.tmp 10) rfl rfl rfl rfl HRM.out ?_; intro w1 own1 f1; have v1 := fresh_made (n := 0) (c := many) (Fr.refl S0 w))
    | fail)
  have HO1 := Lib.hid own1
  have HF1 := Lib.hid f1
  have HV1 := Lib.hid v1
  clear own1 f1 v1
  go_loopw [7, 8, 9, 16] (fun v _ _ _ wr => ∃ k1 U, U.length ≤ many ∧ StIs wr g gr r t b k1 lim T L S ∧ Fr (· = gr) w wr ∧ wr.ownsRow 0 5 1 v U.length (u8s U) ∧ Fresh w v ∧ (∀ x ∈ U, x ≤ 15) ∧ rLens b cl many [] k = rLens b cl many U k1) (fun v _ _ _ _ => many - slLen v)
  case atStart => exact ⟨k, [], by simp, H.out.fr0 HF1.out, HF1.out.mono (fun _ _ h => h.elim), HO1.out, HV1.out, by simp, rfl⟩
  case round =>
    obtain ⟨k1, U, hU, hst, hfr, own, hfv, h15, heq⟩ := hrel
    obtain ⟨p, c, rfl, hpn, -, -⟩ := slForm own
    have HST := Lib.hid hst
    have HFR := Lib.hid hfr
    have HO := Lib.hid own
    have HFV := Lib.hid hfv
    have H15 := Lib.hid h15
    have HEQ := Lib.hid heq
    have HPN := Lib.hid hpn
    have HOFF : Hid (∀ j, Value.ownBlock (.slice p U.length c) = some j → ¬ j = gr) := Lib.hid (fun j hj e => by have := hfv j hj; have := HGR.out; omega)
    clear hst hfr own hfv h15 heq hpn
    by_cases hUm : U.length < many
    · have hS1 := HS.out.fr HFR.out (fun j q1 q2 e => by have := HW.out; omega)
      have HR := Lib.hid (run_any A B gc cl U p c wr HST.out hS1 HW.out h19 (SlI.ofOwns HO.out) (fun a ha e => HOFF.out a.block (by rw [ha]; rfl) e) (by omega))
      have hnot : ¬ many ≤ U.length := by omega
      obtain ⟨X, hX⟩ : ∃ X, U.length = X := ⟨_, rfl⟩
      rw [hX] at hU hUm hnot HR ⊢
      have HXX := Lib.hid hX
      have HNOT := Lib.hid hnot
      clear hS1 hX hnot
      go_wp2_with fail
      refine HR.out.mono ?_
      intro e w2 h2
      cases hx : rRun b cl U k1 with
      | no m =>
        rw [hx] at h2
        obtain ⟨rfl, f2⟩ := h2
        have K : Hid (rLens b cl many [] k = .no m) := Lib.hid (by rw [HEQ.out]; exact rLens_no (by rw [HXX.out]; exact HNOT.out) hx)
        have HFF : Hid (Fr (· = gr) w w2) := Lib.hid (HFR.out.trans f2 (fun _ _ h => h))
        clear hx f2 HR
        go_wp2_with fail
        exact ⟨rfl, LensEnds.of K.out ⟨rfl, HFF.out⟩⟩
      | ok xt k2 =>
        obtain ⟨x, n⟩ := xt
        rw [hx] at h2
        obtain ⟨rfl, t2⟩ := h2
        have HX15 := Lib.hid (rRun_15 h19 H15.out hx)
        have hx15 := HX15.out.1
        have hn200 := HX15.out.2
        have HF2 : Hid (Fr (· = gr) w w2) := Lib.hid (HFR.out.trans t2.2 (fun _ _ h => h))
        have HST2 := Lib.hid (HST.out.read t2)
        have HO2 := Lib.hid (t2.2.owns HO.out HOFF.out)
        have KF : Hid (many < X + n + 1 → rLens b cl many [] k = .no 62) := Lib.hid (fun q => by rw [HEQ.out]; exact rLens_far (by rw [HXX.out]; exact HNOT.out) hx (by rw [HXX.out]; exact q))
        have KG : Hid (¬ many < X + n + 1 → rLens b cl many [] k = rLens b cl many (U ++ List.replicate (n + 1) x) k2) := Lib.hid (fun q => by rw [HEQ.out]; exact rLens_go (by rw [HXX.out]; exact HNOT.out) hx (by rw [HXX.out]; exact q))
        obtain ⟨N, hN⟩ : ∃ N, n + 1 = N := ⟨_, rfl⟩
        rw [show X + n + 1 = X + N by omega] at KF KG
        have hN1 : 1 ≤ N := by omega
        have hN2 : N ≤ 1000 := by omega
        show _
        rw [hN] at KG ⊢
        clear hx t2 HR hN hn200 HX15
        by_cases hfar : many < X + N
        · have hle : decide ((N : Int) ≤ (many : Int) - (X : Int)) = false := decide_eq_false (by omega)
          have HD := Lib.hid (demand_no 62 w2)
          have K := Lib.hid (KF.out hfar)
          clear KF KG hfar
          go_wp2_with fail
          refine HD.out.mono ?_
          rintro e w' ⟨rfl, rfl⟩
          go_wp2_with fail
          exact ⟨rfl, LensEnds.of K.out ⟨rfl, HF2.out⟩⟩
        · have hle : decide ((N : Int) ≤ (many : Int) - (X : Int)) = true := decide_eq_true (by omega)
          have HD := Lib.hid (demand_yes 62 w2)
          have K := Lib.hid (KG.out hfar)
          have HRP := Lib.hid (repeat_any x N w2.heap.size (w2.alloc (.cells #[.int .u8 (x : Nat)] 5)) ((cell_of_row _ _ 0 _ _ _ (heap_alloc_new w2 _)).trans rfl) hN1 hN2)
          have HSUM : Hid (X + (List.replicate N x).length = X + N) := Lib.hid (by rw [List.length_replicate])
          have HRN : Hid (Room (X + N)) := Lib.hid (Room.mk (by omega))
          have HLN : Hid ((List.replicate N x).length = N) := Lib.hid List.length_replicate
          have HOX := HO2.out
          rw [HXX.out] at HOX
          have HO3 := Lib.hid HOX
          clear KF KG HOX HO2 HO
          go_wp2_with fail
          refine HD.out.mono ?_
          rintro e w' ⟨rfl, rfl⟩
          clear HD hle
          go_wp2_with fail
          refine HRP.out.mono ?_
          rintro e w3 ⟨g3, rfl, f3, s3⟩
          have f23 : Fr S0 w2 w3 := (Fr.alloc S0 w2 _).trans0 f3
          have own3 := f23.owns HO3.out (fun _ _ h => h)
          have src : SrcIs w3 (.slice (some ⟨g3, 0, none⟩) N N) N (u8s (List.replicate N x)) := by
            have := SrcIs.ofSl (c := N) s3 (fun h => by cases h)
            rw [HLN.out] at this
            exact this
          have HF3 : Hid (Fr (· = gr) w w3) := Lib.hid (HF2.out.trans0 f23)
          have HST3 := Lib.hid (HST2.out.fr0 f23)
          clear f3 s3 f23 HRP
          go_wp2_with (first
            | ((with_reducible show wpList _ _ _ (Oper.mk (some 35) _ _ _ _ _ :: _) _ _); refine app_many el8 (.tmp 30) (.tmp 34) own3 src rfl rfl rfl rfl rfl (one8s _) HRN.out ?_; intro p4 c4 w4 own4 g4 at4; have HO4 := Lib.hid own4; have HG4 := Lib.hid g4; have HA4 := Lib.hid at4; clear own4 g4 at4 own3 src)
            | fail)
          go_roundw
          case rel =>
            have HL4 : Hid ((U ++ List.replicate N x).length = X + N) := Lib.hid (by rw [List.length_append, HXX.out, HLN.out])
            have HFX : Hid (∀ j, Value.ownBlock (.slice p X c) = some j → w.heap.size ≤ j) := Lib.hid (fun j hj => HFV.out j (by rw [HXX.out]; exact hj))
            refine ⟨k2, U ++ List.replicate N x, by rw [HL4.out]; omega, HST3.out.grown H.out HG4.out HFX.out, HF3.out.append HG4.out HFX.out, ?_, ?_, ?_, K.out⟩
            · rw [HL4.out, ← u8s_append]; exact HO4.out
            · exact fresh_many HFX.out (Nat.le_trans HF3.out.size (Nat.le_refl _)) HA4.out
            · intro y hy
              rcases List.mem_append.1 hy with hy | hy
              · exact H15.out y hy
              · rw [List.eq_of_mem_replicate hy]; exact hx15
          case measure => show many - (X + N) < many - X; omega
    · have HLE : Hid (U.length = many) := Lib.hid (by omega)
      have K : Hid (rLens b cl many [] k = .ok U k1) := Lib.hid (by rw [HEQ.out]; exact rLens_end (by omega))
      obtain ⟨X, hX⟩ : ∃ X, U.length = X := ⟨_, rfl⟩
      have HXX := Lib.hid hX
      rw [hX] at hU hUm ⊢
      clear hX
      go_wp2_with fail
      go_ret
      exact LensEnds.of K.out ⟨.slice p X c, rfl, ⟨HST.out.rd, HFR.out⟩, by rw [HXX.out]; have := HO.out; rw [HXX.out] at this; exact this, fun j hj => HFV.out j (by rw [HXX.out]; exact hj), H15.out, HLE.out⟩
end
end Go.Proofs.Ytmcmchldjfnneaa
