/- A block by codes that are described. -/
import Derived.Test.YtmcmchldjfnneaaInfCode
namespace Go.Proofs.Ytmcmchldjfnneaa
open Go.RowKit

/-- what can't be comes out as asked -/
theorem noCall {P : Program} {f : FuncId} {args : Array Value} {w : World} (v : Value) (h : False) : Calls P f args w fun e w' => e = .returned v ∧ w = w' := h.elim
section
variable {g gr : Nat} {r t : Option Nat} {b : List Nat} {k lim : Nat} {T : List Nat} {L S : Value}
set_option maxRecDepth 100000 in
set_option maxHeartbeats 4000000 in
theorem described_any (w : World) (h : StIs w g gr r t b k lim T L S) (hx : FixIs w g gr t L S) :
    Calls Try.prog 42 #[.pointer (some ⟨g, 0, none⟩)] w (BlkEnds ((rCodes b k).then fun c k1 => rSyms b lim c.1 c.2 T k1) w g gr r t b lim) := by
  have H := Lib.hid h
  have HX := Lib.hid hx
  obtain ⟨RES, hRES⟩ : ∃ X, ((rCodes b k).then fun c k1 => rSyms b lim c.1 c.2 T k1) = X := ⟨_, rfl⟩
  have HE : Hid (∀ y, (((rGrp b 5 k).then fun n1 k1 => (rGrp b 5 k1).then fun n2 k2 => (rGrp b 4 k2).then fun n3 k3 =>
  (rIf (decide (257 + n1 ≤ 286 ∧ 1 + n2 ≤ 30)) 62 k3).then fun _ k3 =>
  (rCode b (4 + n3) k3).then fun cl k4 =>
  (rLens b cl (257 + n1 + (1 + n2)) [] k4).then fun l k5 =>
  (rIf (decide (l.getD 256 0 ≠ 0 ∧ okl (l.take (257 + n1)) ∧ okl (l.drop (257 + n1)))) 62 k5).then fun _ k5 =>
  .ok (l.take (257 + n1), l.drop (257 + n1)) k5).then fun c k1 => rSyms b lim c.1 c.2 T k1) = y → RES = y) := Lib.hid (fun y hy => by rw [← hRES]; exact hy)
  rw [hRES]
  have HG1 : Hid (Calls Try.prog 28 #[.pointer (some ⟨g, 0, none⟩), .int .i64 5] w (RdEnds (rGrp b 5 k) w gr r b)) := Lib.hid (group_any 5 w h (by decide))
  clear h hx hRES
  go_enter Try.func42, Try.ntmps42
  go_wp2_with fail
  refine HG1.out.mono ?_
  intro e w1 h1
  rcases rd_cases h1 with ⟨n1, k1, hx, rfl, t1⟩ | ⟨m, hx, rfl, f1⟩
  rotate_left
  · have K := Lib.hid (HE.out (.no m) (by rw [hx]; rfl))
    clear hx h1 HE
    go_wp2_with fail
    exact ⟨rfl, BlkEnds.of K.out ⟨rfl, frSt f1⟩⟩
  have HE1 := Lib.hid (fun y hy => HE.out y (by rw [hx, Res.then_ok]; exact hy))
  have hn1 : n1 < 32 := (rGrp_lt hx).1
  have H1 := Lib.hid (H.out.read t1)
  have HF1 := Lib.hid t1.2
  have HG1 : Hid (Calls Try.prog 28 #[.pointer (some ⟨g, 0, none⟩), .int .i64 5] w1 (RdEnds (rGrp b 5 k1) w1 gr r b)) := Lib.hid (group_any 5 w1 H1.out (by decide))
  clear hx h1 t1 HE
  go_wp2_with fail
  refine HG1.out.mono ?_
  intro e w2 h2
  rcases rd_cases h2 with ⟨n2, k2, hx, rfl, t2⟩ | ⟨m, hx, rfl, f2⟩
  rotate_left
  · have K := Lib.hid (HE1.out (.no m) (by rw [hx]; rfl))
    have HFF : Hid (Fr (· = gr) w w2) := Lib.hid (HF1.out.trans f2 (fun _ _ h => h))
    clear hx h2 HE1
    go_wp2_with fail
    exact ⟨rfl, BlkEnds.of K.out ⟨rfl, frSt HFF.out⟩⟩
  have HE2 := Lib.hid (fun y hy => HE1.out y (by rw [hx, Res.then_ok]; exact hy))
  have hn2 : n2 < 32 := (rGrp_lt hx).1
  have H2 := Lib.hid (H1.out.read t2)
  have HF2 : Hid (Fr (· = gr) w w2) := Lib.hid (HF1.out.trans t2.2 (fun _ _ h => h))
  have HG1 : Hid (Calls Try.prog 28 #[.pointer (some ⟨g, 0, none⟩), .int .i64 4] w2 (RdEnds (rGrp b 4 k2) w2 gr r b)) := Lib.hid (group_any 4 w2 H2.out (by decide))
  clear hx h2 t2 HE1 H1 HF1
  go_wp2_with fail
  refine HG1.out.mono ?_
  intro e w3 h3
  rcases rd_cases h3 with ⟨n3, k3, hx, rfl, t3⟩ | ⟨m, hx, rfl, f3⟩
  rotate_left
  · have K := Lib.hid (HE2.out (.no m) (by rw [hx]; rfl))
    have HFF : Hid (Fr (· = gr) w w3) := Lib.hid (HF2.out.trans f3 (fun _ _ h => h))
    clear hx h3 HE2
    go_wp2_with fail
    exact ⟨rfl, BlkEnds.of K.out ⟨rfl, frSt HFF.out⟩⟩
  have HE3 := Lib.hid (fun y hy => HE2.out y (by rw [hx, Res.then_ok]; exact hy))
  have hn3 : n3 < 16 := (rGrp_lt hx).1
  have H3 := Lib.hid (H2.out.read t3)
  have HF3 : Hid (Fr (· = gr) w w3) := Lib.hid (HF2.out.trans t3.2 (fun _ _ h => h))
  clear hx h3 t3 HE2 H2 HF2
  obtain ⟨N1, hN1⟩ : ∃ N1, 257 + n1 = N1 := ⟨_, rfl⟩
  obtain ⟨N2, hN2⟩ : ∃ N2, 1 + n2 = N2 := ⟨_, rfl⟩
  obtain ⟨N3, hN3⟩ : ∃ N3, 4 + n3 = N3 := ⟨_, rfl⟩
  rw [hN1, hN2, hN3] at HE3
  have i1 : (257 : Int) + (n1 : Int) = (N1 : Int) := by omega
  have i2 : (1 : Int) + (n2 : Int) = (N2 : Int) := by omega
  have i3 : (4 : Int) + (n3 : Int) = (N3 : Int) := by omega
  by_cases hc : N1 ≤ 286 ∧ N2 ≤ 30
  rotate_left
  · have K := Lib.hid (HE3.out (.no 62) (by rw [rIf_no (decide_eq_false hc)]; rfl))
    have HD := Lib.hid (demand_no 62 w3)
    clear HE3 hN1 hN2 hN3
    by_cases hc1 : N1 ≤ 286
    · have e1 : decide ((N1 : Int) ≤ 286) = true := decide_eq_true (by omega)
      have e2 : decide ((N2 : Int) ≤ 30) = false := decide_eq_false (by omega)
      clear hc hc1
      go_wp2_with fail
      refine HD.out.mono ?_
      rintro e w' ⟨rfl, rfl⟩
      go_wp2_with fail
      exact ⟨rfl, BlkEnds.of K.out ⟨rfl, frSt HF3.out⟩⟩
    · have e1 : decide ((N1 : Int) ≤ 286) = false := decide_eq_false (by omega)
      clear hc hc1
      go_wp2_with fail
      refine HD.out.mono ?_
      rintro e w' ⟨rfl, rfl⟩
      go_wp2_with fail
      exact ⟨rfl, BlkEnds.of K.out ⟨rfl, frSt HF3.out⟩⟩
  have HE4 := Lib.hid (fun y hy => HE3.out y (by rw [rIf_yes (decide_eq_true hc), Res.then_ok]; exact hy))
  have HD := Lib.hid (demand_yes 62 w3)
  have e1 : decide ((N1 : Int) ≤ 286) = true := decide_eq_true (by omega)
  have e2 : decide ((N2 : Int) ≤ 30) = true := decide_eq_true (by omega)
  have HC := Lib.hid (code_any N3 w3 H3.out (by omega))
  have HN : Hid (257 ≤ N1 ∧ 1 ≤ N2 ∧ N1 ≤ 286 ∧ N2 ≤ 30) := Lib.hid (by omega)
  clear HE3 hN1 hN2 hN3
  go_wp2_with fail
  refine HD.out.mono ?_
  rintro e w' ⟨rfl, rfl⟩
  clear i1 i2 i3 e1 e2 HD
  go_wp2_with fail
  refine HC.out.mono ?_
  intro e w4 h4
  cases hx : rCode b N3 k3 with
  | no m =>
    rw [hx] at h4
    obtain ⟨rfl, f4⟩ := h4
    have K := Lib.hid (HE4.out (.no m) (by rw [hx]; rfl))
    have HFF : Hid (Fr (· = gr) w w4) := Lib.hid (HF3.out.trans f4 (fun _ _ h => h))
    clear hx f4 HE4 HC
    go_wp2_with fail
    exact ⟨rfl, BlkEnds.of K.out ⟨rfl, frSt HFF.out⟩⟩
  | ok cl k4 =>
  rw [hx] at h4
  obtain ⟨A, B, gc, rfl, t4, s4, hA, hB, h19⟩ := h4
  have HE5 := Lib.hid (fun y hy => HE4.out y (by rw [hx, Res.then_ok]; exact hy))
  have H4 := Lib.hid (H3.out.read t4)
  have HF4 : Hid (Fr (· = gr) w w4) := Lib.hid (HF3.out.trans t4.2 (fun _ _ h => h))
  obtain ⟨M, hM⟩ : ∃ M, N1 + N2 = M := ⟨_, rfl⟩
  have HMM := Lib.hid hM
  have iM : (N1 : Int) + (N2 : Int) = (M : Int) := by omega
  have HL := Lib.hid (lengths_any A B gc M cl w4 H4.out s4 hB (.inl (Nat.lt_of_lt_of_le H3.out.rd.lt hA)) (by omega) (by have := HN.out; omega))
  rw [hM] at HE5
  clear hx t4 s4 hA hB h19 HC HE4 H3 HF3 hM
  go_wp2_with fail
  refine HL.out.mono ?_
  intro e w5 h5
  cases hx : rLens b cl M [] k4 with
  | no m =>
    rw [hx] at h5
    obtain ⟨rfl, f5⟩ := h5
    have K := Lib.hid (HE5.out (.no m) (by rw [hx]; rfl))
    have HFF : Hid (Fr (· = gr) w w5) := Lib.hid (HF4.out.trans f5 (fun _ _ h => h))
    clear hx f5 HE5 HL
    go_wp2_with fail
    exact ⟨rfl, BlkEnds.of K.out ⟨rfl, frSt HFF.out⟩⟩
  | ok l k5 =>
  rw [hx] at h5
  obtain ⟨v, rfl, t5, own, hfv, h15, hlen⟩ := h5
  have HE6 := Lib.hid (fun y hy => HE5.out y (by rw [hx, Res.then_ok]; exact hy))
  have H5 := Lib.hid (H4.out.read t5)
  have HF5 : Hid (Fr (· = gr) w w5) := Lib.hid (HF4.out.trans t5.2 (fun _ _ h => h))
  obtain ⟨p, c, rfl, -, hlc, hcm⟩ := slForm own
  have HO := Lib.hid (SlI.ofOwns own)
  have H15 := Lib.hid h15
  have HLEN := Lib.hid hlen
  obtain ⟨bb, oo, hpe, hcl⟩ := HO.out.at 256 (by have := HN.out; have := HMM.out; omega)
  have HGET : Hid (l.getD 256 0 = l[256]'(by have := HN.out; have := HMM.out; omega)) := Lib.hid (getD_at _ _ _)
  obtain ⟨x, hxx⟩ : ∃ x, l[256]'(by have := HN.out; have := HMM.out; omega) = x := ⟨_, rfl⟩
  rw [hxx] at hcl HGET
  rw [HGET.out] at HE6
  rw [hlen] at hlc ⊢
  subst hpe
  have j0 : (256 : Int) < (M : Int) := by have := HN.out; have := HMM.out; omega
  clear hx t5 hfv h15 hlen HL HE5 H4 HF4 own hxx iM
  by_cases hx0 : x = 0
  · have hgt : decide (0 < x) = false := decide_eq_false (by omega)
    have K := Lib.hid (HE6.out (.no 62) (by rw [rIf_no (decide_eq_false (fun q => q.1 hx0))]; rfl))
    have HD := Lib.hid (demand_no 62 w5)
    clear HE6 hx0
    go_wp2_with fail
    refine HD.out.mono ?_
    rintro e w' ⟨rfl, rfl⟩
    go_wp2_with fail
    exact ⟨rfl, BlkEnds.of K.out ⟨rfl, frSt HF5.out⟩⟩
  have hgt : decide (0 < x) = true := decide_eq_true (by omega)
  have HD := Lib.hid (demand_yes 62 w5)
  go_wp2_with fail
  refine HD.out.mono ?_
  rintro e w' ⟨rfl, rfl⟩
  clear HD hgt hcl
  go_wp2_with fail
  have hAL : (l.take N1).length = N1 := by rw [List.length_take, HLEN.out]; have := HN.out; have := HMM.out; omega
  have hBL : (l.drop N1).length = M - N1 := by rw [List.length_drop, HLEN.out]
  have HSA := Lib.hid (HO.out.take N1)
  have HSB := Lib.hid (HO.out.drop N1)
  have HA15 : Hid (∀ x ∈ l.take N1, x ≤ 15) := Lib.hid (fun y hy => H15.out y (List.mem_of_mem_take hy))
  have HB15 : Hid (∀ x ∈ l.drop N1, x ≤ 15) := Lib.hid (fun y hy => H15.out y (List.mem_of_mem_drop hy))
  obtain ⟨LA, hLA⟩ : ∃ X, l.take N1 = X := ⟨_, rfl⟩
  obtain ⟨LB, hLB⟩ : ∃ X, l.drop N1 = X := ⟨_, rfl⟩
  rw [hLA] at hAL HSA HA15 HE6
  rw [hLB] at hBL HSB HB15 HE6
  have HAL := Lib.hid hAL
  have HBL := Lib.hid hBL
  have m1 : (N1 : Int) ≤ (M : Int) := by have := HMM.out; omega
  have m2 : (N1 : Int) ≤ (c : Int) := by have := HMM.out; omega
  have m3 : ¬ c = N1 := by have := HMM.out; have := HN.out; omega
  have m4 : (0 : Int) ≤ (N1 : Int) := by omega
  have m5 : (M : Int) ≤ (c : Int) := by omega
  have HX0 := Lib.hid hx0
  have HGY := Lib.hid gotSet_yes
  clear hAL hBL hLA hLB HGET hx0 HO H15 hlc
  by_cases okA : okl LA
  · have HM1 : Hid (∀ W, Fr S0 w5 W → Calls Try.prog 54 #[.slice (some ⟨bb, oo, none⟩) N1 c] W fun e w' => ∃ g, e = .returned (.tuple #[.pointer (some ⟨g, 0, none⟩), .int .i64 0]) ∧ Fr S0 w5 w' ∧ SetIs w' w5.heap.size w'.heap.size g LA) := Lib.hid (fun W f => by
      have q := make_ok (some ⟨bb, oo, none⟩) c LA W (HSA.out.fr0 f) (fun h => by cases h) (by rw [HAL.out]; have := HN.out; omega) HA15.out okA
      rw [HAL.out] at q
      refine q.mono ?_
      rintro e w' ⟨gl, h1, ⟨h2, h3⟩, -⟩
      exact ⟨gl, h1, f.trans0 h2, h3.mono f.size (Nat.le_refl _)⟩)
    by_cases okB : okl LB
    · have HM2 : Hid (∀ W, Fr S0 w5 W → Calls Try.prog 54 #[.slice (some ⟨bb, oo + N1, none⟩) (M - N1) (c - N1)] W fun e w' => ∃ g, e = .returned (.tuple #[.pointer (some ⟨g, 0, none⟩), .int .i64 0]) ∧ Fr S0 W w' ∧ SetIs w' w5.heap.size w'.heap.size g LB) := Lib.hid (fun W f => by
        have q := make_ok (some ⟨bb, oo + N1, none⟩) (c - N1) LB W (HSB.out.fr0 f) (fun h => by cases h) (by rw [HBL.out]; have := HN.out; have := HMM.out; omega) HB15.out okB
        rw [HBL.out] at q
        refine q.mono ?_
        rintro e w' ⟨gl, h1, ⟨h2, h3⟩, -⟩
        exact ⟨gl, h1, h2, h3.mono f.size (Nat.le_refl _)⟩)
      have HR := Lib.hid (HE6.out _ (by rw [rIf_yes (decide_eq_true ⟨HX0.out, okA, okB⟩), Res.then_ok, Res.then_ok]))
      have HSY : Hid (∀ W gl gs, Fr S0 w5 W → SetIs W w5.heap.size W.heap.size gl LA → SetIs W w5.heap.size W.heap.size gs LB → Calls Try.prog 57 #[.pointer (some ⟨g, 0, none⟩), .pointer (some ⟨gl, 0, none⟩), .pointer (some ⟨gs, 0, none⟩)] W (BlkEnds RES w g gr r t b lim)) := Lib.hid (fun W gl gs f s1 s2 => by
        rw [HR.out]
        have aw := H5.out.away (w1 := W) (Nat.le_refl w5.heap.size) (Nat.le_refl _)
        refine (symbols_any _ _ _ _ gl gs LA LB W (H5.out.fr0 f) s1 s2 aw aw).mono fun e w' q => ?_
        exact q.blk ((HX.out.to (frSt HF5.out) (.inl rfl)).to (f.mono fun _ _ h => h.elim) (.inl rfl)) ((frSt HF5.out).trans0 f) (.inl rfl))
      clear HE6 okA okB HSA HSB HA15 HB15 HX H5 HF5 HR
      cases hres : RES with
      | ok T1 k1 =>
        have HSY2 : Hid (∀ W gl gs, Fr S0 w5 W → SetIs W w5.heap.size W.heap.size gl LA → SetIs W w5.heap.size W.heap.size gs LB → Calls Try.prog 57 #[.pointer (some ⟨g, 0, none⟩), .pointer (some ⟨gl, 0, none⟩), .pointer (some ⟨gs, 0, none⟩)] W (fun e w' => e = .returned (.tuple #[]) ∧ BlkTo w w' g gr r t b k1 lim T1)) := Lib.hid (fun W gl gs f s1 s2 => by
          have q := HSY.out W gl gs f s1 s2
          rw [hres] at q
          exact q)
        clear hres HSY
        go_region_law (first
          | (go_simp; go_at_call 54; (with_reducible refine (HM1.out _ (Fr.drew _ _)).mono ?_); rintro e wa ⟨gl, rfl, fa, sa⟩; have FA := Lib.hid fa; have SA := Lib.hid sa; clear fa sa)
          | (go_simp; go_at_call 54; (with_reducible refine (HM2.out _ FA.out).mono ?_); rintro e wb ⟨gs, rfl, fb, sb⟩; have FB := Lib.hid (FA.out.trans0 fb); have SB := Lib.hid sb; have SA2 := Lib.hid ((SA.out.fr0 fb).mono (Nat.le_refl _) fb.size); clear fb sb)
          | (go_simp; go_at_call 53; (with_reducible refine (HGY.out _ _).mono ?_); rintro e w' ⟨rfl, rfl⟩)
          | (go_simp; go_at_call 57; (with_reducible refine (HSY2.out _ _ _ FB.out SA2.out SB.out).mono ?_); rintro e wc ⟨rfl, tc⟩; have TC := Lib.hid tc; clear tc))
        all_goals (
          go_wp2_with fail
          go_end0
          exact ⟨rfl, TC.out⟩)
      | no m =>
        have HSY2 : Hid (∀ W gl gs, Fr S0 w5 W → SetIs W w5.heap.size W.heap.size gl LA → SetIs W w5.heap.size W.heap.size gs LB → Calls Try.prog 57 #[.pointer (some ⟨g, 0, none⟩), .pointer (some ⟨gl, 0, none⟩), .pointer (some ⟨gs, 0, none⟩)] W (fun e w' => (e = .returned (.tuple #[]) ∧ False) ∨ (e = .panicked (chn m) ∧ Fr (StB g gr t) w w'))) := Lib.hid (fun W gl gs f s1 s2 => by
          have q := HSY.out W gl gs f s1 s2
          rw [hres] at q
          exact q.mono fun e w' q => .inr q)
        clear hres HSY
        go_region_law (first
          | (go_simp; go_at_call 54; (with_reducible refine (HM1.out _ (Fr.drew _ _)).mono ?_); rintro e wa ⟨gl, rfl, fa, sa⟩; have FA := Lib.hid fa; have SA := Lib.hid sa; clear fa sa)
          | (go_simp; go_at_call 54; (with_reducible refine (HM2.out _ FA.out).mono ?_); rintro e wb ⟨gs, rfl, fb, sb⟩; have FB := Lib.hid (FA.out.trans0 fb); have SB := Lib.hid sb; have SA2 := Lib.hid ((SA.out.fr0 fb).mono (Nat.le_refl _) fb.size); clear fb sb)
          | (go_simp; go_at_call 53; (with_reducible refine (HGY.out _ _).mono ?_); rintro e w' ⟨rfl, rfl⟩)
          | (go_simp; go_at_call 57; (with_reducible refine (HSY2.out _ _ _ FB.out SA2.out SB.out).mono ?_); rintro e wc (⟨rfl, hF⟩ | ⟨rfl, fc⟩); have HBAD := Lib.hid hF; clear hF; rotate_left; exact ⟨rfl, rfl, fc⟩))
        all_goals exact HBAD.out.elim
    · have HM2 : Hid (∀ W, Fr S0 w5 W → Calls Try.prog 54 #[.slice (some ⟨bb, oo + N1, none⟩) (M - N1) (c - N1)] W fun e w' => e = .returned (.tuple #[.pointer none, .int .i64 62]) ∧ Fr S0 w5 w') := Lib.hid (fun W f => by
        have q := make_no (some ⟨bb, oo + N1, none⟩) (c - N1) LB W (HSB.out.fr0 f) (fun h => by cases h) (by rw [HBL.out]; have := HN.out; have := HMM.out; omega) HB15.out okB
        rw [HBL.out] at q
        exact q.mono fun e w' q => ⟨q.1, f.trans0 q.2⟩)
      have HR := Lib.hid (HE6.out (.no 62) (by rw [rIf_no (decide_eq_false (fun q => okB q.2.2))]; rfl))
      have HGN : Hid (∀ W, Fr S0 w5 W → Calls Try.prog 53 #[.pointer none, .int .i64 62] W (fun e w' => (e = .returned (.pointer none) ∧ False) ∨ (e = .panicked (chn 62) ∧ Fr (StB g gr t) w w'))) := Lib.hid (fun W f =>
        (gotSet_no (.pointer none) 62 (by decide) W).mono fun e w' q => .inr ⟨q.1, q.2 ▸ ((frSt HF5.out).trans0 f)⟩)
      have HSN : Hid (False → ∀ args W, Calls Try.prog 57 args W (fun e w' => e = .returned (.tuple #[]) ∧ W = w')) := Lib.hid (fun h args W => h.elim)
      clear HE6 okA okB HSA HSB HA15 HB15 HX H5 HF5
      go_region_law (first
        | (go_simp; go_at_call 54; (with_reducible refine (HM1.out _ (Fr.drew _ _)).mono ?_); rintro e wa ⟨gl, rfl, fa, sa⟩; have FA := Lib.hid fa; clear fa sa)
        | (go_simp; go_at_call 54; (with_reducible refine (HM2.out _ FA.out).mono ?_); rintro e wb ⟨rfl, fb⟩; have FB := Lib.hid fb; clear fb)
        | (go_simp; go_at_call 53; (with_reducible refine (HGY.out _ _).mono ?_); rintro e w' ⟨rfl, rfl⟩)
        | (go_simp; go_at_call 53; (with_reducible refine (HGN.out _ FB.out).mono ?_); rintro e wc (⟨rfl, hF⟩ | ⟨rfl, fc⟩); have HBAD := Lib.hid hF; clear hF; rotate_left; exact ⟨rfl, BlkEnds.of HR.out ⟨rfl, fc⟩⟩)
        | (go_simp; go_at_call 57; (with_reducible refine (HSN.out HBAD.out _ _).mono ?_); rintro e w' ⟨rfl, rfl⟩))
      all_goals exact HBAD.out.elim
  · have HM1 : Hid (∀ W, Fr S0 w5 W → Calls Try.prog 54 #[.slice (some ⟨bb, oo, none⟩) N1 c] W fun e w' => e = .returned (.tuple #[.pointer none, .int .i64 62]) ∧ Fr S0 w5 w') := Lib.hid (fun W f => by
      have q := make_no (some ⟨bb, oo, none⟩) c LA W (HSA.out.fr0 f) (fun h => by cases h) (by rw [HAL.out]; have := HN.out; omega) HA15.out okA
      rw [HAL.out] at q
      exact q.mono fun e w' q => ⟨q.1, f.trans0 q.2⟩)
    have HR := Lib.hid (HE6.out (.no 62) (by rw [rIf_no (decide_eq_false (fun q => okA q.2.1))]; rfl))
    have HGN : Hid (∀ W, Fr S0 w5 W → Calls Try.prog 53 #[.pointer none, .int .i64 62] W (fun e w' => (e = .returned (.pointer none) ∧ False) ∨ (e = .panicked (chn 62) ∧ Fr (StB g gr t) w w'))) := Lib.hid (fun W f =>
      (gotSet_no (.pointer none) 62 (by decide) W).mono fun e w' q => .inr ⟨q.1, q.2 ▸ ((frSt HF5.out).trans0 f)⟩)
    have HSN : Hid (False → ∀ args W, Calls Try.prog 57 args W (fun e w' => e = .returned (.tuple #[]) ∧ W = w')) := Lib.hid (fun h args W => h.elim)
    have HMN : Hid (False → ∀ args W, Calls Try.prog 54 args W (fun e w' => e = .returned (.tuple #[.pointer none, .int .i64 0]) ∧ W = w')) := Lib.hid (fun h args W => h.elim)
    clear HE6 okA HSA HSB HA15 HB15 HX H5 HF5
    go_region_law (first
      | (go_simp; go_at_call 54; (with_reducible refine (HM1.out _ (Fr.drew _ _)).mono ?_); rintro e wa ⟨rfl, fa⟩; have FA := Lib.hid fa; clear fa)
      | (go_simp; go_at_call 53; (with_reducible refine (HGN.out _ FA.out).mono ?_); rintro e wc (⟨rfl, hF⟩ | ⟨rfl, fc⟩); have HBAD := Lib.hid hF; clear hF; rotate_left; exact ⟨rfl, BlkEnds.of HR.out ⟨rfl, fc⟩⟩)
      | (go_simp; go_at_call 54; (with_reducible refine (HMN.out HBAD.out _ _).mono ?_); rintro e w' ⟨rfl, rfl⟩)
      | (go_simp; go_at_call 53; (with_reducible refine (HGY.out _ _).mono ?_); rintro e w' ⟨rfl, rfl⟩)
      | (go_simp; go_at_call 57; (with_reducible refine (HSN.out HBAD.out _ _).mono ?_); rintro e w' ⟨rfl, rfl⟩))
    all_goals exact HBAD.out.elim
end
end Go.Proofs.Ytmcmchldjfnneaa
