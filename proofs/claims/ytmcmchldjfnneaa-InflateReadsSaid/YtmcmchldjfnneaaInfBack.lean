/- Bytes are told again. -/
import Derived.Test.YtmcmchldjfnneaaInfTell
import Derived.Deep.RegionHeld3
namespace Go.Proofs.Ytmcmchldjfnneaa
open Go.RowKit

theorem again_succ (far : Nat) : ∀ (n : Nat) (T : List Nat), again far (n + 1) T = again far n T ++ [(again far n T).getD ((again far n T).length - far) 0]
  | 0, T => rfl
  | n + 1, T => by rw [again, again_succ far n, again]
theorem again_length (far : Nat) : ∀ (n : Nat) (T : List Nat), (again far n T).length = T.length + n
  | 0, T => rfl
  | n + 1, T => by rw [again, again_length far n, List.length_append, List.length_singleton]; omega
theorem again_256 (far : Nat) : ∀ (n : Nat) (T : List Nat), (∀ x ∈ T, x < 256) → ∀ x ∈ again far n T, x < 256
  | 0, T, h => h
  | n + 1, T, h => by
    rw [again]
    refine again_256 far n _ fun x hx => ?_
    rcases List.mem_append.1 hx with hx | hx
    · exact h x hx
    · rw [List.mem_singleton.1 hx]
      by_cases e : T.length - far < T.length
      · rw [getD_at _ _ e]; exact h _ (List.getElem_mem e)
      · simp only [List.getD]
        rw [List.getElem?_eq_none (by omega)]; decide

theorem baseN_pos (s : Nat) (h : 257 ≤ s) (h2 : s ≤ 285) : 3 ≤ baseN s := by
  have key : ∀ n : Fin 29, 3 ≤ baseN (257 + n.val) := by decide
  have := key ⟨s - 257, by omega⟩
  simpa [show 257 + (s - 257) = s by omega] using this
theorem more_cases {b : List Nat} {least c k gr : Nat} {r : Option Nat} {w w' : World} {e : Ending} (h : RdEnds (rMore b least c k) w gr r b e w') :
    (∃ n j, rGrp b c k = .ok n j ∧ n < 2 ^ c ∧ e = .returned (.int .i64 (least + n : Nat)) ∧ RdTo w w' gr r b j) ∨ (∃ m, rGrp b c k = .no m ∧ e = .panicked (chn m) ∧ Fr (· = gr) w w') := by
  unfold rMore rGrp at h
  unfold rGrp
  by_cases hk : k + c ≤ 8 * b.length
  · rw [if_pos hk] at h ⊢
    exact .inl ⟨_, _, rfl, bitsAt_lt b k c, h.1, h.2⟩
  · rw [if_neg hk] at h ⊢
    exact .inr ⟨_, rfl, h.1, h.2⟩
theorem rd_cases {x : Res Nat} {gr : Nat} {r : Option Nat} {b : List Nat} {w w' : World} {e : Ending} (h : RdEnds x w gr r b e w') :
    (∃ n j, x = .ok n j ∧ e = .returned (.int .i64 (n : Nat)) ∧ RdTo w w' gr r b j) ∨ (∃ m, x = .no m ∧ e = .panicked (chn m) ∧ Fr (· = gr) w w') := by
  cases x with
  | ok n j => exact .inl ⟨n, j, rfl, h.1, h.2⟩
  | no m => exact .inr ⟨m, rfl, h.1, h.2⟩
theorem rIf_yes {c : Bool} {e k : Nat} (h : c = true) : rIf c e k = .ok () k := by unfold rIf; rw [if_pos h]
theorem rIf_no {c : Bool} {e k : Nat} (h : c = false) : rIf c e k = .no e := by unfold rIf; rw [if_neg (by rw [h]; decide)]

/-- how a call ends that tells -/
def StEnds (x : Res (List Nat)) (w : World) (g gr : Nat) (r t : Option Nat) (b : List Nat) (lim : Nat) (L S : Value) (e : Ending) (w' : World) : Prop :=
  match x with
  | .ok T k => e = .returned (.tuple #[]) ∧ StTo w w' g gr r t b k lim T L S
  | .no m => e = .panicked (chn m) ∧ Fr (StB g gr t) w w'
section
variable {g gr : Nat} {r t : Option Nat} {b : List Nat} {k lim : Nat} {T : List Nat} {L S : Value}
theorem StEnds.of {x y : Res (List Nat)} {w w' : World} {e : Ending} (h : x = y) (q : StEnds y w g gr r t b lim L S e w') : StEnds x w g gr r t b lim L S e w' := by rw [h]; exact q
theorem one_src (w : World) (x : Nat) : SrcIs (w.alloc (.cells #[.int .u8 (x : Nat)] 5)) (.slice (some ⟨w.heap.size, 0, none⟩) [x].length 1) [x].length (u8s [x]) := SrcIs.ofOwns (own_one w _ _)
theorem frSt {w w' : World} {m : Nat} {t : Option Nat} (hf : Fr (· = gr) w w') : Fr (StB m gr t) w w' := hf.mono fun _ _ e => .inr (.inl e)
theorem fr0St {w w' : World} {m gr : Nat} {t : Option Nat} (hf : Fr S0 w w') : Fr (StB m gr t) w w' := hf.mono fun _ _ e => e.elim
theorem frTo {w w1 w2 : World} {t1 : Option Nat} (hf : Fr (StB g gr t) w w1) (ht : t1 = t ∨ ∀ j, t1 = some j → w.heap.size ≤ j) (h2 : Fr (StB g gr t1) w1 w2) : Fr (StB g gr t) w w2 := by
  refine hf.trans h2 fun j hj e => ?_
  rcases e with e | e | e
  · exact .inl e
  · exact .inr (.inl e)
  · rcases ht with ht | ht
    · exact .inr (.inr (ht ▸ e))
    · have := ht j e; omega

set_option maxRecDepth 100000 in
set_option maxHeartbeats 4000000 in
theorem back_any (A B gs s : Nat) (spn : List Nat) (w : World) (h : StIs w g gr r t b k lim T L S) (hs : SetIs w A B gs spn) (hw : gr < A ∨ B ≤ gr) (h257 : 257 ≤ s) (hss : s ≤ 1000) :
    Calls Try.prog 73 #[.pointer (some ⟨g, 0, none⟩), .int .i64 (s : Nat), .pointer (some ⟨gs, 0, none⟩)] w (StEnds (rBack b lim spn T s k) w g gr r t b lim L S) := by
  by_cases h285 : s ≤ 285
  · have hle : decide ((s : Int) ≤ 285) = true := decide_eq_true (by omega)
    have HD := Lib.hid (demand_yes 62 w)
    have HB := Lib.hid (base_any s w h257 h285)
    have hbl := baseN_le s h257 h285
    have HM := Lib.hid (more_any (baseN s) (baseC s) w h (by omega) (by omega))
    have HW := Lib.hid hw
    have HS := Lib.hid hs
    have H := Lib.hid h
    have HE : Hid (∀ y, ((rGrp b (baseC s) k).then fun n k2 => (rSym b spn k2).then fun d k3 =>
      (rIf (decide (d ≤ 29)) 62 k3).then fun _ k3 => (rGrp b (farC d) k3).then fun f k4 =>
      (rIf (decide (farN d + f ≤ T.length)) 63 k4).then fun _ k4 => (rIf (decide (T.length + (baseN s + n) ≤ lim)) 64 k4).then fun _ k4 =>
      .ok (again (farN d + f) (baseN s + n) T) k4) = y → rBack b lim spn T s k = y) := Lib.hid (fun y hy => by unfold rBack; rw [rIf_yes (decide_eq_true h285), Res.then_ok]; exact hy)
    have HP := Lib.hid (baseN_pos s h257 h285)
    clear h hs hw h257 hss
    go_enter Try.func73, Try.ntmps73
    go_wp2_with fail
    refine HD.out.mono ?_
    rintro e w' ⟨rfl, rfl⟩
    go_wp2_with fail
    refine HB.out.mono ?_
    rintro e w' ⟨rfl, rfl⟩
    go_wp2_with fail
    refine HM.out.mono ?_
    intro e w1 h1
    clear HD HB HM hle
    rcases more_cases h1 with ⟨n, k2, hx, hn, rfl, t1⟩ | ⟨m, hx, rfl, f1⟩
    rotate_left
    · have K := Lib.hid (HE.out (.no m) (by rw [hx]; rfl))
      clear hx h1 HE
      go_wp2_with fail
      exact ⟨rfl, StEnds.of K.out ⟨rfl, frSt f1⟩⟩
    have HE1 := Lib.hid (fun y hy => HE.out y (by rw [hx, Res.then_ok]; exact hy))
    have hn' : n < 32 := Nat.lt_of_lt_of_le hn (Nat.pow_le_pow_right (n := 2) (by decide) hbl.2)
    obtain ⟨ℓ, hl⟩ : ∃ ℓ, baseN s + n = ℓ := ⟨_, rfl⟩
    have HL := Lib.hid hl
    have hls : ℓ ≤ 300 := by omega
    have HF1 := Lib.hid t1.2
    have H1 := Lib.hid (H.out.read t1)
    have HS1 := Lib.hid (HS.out.fr t1.2 (fun q h1 h2 e => by have := HW.out; omega))
    have HSY := Lib.hid (symbol_any A B gs spn w1 H1.out HS1.out HW.out)
    rw [hl]
    clear hx h1 HE hn hbl t1 hl hn'
    go_wp2_with fail
    refine HSY.out.mono ?_
    intro e w2 h2
    rcases rd_cases h2 with ⟨d, k3, hx, rfl, t2⟩ | ⟨m, hx, rfl, f2⟩
    rotate_left
    · have K := Lib.hid (HE1.out (.no m) (by rw [hx]; rfl))
      clear hx h2 HE1
      go_wp2_with fail
      exact ⟨rfl, StEnds.of K.out ⟨rfl, frSt (HF1.out.trans f2 (fun _ _ h => h))⟩⟩
    have HE2 := Lib.hid (fun y hy => HE1.out y (by rw [hx, Res.then_ok]; exact hy))
    have hds : d < 320 := Nat.lt_of_lt_of_le (rSym_lt hx) HS1.out.small
    have HF2 : Hid (Fr (· = gr) w w2) := Lib.hid (HF1.out.trans t2.2 (fun _ _ h => h))
    have H2 := Lib.hid (H1.out.read t2)
    clear hx h2 HE1 t2 HSY HF1 H1 HS1 HS
    by_cases hd29 : d ≤ 29
    rotate_left
    · have K := Lib.hid (HE2.out (.no 62) (by rw [rIf_no (decide_eq_false hd29)]; rfl))
      have hle : decide ((d : Int) ≤ 29) = false := decide_eq_false (by omega)
      have HD := Lib.hid (demand_no 62 w2)
      clear HE2
      go_wp2_with fail
      refine HD.out.mono ?_
      rintro e w' ⟨rfl, rfl⟩
      go_wp2_with fail
      exact ⟨rfl, StEnds.of K.out ⟨rfl, frSt HF2.out⟩⟩
    have HE3 := Lib.hid (fun y hy => HE2.out y (by rw [rIf_yes (decide_eq_true hd29), Res.then_ok]; exact hy))
    have hle : decide ((d : Int) ≤ 29) = true := decide_eq_true (by omega)
    have HD := Lib.hid (demand_yes 62 w2)
    have HFA := Lib.hid (far_any d w2 hd29)
    have hfl := farN_le d hd29
    have HM := Lib.hid (more_any (farN d) (farC d) w2 H2.out (by omega) (by omega))
    clear HE2 hd29
    go_wp2_with fail
    refine HD.out.mono ?_
    rintro e w' ⟨rfl, rfl⟩
    go_wp2_with fail
    refine HFA.out.mono ?_
    rintro e w' ⟨rfl, rfl⟩
    go_wp2_with fail
    refine HM.out.mono ?_
    intro e w3 h3
    clear HD HFA HM hle
    rcases more_cases h3 with ⟨f, k4, hx, hf, rfl, t3⟩ | ⟨m, hx, rfl, f3⟩
    rotate_left
    · have K := Lib.hid (HE3.out (.no m) (by rw [hx]; rfl))
      clear hx h3 HE3
      go_wp2_with fail
      exact ⟨rfl, StEnds.of K.out ⟨rfl, frSt (HF2.out.trans f3 (fun _ _ h => h))⟩⟩
    have HE4 := Lib.hid (fun y hy => HE3.out y (by rw [hx, Res.then_ok]; exact hy))
    have hf' : f < 8192 := Nat.lt_of_lt_of_le hf (Nat.pow_le_pow_right (n := 2) (by decide) hfl.2)
    have hfp : 1 ≤ farN d := by unfold farN; split <;> omega
    obtain ⟨F, hF⟩ : ∃ F, farN d + f = F := ⟨_, rfl⟩
    rw [hF] at HE4 ⊢
    have hFs : F ≤ 40000 := by omega
    have HFP : Hid (1 ≤ F) := Lib.hid (by omega)
    have HF3 : Hid (Fr (· = gr) w w3) := Lib.hid (HF2.out.trans t3.2 (fun _ _ h => h))
    have H3 := Lib.hid (H2.out.read t3)
    rw [HL.out] at HE4
    clear hx h3 HE3 t3 HF2 H2 hF hf hf' hfl hfp hds
    obtain ⟨p, c, -, e2, -, -⟩ := H3.out.c2
    obtain ⟨M, hM⟩ : ∃ M, T.length = M := ⟨_, rfl⟩
    have hMs : M ≤ 1048576 := by have := H3.out.few.1; omega
    rw [hM] at e2
    have HMM := Lib.hid hM
    by_cases hfar : F ≤ M
    rotate_left
    · have K := Lib.hid (HE4.out (.no 63) (by rw [rIf_no (decide_eq_false (by rw [hM]; exact hfar))]; rfl))
      have hle : decide (F ≤ M) = false := decide_eq_false hfar
      have HD := Lib.hid (demand_no 63 w3)
      clear HE4 hM hfar
      go_wp2_with fail
      refine HD.out.mono ?_
      rintro e w' ⟨rfl, rfl⟩
      go_wp2_with fail
      exact ⟨rfl, StEnds.of K.out ⟨rfl, frSt HF3.out⟩⟩
    have HE5 := Lib.hid (fun y hy => HE4.out y (by rw [rIf_yes (decide_eq_true (by rw [hM]; exact hfar)), Res.then_ok]; exact hy))
    have hle : decide (F ≤ M) = true := decide_eq_true hfar
    have HD := Lib.hid (demand_yes 63 w3)
    have HFAR := Lib.hid hfar
    clear HE4 hM hfar
    go_wp2_with fail
    refine HD.out.mono ?_
    rintro e w' ⟨rfl, rfl⟩
    clear HD hle e2
    go_wp2_with fail
    go_loopw [39] (fun i wr => ∃ j : Nat, j ≤ ℓ ∧ i = .int .i64 j ∧ (j = 0 ∨ M + j ≤ lim) ∧ StTo w3 wr g gr r t b k4 lim (again F j T) L S) (fun i _ => ℓ - (intOf i).toNat)
    case atStart => exact ⟨0, by omega, rfl, .inl rfl, H3.out.self⟩
    case round =>
      obtain ⟨j, hj, rfl, hfit, hto⟩ := hrel
      have HTO := Lib.hid hto
      have HFIT := Lib.hid hfit
      clear hto hfit
      by_cases hjc : (j : Int) < (ℓ : Int)
      · obtain ⟨t1, st, ft, ht⟩ := HTO.out
        have HST := Lib.hid st
        have HFT := Lib.hid ft
        have HT1 := Lib.hid ht
        have HAL := Lib.hid (again_length F j T)
        have HAS := Lib.hid (again_succ F j T)
        obtain ⟨p, c, -, e2, own, -⟩ := st.c2
        clear st ft ht
        obtain ⟨U, hU⟩ : ∃ U, again F j T = U := ⟨_, rfl⟩
        rw [hU] at e2 own HAL HAS HST HTO
        obtain ⟨X, hX⟩ : ∃ X, U.length = X := ⟨_, rfl⟩
        have hXM : X = M + j := by rw [← hX, HAL.out, HMM.out]
        obtain ⟨D, hD⟩ : ∃ D, X = F + D := ⟨X - F, by have := HFAR.out; omega⟩
        have hDl : D < U.length := by have := HFP.out; omega
        obtain ⟨bb, oo, hpe, hcl⟩ := (SlI.ofOwns own).at D hDl
        have hx8 := HST.out.bytes _ (List.getElem_mem hDl)
        have HX1 : Hid (again F (j + 1) T = U ++ [U[D]]) := Lib.hid (by rw [HAS.out, hX, show X - F = D by omega, getD_at _ _ hDl])
        obtain ⟨x, hx⟩ : ∃ x, U[D] = x := ⟨_, rfl⟩
        rw [hx] at hcl hx8 HX1
        rw [hX] at e2
        subst hpe
        have q1 : IntKind.i64.wrap ((X : Int) - (F : Int)) = (D : Int) := by rw [IntWalk.i64_in _ (by omega)]; omega
        have q2 : (D : Int) < (X : Int) := by have := HFP.out; omega
        have q3 : (0 : Int) ≤ (D : Int) := by omega
        have HXL : Hid (U.length = X ∧ X = M + j) := Lib.hid ⟨hX, hXM⟩
        clear own hU hX hXM hD hDl hx HAS HAL
        go_wp2_with fail
        have HST2 : Hid (∀ W, Fr S0 wr W → StIs W g gr r t1 b k4 lim U L S) := Lib.hid (fun W f => HST.out.fr0 f)
        have HFT2 : Hid (∀ W, Fr S0 wr W → Fr (StB g gr t) w3 W) := Lib.hid (fun W f => HFT.out.trans0 f)
        by_cases hroom : X + 1 ≤ lim
        · have HT : Hid (∀ W, Fr S0 wr W → W.heap[wr.heap.size]? = some (.cells #[.int .u8 (x : Nat)] 5 (0, 0)) → Calls Try.prog 50 #[.pointer (some ⟨g, 0, none⟩), .slice (some ⟨wr.heap.size, 0, none⟩) 1 1] W fun e w' => e = .returned (.tuple #[]) ∧ StTo w3 w' g gr r t b k4 lim (U ++ [x]) L S) :=
            Lib.hid (fun W f hb => (tell_yes (some ⟨wr.heap.size, 0, none⟩) 1 [x] W (HST2.out W f) (SrcIs.ofSl (k := .u8) (l := [x]) (SlI.ofBlock (k := .u8) (l := [x]) hb rfl (by simp [maxLen])) (fun h => by cases h)) (fun y hy => by rw [List.mem_singleton.1 hy]; exact hx8) (by rw [HXL.out.1]; exact hroom)).mono (fun e w' ⟨h1, h2⟩ => ⟨h1, StTo.trans (HFT2.out W f) HT1.out h2⟩))
          have HROOM := Lib.hid hroom
          clear hroom
          go_region_law (first
              | (go_simp; go_at_call 50; refine (HT.out _ ((Fr.alloc S0 wr _).trans0 (Fr.drew _ _)) (heap_alloc_new wr _)).mono ?_; rintro e w4 ⟨rfl, hto⟩; have HN := Lib.hid hto; clear hto))
          all_goals (
            go_wp2_with fail
            go_roundw
            · exact ⟨j + 1, by omega, by go_num, .inr (by have := HXL.out.2; have := HROOM.out; omega), by rw [HX1.out]; exact HN.out⟩
            · simp [intOf]; omega)
        · have HT : Hid (∀ W, Fr S0 wr W → Calls Try.prog 50 #[.pointer (some ⟨g, 0, none⟩), .slice (some ⟨wr.heap.size, 0, none⟩) 1 1] W fun e w' => (∃ v, e = .returned v ∧ False) ∨ e = .panicked (chn 64) ∧ Fr (StB g gr t) w w') :=
            Lib.hid (fun W f => (tell_no (some ⟨wr.heap.size, 0, none⟩) 1 1 _ (HST2.out W f) (by rw [HXL.out.1]; exact hroom) (by decide)).mono (fun e w' ⟨h1, h2⟩ => .inr ⟨h1, (frSt HF3.out).trans ((HFT2.out W f).trans0 h2) (fun _ _ h => h)⟩))
          have K := Lib.hid (HE5.out (.no 64) (by rw [rIf_no (decide_eq_false (by rw [HMM.out]; have := HXL.out.2; omega))]; rfl))
          have HROOM := Lib.hid hroom
          clear hroom
          go_region_law (first
              | (go_simp; go_at_call 50; refine (HT.out _ ((Fr.alloc S0 wr _).trans0 (Fr.drew _ _))).mono ?_; rintro e w4 (⟨v, rfl, hF⟩ | ⟨rfl, f4⟩); rotate_left; exact ⟨rfl, StEnds.of K.out ⟨rfl, f4⟩⟩))
          all_goals exact hF.elim
      · obtain rfl : j = ℓ := by omega
        have K := Lib.hid (HE5.out (.ok (again F j T) k4) (by rw [rIf_yes (decide_eq_true (by rw [HMM.out]; rcases HFIT.out with q | q <;> have := HL.out <;> have := HP.out <;> omega))]; rfl))
        go_wp2_with fail
        go_end0
        exact StEnds.of K.out ⟨rfl, StTo.trans (frSt HF3.out) (.inl rfl) HTO.out⟩
  · have hle : decide ((s : Int) ≤ 285) = false := decide_eq_false (by omega)
    have HD := Lib.hid (demand_no 62 w)
    have HE : Hid (rBack b lim spn T s k = .no 62) := Lib.hid (by unfold rBack; rw [rIf_no (decide_eq_false h285)]; rfl)
    clear h hs hw h285 h257 hss
    go_enter Try.func73, Try.ntmps73
    go_wp2_with fail
    refine HD.out.mono ?_
    rintro e w' ⟨rfl, rfl⟩
    go_wp2_with fail
    exact ⟨rfl, StEnds.of HE.out ⟨rfl, Fr.refl _ _⟩⟩
end
end Go.Proofs.Ytmcmchldjfnneaa
