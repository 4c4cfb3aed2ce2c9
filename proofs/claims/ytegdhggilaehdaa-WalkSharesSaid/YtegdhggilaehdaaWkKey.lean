/- place; Below, Upto, Key. -/
import Derived.Test.YtegdhggilaehdaaWkPlace
import Derived.BigQuiet
namespace Go.Proofs.Ytegdhggilaehdaa
open Go.RowKit

section
variable (C b g : Nat) (v : Value) (q : Pr → Bool) (l : List Pr) (w : World)
/-- what is asked of the step at j -/
def qat (q : Pr → Bool) (l : List Pr) (j : Nat) : Bool := if h : j < l.length then q (l[j].1, ahd l (j + 1)) else true
set_option maxRecDepth 100000 in
set_option maxHeartbeats 1000000 in
theorem place_any (hC : Has C) (hA : AsksS C v q) (hk : w.cell? ⟨b, 0, none⟩ = some v) (s : TabIs w g l) (hq : ∀ i j, i ≤ j → j < l.length → qat q l i = true → qat q l j = true) :
    Calls Try.prog 29 #[.pointer (some ⟨g, 0, none⟩), .func (.func C) #[] #[.pointer (some ⟨b, 0, none⟩)]] w fun e w' => ∃ i : Nat, e = .returned (.int .i64 (i : Nat)) ∧ i ≤ l.length ∧
      (∀ j, j < i → qat q l j = false) ∧ (∀ j, i ≤ j → j < l.length → qat q l j = true) ∧ Fr S0 w w' := by
  have HS := Lib.hid s
  obtain ⟨p, n, c, s⟩ := s
  have HN : Hid (l.length = n) := Lib.hid s.len
  have hsm := s.small
  have f1 := (Fr.alloc S0 w (.cells #[.pointer (some ⟨g, 0, none⟩)] 24)).trans0 (Fr.alloc S0 _ (.cells #[.func (.func C) #[] #[.pointer (some ⟨b, 0, none⟩)]] 67))
  have c0 := f1.cell s.c0 (fun h => h)
  have d1 := heap_alloc_new (w.alloc (.cells #[.pointer (some ⟨g, 0, none⟩)] 24)) (.cells #[.func (.func C) #[] #[.pointer (some ⟨b, 0, none⟩)]] 67)
  have d0 := (Fr.alloc S0 _ (.cells #[.func (.func C) #[] #[.pointer (some ⟨b, 0, none⟩)]] 67)).row (heap_alloc_new w (.cells #[.pointer (some ⟨g, 0, none⟩)] 24)) (fun h => h)
  have HSR := Lib.hid (search_any 43 (.pointer (some ⟨(w.alloc (.cells #[.pointer (some ⟨g, 0, none⟩)] 24)).heap.size, 0, none⟩)) (.pointer (some ⟨w.heap.size, 0, none⟩))
    (qat q l) n _ has_place (by omega)
    (fun i j hij hj hi => hq i j hij (by rw [HN.out]; exact hj) hi)
    (fun j hj W f => by
      have f2 := f1.trans0 f
      have hjl : j < l.length := by rw [HN.out]; exact hj
      unfold qat
      rw [dif_pos hjl]
      refine place1_any C b g _ _ v q l W j hC hA (f2.cell hk (fun h => h)) (HS.out.fr0 f2) hjl ?_ ?_
      · exact f.cell (by simp only [World.cell?, d1]; rfl) (fun h => h)
      · exact f.cell (by simp only [World.cell?, d0]; rfl) (fun h => h)))
  have HF1 := Lib.hid f1
  rw [size_alloc] at HSR
  clear s hC hA hk hq HS f1 d0 d1
  go_enter Try.func29, Try.ntmps29
  go_wp2_with fail
  refine HSR.out.mono ?_
  rintro e w1 ⟨i, rfl, hi, h1, h2, f2⟩
  have HE : Hid (i ≤ l.length ∧ (∀ j, j < i → qat q l j = false) ∧ (∀ j, i ≤ j → j < l.length → qat q l j = true) ∧ Fr S0 w w1) := Lib.hid ⟨by rw [HN.out]; exact hi,
    h1, fun j hji hj => h2 j hji (by rw [← HN.out]; exact hj), HF1.out.trans0 f2⟩
  clear h1 h2 f2 HSR
  go_wp2_with fail
  go_ret
  exact ⟨i, rfl, HE.out⟩
end

theorem qat_at {q : Pr → Bool} {l : List Pr} {j : Nat} (h : j < l.length) : qat q l j = q (l[j].1, ahd l (j + 1)) := by
  unfold qat
  rw [dif_pos h]
theorem new_cell (w : World) (x : Value) (t : TypeId) : (w.alloc (.cells #[x] t)).cell? ⟨w.heap.size, 0, none⟩ = some x := by
  rw [World.cell?, heap_alloc_new w _]
  rfl
section
variable (g : Nat) (k : Int) (l : List Pr) (w : World)
theorem place_below (b : Nat) (hk : w.cell? ⟨b, 0, none⟩ = some (.int .i64 k)) (s : TabIs w g l) :
    Calls Try.prog 29 #[.pointer (some ⟨g, 0, none⟩), .func (.func 31) #[] #[.pointer (some ⟨b, 0, none⟩)]] w fun e w' => ∃ i : Nat, e = .returned (.int .i64 (i : Nat)) ∧ i ≤ l.length ∧ ahd l i = bel l k ∧ Fr S0 w w' := by
  refine (place_any _ b g _ _ l w has_below (asks_below k) hk s ?_).mono ?_
  · intro i j hij hj h
    rw [qat_at (by omega)] at h ⊢
    have := srt_le s.ok.srt (by omega) hj hij
    simp only [decide_eq_true_eq] at h ⊢
    omega
  · rintro e w' ⟨i, rfl, hi, h1, h2, f⟩
    refine ⟨i, rfl, hi, bel_place hi (fun j hj hji => ?_) (fun j hj hij => ?_), f⟩
    · have := h1 j hji
      rw [qat_at hj] at this
      simp only [decide_eq_false_iff_not] at this
      omega
    · have := h2 j hij hj
      rw [qat_at hj] at this
      simpa using this
theorem place_upto (b : Nat) (hk : w.cell? ⟨b, 0, none⟩ = some (.int .i64 k)) (s : TabIs w g l) :
    Calls Try.prog 29 #[.pointer (some ⟨g, 0, none⟩), .func (.func 32) #[] #[.pointer (some ⟨b, 0, none⟩)]] w fun e w' => ∃ i : Nat, e = .returned (.int .i64 (i : Nat)) ∧ i ≤ l.length ∧ ahd l i = upt l k ∧ Fr S0 w w' := by
  refine (place_any _ b g _ _ l w has_upto (asks_upto k) hk s ?_).mono ?_
  · intro i j hij hj h
    rw [qat_at (by omega)] at h ⊢
    have := srt_le s.ok.srt (by omega) hj hij
    simp only [decide_eq_true_eq] at h ⊢
    omega
  · rintro e w' ⟨i, rfl, hi, h1, h2, f⟩
    refine ⟨i, rfl, hi, upt_place hi (fun j hj hji => ?_) (fun j hj hij => ?_), f⟩
    · have := h1 j hji
      rw [qat_at hj] at this
      simp only [decide_eq_false_iff_not] at this
      omega
    · have := h2 j hij hj
      rw [qat_at hj] at this
      simpa using this
theorem place_key (b r : Nat) (h1 : 1 ≤ r) (h2 : r ≤ ltot l) (hk : w.cell? ⟨b, 0, none⟩ = some (.int .u64 (r : Nat))) (s : TabIs w g l) :
    Calls Try.prog 29 #[.pointer (some ⟨g, 0, none⟩), .func (.func 30) #[] #[.pointer (some ⟨b, 0, none⟩)]] w fun e w' => ∃ i : Nat, e = .returned (.int .i64 (i : Nat)) ∧ (∃ h : i < l.length, l[i].1 = keyW l r) ∧ Fr S0 w w' := by
  refine (place_any _ b g _ _ l w has_key (asks_key r) hk s ?_).mono ?_
  · intro i j hij hj h
    rw [qat_at (by omega)] at h ⊢
    have := ahd_mono l (show i + 1 ≤ j + 1 by omega)
    simp only [decide_eq_true_eq] at h ⊢
    omega
  · rintro e w' ⟨i, rfl, hi, u1, u2, f⟩
    have hlo : ahd l i < r := by
      by_cases h0 : i = 0
      · subst h0; rw [ahd_zero]; omega
      · have := u1 (i - 1) (by omega)
        rw [qat_at (by omega)] at this
        simp only [decide_eq_false_iff_not] at this
        rw [show i - 1 + 1 = i by omega] at this
        omega
    have hil : i < l.length := by
      rcases (by omega : i = l.length ∨ i < l.length) with e | e
      · rw [e, ahd_all] at hlo; omega
      · exact e
    have hhi := u2 i (Nat.le_refl _) hil
    rw [qat_at hil] at hhi
    simp only [decide_eq_true_eq] at hhi
    exact ⟨i, rfl, ⟨hil, (key_place s.ok.srt h1 h2 hil hlo hhi).symm⟩, f⟩

set_option maxRecDepth 100000 in
set_option maxHeartbeats 1000000 in
theorem below_any (s : TabIs w g l) : Calls Try.prog 17 #[.pointer (some ⟨g, 0, none⟩), .int .i64 k] w fun e w' => e = .returned (.int .u64 (bel l k : Nat)) ∧ Fr S0 w w' := by
  have f1 := Fr.alloc S0 w (.cells #[.int .i64 k] 3)
  have HP := Lib.hid (place_below g k l _ w.heap.size (new_cell w _ _) (s.fr0 f1))
  have HS := Lib.hid (s.fr0 f1)
  have HF := Lib.hid f1
  clear s f1
  go_enter Try.func17, Try.ntmps17
  go_wp2_with fail
  refine HP.out.mono ?_
  rintro e w1 ⟨i, rfl, hi, hb, f2⟩
  have HA := Lib.hid (ahead_any g i l w1 (HS.out.fr0 f2) hi)
  rw [hb] at HA
  have HF2 := Lib.hid (HF.out.trans0 f2)
  clear hb hi f2 HP HS HF
  go_wp2_with fail
  refine HA.out.mono ?_
  rintro e w2 ⟨rfl, rfl⟩
  go_wp2_with fail
  go_ret
  exact ⟨rfl, HF2.out⟩
set_option maxRecDepth 100000 in
set_option maxHeartbeats 1000000 in
theorem upto_any (s : TabIs w g l) : Calls Try.prog 18 #[.pointer (some ⟨g, 0, none⟩), .int .i64 k] w fun e w' => e = .returned (.int .u64 (upt l k : Nat)) ∧ Fr S0 w w' := by
  have f1 := Fr.alloc S0 w (.cells #[.int .i64 k] 3)
  have HP := Lib.hid (place_upto g k l _ w.heap.size (new_cell w _ _) (s.fr0 f1))
  have HS := Lib.hid (s.fr0 f1)
  have HF := Lib.hid f1
  clear s f1
  go_enter Try.func18, Try.ntmps18
  go_wp2_with fail
  refine HP.out.mono ?_
  rintro e w1 ⟨i, rfl, hi, hb, f2⟩
  have HA := Lib.hid (ahead_any g i l w1 (HS.out.fr0 f2) hi)
  rw [hb] at HA
  have HF2 := Lib.hid (HF.out.trans0 f2)
  clear hb hi f2 HP HS HF
  go_wp2_with fail
  refine HA.out.mono ?_
  rintro e w2 ⟨rfl, rfl⟩
  go_wp2_with fail
  go_ret
  exact ⟨rfl, HF2.out⟩
end

/-- Key's value and error -/
def keyE (l : List Pr) (r : Nat) : Nat := if l = [] then 8 else if r = 0 ∨ ltot l < r then 1 else 0
def keyV (l : List Pr) (r : Nat) : Int := if keyE l r = 0 then keyW l r else 0
section
variable (g r : Nat) (l : List Pr) (w : World)
set_option maxRecDepth 100000 in
set_option maxHeartbeats 1000000 in
theorem key_any (s : TabIs w g l) (hr64 : r < 18446744073709551616) :
    Calls Try.prog 15 #[.pointer (some ⟨g, 0, none⟩), .int .u64 (r : Nat)] w fun e w' => e = .returned (.tuple #[.int .i64 (keyV l r), .int .i64 (keyE l r : Nat)]) ∧ Fr S0 w w' := by
  have f1 := Fr.alloc S0 w (.cells #[.int .u64 (r : Nat)] 29)
  have s1 := s.fr0 f1
  have kr := new_cell w (.int .u64 (r : Nat)) 29
  have HF1 := Lib.hid f1
  have HT : Hid (∀ m, Calls Try.prog 11 #[.pointer (some ⟨g, 0, none⟩)] ((w.alloc (.cells #[.int .u64 (r : Nat)] 29)).drewN m) fun e w' => e = .returned (.int .u64 (ltot l : Nat)) ∧ w' = (w.alloc (.cells #[.int .u64 (r : Nat)] 29)).drewN m) := Lib.hid fun m => total_any g l _ (s1.fr0 (Fr.drewN _ _ _))
  have hz := tot_zero s.ok.pos
  by_cases hl : l = []
  · have e : keyE l r = 8 := by unfold keyE; rw [if_pos hl]
    have e2 : keyV l r = 0 := by unfold keyV; rw [e, if_neg (by decide)]
    rw [e, e2]
    have HT0 := HT.out 0
    rw [hz.2 hl] at HT0
    have HT0 := Lib.hid HT0
    clear s s1 e e2 hl hz HT kr f1
    go_enter Try.func15, Try.ntmps15
    go_wp2_with fail
    refine HT0.out.mono ?_
    rintro e w2 ⟨rfl, rfl⟩
    go_wp2_with fail
    go_ret2
    exact ⟨rfl, HF1.out⟩
  obtain ⟨g1, hg1⟩ : ∃ g1, w.heap.size = g1 := ⟨_, rfl⟩
  obtain ⟨w1, hw1⟩ : ∃ w1, w.alloc (.cells #[.int .u64 (r : Nat)] 29) = w1 := ⟨_, rfl⟩
  have HW1 := Lib.hid hw1
  have htp : 0 < ltot l := by
    rcases Nat.eq_zero_or_pos (ltot l) with h | h
    · exact absurd (hz.1 h) hl
    · exact h
  have ht64 := s.ok.tot
  have HPK : Hid (1 ≤ r → r ≤ ltot l → ∀ W, Fr S0 (w.alloc (.cells #[.int .u64 (r : Nat)] 29)) W → Calls Try.prog 29 #[.pointer (some ⟨g, 0, none⟩), .func (.func 30) #[] #[.pointer (some ⟨w.heap.size, 0, none⟩)]] W fun e w' => ∃ i : Nat, e = .returned (.int .i64 (i : Nat)) ∧ (∃ h : i < l.length, l[i].1 = keyW l r) ∧ Fr S0 W w') :=
    Lib.hid fun h1 h2 W f => place_key g l W _ r h1 h2 (f.cell kr fun h => h) (s1.fr0 f)
  have HSS := Lib.hid s1
  have HE : keyE l r = if r = 0 ∨ ltot l < r then 1 else 0 := by unfold keyE; rw [if_neg hl]
  obtain ⟨p, n, c, s⟩ := s1
  have HSN := Lib.hid s
  have c0 := s.c0
  have hsm := s.small
  have HKV : Hid (keyE l r = 0 → keyV l r = keyW l r) := Lib.hid fun h => by unfold keyV; rw [if_pos h]
  have HKV0 : Hid (keyE l r = 1 → keyV l r = 0) := Lib.hid fun h => by unfold keyV; rw [h, if_neg (by decide)]
  obtain ⟨T, hT⟩ : ∃ T, ltot l = T := ⟨_, rfl⟩
  rw [hT] at HT HPK HE htp ht64
  have ht0 : ((T : Int) == 0) = false := by rw [beq_eq_false_iff_ne]; omega
  rw [hw1] at HT HPK c0 HSN HSS HF1 kr
  rw [hg1] at HPK kr
  have HTN := Lib.hid (HT.out 0)
  by_cases hr : r = 0
  · have e : keyE l r = 1 := by rw [HE, if_pos (.inl hr)]
    rw [HKV0.out e, e]
    have hr1 : decide ((r : Int) < 1) = true := decide_eq_true (by omega)
    clear s hz hl hT HE HKV HKV0 HPK HSN HSS c0 hsm htp hr
    go_enter Try.func15, Try.ntmps15
    go_wp2_with fail
    refine HTN.out.mono ?_
    rintro e w2 ⟨rfl, rfl⟩
    go_wp2_with fail
    go_quiet (first | (exact (HT.out _).mono fun _ _ h => ⟨h.1, _, h.2⟩))
    go_wp2_with fail
    go_ret2
    exact ⟨rfl, HF1.out.trans0 (Fr.drewN _ _ _)⟩
  have hr1 : decide ((r : Int) < 1) = false := decide_eq_false (by omega)
  by_cases hrt : T < r
  · have e : keyE l r = 1 := by rw [HE, if_pos (.inr hrt)]
    rw [HKV0.out e, e]
    clear s hz hl hT HE HKV HKV0 HPK HSN HSS c0 hsm htp hr
    go_enter Try.func15, Try.ntmps15
    go_wp2_with fail
    refine HTN.out.mono ?_
    rintro e w2 ⟨rfl, rfl⟩
    go_wp2_with fail
    go_quiet (first | (exact (HT.out _).mono fun _ _ h => ⟨h.1, _, h.2⟩))
    go_wp2_with fail
    go_ret2
    exact ⟨rfl, HF1.out.trans0 (Fr.drewN _ _ _)⟩
  · have e : keyE l r = 0 := by rw [HE, if_neg (by omega)]
    rw [HKV.out e, e]
    have hrt2 : decide (T < r) = false := decide_eq_false hrt
    have HPL := Lib.hid (HPK.out (by omega) (by omega))
    have HLN : Hid (l.length = n) := Lib.hid HSN.out.len
    clear s hz hl hT HE HKV HKV0 HPK htp hr hrt
    go_enter Try.func15, Try.ntmps15
    go_wp2_with fail
    refine HTN.out.mono ?_
    rintro e w2 ⟨rfl, rfl⟩
    go_wp2_with fail
    go_quiet (first | (exact (HT.out _).mono fun _ _ h => ⟨h.1, _, h.2⟩))
    go_wp2_with fail
    go_region_law (first
      | (go_simp; go_at_call 29; (with_reducible refine (HPL.out _ (by first | exact Fr.drewN _ _ _ | exact (Fr.drewN S0 w1 _).trans0 (Fr.drew _ _))).mono ?_); rintro _ w5 ⟨i, rfl, ⟨hi, hki⟩, f5⟩; have HJ : Hid (Fr S0 w1 w5) := Lib.hid (Fr.trans0 (by first | exact Fr.drewN _ _ _ | exact (Fr.drewN S0 w1 _).trans0 (Fr.drew _ _)) f5); have s5 := HSN.out.fr0 HJ.out; have y0 := s5.c0; obtain ⟨b, o, hp, k0, k1⟩ := s5.pri.at i (by rw [stp_len]; exact hi); rw [stp_at l i hi] at k0; simp only at k0; rw [hki] at k0; have hin : (i : Int) < (n : Int) := (by have := HLN.out; omega); subst hp; clear s5 k1 hi hki f5; dsimp only))
    all_goals
      go_wp2_with fail
      go_ret2
      exact ⟨rfl, HF1.out.trans0 HJ.out⟩
end
end Go.Proofs.Ytegdhggilaehdaa
