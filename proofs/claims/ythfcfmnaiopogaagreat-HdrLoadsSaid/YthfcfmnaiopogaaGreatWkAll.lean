/- WkTab, WkPlace, WkKey, WkLook, WkPart, WkNew in one text. -/
import Derived.Test.YthfcfmnaiopogaaGreatDnAll
import Derived.Deep.RegionLaw
import Derived.Deep.RegionHeld3
import Derived.BigQuiet
import Derived.Test.YthfcfmnaiopogaaGreatRkAll
import Derived.Test.YthfcfmnaiopogaaGreatWdAll

/- A table's block; Total, Len, what is ahead of a place. -/
namespace Go.Proofs.YthfcfmnaiopogaaGreat
open Go.RowKit

/-- block g is the table of l: its steps lie at p -/
structure Tab (w : World) (g : Nat) (p : Option Addr) (n c : Nat) (l : List Pr) : Prop where
  blk : w.heap[g]? = some (.cells #[.slice p n c] 168 (0, 0))
  pri : PrI w p (stp l)
  len : l.length = n
  ok : Tb l
  small : n ≤ 100000
  cap : n ≤ c ∧ c ≤ maxLen
def TabIs (w : World) (g : Nat) (l : List Pr) : Prop := ∃ p n c, Tab w g p n c l
section
variable {w w' : World} {g : Nat} {p : Option Addr} {n c : Nat} {l : List Pr}
theorem Tab.c0 (s : Tab w g p n c l) : w.cell? ⟨g, 0, none⟩ = some (.slice p n c) := by simp [World.cell?, s.blk]
theorem Tab.fr0 (s : Tab w g p n c l) (f : Fr S0 w w') : Tab w' g p n c l := ⟨f.row s.blk fun h => h, s.pri.fr0 f, s.len, s.ok, s.small, s.cap⟩
theorem TabIs.fr0 (s : TabIs w g l) (f : Fr S0 w w') : TabIs w' g l := let ⟨p, n, c, s⟩ := s; ⟨p, n, c, s.fr0 f⟩
theorem TabIs.ok (s : TabIs w g l) : Tb l := let ⟨_, _, _, s⟩ := s; s.ok
theorem TabIs.small (s : TabIs w g l) : l.length ≤ 100000 := let ⟨_, _, _, s⟩ := s; s.len ▸ s.small
theorem TabIs.lt (s : TabIs w g l) : g < w.heap.size := let ⟨_, _, _, s⟩ := s; (Array.getElem?_eq_some_iff.1 s.blk).1
end

set_option maxRecDepth 100000 in
set_option maxHeartbeats 400000 in
theorem ahead_any (g i : Nat) (l : List Pr) (w : World) (s : TabIs w g l) (hi : i ≤ l.length) :
    Calls Tryz.prog 138 #[.pointer (some ⟨g, 0, none⟩), .int .i64 (i : Nat)] w fun e w' => e = .returned (.int .u64 (ahd l i : Nat)) ∧ w' = w := by
  obtain ⟨p, n, c, s⟩ := s
  by_cases h0 : i = 0
  · subst h0
    rw [ahd_zero]
    clear s hi
    go_enter Tryz.func138, Tryz.ntmps138
    go_wp2_with fail
    go_ret
    exact ⟨rfl, rfl⟩
  · obtain ⟨j, hj⟩ : ∃ j, i - 1 = j := ⟨_, rfl⟩
    have hjl : j < l.length := by omega
    have c0 := s.c0
    obtain ⟨b, o, rfl, k0, k1⟩ := s.pri.at j (by rw [stp_len]; exact hjl)
    rw [stp_at l j hjl] at k1
    have hin : (j : Int) < (n : Int) := by have := s.len; omega
    have hsm := s.small
    have e1 : (i : Int) - 1 = (j : Int) := by omega
    have hi0 : ((i : Int) == 0) = false := by rw [beq_eq_false_iff_ne]; omega
    have ea : ltot (l.take (j + 1)) = ahd l i := by unfold ahd; rw [show j + 1 = i by omega]
    simp only [ea] at k1
    obtain ⟨A, hA⟩ : ∃ A, ahd l i = A := ⟨_, rfl⟩
    rw [hA] at k1 ⊢
    clear k0 hA ea s hj h0 hi hjl
    go_enter Tryz.func138, Tryz.ntmps138
    go_wp2_with fail
    go_ret
    exact ⟨rfl, rfl⟩

set_option maxRecDepth 100000 in
set_option maxHeartbeats 400000 in
theorem total_any (g : Nat) (l : List Pr) (w : World) (s : TabIs w g l) :
    Calls Tryz.prog 111 #[.pointer (some ⟨g, 0, none⟩)] w fun e w' => e = .returned (.int .u64 (ltot l : Nat)) ∧ w' = w := by
  have HA := Lib.hid (ahead_any g l.length l w s (Nat.le_refl _))
  rw [ahd_all] at HA
  obtain ⟨p, n, c, s⟩ := s
  rw [s.len] at HA
  have c0 := s.c0
  obtain ⟨T, hT⟩ : ∃ T, ltot l = T := ⟨_, rfl⟩
  rw [hT] at HA ⊢
  clear s hT
  go_enter Tryz.func111, Tryz.ntmps111
  go_wp2_with fail
  refine HA.out.mono ?_
  rintro e w1 ⟨rfl, rfl⟩
  go_wp2_with fail
  go_ret
  exact ⟨rfl, rfl⟩

end Go.Proofs.YthfcfmnaiopogaaGreat

/- Places in a table are sought by halves: place; Below, Upto, Key. -/
namespace Go.Proofs.YthfcfmnaiopogaaGreat
open Go.RowKit

theorem has_place : Has 164 := fun _ _ => by kernel_rfl
theorem has_key : Has 156 := fun _ _ => by kernel_rfl
theorem has_upto : Has 152 := fun _ _ => by kernel_rfl

/-- a closure over one variable, v, that is asked of a step -/
def AsksS (C : Nat) (v : Value) (q : Pr → Bool) : Prop := ∀ (b : Nat) (x : Pr) (W : World), W.cell? ⟨b, 0, none⟩ = some v → Calls Tryz.prog C #[.agg #[.int .i64 x.1, .int .u64 (x.2 : Nat)], .pointer (some ⟨b, 0, none⟩)] W fun e w' => e = .returned (.bool (q x)) ∧ Fr S0 W w'
set_option maxRecDepth 100000 in
set_option maxHeartbeats 400000 in
theorem asks_key (r : Nat) : AsksS 156 (.int .u64 (r : Nat)) fun x => decide (r ≤ x.2) := by
  rintro b ⟨x, y⟩ W hk
  have hk2 := (Fr.alloc S0 W (.cells #[.int .i64 x, .int .u64 (y : Int)] 170)).cell hk (fun h => h)
  simp only
  go_enter Tryz.func156, Tryz.ntmps156
  go_wp2_with fail
  go_ret
  exact ⟨by simp, Fr.alloc _ _ _⟩
set_option maxRecDepth 100000 in
set_option maxHeartbeats 400000 in
theorem asks_upto (k : Int) : AsksS 152 (.int .i64 k) fun x => decide (k < x.1) := by
  rintro b ⟨x, y⟩ W hk
  have hk2 := (Fr.alloc S0 W (.cells #[.int .i64 x, .int .u64 (y : Int)] 170)).cell hk (fun h => h)
  simp only
  go_enter Tryz.func152, Tryz.ntmps152
  go_wp2_with fail
  go_ret
  exact ⟨by simp, Fr.alloc _ _ _⟩

section
variable (C b g bg bf : Nat) (v : Value) (q : Pr → Bool) (l : List Pr) (w : World)
set_option maxRecDepth 100000 in
set_option maxHeartbeats 1000000 in
theorem place1_any (i : Nat) (hC : Has C) (hA : AsksS C v q) (hk : w.cell? ⟨b, 0, none⟩ = some v) (s : TabIs w g l) (hi : i < l.length)
    (hf : w.cell? ⟨bf, 0, none⟩ = some (.func (.func C) #[] #[.pointer (some ⟨b, 0, none⟩)])) (hg : w.cell? ⟨bg, 0, none⟩ = some (.pointer (some ⟨g, 0, none⟩))) :
    Calls Tryz.prog 164 #[.int .i64 (i : Nat), .pointer (some ⟨bf, 0, none⟩), .pointer (some ⟨bg, 0, none⟩)] w fun e w' => e = .returned (.bool (q (l[i].1, ahd l (i + 1)))) ∧ Fr S0 w w' := by
  obtain ⟨p, n, c, s⟩ := s
  have c0 := s.c0
  have hin : (i : Int) < (n : Int) := by have := s.len; omega
  have hsm := s.small
  obtain ⟨bb, oo, rfl, k0, k1⟩ := s.pri.at i (by rw [stp_len]; exact hi)
  rw [stp_at l i hi] at k0 k1
  have HC : Hid (∀ W, Fr S0 w W → Calls Tryz.prog C #[.agg #[.int .i64 l[i].1, .int .u64 (ahd l (i + 1) : Nat)], .pointer (some ⟨b, 0, none⟩)] W fun e w' => e = .returned (.bool (q (l[i].1, ahd l (i + 1)))) ∧ Fr S0 W w') := Lib.hid fun W f => hA b (l[i].1, ahd l (i + 1)) W (f.cell hk fun h => h)
  have hcf : ∀ x W, (callFunc C #[.agg x, .pointer (some ⟨b, 0, none⟩)]).run Tryz.prog W = .ok (.enter C #[.agg x, .pointer (some ⟨b, 0, none⟩)]) W := fun x W => hC _ _
  have ea : ltot (l.take (i + 1)) = ahd l (i + 1) := rfl
  simp only [ea] at k0 k1
  obtain ⟨X, hX⟩ : ∃ X, l[i].1 = X := ⟨_, rfl⟩
  obtain ⟨U, hU⟩ : ∃ U, ahd l (i + 1) = U := ⟨_, rfl⟩
  rw [hX] at k0 HC ⊢
  rw [hU] at k1 HC ⊢
  obtain ⟨Y, hY⟩ : ∃ Y, q (X, U) = Y := ⟨_, rfl⟩
  rw [hY] at HC ⊢
  clear s hX hU hY hC hA hk hi ea
  go_enter Tryz.func164, Tryz.ntmps164
  go_wp2_with fail
  go_region_law (first
    | (go_simp; (with_reducible show Calls _ C _ _ _); (with_reducible refine (HC.out _ (Fr.drew _ _)).mono ?_); rintro _ w5 ⟨rfl, f5⟩; have HF := Lib.hid ((Fr.drew S0 w).trans0 f5); clear f5; dsimp only))
  all_goals
    go_wp2_with fail
    go_ret
    exact ⟨rfl, HF.out⟩
end
end Go.Proofs.YthfcfmnaiopogaaGreat

/- place; Below, Upto, Key. -/
namespace Go.Proofs.YthfcfmnaiopogaaGreat
open Go.RowKit

section
variable (C b g : Nat) (v : Value) (q : Pr → Bool) (l : List Pr) (w : World)
/-- what is asked of the step at j -/
def qat (q : Pr → Bool) (l : List Pr) (j : Nat) : Bool := if h : j < l.length then q (l[j].1, ahd l (j + 1)) else true
set_option maxRecDepth 100000 in
set_option maxHeartbeats 1000000 in
theorem place_any (hC : Has C) (hA : AsksS C v q) (hk : w.cell? ⟨b, 0, none⟩ = some v) (s : TabIs w g l) (hq : ∀ i j, i ≤ j → j < l.length → qat q l i = true → qat q l j = true) :
    Calls Tryz.prog 151 #[.pointer (some ⟨g, 0, none⟩), .func (.func C) #[] #[.pointer (some ⟨b, 0, none⟩)]] w fun e w' => ∃ i : Nat, e = .returned (.int .i64 (i : Nat)) ∧ i ≤ l.length ∧
      (∀ j, j < i → qat q l j = false) ∧ (∀ j, i ≤ j → j < l.length → qat q l j = true) ∧ Fr S0 w w' := by
  have HS := Lib.hid s
  obtain ⟨p, n, c, s⟩ := s
  have HN : Hid (l.length = n) := Lib.hid s.len
  have hsm := s.small
  have f1 := (Fr.alloc S0 w (.cells #[.pointer (some ⟨g, 0, none⟩)] 113)).trans0 (Fr.alloc S0 _ (.cells #[.func (.func C) #[] #[.pointer (some ⟨b, 0, none⟩)]] 206))
  have c0 := f1.cell s.c0 (fun h => h)
  have d1 := heap_alloc_new (w.alloc (.cells #[.pointer (some ⟨g, 0, none⟩)] 113)) (.cells #[.func (.func C) #[] #[.pointer (some ⟨b, 0, none⟩)]] 206)
  have d0 := (Fr.alloc S0 _ (.cells #[.func (.func C) #[] #[.pointer (some ⟨b, 0, none⟩)]] 206)).row (heap_alloc_new w (.cells #[.pointer (some ⟨g, 0, none⟩)] 113)) (fun h => h)
  have HSR := Lib.hid (search_any 164 (.pointer (some ⟨(w.alloc (.cells #[.pointer (some ⟨g, 0, none⟩)] 113)).heap.size, 0, none⟩)) (.pointer (some ⟨w.heap.size, 0, none⟩))
    (qat q l) n _ has_place (by omega)
    (fun i j hij hj hi => hq i j hij (by rw [HN.out]; exact hj) hi)
    (fun j hj W f => by
      have f2 := f1.trans0 f
      have hjl : j < l.length := by rw [HN.out]; exact hj
      unfold qat
      rw [dif_pos hjl]
      refine place1_any C b g _ _ v q l W j hC hA (f2.cell hk (fun h => h)) (HS.out.fr0 f2) hjl ?_ ?_
      · exact f.cell (by simp only [World.cell?, d1]; rfl) (fun h => h)
      · exact f.cell (by simp only [World.cell?, d0]; rfl) (fun h => h)))
  have HF1 := Lib.hid f1
  rw [size_alloc] at HSR
  clear s hC hA hk hq HS f1 d0 d1
  go_enter Tryz.func151, Tryz.ntmps151
  go_wp2_with fail
  refine HSR.out.mono ?_
  rintro e w1 ⟨i, rfl, hi, h1, h2, f2⟩
  have HE : Hid (i ≤ l.length ∧ (∀ j, j < i → qat q l j = false) ∧ (∀ j, i ≤ j → j < l.length → qat q l j = true) ∧ Fr S0 w w1) := Lib.hid ⟨by rw [HN.out]; exact hi,
    h1, fun j hji hj => h2 j hji (by rw [← HN.out]; exact hj), HF1.out.trans0 f2⟩
  clear h1 h2 f2 HSR
  go_wp2_with fail
  go_ret
  exact ⟨i, rfl, HE.out⟩
end

theorem qat_at {q : Pr → Bool} {l : List Pr} {j : Nat} (h : j < l.length) : qat q l j = q (l[j].1, ahd l (j + 1)) := by
  unfold qat
  rw [dif_pos h]
theorem new_cell (w : World) (x : Value) (t : TypeId) : (w.alloc (.cells #[x] t)).cell? ⟨w.heap.size, 0, none⟩ = some x := by
  rw [World.cell?, heap_alloc_new w _]
  rfl
section
variable (g : Nat) (k : Int) (l : List Pr) (w : World)
theorem place_upto (b : Nat) (hk : w.cell? ⟨b, 0, none⟩ = some (.int .i64 k)) (s : TabIs w g l) :
    Calls Tryz.prog 151 #[.pointer (some ⟨g, 0, none⟩), .func (.func 152) #[] #[.pointer (some ⟨b, 0, none⟩)]] w fun e w' => ∃ i : Nat, e = .returned (.int .i64 (i : Nat)) ∧ i ≤ l.length ∧ ahd l i = upt l k ∧ Fr S0 w w' := by
  refine (place_any _ b g _ _ l w has_upto (asks_upto k) hk s ?_).mono ?_
  · intro i j hij hj h
    rw [qat_at (by omega)] at h ⊢
    have := srt_le s.ok.srt (by omega) hj hij
    simp only [decide_eq_true_eq] at h ⊢
    omega
  · rintro e w' ⟨i, rfl, hi, h1, h2, f⟩
    refine ⟨i, rfl, hi, upt_place hi (fun j hj hji => ?_) (fun j hj hij => ?_), f⟩
    · have := h1 j hji
      rw [qat_at hj] at this
      simp only [decide_eq_false_iff_not] at this
      omega
    · have := h2 j hij hj
      rw [qat_at hj] at this
      simpa using this
theorem place_key (b r : Nat) (h1 : 1 ≤ r) (h2 : r ≤ ltot l) (hk : w.cell? ⟨b, 0, none⟩ = some (.int .u64 (r : Nat))) (s : TabIs w g l) :
    Calls Tryz.prog 151 #[.pointer (some ⟨g, 0, none⟩), .func (.func 156) #[] #[.pointer (some ⟨b, 0, none⟩)]] w fun e w' => ∃ i : Nat, e = .returned (.int .i64 (i : Nat)) ∧ (∃ h : i < l.length, l[i].1 = keyW l r) ∧ Fr S0 w w' := by
  refine (place_any _ b g _ _ l w has_key (asks_key r) hk s ?_).mono ?_
  · intro i j hij hj h
    rw [qat_at (by omega)] at h ⊢
    have := ahd_mono l (show i + 1 ≤ j + 1 by omega)
    simp only [decide_eq_true_eq] at h ⊢
    omega
  · rintro e w' ⟨i, rfl, hi, u1, u2, f⟩
    have hlo : ahd l i < r := by
      by_cases h0 : i = 0
      · subst h0; rw [ahd_zero]; omega
      · have := u1 (i - 1) (by omega)
        rw [qat_at (by omega)] at this
        simp only [decide_eq_false_iff_not] at this
        rw [show i - 1 + 1 = i by omega] at this
        omega
    have hil : i < l.length := by
      rcases (by omega : i = l.length ∨ i < l.length) with e | e
      · rw [e, ahd_all] at hlo; omega
      · exact e
    have hhi := u2 i (Nat.le_refl _) hil
    rw [qat_at hil] at hhi
    simp only [decide_eq_true_eq] at hhi
    exact ⟨i, rfl, ⟨hil, (key_place s.ok.srt h1 h2 hil hlo hhi).symm⟩, f⟩

set_option maxRecDepth 100000 in
set_option maxHeartbeats 1000000 in
theorem upto_any (s : TabIs w g l) : Calls Tryz.prog 123 #[.pointer (some ⟨g, 0, none⟩), .int .i64 k] w fun e w' => e = .returned (.int .u64 (upt l k : Nat)) ∧ Fr S0 w w' := by
  have f1 := Fr.alloc S0 w (.cells #[.int .i64 k] 3)
  have HP := Lib.hid (place_upto g k l _ w.heap.size (new_cell w _ _) (s.fr0 f1))
  have HS := Lib.hid (s.fr0 f1)
  have HF := Lib.hid f1
  clear s f1
  go_enter Tryz.func123, Tryz.ntmps123
  go_wp2_with fail
  refine HP.out.mono ?_
  rintro e w1 ⟨i, rfl, hi, hb, f2⟩
  have HA := Lib.hid (ahead_any g i l w1 (HS.out.fr0 f2) hi)
  rw [hb] at HA
  have HF2 := Lib.hid (HF.out.trans0 f2)
  clear hb hi f2 HP HS HF
  go_wp2_with fail
  refine HA.out.mono ?_
  rintro e w2 ⟨rfl, rfl⟩
  go_wp2_with fail
  go_ret
  exact ⟨rfl, HF2.out⟩
end

/-- Key's value and error -/
def keyE (l : List Pr) (r : Nat) : Nat := if l = [] then 8 else if r = 0 ∨ ltot l < r then 1 else 0
def keyV (l : List Pr) (r : Nat) : Int := if keyE l r = 0 then keyW l r else 0
section
variable (g r : Nat) (l : List Pr) (w : World)
set_option maxRecDepth 100000 in
set_option maxHeartbeats 1000000 in
theorem key_any (s : TabIs w g l) (hr64 : r < 18446744073709551616) :
    Calls Tryz.prog 135 #[.pointer (some ⟨g, 0, none⟩), .int .u64 (r : Nat)] w fun e w' => e = .returned (.tuple #[.int .i64 (keyV l r), .int .i64 (keyE l r : Nat)]) ∧ Fr S0 w w' := by
  have f1 := Fr.alloc S0 w (.cells #[.int .u64 (r : Nat)] 22)
  have s1 := s.fr0 f1
  have kr := new_cell w (.int .u64 (r : Nat)) 22
  have HF1 := Lib.hid f1
  have HT : Hid (∀ m, Calls Tryz.prog 111 #[.pointer (some ⟨g, 0, none⟩)] ((w.alloc (.cells #[.int .u64 (r : Nat)] 22)).drewN m) fun e w' => e = .returned (.int .u64 (ltot l : Nat)) ∧ w' = (w.alloc (.cells #[.int .u64 (r : Nat)] 22)).drewN m) := Lib.hid fun m => total_any g l _ (s1.fr0 (Fr.drewN _ _ _))
  have hz := tot_zero s.ok.pos
  by_cases hl : l = []
  · have e : keyE l r = 8 := by unfold keyE; rw [if_pos hl]
    have e2 : keyV l r = 0 := by unfold keyV; rw [e, if_neg (by decide)]
    rw [e, e2]
    have HT0 := HT.out 0
    rw [hz.2 hl] at HT0
    have HT0 := Lib.hid HT0
    clear s s1 e e2 hl hz HT kr f1
    go_enter Tryz.func135, Tryz.ntmps135
    go_wp2_with fail
    refine HT0.out.mono ?_
    rintro e w2 ⟨rfl, rfl⟩
    go_wp2_with fail
    go_ret2
    exact ⟨rfl, HF1.out⟩
  obtain ⟨g1, hg1⟩ : ∃ g1, w.heap.size = g1 := ⟨_, rfl⟩
  obtain ⟨w1, hw1⟩ : ∃ w1, w.alloc (.cells #[.int .u64 (r : Nat)] 22) = w1 := ⟨_, rfl⟩
  have HW1 := Lib.hid hw1
  have htp : 0 < ltot l := by
    rcases Nat.eq_zero_or_pos (ltot l) with h | h
    · exact absurd (hz.1 h) hl
    · exact h
  have ht64 := s.ok.tot
  have HPK : Hid (1 ≤ r → r ≤ ltot l → ∀ W, Fr S0 (w.alloc (.cells #[.int .u64 (r : Nat)] 22)) W → Calls Tryz.prog 151 #[.pointer (some ⟨g, 0, none⟩), .func (.func 156) #[] #[.pointer (some ⟨w.heap.size, 0, none⟩)]] W fun e w' => ∃ i : Nat, e = .returned (.int .i64 (i : Nat)) ∧ (∃ h : i < l.length, l[i].1 = keyW l r) ∧ Fr S0 W w') :=
    Lib.hid fun h1 h2 W f => place_key g l W _ r h1 h2 (f.cell kr fun h => h) (s1.fr0 f)
  have HSS := Lib.hid s1
  have HE : keyE l r = if r = 0 ∨ ltot l < r then 1 else 0 := by unfold keyE; rw [if_neg hl]
  obtain ⟨p, n, c, s⟩ := s1
  have HSN := Lib.hid s
  have c0 := s.c0
  have hsm := s.small
  have HKV : Hid (keyE l r = 0 → keyV l r = keyW l r) := Lib.hid fun h => by unfold keyV; rw [if_pos h]
  have HKV0 : Hid (keyE l r = 1 → keyV l r = 0) := Lib.hid fun h => by unfold keyV; rw [h, if_neg (by decide)]
  obtain ⟨T, hT⟩ : ∃ T, ltot l = T := ⟨_, rfl⟩
  rw [hT] at HT HPK HE htp ht64
  have ht0 : ((T : Int) == 0) = false := by rw [beq_eq_false_iff_ne]; omega
  rw [hw1] at HT HPK c0 HSN HSS HF1 kr
  rw [hg1] at HPK kr
  have HTN := Lib.hid (HT.out 0)
  by_cases hr : r = 0
  · have e : keyE l r = 1 := by rw [HE, if_pos (.inl hr)]
    rw [HKV0.out e, e]
    have hr1 : decide ((r : Int) < 1) = true := decide_eq_true (by omega)
    clear s hz hl hT HE HKV HKV0 HPK HSN HSS c0 hsm htp hr
    go_enter Tryz.func135, Tryz.ntmps135
    go_wp2_with fail
    refine HTN.out.mono ?_
    rintro e w2 ⟨rfl, rfl⟩
    go_wp2_with fail
    go_quiet (first | (exact (HT.out _).mono fun _ _ h => ⟨h.1, _, h.2⟩))
    go_wp2_with fail
    go_ret2
    exact ⟨rfl, HF1.out.trans0 (Fr.drewN _ _ _)⟩
  have hr1 : decide ((r : Int) < 1) = false := decide_eq_false (by omega)
  by_cases hrt : T < r
  · have e : keyE l r = 1 := by rw [HE, if_pos (.inr hrt)]
    rw [HKV0.out e, e]
    clear s hz hl hT HE HKV HKV0 HPK HSN HSS c0 hsm htp hr
    go_enter Tryz.func135, Tryz.ntmps135
    go_wp2_with fail
    refine HTN.out.mono ?_
    rintro e w2 ⟨rfl, rfl⟩
    go_wp2_with fail
    go_quiet (first | (exact (HT.out _).mono fun _ _ h => ⟨h.1, _, h.2⟩))
    go_wp2_with fail
    go_ret2
    exact ⟨rfl, HF1.out.trans0 (Fr.drewN _ _ _)⟩
  · have e : keyE l r = 0 := by rw [HE, if_neg (by omega)]
    rw [HKV.out e, e]
    have hrt2 : decide (T < r) = false := decide_eq_false hrt
    have HPL := Lib.hid (HPK.out (by omega) (by omega))
    have HLN : Hid (l.length = n) := Lib.hid HSN.out.len
    clear s hz hl hT HE HKV HKV0 HPK htp hr hrt
    go_enter Tryz.func135, Tryz.ntmps135
    go_wp2_with fail
    refine HTN.out.mono ?_
    rintro e w2 ⟨rfl, rfl⟩
    go_wp2_with fail
    go_quiet (first | (exact (HT.out _).mono fun _ _ h => ⟨h.1, _, h.2⟩))
    go_wp2_with fail
    go_region_law (first
      | (go_simp; go_at_call 151; (with_reducible refine (HPL.out _ (by first | exact Fr.drewN _ _ _ | exact (Fr.drewN S0 w1 _).trans0 (Fr.drew _ _))).mono ?_); rintro _ w5 ⟨i, rfl, ⟨hi, hki⟩, f5⟩; have HJ : Hid (Fr S0 w1 w5) := Lib.hid (Fr.trans0 (by first | exact Fr.drewN _ _ _ | exact (Fr.drewN S0 w1 _).trans0 (Fr.drew _ _)) f5); have s5 := HSN.out.fr0 HJ.out; have y0 := s5.c0; obtain ⟨b, o, hp, k0, k1⟩ := s5.pri.at i (by rw [stp_len]; exact hi); rw [stp_at l i hi] at k0; simp only at k0; rw [hki] at k0; have hin : (i : Int) < (n : Int) := (by have := HLN.out; omega); subst hp; clear s5 k1 hi hki f5; dsimp only))
    all_goals
      go_wp2_with fail
      go_ret2
      exact ⟨rfl, HF1.out.trans0 HJ.out⟩
end
end Go.Proofs.YthfcfmnaiopogaaGreat

/- lookUp; Part, Share, Parts. -/
namespace Go.Proofs.YthfcfmnaiopogaaGreat
open Go.RowKit

def i64s (ks : List Int) : List Value := ks.map fun k => .int .i64 k
/-- a slice that holds these ints -/
def KsI (w : World) (q : Option Addr) (ks : List Int) : Prop := ks ≠ [] → ∃ b o, q = some ⟨b, o, none⟩ ∧ ∀ i, (h : i < ks.length) → w.cell? ⟨b, o + i, none⟩ = some (.int .i64 ks[i])
theorem KsI.fr0 {w w' : World} {q : Option Addr} {ks : List Int} (h : KsI w q ks) (f : Fr S0 w w') : KsI w' q ks := fun hk => let ⟨b, o, hp, hc⟩ := h hk; ⟨b, o, hp, fun i hi => f.cell (hc i hi) fun h => h⟩
theorem KsI.at {w : World} {q : Option Addr} {ks : List Int} (h : KsI w q ks) (i : Nat) (hi : i < ks.length) : ∃ b o, q = some ⟨b, o, none⟩ ∧ w.cell? ⟨b, o + i, none⟩ = some (.int .i64 ks[i]) :=
  let ⟨b, o, hp, hc⟩ := h (by intro e; simp [e] at hi); ⟨b, o, hp, hc i hi⟩
theorem info_int : (Tryz.prog.info? 3).map (fun i => (i.zero, i.size, i.bytes)) = some (some (.int .i64 0), 1, 8) := by kernel_rfl
def zeroz (n : Nat) : Array Value := madeCells #[.int .i64 0] n
theorem make_int (w : World) (n : Nat) (hn : n ≤ 100000) : (Instr.makeSlice 189 (.int .i64 (n : Nat)) (.int .i64 (n : Nat))).run Tryz.prog w = .ok (.slice (some ⟨w.heap.size, 0, none⟩) n n) (w.alloc (.cells (zeroz n) 3)) := by
  obtain ⟨i, hi, hz, hs, hb⟩ := info_parts info_int
  have := run_make w 189 3 i _ Tryz.underlying189 hi hz .i64 .i64 (n : Int) (n : Int) (by omega) (by omega) (by rw [hb]; omega) (by omega)
  rw [this, hs, Nat.mul_one, Int.toNat_natCast]
  rfl
theorem zeroz_own (w : World) (n : Nat) (hn : n ≤ 100000) : (w.alloc (.cells (zeroz n) 3)).ownsRow 0 3 1 (.slice (some ⟨w.heap.size, 0, none⟩) n n) n (i64s (List.replicate n 0)) := by
  refine ⟨by simp [i64s], .inr ⟨w.heap.size, n, zeroz n, rfl, Nat.zero_le _, heap_alloc_new w _, Nat.le_refl _, by unfold maxLen; omega, by simp [zeroz, size_madeCells], ?_⟩⟩
  unfold zeroz
  rw [toList_madeCells_one, List.take_of_length_le (by simp)]
  unfold i64s
  rw [List.map_replicate]
theorem rowi_len {w : World} {g c m : Nat} {ks : List Int} (own : w.ownsRow 0 3 1 (.slice (some ⟨g, 0, none⟩) m c) m (i64s ks)) : ks.length = m := by
  have := own.1
  unfold i64s at this
  simpa using this
theorem rowi_at {w : World} {g c m : Nat} {ks : List Int} (own : w.ownsRow 0 3 1 (.slice (some ⟨g, 0, none⟩) m c) m (i64s ks)) (j : Nat) (hj : j < ks.length) : w.cell? ⟨g, j, none⟩ = some (.int .i64 ks[j]) := by
  have hl := rowi_len own
  rw [own.cellAt j (by omega)]
  unfold i64s
  rw [List.getElem?_map, List.getElem?_eq_getElem hj]
  rfl
theorem rowi_set {w w0 : World} {g c m : Nat} {ks : List Int} (own : w.ownsRow 0 3 1 (.slice (some ⟨g, 0, none⟩) m c) m (i64s ks)) (f : Fr S0 w0 w) (hg : w0.heap.size ≤ g) (j : Nat) (v : Int) :
    (w.setCell ⟨g, j, none⟩ (.int .i64 v)).ownsRow 0 3 1 (.slice (some ⟨g, 0, none⟩) m c) m (i64s (ks.set j v)) ∧ Fr S0 w0 (w.setCell ⟨g, j, none⟩ (.int .i64 v)) := by
  obtain ⟨ho, hgr⟩ := own.stored j (.int .i64 v)
  refine ⟨?_, f.append hgr fun k hk => by simp only [Option.some.injEq] at hk; omega⟩
  unfold i64s at ho ⊢
  rw [List.map_set]
  exact ho
/-- the first j keys are looked up -/
def Look (l : List Pr) (rs : List Nat) (j : Nat) (ks : List Int) : Prop := ks.length = rs.length ∧ ∀ i, (h : i < rs.length) → i < j → ks[i]? = some (keyW l rs[i])
theorem Look.step {l : List Pr} {rs : List Nat} {j : Nat} {ks : List Int} (h : Look l rs j ks) (hj : j < rs.length) : Look l rs (j + 1) (ks.set j (keyW l rs[j])) := by
  obtain ⟨h1, h2⟩ := h
  refine ⟨by rw [List.length_set]; exact h1, fun i hi hij => ?_⟩
  rw [List.getElem?_set]
  by_cases e : j = i
  · subst e
    rw [if_pos rfl, if_pos (by omega)]
  · rw [if_neg e]
    exact h2 i hi (by omega)
theorem Look.done {l : List Pr} {rs : List Nat} {j : Nat} {ks : List Int} (h : Look l rs j ks) (hj : j = rs.length) : ks = rs.map (keyW l) := by
  subst hj
  refine List.ext_getElem? fun i => ?_
  by_cases hi : i < rs.length
  · rw [h.2 i hi hi, List.getElem?_map, List.getElem?_eq_getElem hi]
    rfl
  · rw [List.getElem?_eq_none (by rw [h.1]; omega), List.getElem?_eq_none (by rw [List.length_map]; omega)]
/-- a slice of ints that is new to w -/
def KsN (w w' : World) (v : Value) (ks : List Int) : Prop := ∃ q c, v = .slice q ks.length c ∧ KsI w' q ks ∧ Fr S0 w w'

theorem key_in (g r : Nat) (l : List Pr) (w : World) (s : TabIs w g l) (h1 : 1 ≤ r) (h2 : r ≤ ltot l) :
    Calls Tryz.prog 135 #[.pointer (some ⟨g, 0, none⟩), .int .u64 (r : Nat)] w fun e w' => e = .returned (.tuple #[.int .i64 (keyW l r), .int .i64 0]) ∧ Fr S0 w w' := by
  have ht := s.ok.tot
  have := key_any g r l w s (by omega)
  have hl : l ≠ [] := by rintro rfl; simp only [ltot] at h2; omega
  have e : keyE l r = 0 := by unfold keyE; rw [if_neg hl, if_neg (by omega)]
  have e2 : keyV l r = keyW l r := by unfold keyV; rw [if_pos e]
  rw [e, e2] at this
  exact this

set_option maxRecDepth 100000 in
set_option maxHeartbeats 1000000 in
theorem lookup_any (g m c : Nat) (p : Option Addr) (l : List Pr) (rs : List Nat) (w : World) (s : TabIs w g l) (hr : SlI w .u64 p rs) (hn : rs.length = m) (hm : m ≤ 1000) (hrs : ∀ r ∈ rs, 1 ≤ r ∧ r ≤ ltot l) :
    Calls Tryz.prog 134 #[.func (.func 135) #[.pointer (some ⟨g, 0, none⟩)] #[], .slice p m c] w fun e w' => ∃ v, e = .returned v ∧ KsN w w' v (rs.map (keyW l)) := by
  have HS := Lib.hid s
  have HR := Lib.hid hr
  have HN := Lib.hid hn
  have HRS := Lib.hid hrs
  have HMK := make_int w m (by omega)
  have HO := Lib.hid (zeroz_own w m (by omega))
  have HF : Hid (Fr S0 w (w.alloc (.cells (zeroz m) 3))) := Lib.hid (Fr.alloc _ _ _)
  obtain ⟨gk, hg⟩ : ∃ g, w.heap.size = g := ⟨_, rfl⟩
  have HG : Hid (w.heap.size ≤ gk) := Lib.hid (by omega)
  rw [hg] at HMK HO
  clear s hr hn hrs hg
  go_enter Tryz.func134, Tryz.ntmps134
  go_wp2_with fail
  generalize w.alloc (.cells (zeroz m) 3) = w1 at HO HF ⊢
  go_loopw [6, 7, 13, 18] (fun _ _ y _ wr => ∃ (j : Nat) (ks : List Int), j ≤ m ∧ y = .int .i64 (j : Int) ∧ Hid (Look l rs j ks) ∧ Hid (Fr S0 w wr) ∧ Hid (wr.ownsRow 0 3 1 (.slice (some ⟨gk, 0, none⟩) m m) m (i64s ks))) (fun _ _ y _ _ => m - (intOf y).toNat)
  case atStart => exact ⟨0, _, by omega, rfl, Lib.hid ⟨by rw [rowi_len HO.out, HN.out], fun i hi h => absurd h (Nat.not_lt_zero i)⟩, HF, HO⟩
  case round =>
    obtain ⟨j, ks, hj, rfl, ht, hf, ho⟩ := hrel
    by_cases hlt : (j : Int) < (m : Int)
    · have hjl : j < rs.length := by rw [HN.out]; omega
      obtain ⟨b, o, rfl, k0⟩ := (HR.out.fr0 hf.out).at j hjl
      have hrj := HRS.out _ (List.getElem_mem hjl)
      have HC := Lib.hid (key_in g rs[j] l wr (HS.out.fr0 hf.out) hrj.1 hrj.2)
      have HST := Lib.hid (ht.out.step hjl)
      obtain ⟨K, hK⟩ : ∃ K, keyW l rs[j] = K := ⟨_, rfl⟩
      obtain ⟨R, hR⟩ : ∃ R, rs[j] = R := ⟨_, rfl⟩
      rw [hK] at HC HST
      rw [hR] at HC k0
      clear ht hK hR hrj hjl
      go_wp2_with fail
      refine (HC.out).mono ?_
      rintro e w2 ⟨rfl, f2⟩
      have own := f2.owns ho.out fun _ _ h => h
      have z0 := own.frozenAt j
      have hkl := rowi_len own
      obtain ⟨V0, c0⟩ : ∃ V0, w2.cell? ⟨gk, j, none⟩ = some (.int .i64 V0) := ⟨_, rowi_at own j (by omega)⟩
      have HX := Lib.hid (rowi_set own (hf.out.trans0 f2) HG.out j K)
      clear HC ho hf own f2 k0 hkl
      go_wp2_with fail
      go_roundw
      case rel => exact ⟨j + 1, _, by omega, by go_num, HST, Lib.hid HX.out.2, Lib.hid HX.out.1⟩
      case measure => simp [intOf]; omega
    · obtain rfl : j = m := by omega
      have hd := ht.out.done HN.out.symm
      have HE : Hid (KsN w wr (.slice (some ⟨gk, 0, none⟩) j j) (rs.map (keyW l))) := Lib.hid ⟨_, j, by rw [List.length_map, HN.out], by rw [← hd]; exact fun _ => ⟨gk, 0, rfl, fun i hi => by rw [Nat.zero_add]; exact rowi_at ho.out i hi⟩, hf.out⟩
      clear ht hf ho hd
      go_wp2
      go_ret
      exact ⟨_, rfl, HE.out⟩
end Go.Proofs.YthfcfmnaiopogaaGreat

/- Part, Share, Parts. -/
namespace Go.Proofs.YthfcfmnaiopogaaGreat
open Go.RowKit

theorem rk_yes {a d n : Nat} (h : rkE a d n = 0) : 0 < d ∧ a ≤ d ∧ 0 < n ∧ rkR a d n = rnk a d n := by
  unfold rkE at h
  by_cases h1 : d = 0 ∨ d < a
  · rw [if_pos h1] at h; omega
  · rw [if_neg h1] at h
    by_cases h2 : n = 0
    · rw [if_pos h2] at h; omega
    · unfold rkR
      rw [if_neg h1, if_neg h2]
      exact ⟨by omega, by omega, by omega, rfl⟩
/-- Part's value -/
def partV (l : List Pr) (a d : Nat) : Int := if rkE a d (ltot l) = 0 then keyW l (rkR a d (ltot l)) else 0
section
variable (g : Nat) (l : List Pr) (w : World)
set_option maxRecDepth 100000 in
set_option maxHeartbeats 1000000 in
theorem part_any (a d : Nat) (s : TabIs w g l) (hd : d < 18446744073709551616) :
    Calls Tryz.prog 104 #[.pointer (some ⟨g, 0, none⟩), .int .u64 (a : Nat), .int .u64 (d : Nat)] w fun e w' => e = .returned (.tuple #[.int .i64 (partV l a d), .int .i64 (rkE a d (ltot l) : Nat)]) ∧ Fr S0 w w' := by
  have hmf : ∀ first cap W, (Instr.makeFunc (.func 135) first cap).run Tryz.prog W = .ok (.func (.func 135) first cap) W := fun _ _ _ => rfl
  have HT := Lib.hid (total_any g l w s)
  have ht := s.ok.tot
  have HR := Lib.hid (rank_any a d (ltot l) w (by omega) hd)
  have HS := Lib.hid s
  have HE : Hid (rkE a d (ltot l) = 0 → 0 < d ∧ a ≤ d ∧ 0 < ltot l ∧ rkR a d (ltot l) = rnk a d (ltot l)) := Lib.hid rk_yes
  obtain ⟨E, hE⟩ : ∃ E, rkE a d (ltot l) = E := ⟨_, rfl⟩
  have HV : Hid (partV l a d = if E = 0 then keyW l (rkR a d (ltot l)) else 0) := Lib.hid (by unfold partV; rw [hE])
  have hb : ∀ r, 0 < d ∧ a ≤ d ∧ 0 < ltot l ∧ r = rnk a d (ltot l) → 1 ≤ r ∧ r ≤ ltot l := by
    rintro r ⟨h1, h2, h3, rfl⟩
    exact rnk_all h2 h3
  have HB := Lib.hid hb
  obtain ⟨R, hR⟩ : ∃ R, rkR a d (ltot l) = R := ⟨_, rfl⟩
  obtain ⟨T, hT⟩ : ∃ T, ltot l = T := ⟨_, rfl⟩
  rw [hE, hR] at HE
  rw [hR] at HV
  rw [hE, hR] at HR
  rw [hT] at HT HR HE HB
  rw [hE]
  have HTT := Lib.hid hT
  clear s hE hR hT ht hb hd
  by_cases h0 : E = 0
  · have hr := HB.out R (HE.out h0)
    have HRL : Hid (1 ≤ R ∧ R ≤ ltot l) := Lib.hid ⟨hr.1, by rw [HTT.out]; exact hr.2⟩
    rw [HV.out, if_pos h0]
    subst h0
    have HLK : Hid (∀ W b, Fr S0 w W → W.cell? ⟨b, 0, none⟩ = some (.int .u64 (R : Nat)) → Calls Tryz.prog 134 #[.func (.func 135) #[.pointer (some ⟨g, 0, none⟩)] #[], .slice (some ⟨b, 0, none⟩) 1 1] W fun e w' => ∃ v, e = .returned v ∧ KsN W w' v [keyW l R]) := Lib.hid fun W b f hb =>
      lookup_any g 1 1 _ l [R] W (HS.out.fr0 f) ⟨by simp [maxLen], fun _ => ⟨b, 0, rfl, fun i hi => by obtain rfl : i = 0 := (by simpa using hi); exact hb⟩⟩ rfl (by decide) (fun r hr => by obtain rfl := List.mem_singleton.1 hr; exact HRL.out)
    obtain ⟨K, hK⟩ : ∃ K, keyW l R = K := ⟨_, rfl⟩
    rw [hK] at HLK ⊢
    clear hr HV hK
    go_enter Tryz.func104, Tryz.ntmps104
    go_wp2_with fail
    refine HT.out.mono ?_
    rintro e w1 ⟨rfl, rfl⟩
    go_wp2_with fail
    refine HR.out.mono ?_
    rintro e w2 ⟨rfl, f2⟩
    have HF2 := Lib.hid f2
    clear f2
    go_wp2_with fail
    refine (HLK.out _ _ (HF2.out.trans0 (Fr.alloc _ _ _)) (new_cell _ _ _)).mono ?_
    rintro e w3 ⟨v, rfl, q, c, rfl, hk, f3⟩
    obtain ⟨b, o, rfl, k0⟩ := hk.at 0 (by simp)
    simp only [Nat.add_zero, List.getElem_cons_zero] at k0
    have HF3 := Lib.hid f3
    clear hk f3
    dsimp only [List.length_cons, List.length_nil]
    go_wp2_with fail
    go_ret2
    exact ⟨rfl, (HF2.out.trans0 (Fr.alloc _ _ _)).trans0 HF3.out⟩
  · have he0 : ((E : Int) != 0) = true := by rw [bne_iff_ne]; omega
    rw [HV.out, if_neg h0]
    clear HV HB HE h0
    go_enter Tryz.func104, Tryz.ntmps104
    go_wp2_with fail
    refine HT.out.mono ?_
    rintro e w1 ⟨rfl, rfl⟩
    go_wp2_with fail
    refine HR.out.mono ?_
    rintro e w2 ⟨rfl, f2⟩
    go_wp2_with fail
    go_ret2
    exact ⟨rfl, f2⟩

end

end Go.Proofs.YthfcfmnaiopogaaGreat

/- New: a table is made of pairs. -/
namespace Go.Proofs.YthfcfmnaiopogaaGreat
open Go.RowKit

theorem info_stp : (Tryz.prog.info? 170).map (fun i => (i.zero, i.size, i.bytes)) = some (some (.agg #[.int .i64 0, .int .u64 0]), 2, 16) := by kernel_rfl
theorem elStp : ElemOk Tryz.prog 166 170 (.agg #[.int .i64 0, .int .u64 0]) 2 16 := ⟨Tryz.underlying166, info_stp, rfl, by decide, by decide⟩
theorem pri_own {w : World} {e : TypeId} {q : Option Addr} {n d : Nat} {l : List Pr} (h : w.ownsRow 0 e 2 (.slice q n d) n (prs l)) (hm : n ≤ maxLen) : PrI w q l := by
  have hlen : l.length * 2 = n * 2 := by have h1 := h.1; rw [prs_len] at h1; exact h1
  refine ⟨by omega, fun hl => ?_⟩
  rcases h.2 with ⟨hv, hn⟩ | ⟨g, cap, cur, hv, _⟩
  · exact absurd (List.eq_nil_of_length_eq_zero (by omega)) hl
  · simp only [Value.slice.injEq] at hv
    obtain ⟨rfl, -, rfl⟩ := hv
    refine ⟨g, 0, rfl, fun i hi => ?_⟩
    obtain ⟨h1, h2⟩ := prs_at l i hi
    rw [Nat.zero_add]
    exact ⟨(h.cellAt _ (by omega)).trans h1, (h.cellAt _ (by omega)).trans h2⟩
theorem own_cap {w : World} {e : TypeId} {s : Nat} {q : Option Addr} {n d m : Nat} {xs : List Value} (h : w.ownsRow 0 e s (.slice q n d) m xs) : n ≤ d ∧ d ≤ maxLen := by
  rcases h.2 with ⟨hv, -⟩ | ⟨g, cap, cur, hv, _, _, h1, h2, _⟩
  · simp only [Value.slice.injEq] at hv
    obtain ⟨-, rfl, rfl⟩ := hv
    exact ⟨Nat.le_refl _, Nat.zero_le _⟩
  · simp only [Value.slice.injEq] at hv
    obtain ⟨-, rfl, rfl⟩ := hv
    exact ⟨h1, h2⟩

/-- a table that is being made: block g, its steps a row of its own -/
structure Mk (w0 w : World) (g : Nat) (v : Value) (l : List Pr) : Prop where
  blk : w.heap[g]? = some (.cells #[v] 168 (0, 0))
  own : w.ownsRow 0 170 2 v l.length (prs (stp l))
  off : v.ownBlock ≠ some g
  new : w0.heap.size ≤ g
  fresh : ∀ y, v.ownBlock = some y → w0.heap.size ≤ y
  fr : Fr S0 w0 w
section
variable {w0 w w' : World} {g : Nat} {v : Value} {l : List Pr}
theorem Mk.tab (h : Mk w0 w g v l) (ok : Tb l) (hs : l.length ≤ 100000) : TabIs w g l := by
  obtain ⟨p, c, rfl⟩ := slFormN h.own
  exact ⟨p, l.length, c, h.blk, pri_own h.own (by unfold maxLen; omega), rfl, ok, hs, own_cap h.own⟩
theorem Mk.c (h : Mk w0 w g v l) : w.cell? ⟨g, 0, none⟩ = some v := by simp [World.cell?, h.blk]
theorem Mk.z (h : Mk w0 w g v l) : w.frozen? ⟨g, 0, none⟩ = false := by simp [World.frozen?, h.blk]
theorem Mk.fr0 (h : Mk w0 w g v l) (f : Fr S0 w w') : Mk w0 w' g v l := ⟨f.row h.blk (fun h => h), f.owns h.own fun _ _ h => h, h.off, h.new, h.fresh, h.fr.trans0 f⟩
/-- a step is appended to the row, the row is put into the block -/
theorem Mk.app {w1 w2 : World} {x : Pr} {gg cap n : Nat} (h : Mk w0 w g v l) (hn : l.length = n) (hown : w2.ownsRow 0 170 2 (.slice (some ⟨gg, 0, none⟩) (n + 1) cap) (n + 1) (prs (stp l) ++ [.int .i64 x.1, .int .u64 ((ltot l + x.2 : Nat) : Int)]))
    (f1 : Fr S0 w w1) (hgrow : w1.grownBy w2 v.ownBlock) (hat : v.ownBlock = some gg ∨ w.heap.size ≤ gg) :
    (w2.heap[g]? = some (.cells #[v] 168 (0, 0))) ∧ Mk w0 (w2.setCell ⟨g, 0, none⟩ (.slice (some ⟨gg, 0, none⟩) (n + 1) cap)) g (.slice (some ⟨gg, 0, none⟩) (n + 1) cap) (l ++ [x]) := by
  subst hn
  have hg : g < w.heap.size := (Array.getElem?_eq_some_iff.1 h.blk).1
  have hgg : gg ≠ g := by
    rintro rfl
    rcases hat with h1 | h1
    · exact h.off h1
    · omega
  have b2 : w2.heap[g]? = some (.cells #[v] 168 (0, 0)) := (Fr.grown hgrow).row (f1.row h.blk (fun h => h)) (fun e => h.off e)
  refine ⟨b2, ⟨(heap_setCell_same _ g 0 _ _ _ b2).trans rfl, ?_, ?_, h.new, ?_, ?_⟩⟩
  · rw [stp_snoc, prs_snoc, List.length_append]
    refine (Fr.setCell (· = g) w2 ⟨g, 0, none⟩ _ rfl).owns hown fun y hy e => ?_
    obtain rfl : gg = y := Option.some.inj hy
    exact hgg e
  · intro hy
    exact hgg (Option.some.inj hy)
  · intro y hy
    obtain rfl : gg = y := Option.some.inj hy
    rcases hat with h1 | h1
    · exact h.fresh gg h1
    · have := h.fr.size; omega
  · have k1 : Fr S0 w0 w2 := (h.fr.trans0 f1).append hgrow h.fresh
    exact k1.trans (Fr.setCell (· = g) w2 ⟨g, 0, none⟩ _ rfl) fun j hj e => by have := h.new; omega
end
theorem tb_take {l : List Pr} (h : Tb l) (j : Nat) : Tb (l.take j) := Tb.of_app (m := l.drop j) (by rw [List.take_append_drop]; exact h)
theorem take_last {l : List Pr} {i j : Nat} (hi : i < l.length) (hj : j + 1 = i) (hl : 0 < (l.take i).length) : ((l.take i)[(l.take i).length - 1]'(by omega)).1 = (l[j]'(by omega)).1 := by
  have e : (l.take i).length = i := by rw [List.length_take]; omega
  rw [List.getElem_take]
  congr 2
  omega
/-- the key ahead is less -/
def Rises (l : List Pr) (i : Nat) (k : Int) : Prop := ∀ j, (h : j < l.length) → j + 1 = i → l[j].1 < k
/-- what makes the next pair one of a table's -/
theorem tb_next {l : List Pr} {i : Nat} (hi : i < l.length) (h : Tb (l.take i)) (hk : Rises l i l[i].1) (h0 : 0 < l[i].2) (ht : l[i].2 ≤ 4611686018427387904 - ahd l i) : Tb (l.take (i + 1)) := by
  rw [List.take_succ_eq_append_getElem hi]
  refine h.snoc (fun hl => ?_) h0 ht
  have e : (l.take i).length = i := by rw [List.length_take]; omega
  have := hk (i - 1) (by omega) (by omega)
  rw [take_last hi (j := i - 1) (by omega) hl]
  exact this
theorem tb_next' {l : List Pr} {i : Nat} (hi : i < l.length) (h : Tb l) : Rises l i l[i].1 ∧ 0 < l[i].2 ∧ l[i].2 ≤ 4611686018427387904 - ahd l i := by
  have h2 := tb_take h (i + 1)
  rw [List.take_succ_eq_append_getElem hi] at h2
  obtain ⟨h3, h4, h5⟩ := h2.last
  refine ⟨fun j _ hj => ?_, h4, h5⟩
  have e : (l.take i).length = i := by rw [List.length_take]; omega
  have := h3 (by omega)
  rw [take_last hi hj (by omega)] at this
  exact this
set_option maxRecDepth 100000 in
set_option maxHeartbeats 2000000 in
theorem new_any (p : Option Addr) (n c : Nat) (l : List Pr) (w : World) (h : PrI w p l) (hn : l.length = n) (hsm : n ≤ 100000) (h64 : ∀ x ∈ l, x.2 < 18446744073709551616) :
    Calls Tryz.prog 74 #[.slice p n c] w fun e w' => Fr S0 w w' ∧
      ((Tb l ∧ ∃ g, e = .returned (.tuple #[.pointer (some ⟨g, 0, none⟩), .int .i64 0]) ∧ TabIs w' g l ∧ w.heap.size ≤ g) ∨ (¬ Tb l ∧ e = .returned (.tuple #[.pointer none, .int .i64 1]))) := by
  have H := Lib.hid h
  have HN := Lib.hid hn
  have H64 := Lib.hid h64
  have HR : Hid (Room n) := Lib.hid (Room.mk (by omega))
  clear h hn h64
  go_enter Tryz.func74, Tryz.ntmps74
  go_wp2_with (at_make; refine make_room elStp (.const (.int .i64 0)) (.tmp 8) rfl rfl rfl rfl HR.out ?_; intro w1 hown hf1; have HO := Lib.hid hown; have HF1 := Lib.hid hf1; clear hown hf1)
  have HM : Hid (Mk w (w1.alloc (.cells #[.slice (some ⟨w.heap.size, 0, none⟩) 0 n] 168)) w1.heap.size (.slice (some ⟨w.heap.size, 0, none⟩) 0 n) []) := Lib.hid
    ⟨heap_alloc_new _ _, (Fr.alloc S0 _ _).owns HO.out fun _ _ h => h, fun e => by have h1 := (HO.out.lt w.heap.size rfl).2; have h2 : w.heap.size = w1.heap.size := Option.some.inj e; omega, HF1.out.size, fun y hy => by obtain rfl := Option.some.inj hy; exact Nat.le_refl _, HF1.out.trans0 (Fr.alloc _ _ _)⟩
  clear HO HF1
  obtain ⟨g, hg⟩ : ∃ g, w1.heap.size = g := ⟨_, rfl⟩
  rw [hg] at HM ⊢
  generalize w1.alloc (.cells #[.slice (some ⟨w.heap.size, 0, none⟩) 0 n] 168) = w2 at HM ⊢
  clear hg
  go_loopw [2, 3, 5, 6, 14, 19, 33] (fun _ _ _ _ i _ _ wr => ∃ j : Nat, j ≤ n ∧ i = .int .i64 j ∧ Hid (Tb (l.take j)) ∧ Hid (∃ v, Mk w wr g v (l.take j))) (fun _ _ _ _ i _ _ _ => n - (intOf i).toNat)
  case atStart => exact ⟨0, by omega, rfl, Lib.hid Tb.nil, Lib.hid ⟨_, HM.out⟩⟩
  case round =>
    obtain ⟨i, hi, rfl, ht, hm⟩ := hrel
    by_cases hin : (i : Int) < (n : Int)
    · have hil : i < l.length := by rw [HN.out]; omega
      obtain ⟨v, hv⟩ := hm.out
      have hli : (l.take i).length = i := by rw [List.length_take]; omega
      obtain ⟨q, d, rfl⟩ : ∃ q d, v = .slice q i d := by
        obtain ⟨q, d, e⟩ := slFormN hv.own
        exact ⟨q, d, by rw [e, hli]⟩
      have HV := Lib.hid hv
      have HLI := Lib.hid hli
      have hpr := H.out.fr0 hv.fr
      obtain ⟨b, o, hp, k0, k1⟩ := hpr.at i hil
      have HP := Lib.hid hp
      obtain ⟨⟨tk, tn⟩, hx⟩ : ∃ t, l[i] = t := ⟨_, rfl⟩
      have HTK : Hid (l.take (i + 1) = l.take i ++ [(tk, tn)]) := Lib.hid (by rw [List.take_succ_eq_append_getElem hil, hx])
      rw [hx] at k0 k1
      simp only at k0 k1
      have fb := Fr.alloc S0 wr (.cells #[.int .i64 tk, .int .u64 (tn : Int)] 79)
      have HFB := Lib.hid fb
      have HTT : Hid (∀ W, Fr S0 wr W → Calls Tryz.prog 111 #[.pointer (some ⟨g, 0, none⟩)] W fun e w' => e = .returned (.int .u64 (ahd l i : Nat)) ∧ w' = W) := Lib.hid fun W f => total_any g (l.take i) W ((hv.tab ht.out (by omega)).fr0 f)
      have htot : ahd l i ≤ 4611686018427387904 := ht.out.tot
      have h64 : tn < 18446744073709551616 := by have := H64.out _ (List.getElem_mem hil); rw [hx] at this; exact this
      have HNX : Hid (Tb l → Rises l i tk ∧ 0 < tn ∧ tn ≤ 4611686018427387904 - ahd l i) := Lib.hid fun hh => by have := tb_next' hil hh; rw [hx] at this; exact this
      have HNY : Hid (Rises l i tk → 0 < tn → tn ≤ 4611686018427387904 - ahd l i → Tb (l.take (i + 1))) := Lib.hid fun a1 a2 a3 => tb_next hil ht.out (by rw [hx]; exact a1) (by rw [hx]; exact a2) (by rw [hx]; exact a3)
      obtain ⟨T, hT⟩ : ∃ T, ahd l i = T := ⟨_, rfl⟩
      have HAT := Lib.hid hT
      rw [hT] at HTT htot HNX HNY
      obtain ⟨D, hD⟩ : ∃ D, 4611686018427387904 - T = D := ⟨_, rfl⟩
      have eD : (4611686018427387904 : Int) - (T : Int) = (D : Int) := by omega
      have eD2 : IntKind.u64.wrap ((4611686018427387904 : Int) - (T : Int)) = (D : Int) := by rw [eD]; exact wrap_nat rfl (by omega)
      rw [hD] at HNX HNY
      have hDT : D + T = 4611686018427387904 := by omega
      have y0 := fb.cell hv.c (fun h => h)
      clear hT hD
      obtain ⟨HNT, j, pk, ej, hjn, k3, hl0, hd0⟩ | ⟨hno, HC5⟩ : (Hid (¬ Tb l) ∧ ∃ (j : Nat) (pk : Int), (i : Int) - 1 = (j : Int) ∧ (j : Int) < (n : Int) ∧ (wr.alloc (.cells #[.int .i64 tk, .int .u64 (tn : Int)] 79)).cell? ⟨b, o + j * 2, none⟩ = some (.int .i64 pk) ∧ decide (tk ≤ pk) = true ∧ decide (0 < i) = true) ∨ (Rises l i tk ∧ Hid (i = 0 ∨ ∃ (j : Nat) (pk : Int), (i : Int) - 1 = (j : Int) ∧ (j : Int) < (n : Int) ∧ (wr.alloc (.cells #[.int .i64 tk, .int .u64 (tn : Int)] 79)).cell? ⟨b, o + j * 2, none⟩ = some (.int .i64 pk) ∧ decide (tk ≤ pk) = false ∧ decide (0 < i) = true)) := by
        by_cases hi0 : i = 0
        · exact .inr ⟨fun j _ hj => by omega, Lib.hid (.inl hi0)⟩
        · obtain ⟨j, hj⟩ : ∃ j, j + 1 = i := ⟨i - 1, by omega⟩
          have hjl : j < l.length := by omega
          obtain ⟨b2, o2, hp3, k2, -⟩ := hpr.at j hjl
          obtain ⟨rfl, rfl⟩ : b = b2 ∧ o = o2 := by rw [hp] at hp3; simpa using hp3
          have k3 := fb.cell k2 (fun h => h)
          by_cases hle : tk ≤ l[j].1
          · exact .inl ⟨Lib.hid fun hh => by have := (HNX.out hh).1 j hjl hj; omega, j, _, by omega, by omega, k3, decide_eq_true hle, decide_eq_true (by omega)⟩
          · exact .inr ⟨fun j2 _ hj2 => by obtain rfl : j = j2 := (by omega); omega, Lib.hid (.inr ⟨j, _, by omega, by omega, k3, decide_eq_false hle, decide_eq_true (by omega)⟩)⟩
      · obtain rfl := HP.out
        clear ht hm hx hpr hp HNX HNY hv fb hil hi hli h64 htot hDT
        go_wp2_with fail
        go_quiet (fail)
        go_wp2_with fail
        go_ret2
        exact ⟨(HV.out.fr.trans0 HFB.out).trans0 (Fr.drewN _ _ _), .inr ⟨HNT.out, rfl⟩⟩
      obtain rfl := HP.out
      by_cases hz : tn = 0
      · have hz0 : ((tn : Int) == 0) = true := by rw [beq_iff_eq]; omega
        have HNT : Hid (¬ Tb l) := Lib.hid fun hh => by have := (HNX.out hh).2.1; omega
        clear hno
        clear ht hm hx hpr hp HNX HNY hv fb hil hi hli h64 htot hDT hz
        go_wp2_with fail
        go_cut [19] from 20 to 32 (fun x wx => x = .bool false ∧ ∃ k, wx = (wr.alloc (.cells #[.int .i64 tk, .int .u64 (tn : Int)] 79)).drewN k)
        case first =>
          rcases HC5.out with hi0 | ⟨j, pk, ej, hjn, k3, hl0, hd0⟩
          · have hd0 : decide (0 < i) = false := decide_eq_false (by omega)
            clear hi0
            go_quiet (fail)
            go_wp2_with fail
            go_meet
            exact ⟨rfl, _, rfl⟩
          · go_quiet (fail)
            go_wp2_with fail
            go_meet
            exact ⟨rfl, _, rfl⟩
        case rest =>
          obtain ⟨rfl, n1, rfl⟩ := hcut
          clear HC5
          go_wp2_with fail
          go_quiet (first | (exact (HTT.out _ (HFB.out.trans0 (Fr.drewN _ _ _))).mono fun _ _ h => ⟨h.1, _, h.2⟩))
          go_wp2_with fail
          go_ret2
          exact ⟨((HV.out.fr.trans0 HFB.out).trans0 (Fr.drewN _ _ _)).trans0 (Fr.drewN _ _ _), .inr ⟨HNT.out, rfl⟩⟩
      have hz0 : ((tn : Int) == 0) = false := by rw [beq_eq_false_iff_ne]; omega
      by_cases hgt : D < tn
      · have hg0 : decide (D < tn) = true := decide_eq_true hgt
        have HNT : Hid (¬ Tb l) := Lib.hid fun hh => by have := (HNX.out hh).2.2; omega
        clear hno
        clear ht hm hx hpr hp HNX HNY hv fb hil hi hli h64 htot hDT hz hgt
        go_wp2_with fail
        go_cut [19] from 20 to 32 (fun x wx => x = .bool false ∧ ∃ k, wx = (wr.alloc (.cells #[.int .i64 tk, .int .u64 (tn : Int)] 79)).drewN k)
        case first =>
          rcases HC5.out with hi0 | ⟨j, pk, ej, hjn, k3, hl0, hd0⟩
          · have hd0 : decide (0 < i) = false := decide_eq_false (by omega)
            clear hi0
            go_quiet (fail)
            go_wp2_with fail
            go_meet
            exact ⟨rfl, _, rfl⟩
          · go_quiet (fail)
            go_wp2_with fail
            go_meet
            exact ⟨rfl, _, rfl⟩
        case rest =>
          obtain ⟨rfl, n1, rfl⟩ := hcut
          clear HC5
          go_wp2_with fail
          go_quiet (first | (exact (HTT.out _ (HFB.out.trans0 (Fr.drewN _ _ _))).mono fun _ _ h => ⟨h.1, _, h.2⟩))
          go_wp2_with fail
          go_ret2
          exact ⟨((HV.out.fr.trans0 HFB.out).trans0 (Fr.drewN _ _ _)).trans0 (Fr.drewN _ _ _), .inr ⟨HNT.out, rfl⟩⟩
      have hg0 : decide (D < tn) = false := decide_eq_false hgt
      have HTN : Hid (Tb (l.take (i + 1))) := Lib.hid (HNY.out hno (by omega) (by omega))
      have HR2 : Hid (Room (i + 1)) := Lib.hid (Room.mk (by omega))
      obtain ⟨T2, hT2⟩ : ∃ T2, T + tn = T2 := ⟨_, rfl⟩
      have eT2 : IntKind.u64.wrap ((T : Int) + (tn : Int)) = (T2 : Int) := wrap_nat (by omega) (by omega)
      have HT2 : Hid (ltot (l.take i) + tn = T2) := Lib.hid (by rw [← hT2, ← HAT.out]; rfl)
      clear hT2 hno
      clear ht hm hx hpr hp HNX HNY hv fb hil hi hli h64 htot hDT hz hgt
      go_wp2_with fail
      go_cut [19] from 20 to 32 (fun x wx => x = .bool false ∧ ∃ k, wx = (wr.alloc (.cells #[.int .i64 tk, .int .u64 (tn : Int)] 79)).drewN k)
      case first =>
        rcases HC5.out with hi0 | ⟨j, pk, ej, hjn, k3, hl0, hd0⟩
        · have hd0 : decide (0 < i) = false := decide_eq_false (by omega)
          clear hi0
          go_quiet (fail)
          go_wp2_with fail
          go_meet
          exact ⟨rfl, _, rfl⟩
        · go_quiet (fail)
          go_wp2_with fail
          go_meet
          exact ⟨rfl, _, rfl⟩
      case rest =>
        obtain ⟨rfl, n1, rfl⟩ := hcut
        clear HC5
        go_wp2_with fail
        go_quiet (first | (exact (HTT.out _ (HFB.out.trans0 (Fr.drewN _ _ _))).mono fun _ _ h => ⟨h.1, _, h.2⟩))
        go_wp2_with fail
        have HF3 : Hid (Fr S0 wr (((wr.alloc (.cells #[.int .i64 tk, .int .u64 (tn : Int)] 79)).drewN n1).drewN nq)) := Lib.hid ((HFB.out.trans0 (Fr.drewN _ _ _)).trans0 (Fr.drewN _ _ _))
        have b3 : (((wr.alloc (.cells #[.int .i64 tk, .int .u64 (tn : Int)] 79)).drewN n1).drewN nq).heap[wr.heap.size]? = some (.cells #[.int .i64 tk, .int .u64 (tn : Int)] 79) := heap_alloc_new wr (.cells #[.int .i64 tk, .int .u64 (tn : Int)] 79)
        generalize hW3 : ((wr.alloc (.cells #[.int .i64 tk, .int .u64 (tn : Int)] 79)).drewN n1).drewN nq = W3 at HF3 b3 ⊢
        clear hW3
        have HM3 := Lib.hid (HV.out.fr0 HF3.out)
        have own3 := HM3.out.own
        rw [HLI.out] at own3
        have HO3 := Lib.hid own3
        have z0 := HM3.out.c
        have z1 : W3.cell? ⟨wr.heap.size, 0, none⟩ = some (.int .i64 tk) := by simp [World.cell?, b3]
        have z2 : W3.cell? ⟨wr.heap.size, 1, none⟩ = some (.int .u64 (tn : Int)) := by simp [World.cell?, b3]
        have z3 := (Fr.alloc S0 W3 (.cells #[.int .i64 tk, .int .u64 (T2 : Int)] 170)).cell z0 (fun h => h)
        have one : ∀ u ∈ (#[Value.int .i64 tk, Value.int .u64 (T2 : Int)]).toList, u.oneCell' = true := one_pr tk T2
        have HONE := Lib.hid one
        clear own3 b3 k0 k1 y0 one
        go_region_law (first
          | (go_simp; go_at_call 111; (with_reducible refine (HTT.out _ (HF3.out.trans0 (Fr.drew _ _))).mono ?_); rintro _ w5 ⟨rfl, rfl⟩; dsimp only)
          | (refine app_step elStp (.tmp 49) (.tmp 58) rfl HO3.out rfl rfl rfl rfl rfl HONE.out HR2.out ?_; intro gg cap w4 hown hgrow hat hlt2; have hat2 : (Value.slice q i d).ownBlock = some gg ∨ W3.heap.size ≤ gg := (by rcases hat with h1 | h1; exact .inl h1; exact .inr (by omega)); have HAP := Lib.hid (HM3.out.app (x := (tk, tn)) HLI.out (by simp only [HT2.out]; exact hown) (Fr.alloc S0 _ _) hgrow hat2); have y3 : w4.cell? ⟨g, 0, none⟩ = some (.slice q i d) := (by simp [World.cell?, HAP.out.1]); have y4 : w4.frozen? ⟨g, 0, none⟩ = false := (by simp [World.frozen?, HAP.out.1]); clear hown hgrow hat hat2 hlt2))
        all_goals
          go_wp2_with fail
          go_roundw
          case rel => exact ⟨i + 1, by omega, by go_num, HTN, Lib.hid ⟨_, by rw [HTK.out]; exact HAP.out.2⟩⟩
          case measure => simp [intOf]; omega
    · obtain rfl : i = n := by omega
      obtain ⟨v, hv⟩ := hm.out
      have hll : l.take i = l := by rw [← HN.out, List.take_length]
      have ht2 := ht.out
      rw [hll] at hv ht2
      have HE : Hid (Fr S0 w wr ∧ Tb l ∧ TabIs wr g l ∧ w.heap.size ≤ g) := Lib.hid ⟨hv.fr, ht2, hv.tab ht2 (by rw [HN.out]; exact hsm), hv.new⟩
      clear hm hv hll ht2 ht
      go_wp2_with fail
      go_ret2
      exact ⟨HE.out.1, .inl ⟨HE.out.2.1, g, rfl, HE.out.2.2⟩⟩
end Go.Proofs.YthfcfmnaiopogaaGreat
