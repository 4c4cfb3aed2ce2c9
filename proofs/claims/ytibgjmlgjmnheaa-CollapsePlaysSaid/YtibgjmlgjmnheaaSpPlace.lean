/- Where a key belongs in a list; Below and Upto. -/
import Derived.Test.YtibgjmlgjmnheaaSpFind
namespace Go.Proofs.Ytibgjmlgjmnheaa
open Go.RowKit
variable {X : Sx}

section
variable (C b g : Nat) (k : Int) (q : Int → Bool) (l : List Pr) (w : World)
set_option maxRecDepth 100000 in
set_option maxHeartbeats 1000000 in
theorem place_any (hC : Has C) (hA : Asks C k q) (hk : w.cell? ⟨b, 0, none⟩ = some (.int .i64 k)) (s : Seen w g l) (hq : ∀ x y, x ≤ y → q x = true → q y = true) :
    Calls Try.prog 47 #[.pointer (some ⟨g, 1, none⟩), .func (.func C) #[] #[.pointer (some ⟨b, 0, none⟩)]] w fun e w' => ∃ i : Nat, e = .returned (.int .i64 (i : Nat)) ∧ i ≤ l.length ∧
      (∀ j, (hj : j < l.length) → j < i → q l[j].1 = false) ∧ (∀ j, (hj : j < l.length) → i ≤ j → q l[j].1 = true) ∧ Fr S0 w w' := by
  have HS := Lib.hid s
  obtain ⟨p, n, c, s0, -, hln, hsrt, hsm⟩ := s
  have HN : Hid (l.length = n) := Lib.hid hln
  have f1 := (Fr.alloc S0 w (.cells #[.pointer (some ⟨g, 1, none⟩)] 65)).trans0 (Fr.alloc S0 _ (.cells #[.func (.func C) #[] #[.pointer (some ⟨b, 0, none⟩)]] 82))
  have c0 := f1.cell s0 (fun h => h)
  have d1 := heap_alloc_new (w.alloc (.cells #[.pointer (some ⟨g, 1, none⟩)] 65)) (.cells #[.func (.func C) #[] #[.pointer (some ⟨b, 0, none⟩)]] 82)
  have d0 := (Fr.alloc S0 _ (.cells #[.func (.func C) #[] #[.pointer (some ⟨b, 0, none⟩)]] 82)).row (heap_alloc_new w (.cells #[.pointer (some ⟨g, 1, none⟩)] 65)) (fun h => h)
  have HSR := Lib.hid (search_any 61 (.pointer (some ⟨(w.alloc (.cells #[.pointer (some ⟨g, 1, none⟩)] 65)).heap.size, 0, none⟩)) (.pointer (some ⟨w.heap.size, 0, none⟩))
    (fun j => if hj : j < l.length then q l[j].1 else true) n _ has_place (by omega)
    (fun i j hij hj hi => by
      rw [dif_pos (by omega)] at hi
      rw [dif_pos (by omega)]
      exact hq _ _ (srt_le hsrt (by omega) (by omega) hij) hi)
    (fun j hj W f => by
      rw [dif_pos (by omega)]
      have f2 := f1.trans0 f
      refine place1_any C b g _ _ k q l W j hC hA (f2.cell hk (fun h => h)) (HS.out.fr0 f2) (by omega) ?_ ?_
      · exact f.cell (by simp only [World.cell?, d1]; rfl) (fun h => h)
      · exact f.cell (by simp only [World.cell?, d0]; rfl) (fun h => h)))
  have HF1 := Lib.hid f1
  rw [size_alloc] at HSR
  clear s0 hln hsrt hsm hC hA hk hq HS f1 d0 d1
  go_enter Try.func47, Try.ntmps47
  go_wp2_with fail
  refine HSR.out.mono ?_
  rintro e w1 ⟨i, rfl, hi, h1, h2, f2⟩
  have HE : Hid (i ≤ l.length ∧ (∀ j, (hj : j < l.length) → j < i → q l[j].1 = false) ∧ (∀ j, (hj : j < l.length) → i ≤ j → q l[j].1 = true) ∧ Fr S0 w w1) := Lib.hid ⟨by rw [HN.out]; exact hi,
    fun j hj hji => by have := h1 j hji; rwa [dif_pos hj] at this, fun j hj hji => by have := h2 j hji (by rw [← HN.out]; exact hj); rwa [dif_pos hj] at this, HF1.out.trans0 f2⟩
  clear h1 h2 f2 HSR
  go_wp2_with fail
  go_ret
  exact ⟨i, rfl, HE.out⟩

set_option maxRecDepth 100000 in
set_option maxHeartbeats 1000000 in
theorem below_any (h : Nat) (s : StIs X w g h l) : Calls Try.prog 54 #[.pointer (some ⟨g, 1, none⟩), .int .i64 k] w fun e w' => e = .returned (.int .u64 (bel l k : Nat)) ∧ Fr S0 w w' := by
  have f1 := Fr.alloc S0 w (.cells #[.int .i64 k] 3)
  have s1 := s.fr0 f1
  have hk : (w.alloc (.cells #[.int .i64 k] 3)).cell? ⟨w.heap.size, 0, none⟩ = some (.int .i64 k) := by
    have := heap_alloc_new w (.cells #[.int .i64 k] 3)
    simp only [World.cell?, this]
    rfl
  have HPL : Hid (∀ W, Fr S0 (w.alloc (.cells #[.int .i64 k] 3)) W → Calls Try.prog 47 #[.pointer (some ⟨g, 1, none⟩), .func (.func 65) #[] #[.pointer (some ⟨w.heap.size, 0, none⟩)]] W fun e w' => ∃ i : Nat, e = .returned (.int .i64 (i : Nat)) ∧ i ≤ l.length ∧ ltot (l.take i) = bel l k ∧ Fr S0 W w') := Lib.hid fun W f =>
    (place_any 65 w.heap.size g k _ l W has_below (asks_below k) (f.cell hk (fun h => h)) (s1.fr0 f).seen (fun x y hxy hx => by simp at hx ⊢; omega)).mono fun e w' he => by
      obtain ⟨i, e1, hi, h1, h2, f'⟩ := he
      exact ⟨i, e1, hi, bel_take (fun j hj hji => by have := h1 j hj hji; simp at this; omega) (fun j hj hji => by have := h2 j hj hji; simp at this; omega), f'⟩
  have HF1 := Lib.hid f1
  obtain ⟨p, n, c, s⟩ := s1
  have HS := Lib.hid s
  have HN : Hid (l.length = n) := Lib.hid s.len
  have hcap := s.cap
  have hc63 := s.cap.2
  have hsm := s.small
  have hlt : ltot l < 18446744073709551616 := by have := s.ok.tot; omega
  have HT := Lib.hid hlt
  have c0 := s.raw.c0
  unfold maxLen at hcap hc63
  clear hk hlt f1 s
  obtain ⟨w1, hw1⟩ : ∃ w1, w.alloc (.cells #[.int .i64 k] 3) = w1 := ⟨_, rfl⟩
  have HW1 := Lib.hid hw1
  rw [hw1] at HPL HF1 HS c0
  rcases HS.out.base with ⟨rfl, rfl, rfl, rfl⟩ | rfl
  · go_enter Try.func54, Try.ntmps54
    go_wp2_with fail
    go_region_law (first
      | (go_simp; go_at_call 47; (with_reducible refine (HPL.out _ (Fr.drew _ _)).mono ?_); rintro _ w5 ⟨i, rfl, hi, hti, f5⟩; obtain rfl : i = 0 := Nat.le_zero.1 hi; have HI := Lib.hid (And.intro hti ((Fr.drew S0 w1).trans0 f5)); have y0 := (HS.out.fr0 ((Fr.drew S0 w1).trans0 f5)).raw.c0; clear hi hti f5; dsimp only)
      | (go_simp; go_at_call 58; (with_reducible refine (sum_any none 0 0 [] _ (PrI.nil _ _) rfl (by decide)).mono ?_); rintro _ w6 ⟨rfl, f6⟩; have HJ := Lib.hid (HI.out.2.trans0 f6); clear f6; dsimp only))
    all_goals
      go_wp2_with fail
      go_ret
      exact ⟨congrArg (fun x : Nat => Ending.returned (Value.int .u64 (x : Int))) HI.out.1, HF1.out.trans0 HJ.out⟩
  · go_enter Try.func54, Try.ntmps54
    go_wp2_with fail
    go_region_law (first
      | (go_simp; go_at_call 47; (with_reducible refine (HPL.out _ (Fr.drew _ _)).mono ?_); rintro _ w5 ⟨i, rfl, hi, hti, f5⟩; have HI := Lib.hid (And.intro hi (And.intro hti ((Fr.drew S0 w1).trans0 f5))); have y0 := (HS.out.fr0 ((Fr.drew S0 w1).trans0 f5)).raw.c0; have hic : (i : Int) ≤ (c : Int) := (by have := HN.out; omega); clear hi hti f5; dsimp only)
      | (go_simp; go_at_call 58; (with_reducible refine (sum_any _ i c (l.take i) _ ((HS.out.pri.fr0 HI.out.2.2).take i) (by rw [List.length_take]; have := HI.out.1; omega) (by have := tot_take_le l i; have := HT.out; omega)).mono ?_); rintro _ w6 ⟨rfl, f6⟩; have HJ := Lib.hid (HI.out.2.2.trans0 f6); clear f6; dsimp only))
    all_goals
      go_wp2_with fail
      go_ret
      exact ⟨congrArg (fun x : Nat => Ending.returned (Value.int .u64 (x : Int))) HI.out.2.1, HF1.out.trans0 HJ.out⟩

set_option maxRecDepth 100000 in
set_option maxHeartbeats 1000000 in
theorem upto_any (h : Nat) (s : StIs X w g h l) : Calls Try.prog 55 #[.pointer (some ⟨g, 1, none⟩), .int .i64 k] w fun e w' => e = .returned (.int .u64 (upt l k : Nat)) ∧ Fr S0 w w' := by
  have f1 := Fr.alloc S0 w (.cells #[.int .i64 k] 3)
  have s1 := s.fr0 f1
  have hk : (w.alloc (.cells #[.int .i64 k] 3)).cell? ⟨w.heap.size, 0, none⟩ = some (.int .i64 k) := by
    have := heap_alloc_new w (.cells #[.int .i64 k] 3)
    simp only [World.cell?, this]
    rfl
  have HPL : Hid (∀ W, Fr S0 (w.alloc (.cells #[.int .i64 k] 3)) W → Calls Try.prog 47 #[.pointer (some ⟨g, 1, none⟩), .func (.func 66) #[] #[.pointer (some ⟨w.heap.size, 0, none⟩)]] W fun e w' => ∃ i : Nat, e = .returned (.int .i64 (i : Nat)) ∧ i ≤ l.length ∧ ltot (l.take i) = upt l k ∧ Fr S0 W w') := Lib.hid fun W f =>
    (place_any 66 w.heap.size g k _ l W has_upto (asks_upto k) (f.cell hk (fun h => h)) (s1.fr0 f).seen (fun x y hxy hx => by simp at hx ⊢; omega)).mono fun e w' he => by
      obtain ⟨i, e1, hi, h1, h2, f'⟩ := he
      exact ⟨i, e1, hi, upt_take (fun j hj hji => by have := h1 j hj hji; simp at this; omega) (fun j hj hji => by have := h2 j hj hji; simp at this; omega), f'⟩
  have HF1 := Lib.hid f1
  obtain ⟨p, n, c, s⟩ := s1
  have HS := Lib.hid s
  have HN : Hid (l.length = n) := Lib.hid s.len
  have hcap := s.cap
  have hc63 := s.cap.2
  have hsm := s.small
  have hlt : ltot l < 18446744073709551616 := by have := s.ok.tot; omega
  have HT := Lib.hid hlt
  have c0 := s.raw.c0
  unfold maxLen at hcap hc63
  clear hk hlt f1 s
  obtain ⟨w1, hw1⟩ : ∃ w1, w.alloc (.cells #[.int .i64 k] 3) = w1 := ⟨_, rfl⟩
  have HW1 := Lib.hid hw1
  rw [hw1] at HPL HF1 HS c0
  rcases HS.out.base with ⟨rfl, rfl, rfl, rfl⟩ | rfl
  · go_enter Try.func55, Try.ntmps55
    go_wp2_with fail
    go_region_law (first
      | (go_simp; go_at_call 47; (with_reducible refine (HPL.out _ (Fr.drew _ _)).mono ?_); rintro _ w5 ⟨i, rfl, hi, hti, f5⟩; obtain rfl : i = 0 := Nat.le_zero.1 hi; have HI := Lib.hid (And.intro hti ((Fr.drew S0 w1).trans0 f5)); have y0 := (HS.out.fr0 ((Fr.drew S0 w1).trans0 f5)).raw.c0; clear hi hti f5; dsimp only)
      | (go_simp; go_at_call 58; (with_reducible refine (sum_any none 0 0 [] _ (PrI.nil _ _) rfl (by decide)).mono ?_); rintro _ w6 ⟨rfl, f6⟩; have HJ := Lib.hid (HI.out.2.trans0 f6); clear f6; dsimp only))
    all_goals
      go_wp2_with fail
      go_ret
      exact ⟨congrArg (fun x : Nat => Ending.returned (Value.int .u64 (x : Int))) HI.out.1, HF1.out.trans0 HJ.out⟩
  · go_enter Try.func55, Try.ntmps55
    go_wp2_with fail
    go_region_law (first
      | (go_simp; go_at_call 47; (with_reducible refine (HPL.out _ (Fr.drew _ _)).mono ?_); rintro _ w5 ⟨i, rfl, hi, hti, f5⟩; have HI := Lib.hid (And.intro hi (And.intro hti ((Fr.drew S0 w1).trans0 f5))); have y0 := (HS.out.fr0 ((Fr.drew S0 w1).trans0 f5)).raw.c0; have hic : (i : Int) ≤ (c : Int) := (by have := HN.out; omega); clear hi hti f5; dsimp only)
      | (go_simp; go_at_call 58; (with_reducible refine (sum_any _ i c (l.take i) _ ((HS.out.pri.fr0 HI.out.2.2).take i) (by rw [List.length_take]; have := HI.out.1; omega) (by have := tot_take_le l i; have := HT.out; omega)).mono ?_); rintro _ w6 ⟨rfl, f6⟩; have HJ := Lib.hid (HI.out.2.2.trans0 f6); clear f6; dsimp only))
    all_goals
      go_wp2_with fail
      go_ret
      exact ⟨congrArg (fun x : Nat => Ending.returned (Value.int .u64 (x : Int))) HI.out.2.1, HF1.out.trans0 HJ.out⟩
end
end Go.Proofs.Ytibgjmlgjmnheaa
