/- What Add does. -/
import Derived.Test.YtocdjklgfmkbfaaDnAdmit
namespace Go.Proofs.Ytocdjklgfmkbfaa
open Go.RowKit

/-- a store that has come to hold l -/
structure Turned (w w' : World) (g h h' : Nat) (l : List Pr) : Prop where
  sto : StIs w' g h' l
  row : h' = h ∨ (w.heap.size ≤ h' ∧ h' < w'.heap.size)
  fr : Fr (fun x => x = g ∨ x = h) w w'
theorem Turned.same {w w' : World} {g h : Nat} {l : List Pr} (s : StIs w g h l) (f : Fr S0 w w') : Turned w w' g h h l := ⟨s.fr0 f, .inl rfl, f.mono fun _ _ h => h.elim⟩

section
variable (g h n : Nat) (k : Int) (l : List Pr) (w : World)
set_option maxRecDepth 100000 in
set_option maxHeartbeats 400000 in
theorem add_weight : Calls Try.prog 8 #[.pointer (some ⟨g, 0, none⟩), .int .i64 k, .int .u64 0] w fun e w' => e = .returned (.int .i64 4) ∧ Fr S0 w w' := by
  go_enter Try.func8, Try.ntmps8
  go_wp2_with fail
  go_ret
  exact ⟨rfl, Fr.refl _ _⟩
set_option maxRecDepth 100000 in
set_option maxHeartbeats 400000 in
theorem add_range (hn : 0 < n) (hk : k < -1048576 ∨ 1048576 < k) : Calls Try.prog 8 #[.pointer (some ⟨g, 0, none⟩), .int .i64 k, .int .u64 (n : Nat)] w fun e w' => e = .returned (.int .i64 5) ∧ Fr S0 w w' := by
  have hn0 : ((n : Int) == 0) = false := by rw [beq_eq_false_iff_ne]; omega
  by_cases h1 : k < -1048576
  · clear hn hk
    go_enter Try.func8, Try.ntmps8
    go_wp2_with fail
    go_ret
    exact ⟨rfl, Fr.refl _ _⟩
  · have h2 : (1048576 : Int) < k := by omega
    have h3 : decide (k < -1048576) = false := decide_eq_false h1
    clear hn hk h1
    go_enter Try.func8, Try.ntmps8
    go_wp2_with fail
    go_ret
    exact ⟨rfl, Fr.refl _ _⟩
set_option maxRecDepth 100000 in
set_option maxHeartbeats 400000 in
theorem add_no (E : Nat) (hn : 0 < n) (h1 : -1048576 ≤ k) (h2 : k ≤ 1048576) (hE : 0 < E)
    (ha : Calls Try.prog 21 #[.pointer (some ⟨g, 0, none⟩), .agg #[.int .i64 k, .int .i64 k], .int .u64 (n : Nat)] w fun e w' => e = .returned (.tuple #[.agg #[.int .i64 0, .int .i64 0], .int .i64 (E : Nat)]) ∧ Fr S0 w w') :
    Calls Try.prog 8 #[.pointer (some ⟨g, 0, none⟩), .int .i64 k, .int .u64 (n : Nat)] w fun e w' => e = .returned (.int .i64 (E : Nat)) ∧ Fr S0 w w' := by
  have hn0 : ((n : Int) == 0) = false := by rw [beq_eq_false_iff_ne]; omega
  have hE0 : ((E : Int) != 0) = true := by rw [bne_iff_ne]; omega
  have h3 : decide (k < -1048576) = false := decide_eq_false (by omega)
  have h4 : decide (1048576 < k) = false := decide_eq_false (by omega)
  have HA := Lib.hid ha
  clear hn hE h1 h2 ha
  go_enter Try.func8, Try.ntmps8
  go_wp2_with fail
  refine HA.out.mono ?_
  rintro e w1 ⟨rfl, f1⟩
  clear HA
  go_wp2_with fail
  go_ret
  exact ⟨rfl, f1.trans0 (Fr.alloc _ _ _)⟩
set_option maxRecDepth 100000 in
set_option maxHeartbeats 400000 in
theorem add_yes (a b F A B : Int) (p : Option Addr) (m : Nat) (s : Sto w g h a b F p m l) (hn : 0 < n) (ht : ltot l + n ≤ 4611686018427387904) (h1 : -1048576 ≤ A) (h2 : B ≤ 1048576) (h4 : B - A < 8192) (hA : A ≤ k) (hB : k ≤ B) (hin : ∀ x ∈ l, A ≤ x.1 ∧ x.1 ≤ B)
    (he : Ends (lput l k n) A B)
    (ha : Calls Try.prog 21 #[.pointer (some ⟨g, 0, none⟩), .agg #[.int .i64 k, .int .i64 k], .int .u64 (n : Nat)] w fun e w' => e = .returned (.tuple #[.agg #[.int .i64 A, .int .i64 B], .int .i64 0]) ∧ Fr S0 w w') :
    Calls Try.prog 8 #[.pointer (some ⟨g, 0, none⟩), .int .i64 k, .int .u64 (n : Nat)] w fun e w' => e = .returned (.int .i64 0) ∧ ∃ h', Turned w w' g h h' (lput l k n) := by
  have hn0 : ((n : Int) == 0) = false := by rw [beq_eq_false_iff_ne]; omega
  have h5 : decide (k < -1048576) = false := decide_eq_false (by omega)
  have h6 : decide (1048576 < k) = false := decide_eq_false (by omega)
  have HA := Lib.hid ha
  have HR : Hid (∀ W, Fr S0 w W → Calls Try.prog 22 #[.pointer (some ⟨g, 0, none⟩), .agg #[.int .i64 A, .int .i64 B]] W fun e w' => e = .returned (.tuple #[]) ∧ ∃ h' F' p' m', Reached W w' g h h' A B F' p' m' l) :=
    Lib.hid fun W f => reach_any g h a b F A B p m l W (s.fr0 f) hin h1 h2 (by omega) h4
  have HP := Lib.hid (fun h' F' p' m' W s1 q1 q2 => put_any g h' A B F' k p' m' n l W s1 hn ht q1 q2 hA hB)
  have HE := Lib.hid he
  clear hn h1 h2 ha s ht h4 hA hB hin he
  go_enter Try.func8, Try.ntmps8
  go_wp2_with fail
  refine HA.out.mono ?_
  rintro e w1 ⟨rfl, f1⟩
  have HF1 := Lib.hid (f1.trans0 (Fr.alloc S0 _ (.cells #[.int .i64 A, .int .i64 B] 26)))
  clear HA f1
  go_wp2_with fail
  refine (HR.out _ HF1.out).mono ?_
  rintro e w3 ⟨rfl, h', F', p', m', s3, q1, q2, hrow, f3⟩
  have HP3 := Lib.hid (HP.out h' F' p' m' w3 s3 q1 q2)
  have HX := Lib.hid (And.intro hrow f3)
  clear s3 q1 q2 hrow f3 HR HP
  go_wp2_with fail
  refine HP3.out.mono ?_
  rintro e w4 ⟨rfl, s4, f4⟩
  have HS4 := Lib.hid (And.intro s4 f4)
  clear s4 f4 HP3
  go_wp2_with fail
  go_ret
  refine ⟨rfl, h', ⟨A, B, F', p', m', HS4.out.1, fun _ => HE.out⟩, ?_, ?_⟩
  · have := HF1.out.size
    have := HX.out.1
    have := HS4.out.2.size
    omega
  · have hs := HF1.out.size
    refine ((HF1.out.mono (T := fun x => x = g ∨ x = h) fun _ _ h => h.elim).trans HX.out.2 fun _ _ h => .inl h).trans HS4.out.2 fun j hj hh => ?_
    rcases hh with hh | hh
    · exact .inl hh
    · rcases HX.out.1 with e | e
      · exact .inr (hh.trans e)
      · omega

theorem add_any (hn : n < 18446744073709551616) (s : StIs w g h l) :
    Calls Try.prog 8 #[.pointer (some ⟨g, 0, none⟩), .int .i64 k, .int .u64 (n : Nat)] w fun e w' => e = .returned (.int .i64 (addE l k n : Nat)) ∧ ∃ h', Turned w w' g h h' (addL l k n) := by
  by_cases h0 : n = 0
  · subst h0
    have e : addE l k 0 = 4 := by unfold addE; rw [if_pos rfl]
    unfold addL
    rw [e, if_neg (by decide)]
    exact (add_weight g k w).mono fun _ _ he => ⟨he.1, h, Turned.same s he.2⟩
  by_cases hk : k < -1048576 ∨ 1048576 < k
  · have e : addE l k n = 5 := by unfold addE; rw [if_neg h0, if_pos hk]
    unfold addL
    rw [e, if_neg (by decide)]
    exact (add_range g n k w (by omega) hk).mono fun _ _ he => ⟨he.1, h, Turned.same s he.2⟩
  have eE : addE l k n = if 8192 < wid l k then 130 else if 4611686018427387904 - ltot l < n then 6 else 0 := by unfold addE; rw [if_neg h0, if_neg hk]
  have hs := s
  obtain ⟨a, b, F, p, m, s, he⟩ := s
  have hb := s.lo
  have hb2 := s.hi
  have hb3 := s.ab
  unfold addL
  by_cases hl : l = []
  · have ew : wid l k = 1 := by subst hl; rfl
    have hN : l.length = 0 := by rw [hl]; rfl
    rw [ew, if_neg (by decide)] at eE
    by_cases hc : 4611686018427387904 - ltot l < n
    · rw [if_pos hc] at eE
      rw [eE, if_neg (by decide)]
      exact (add_no g n k w 6 (by omega) (by omega) (by omega) (by decide) (admit_cap_none g a b F k k p m _ _ n w s.raw s.tot hN (by omega) (by omega) (by omega) (by omega) (by omega) hc)).mono fun _ _ he => ⟨he.1, h, Turned.same hs he.2⟩
    · rw [if_neg hc] at eE
      rw [eE, if_pos rfl]
      have hE : Ends (lput l k n) k k := by subst hl; exact Ends.one k (by omega)
      exact add_yes g h n k l w a b F k k p m s (by omega) (by omega) (by omega) (by omega) (by omega) (by omega) (by omega) (fun x hx => by rw [hl] at hx; cases hx) hE
        (admit_ok_none g a b F k k p m _ _ n w s.raw s.tot hN (by omega) (by omega) (by omega) (by omega) (by omega) (by omega))
  · have hE := he hl
    have hN : 0 < l.length := List.length_pos_iff.2 hl
    rw [wid_ends s.srt hE] at eE
    obtain ⟨A, hA⟩ : ∃ A, min a k = A := ⟨_, rfl⟩
    obtain ⟨B, hB⟩ : ∃ B, max b k = B := ⟨_, rfl⟩
    rw [hA, hB] at eE
    by_cases hw : 8192 < B - A + 1
    · rw [if_pos hw] at eE
      rw [eE, if_neg (by decide)]
      exact (add_no g n k w 130 (by omega) (by omega) (by omega) (by decide) (admit_full_some g a b F k k A B p m _ _ n w s.raw s.tot hN hA hB (by omega) (by omega) (by omega) (by omega) hw)).mono fun _ _ he => ⟨he.1, h, Turned.same hs he.2⟩
    rw [if_neg hw] at eE
    by_cases hc : 4611686018427387904 - ltot l < n
    · rw [if_pos hc] at eE
      rw [eE, if_neg (by decide)]
      exact (add_no g n k w 6 (by omega) (by omega) (by omega) (by decide) (admit_cap_some g a b F k k A B p m _ _ n w s.raw s.tot hN hA hB (by omega) (by omega) (by omega) (by omega) (by omega) hc)).mono fun _ _ he => ⟨he.1, h, Turned.same hs he.2⟩
    · rw [if_neg hc] at eE
      rw [eE, if_pos rfl]
      have hE2 := hE.put s.srt k (n := n) (by omega)
      rw [hA, hB] at hE2
      exact add_yes g h n k l w a b F A B p m s (by omega) (by have := s.tot; omega) (by omega) (by omega) (by omega) (by omega) (by omega) (fun x hx => by have := hE.all x hx; omega) hE2
        (admit_ok_some g a b F k k A B p m _ _ n w s.raw s.tot hN hA hB (by omega) (by omega) (by omega) (by omega) (by omega) (by omega))
end
end Go.Proofs.Ytocdjklgfmkbfaa
