/- What may not be counted; the key of a rank; Add. -/
import Derived.Test.YtibgjmlgjmnheaaSpPlace
import Derived.Test.YtibgjmlgjmnheaaSpIns2
namespace Go.Proofs.Ytibgjmlgjmnheaa
open Go.RowKit
variable {X : Sx}

section
variable (g h n : Nat) (k : Int) (l : List Pr) (w : World)
set_option maxRecDepth 100000 in
set_option maxHeartbeats 1000000 in
theorem refusal_any (hn : n < 18446744073709551616) (s : StIs X w g h l) :
    Calls Try.prog 46 #[.pointer (some ⟨g, 1, none⟩), .int .i64 k, .int .u64 (n : Nat)] w fun e w' => e = .returned (.int .i64 (addE0 l k n : Nat)) ∧ Fr S0 w w' := by
  by_cases h0 : n = 0
  · subst h0
    have e : addE0 l k 0 = 4 := by unfold addE0; rw [if_pos rfl]
    rw [e]
    clear e s hn
    go_enter Try.func46, Try.ntmps46
    go_wp2_with fail
    go_ret
    exact ⟨rfl, Fr.refl _ _⟩
  have hn0 : ((n : Int) == 0) = false := by rw [beq_eq_false_iff_ne]; omega
  by_cases hk : k < -1048576 ∨ 1048576 < k
  · have e : addE0 l k n = 5 := by unfold addE0; rw [if_neg h0, if_pos hk]
    rw [e]
    by_cases h1 : k < -1048576
    · clear e s hn hk h0
      go_enter Try.func46, Try.ntmps46
      go_wp2_with fail
      go_ret
      exact ⟨rfl, Fr.refl _ _⟩
    · have h2 : (1048576 : Int) < k := by omega
      have h3 : decide (k < -1048576) = false := decide_eq_false h1
      clear e s hn hk h0 h1
      go_enter Try.func46, Try.ntmps46
      go_wp2_with fail
      go_ret
      exact ⟨rfl, Fr.refl _ _⟩
  have h3 : decide (k < -1048576) = false := decide_eq_false (by omega)
  have h4 : decide (1048576 < k) = false := decide_eq_false (by omega)
  have HB := Lib.hid (beyond_any g h l w n s)
  by_cases hc : 4611686018427387904 - ltot l < n
  · have e : addE0 l k n = 6 := by unfold addE0; rw [if_neg h0, if_neg hk, if_pos hc]
    rw [e]
    rw [decide_eq_true hc] at HB
    clear e s hn hk h0 hc
    go_enter Try.func46, Try.ntmps46
    go_wp2_with fail
    refine HB.out.mono ?_
    rintro e w1 ⟨rfl, rfl⟩
    go_wp2_with fail
    go_ret
    exact ⟨rfl, Fr.refl _ _⟩
  · have e : addE0 l k n = 0 := by unfold addE0; rw [if_neg h0, if_neg hk, if_neg hc]
    rw [e]
    rw [decide_eq_false hc] at HB
    clear e s hn hk h0 hc
    go_enter Try.func46, Try.ntmps46
    go_wp2_with fail
    refine HB.out.mono ?_
    rintro e w1 ⟨rfl, rfl⟩
    go_wp2_with fail
    go_ret
    exact ⟨rfl, Fr.refl _ _⟩
end

theorem keyW_drop {l : List Pr} {i r : Nat} (h : i < l.length) : keyW (l.drop i) r = if r ≤ l[i].2 then l[i].1 else keyW (l.drop (i + 1)) (r - l[i].2) := by
  rw [List.drop_eq_getElem_cons h, keyW]
theorem ltot_drop {l : List Pr} {i : Nat} (h : i < l.length) : ltot (l.drop i) = l[i].2 + ltot (l.drop (i + 1)) := by
  rw [List.drop_eq_getElem_cons h, ltot]
/-- Key's value and error -/
def keyE (l : List Pr) (r : Nat) : Nat := if l = [] then 8 else if r = 0 ∨ ltot l < r then 1 else 0
def keyV (l : List Pr) (r : Nat) : Int := if keyE l r = 0 then keyW l r else 0

section
variable (g h r : Nat) (l : List Pr) (w : World)
set_option maxRecDepth 100000 in
set_option maxHeartbeats 1000000 in
theorem key_any (s : StIs X w g h l) (hr64 : r < 18446744073709551616) :
    Calls Try.prog 39 #[.pointer (some ⟨g, 1, none⟩), .int .u64 (r : Nat)] w fun e w' => e = .returned (.tuple #[.int .i64 (keyV l r), .int .i64 (keyE l r : Nat)]) ∧ Fr S0 w w' := by
  obtain ⟨p, n, c, s⟩ := s
  by_cases hl : l = []
  · have e : keyE l r = 8 := by unfold keyE; rw [if_pos hl]
    have e2 : keyV l r = 0 := by unfold keyV; rw [e, if_neg (by decide)]
    rw [e, e2]
    have c1 := s.raw.c1
    rw [hl] at c1
    have c1 : w.cell? ⟨g, 2, none⟩ = some (.int .u64 0) := c1
    clear s e e2 hl
    go_enter Try.func39, Try.ntmps39
    go_wp2_with fail
    go_ret2
    exact ⟨rfl, Fr.refl _ _⟩
  have c0 := s.raw.c0
  have c1 := s.raw.c1
  have htp : 0 < ltot l := by
    cases l with
    | nil => exact absurd rfl hl
    | cons x t => have := (pos_cons.1 s.ok.pos).1; rw [ltot]; omega
  obtain ⟨T, hT⟩ : ∃ T, ltot l = T := ⟨_, rfl⟩
  rw [hT] at c1
  have ht0 : ((T : Int) == 0) = false := by rw [beq_eq_false_iff_ne]; omega
  by_cases hr : r = 0
  · have e : keyE l r = 1 := by unfold keyE; rw [if_neg hl, if_pos (.inl hr)]
    have e2 : keyV l r = 0 := by unfold keyV; rw [e, if_neg (by decide)]
    rw [e, e2]
    subst hr
    clear s e e2 hl hT htp
    go_enter Try.func39, Try.ntmps39
    go_wp2_with fail
    go_ret2
    exact ⟨rfl, Fr.refl _ _⟩
  have hr0 : ((r : Int) == 0) = false := by rw [beq_eq_false_iff_ne]; omega
  have HE : Hid (∀ x, 1 ≤ x → keyE l r = if ltot l < r then 1 else 0) := Lib.hid fun _ _ => by
    unfold keyE
    rw [if_neg hl]
    by_cases h : ltot l < r
    · rw [if_pos (.inr h), if_pos h]
    · rw [if_neg (by rintro (h' | h') <;> omega), if_neg h]
  have HP := Lib.hid s.pri
  have HN := Lib.hid s.len
  have hsm := s.small
  have HR : Hid (1 ≤ r) := Lib.hid (by omega)
  clear s hl htp hT hr
  go_enter Try.func39, Try.ntmps39
  go_wp2_with fail
  clear c0 c1
  go_loopw [1, 4, 5, 7, 22] (fun x _ _ _ i wr => ∃ j R : Nat, j ≤ n ∧ 1 ≤ R ∧ R < 18446744073709551616 ∧ i = .int .i64 j ∧ x = .int .u64 R ∧ Hid (keyW l r = keyW (l.drop j) R ∧ (ltot l < r ↔ ltot (l.drop j) < R)) ∧ Hid (Fr S0 w wr)) (fun _ _ _ _ i _ => n - (intOf i).toNat)
  case atStart => exact ⟨0, r, by omega, HR.out, hr64, rfl, rfl, Lib.hid ⟨rfl, Iff.rfl⟩, Lib.hid (Fr.refl _ _)⟩
  case round =>
    obtain ⟨j, R, hj, hR, hR64, rfl, rfl, hW, hfr⟩ := hrel
    by_cases hjn : (j : Int) < (n : Int)
    · have hjl : j < l.length := by rw [HN.out]; omega
      obtain ⟨b, o, rfl, d0, d1⟩ := (HP.out.fr0 hfr.out).at j hjl
      have e1 := keyW_drop (r := R) hjl
      have e2 := ltot_drop hjl
      obtain ⟨⟨tk, tn⟩, ht⟩ : ∃ t, l[j] = t := ⟨_, rfl⟩
      rw [ht] at d0 d1 e1 e2
      simp only at d0 d1 e1 e2
      by_cases hle : R ≤ tn
      · have HV : Hid (keyV l r = tk ∧ keyE l r = 0) := Lib.hid (by
          have h1 : ¬ ltot l < r := fun h => by have := hW.out.2.1 h; omega
          have h2 : keyE l r = 0 := by rw [HE.out 1 (Nat.le_refl _), if_neg h1]
          refine ⟨?_, h2⟩
          unfold keyV
          rw [h2, if_pos rfl, hW.out.1, e1, if_pos hle])
        clear ht e1 e2 hW
        go_wp2_with fail
        go_ret2
        exact ⟨by rw [HV.out.1, HV.out.2]; rfl, hfr.out.trans0 (Fr.alloc _ _ _)⟩
      · obtain ⟨R', hR'⟩ : ∃ R', R - tn = R' := ⟨_, rfl⟩
        have esub : (R : Int) - (tn : Int) = (R' : Int) := by omega
        have hnle : decide (R ≤ tn) = false := decide_eq_false hle
        have HW2 : Hid (keyW l r = keyW (l.drop (j + 1)) R' ∧ (ltot l < r ↔ ltot (l.drop (j + 1)) < R')) := Lib.hid ⟨by rw [hW.out.1, e1, if_neg hle, hR'], by rw [hW.out.2, e2]; omega⟩
        have hR1 : 1 ≤ R' := by omega
        have hR2 : R' < 18446744073709551616 := by omega
        clear ht e1 e2 hW hR' hle
        go_wp2_with fail
        go_roundw
        case rel => exact ⟨j + 1, R', by omega, hR1, hR2, by go_num, by go_num, HW2, Lib.hid (hfr.out.trans0 (Fr.alloc _ _ _))⟩
        case measure => simp [intOf]; omega
    · obtain rfl : j = n := by omega
      have HV : Hid (keyV l r = 0 ∧ keyE l r = 1) := Lib.hid (by
        have h1 : ltot l < r := hW.out.2.2 (by rw [← HN.out, List.drop_length]; exact hR)
        have h2 : keyE l r = 1 := by rw [HE.out 1 (Nat.le_refl _), if_pos h1]
        exact ⟨by unfold keyV; rw [h2, if_neg (by decide)], h2⟩)
      clear hW
      go_wp2_with fail
      go_ret2
      exact ⟨by rw [HV.out.1, HV.out.2]; rfl, hfr.out⟩
end
end Go.Proofs.Ytibgjmlgjmnheaa
