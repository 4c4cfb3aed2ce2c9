/- MatchWeighs. -/
import Derived.Test.YtoplighbodcbnaaMatAlive
namespace Go.Proofs.Ytoplighbodcbnaa
open Go.RowKit Go.MapKept

theorem toks_mem (b : List Nat) : ∀ (m k : Nat), b.length ≤ k + m → ∀ t ∈ toks b k, ∃ j, k ≤ j ∧ j < b.length ∧ t = tok b j
  | 0, k, h, t, ht => by rw [toks_out b k h] at ht; cases ht
  | m + 1, k, h, t, ht => by
    by_cases hk : k < b.length
    · rw [toks_in b k hk] at ht
      have hw := wid_pos b k hk
      rcases List.mem_cons.1 ht with h1 | h1
      · exact ⟨k, Nat.le_refl _, hk, h1⟩
      · obtain ⟨j, h2, h3, h4⟩ := toks_mem b m (k + wid (tok b k)) (by omega) t h1
        exact ⟨j, by omega, h3, h4⟩
    · rw [toks_out b k (by omega)] at ht; cases ht
theorem toks_all (b : List Nat) (t : Tk) (ht : t ∈ toks b 0) : (t.2.2 = 0 ∧ t.2.1 = 0) ∨ (3 ≤ t.2.1 ∧ t.2.1 ≤ 258 ∧ 0 < t.2.2 ∧ t.2.2 ≤ 32768) := by
  obtain ⟨j, _, hj, rfl⟩ := toks_mem b b.length 0 (by omega) t ht
  rcases tok_is b j hj with ⟨h, _⟩ | ⟨s, d, h, h3, h8, hd, _, hf, _⟩
  · rw [h]; exact .inl ⟨rfl, rfl⟩
  · rw [h]; exact .inr ⟨h3, h8, hd, hf⟩
theorem toks_sum (b : List Nat) : ∀ (m k : Nat), b.length ≤ k + m → k ≤ b.length → ((toks b k).map wid).sum + k = b.length
  | 0, k, h, hk => by rw [toks_out b k h]; simp; omega
  | m + 1, k, h, hk => by
    by_cases hk : k < b.length
    · have hw := wid_pos b k hk
      have := toks_sum b m (k + wid (tok b k)) (by omega) (by omega)
      rw [toks_in b k hk, List.map_cons, List.sum_cons]
      omega
    · rw [toks_out b k (by omega)]; simp; omega
theorem wgh_sum (l : List Tk) (h : ∀ t ∈ l, (t.2.2 = 0 ∧ t.2.1 = 0) ∨ (3 ≤ t.2.1 ∧ t.2.1 ≤ 258 ∧ 0 < t.2.2 ∧ t.2.2 ≤ 32768)) : ∀ j, j ≤ l.length → (wgh (l.take j)).1 + (wgh (l.take j)).2.1 = j ∧ (wgh (l.take j)).1 + (wgh (l.take j)).2.2 = ((l.take j).map wid).sum ∧ 3 * (wgh (l.take j)).2.1 ≤ (wgh (l.take j)).2.2 ∧ (wgh (l.take j)).2.2 ≤ 258 * (wgh (l.take j)).2.1
  | 0, _ => by simp [wgh]
  | j + 1, hj => by
    obtain ⟨h1, h2, h3, h4⟩ := wgh_sum l h j (by omega)
    have h5 := h _ (List.getElem_mem (show j < l.length by omega))
    have h6 : ((l.take (j + 1)).map wid).sum = ((l.take j).map wid).sum + wid l[j] := by rw [List.take_succ_eq_append_getElem (by omega), List.map_append, List.sum_append]; simp
    rw [wgh_next l j (by omega), h6]
    have h9 : wid l[j] = if l[j].2.2 = 0 then 1 else l[j].2.1 := rfl
    rw [h9]
    rcases h5 with ⟨h5, _⟩ | ⟨h5, h7, h8, _⟩
    · rw [if_pos h5, if_pos h5]; simp only; omega
    · rw [if_neg (by omega), if_neg (by omega)]; simp only; omega
theorem wgh_toks (b : List Nat) : (wgh (toks b 0)).1 + (wgh (toks b 0)).2.1 = (toks b 0).length ∧ (wgh (toks b 0)).1 + (wgh (toks b 0)).2.2 = b.length ∧ 3 * (wgh (toks b 0)).2.1 ≤ (wgh (toks b 0)).2.2 ∧ (wgh (toks b 0)).2.2 ≤ 258 * (wgh (toks b 0)).2.1 := by
  have h := wgh_sum (toks b 0) (toks_all b) _ (Nat.le_refl _)
  have h2 := toks_sum b b.length 0 (by omega) (by omega)
  rw [List.take_length] at h
  rw [Nat.add_zero] at h2
  rw [← h2]
  exact h

set_option maxRecDepth 100000 in
set_option maxHeartbeats 2000000 in
theorem law_weighs (p p' : Option Addr) (c c' : Nat) (bs ts : List Nat) (w : World) (h : SlI w .u8 p bs) (h' : SlI w .u8 p' ts) (hb8 : ∀ x ∈ bs, x < 256) (ht8 : ∀ x ∈ ts, x < 256) :
    Calls Try.prog 5 #[.slice p bs.length c, .slice p' ts.length c'] w fun r w' => r = .returned (.bool true) ∧ Fr S0 w w' := by
  have H := Lib.hid h
  have H' := Lib.hid h'
  have HB8 := Lib.hid hb8
  have HT8 := Lib.hid ht8
  clear h h' hb8 ht8
  go_enter Try.func5, Try.ntmps5
  go_wp2_with fail
  refine start _ _ ?_
  intro w1 f1
  have F1 := Lib.hid f1
  clear f1
  go_wp2_with fail
  refine (spread_any p p' c c' bs ts _ (H.out.fr0 F1.out) (H'.out.fr0 F1.out) HB8.out HT8.out).mono ?_
  rintro _ w2 ⟨t, q, d, rfl, o2, t8, tl, f2, -⟩
  have O2 := Lib.hid o2
  have T8 := Lib.hid t8
  have F2 := Lib.hid (F1.out.trans0 f2)
  have HD := Lib.hid (slForm o2)
  clear o2 t8 f2
  go_wp2_with fail
  refine (find_any q d t _ (SlI.ofOwns O2.out) (by obtain ⟨_, _, e, _, h, _⟩ := HD.out; cases e; exact h) T8.out (by omega)).mono ?_
  rintro _ w3 ⟨q3, n3, d3, rfl, hn3, o3, f3, -⟩
  have K3 := Lib.hid (TkI.ofOwns o3)
  have F3 := Lib.hid (F2.out.trans0 f3)
  have HN3 := Lib.hid hn3
  have hnl := toks_le t
  rw [← hn3] at hnl
  clear o3 f3 hn3
  go_wp2_with fail
  refine (weigh_any q3 n3 d3 (toks t 0) _ K3.out HN3.out.symm (fun u hu => by rcases toks_all t u hu with h | h <;> omega) (by omega)).mono ?_
  rintro _ w4 ⟨rfl, f4⟩
  obtain ⟨e1, e2, e3, e4⟩ := wgh_toks t
  rw [← HN3.out] at e1
  obtain ⟨A, hA⟩ : ∃ A, (wgh (toks t 0)).1 = A := ⟨_, rfl⟩
  obtain ⟨B, hB⟩ : ∃ B, (wgh (toks t 0)).2.1 = B := ⟨_, rfl⟩
  obtain ⟨C, hC⟩ : ∃ C, (wgh (toks t 0)).2.2 = C := ⟨_, rfl⟩
  rw [hA, hB, hC]
  rw [hA, hB] at e1
  rw [hA, hC] at e2
  rw [hB, hC] at e3 e4
  have F4 := Lib.hid (F3.out.trans0 f4)
  obtain ⟨N, hN⟩ : ∃ N, t.length = N := ⟨_, rfl⟩
  rw [hN]
  rw [hN] at e2 tl hnl
  clear hA hB hC f4 hN
  have i1 : (A : Int) + (B : Int) = (n3 : Int) := by omega
  have i2 : (A : Int) + (C : Int) = (N : Int) := by omega
  have i3 : 3 * (B : Int) ≤ (C : Int) := by omega
  have i4 : (C : Int) ≤ 258 * (B : Int) := by omega
  go_wp2
  go_ret
  exact ⟨rfl, F4.out⟩
end Go.Proofs.Ytoplighbodcbnaa
