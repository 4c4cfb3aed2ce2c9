/- Two new histograms of the code's beside two of the document's; corrects that the law leaves out; how few keys there are. -/
import Derived.Test.YthfcfmnaiopogaaGreatHrActs2
namespace Go.Proofs.YthfcfmnaiopogaaGreat
open Go.RowKit

/-- how histograms are made -/
structure HdrNews (Is : World → Nat → (Nat → Prop) → Hm → Prop) : Prop where
  does : HdrDoes Is
  no : ∀ (lo hi d : Int) (gr : Bool) (W : World), ¬ May lo hi d → (-9223372036854775808 ≤ lo ∧ lo ≤ 9223372036854775807) → (-9223372036854775808 ≤ hi ∧ hi ≤ 9223372036854775807) →
    Calls Tryz.prog 48 #[.agg #[.int .i64 lo, .int .i64 hi, .int .i64 d], .bool gr] W fun e w' => e = .returned (.tuple #[.pointer none, .int .i64 1]) ∧ Fr S0 W w'
  big : ∀ (l h D : Nat) (gr : Bool) (W : World), 1 ≤ D → D ≤ 5 → 0 < l → 2 * l ≤ h → h < 9223372036854775808 → 62 < unt l + mag D →
    Calls Tryz.prog 48 #[.agg #[.int .i64 (l : Nat), .int .i64 (h : Nat), .int .i64 (D : Nat)], .bool gr] W fun e w' => e = .returned (.tuple #[.pointer none, .int .i64 1]) ∧ Fr S0 W w'
  yes : ∀ (l h D : Nat) (gr : Bool) (W : World), 1 ≤ D → D ≤ 5 → 0 < l → 2 * l ≤ h → h < 9223372036854775808 → unt l + mag D ≤ 62 →
    Calls Tryz.prog 48 #[.agg #[.int .i64 (l : Nat), .int .i64 (h : Nat), .int .i64 (D : Nat)], .bool gr] W fun e w' => ∃ g C, e = .returned (.tuple #[.pointer (some ⟨g, 0, none⟩), .int .i64 0]) ∧ Is w' g C (Hm.new l h D gr) ∧ (∀ y, C y → W.heap.size ≤ y) ∧ Fr S0 W w'

/-- two lists that have few keys together -/
def Nar (k : Nat) (l m : List Pr) : Prop := ∃ u : List Pr, Srt u ∧ Pos u ∧ u.length ≤ k ∧ (∀ x ∈ l, ∃ y ∈ u, y.1 = x.1) ∧ ∀ x ∈ m, ∃ y ∈ u, y.1 = x.1
theorem Nar.nil : Nar 0 [] [] := ⟨[], srt_nil, pos_nil, Nat.le_refl _, (fun _ h => by cases h), fun _ h => by cases h⟩
theorem Nar.swap {k : Nat} {l m : List Pr} (h : Nar k l m) : Nar k m l := let ⟨u, h1, h2, h3, h4, h5⟩ := h; ⟨u, h1, h2, h3, h5, h4⟩
theorem Nar.len {k : Nat} {l m : List Pr} (h : Nar k l m) (hs : Srt l) : l.length ≤ k := let ⟨_, h1, _, h3, h4, _⟩ := h; Nat.le_trans (len_sub hs h1 h4) h3
theorem Nar.more {k j : Nat} {l m : List Pr} (h : Nar k l m) (hj : k ≤ j) : Nar j l m := let ⟨u, h1, h2, h3, h4, h5⟩ := h; ⟨u, h1, h2, Nat.le_trans h3 hj, h4, h5⟩
theorem put_keys {u : List Pr} (h : Srt u) (hp : Pos u) (k : Int) {x : Pr} (hx : x.1 = k ∨ ∃ y ∈ u, y.1 = x.1) : ∃ y ∈ lput u k 1, y.1 = x.1 := by
  refine cnt_in ?_
  rw [cnt_put k 1 x.1 h]
  rcases hx with e | ⟨y, hy, e⟩
  · rw [if_pos e]; omega
  · have := cnt_ne h hp hy
    rw [e] at this
    omega
theorem Nar.put {k : Nat} {l m : List Pr} (h : Nar k l m) (j : Int) (n : Nat) : Nar (k + 1) (lput l j n) m := by
  obtain ⟨u, h1, h2, h3, h4, h5⟩ := h
  refine ⟨lput u j 1, put_srt h1, put_pos h2 (by decide), ?_, fun x hx => put_keys h1 h2 j ?_, fun x hx => put_keys h1 h2 j (.inr (h5 x hx))⟩
  · rw [len_put j 1 h1 h2]; split <;> omega
  · rcases put_mem hx with e | hx
    · exact .inl e
    · exact .inr (h4 x hx)
theorem Nar.record {k : Nat} {M : Hm} {m : List Pr} (h : Nar k M.l m) (v : Int) (n : Nat) : Nar (k + 1) (M.record v n).l m := by
  unfold Hm.record
  split
  · exact h.put _ _
  · exact h.more (by omega)
theorem Nar.counts {k : Nat} {M : Hm} {m : List Pr} (h : Nar k M.l m) (v e n : Nat) : ∀ j, Nar (k + (j + 1)) (M.counts v e n j).l m
  | 0 => h.put _ _
  | j + 1 => (Nar.counts h v e n j).put _ _
theorem Nar.correct {k : Nat} {M : Hm} {m : List Pr} (h : Nar k M.l m) (v : Int) (n : Nat) (x : Int) (hm : Hm.more v x ≤ 300 ∨ 4096 < Hm.more v x) : Nar (k + 301) (M.correct v n x).l m := by
  unfold Hm.correct
  split
  · rename_i he
    rcases hm with hm | hm
    · exact (Nar.counts h _ _ n _).more (by omega)
    · unfold Hm.corE at he
      rw [if_pos hm] at he
      omega
  · exact h.more (by omega)
theorem Nar.take {k : Nat} {M G : Hm} {m : List Pr} (h : Nar k M.l m) (hq : G.l = M.l ∨ G.l = m) : Nar k (M.take G).l m := by
  unfold Hm.take
  split
  · obtain ⟨u, h1, h2, h3, h4, h5⟩ := h
    refine ⟨u, h1, h2, h3, fun x hx => ?_, h5⟩
    rcases putAll_mem _ _ _ hx with ⟨y, hy, e⟩ | hx
    · rw [← e]
      rcases hq with e2 | e2
      · rw [e2] at hy; exact h4 y hy
      · rw [e2] at hy; exact h5 y hy
    · exact h4 x hx
  · exact h

/-- would correcting count very many values? -/
def farB (kd : Nat) (v x : Int) : Bool := decide (kd % 7 = 4 ∧ 0 < x ∧ 300 < v.tdiv x ∧ v.tdiv x < 5000)
theorem far_more {kd : Nat} {v x : Int} (h4 : kd % 7 = 4) (h : farB kd v x = false) : Hm.more v x ≤ 300 ∨ 4096 < Hm.more v x := by
  unfold farB at h
  have h := of_decide_eq_false h
  unfold Hm.more
  split
  · omega
  · rename_i hx
    have hp : 0 < x ∧ 0 < v := by omega
    rw [Int.tdiv_eq_ediv_of_nonneg (by omega)] at h
    generalize v / x = Q at *
    omega
set_option maxRecDepth 100000 in
set_option maxHeartbeats 1000000 in
theorem far_any (kd : Nat) (who : Bool) (v : Int) (n : Nat) (x : Int) (w : World) (hv : -9223372036854775808 ≤ v) (hv2 : v ≤ 9223372036854775807) (hx : -9223372036854775808 ≤ x) (hx2 : x ≤ 9223372036854775807) :
    Calls Tryz.prog 14 #[.agg #[.int .u8 (kd : Nat), .bool who, .int .i64 v, .int .u64 (n : Nat), .int .i64 x]] w fun e w' => e = .returned (.bool (farB kd v x)) ∧ Fr S0 w w' := by
  unfold farB
  obtain ⟨K, eK⟩ : ∃ K, kd % 7 = K := ⟨_, rfl⟩
  have e7 : (kd : Int) % 7 = (K : Int) := by omega
  have hK : K ≤ 6 := by omega
  rw [eK]
  clear eK
  by_cases h4 : K = 4
  · subst h4
    by_cases hx0 : 0 < x
    · obtain ⟨Q, eQ⟩ : ∃ Q, v.tdiv x = Q := ⟨_, rfl⟩
      have hQ : -9223372036854775808 ≤ Q ∧ Q ≤ 9223372036854775807 := by
        obtain ⟨X, rfl⟩ : ∃ X : Nat, x = X := ⟨x.toNat, by omega⟩
        by_cases h0 : 0 ≤ v
        · obtain ⟨V, rfl⟩ : ∃ V : Nat, v = V := ⟨v.toNat, by omega⟩
          rw [Int.tdiv_eq_ediv_of_nonneg (by omega), ← Int.natCast_ediv] at eQ
          have := Nat.div_le_self V X
          generalize V / X = Z at *
          omega
        · obtain ⟨V, rfl⟩ : ∃ V : Nat, v = -(V : Int) := ⟨v.natAbs, by omega⟩
          rw [Int.neg_tdiv, Int.tdiv_eq_ediv_of_nonneg (by omega), ← Int.natCast_ediv] at eQ
          have := Nat.div_le_self V X
          generalize V / X = Z at *
          omega
      rw [eQ]
      have hx1 : ¬ x = 0 := by omega
      have hxm : ¬ x = -1 := by omega
      by_cases h3 : 300 < Q
      · by_cases h5 : Q < 5000
        · rw [decide_eq_true (by omega)]
          go_enter Tryz.func14, Tryz.ntmps14
          go_wp2_with fail
          go_ret
          exact ⟨rfl, Fr.alloc _ _ _⟩
        · rw [decide_eq_false (by omega)]
          go_enter Tryz.func14, Tryz.ntmps14
          go_wp2_with fail
          go_ret
          exact ⟨rfl, Fr.alloc _ _ _⟩
      · rw [decide_eq_false (by omega)]
        go_enter Tryz.func14, Tryz.ntmps14
        go_wp2_with fail
        go_ret
        exact ⟨rfl, Fr.alloc _ _ _⟩
    · rw [decide_eq_false (by omega)]
      go_enter Tryz.func14, Tryz.ntmps14
      go_wp2_with fail
      go_ret
      exact ⟨rfl, Fr.alloc _ _ _⟩
  · rw [decide_eq_false (by omega)]
    have n4 : ((K : Int) == 4) = false := by rw [beq_eq_false_iff_ne]; omega
    go_enter Tryz.func14, Tryz.ntmps14
    go_wp2_with fail
    go_ret
    exact ⟨rfl, Fr.alloc _ _ _⟩
end Go.Proofs.YthfcfmnaiopogaaGreat
