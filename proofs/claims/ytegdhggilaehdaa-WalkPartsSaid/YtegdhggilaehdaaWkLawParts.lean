/- The law on cutting a table into parts. -/
import Derived.Test.YtegdhggilaehdaaWkAlive
import Derived.Test.YtegdhggilaehdaaWkRising
import Derived.Test.YtegdhggilaehdaaWkAsk
import Derived.Deep.RegionHeld3
import Derived.IntWalk
import Derived.Test.YtegdhggilaehdaaRegCalls
namespace Go.Proofs.Ytegdhggilaehdaa
open Go.RowKit

theorem cutR_at {m k n i : Nat} (h : i < m) : (cutR m k n)[i]? = some (rnk (i + 1) k n) := by
  unfold cutR
  rw [List.getElem?_map, List.getElem?_range h]
  rfl
/-- the keys of the parts, as the law asks for them -/
structure Pts (w0 w : World) (q : Option Addr) (M k : Nat) (L : List Pr) : Prop where
  cel : ∀ i, i < M → ∃ b o, q = some ⟨b, o, none⟩ ∧ w.cell? ⟨b, o + i, none⟩ = some (.int .i64 (keyW L (rnk (i + 1) k (ltot L))))
  fr : Fr S0 w0 w
theorem Pts.fr0 {w0 w w' : World} {q : Option Addr} {M k : Nat} {L : List Pr} (h : Pts w0 w q M k L) (f : Fr S0 w w') : Pts w0 w' q M k L :=
  ⟨fun i hi => let ⟨b, o, hp, hc⟩ := h.cel i hi; ⟨b, o, hp, f.cell hc fun h => h⟩, h.fr.trans0 f⟩
theorem parts_pts (g : Nat) (L : List Pr) (w : World) (M k : Nat) (s : TabIs w g L) (hl : L ≠ []) (hm : M < 1000) (hk : M + 1 = k) :
    Calls Try.prog 26 #[.pointer (some ⟨g, 0, none⟩), .int .i64 (k : Nat)] w fun e w' => ∃ q c, e = .returned (.tuple #[.slice q M c, .int .i64 0]) ∧ Pts w w' q M k L :=
  (parts_yes g L w M k s hl hm hk).mono fun e w' he => by
    obtain ⟨v, rfl, q, c, rfl, hc, f⟩ := he
    have hlen : ((cutR M k (ltot L)).map (keyW L)).length = M := by simp [cutR]
    refine ⟨q, c, by rw [hlen], fun i hi => ?_, f⟩
    obtain ⟨b, o, hp, hh⟩ := hc.at i (by rw [hlen]; exact hi)
    refine ⟨b, o, hp, hh.trans ?_⟩
    rw [List.getElem_map]
    have := cutR_at (k := k) (n := ltot L) hi
    rw [List.getElem?_eq_getElem (by simpa [cutR] using hi)] at this
    rw [Option.some.inj this]

/-- what is seen in a round, in any order: two of the keys -/
def SeesK (w6 : World) (b o j i : Nat) (K K2 : Int) (w : World) : Prop := w.cell? ⟨b, o + j, none⟩ = some (.int .i64 K) ∧ w.cell? ⟨b, o + i, none⟩ = some (.int .i64 K2) ∧ Fr S0 w6 w
theorem SeesK.to {w6 w w' : World} {b o j i : Nat} {K K2 : Int} (h : SeesK w6 b o j i K K2 w) (f : Fr S0 w w') : SeesK w6 b o j i K K2 w' := ⟨f.cell h.1 (fun h => h), f.cell h.2.1 (fun h => h), h.2.2.trans0 f⟩

set_option maxRecDepth 100000 in
set_option maxHeartbeats 4000000 in
theorem law_parts (p : Option Addr) (n c : Nat) (l : List Pr) (a : Int) (w : World) (h : PrI w p l) (hn : l.length = n) (h64 : ∀ x ∈ l, x.2 < 18446744073709551616) :
    Calls Try.prog 6 #[.slice p n c, .int .i64 a] w fun e w' => e = .returned (.bool true) ∧ Fr S0 w w' := by
  have HA := Lib.hid (alive_any w)
  have HRI := Lib.hid (fun W (f : Fr S0 w W) => rising_any p n c l W (h.fr0 f) hn h64)
  clear h hn h64
  go_enter Try.func6, Try.ntmps6
  go_wp2_with fail
  refine HA.out.mono ?_
  rintro e w1 ⟨rfl, f1⟩
  have HF1 := Lib.hid f1
  clear f1 HA
  go_wp2_with fail
  refine (HRI.out _ HF1.out).mono ?_
  rintro e w2 ⟨q, d, m, rfl, L, hr2⟩
  have HR2 := Lib.hid hr2
  have hm := hr2.small
  clear hr2 HRI
  have HN := Lib.hid (new_any q m d L w2 HR2.out.pri HR2.out.len (by omega) HR2.out.h64)
  go_wp2_with fail
  refine HN.out.mono ?_
  rintro e w3 ⟨f3, ⟨-, g, rfl, ht, -⟩ | ⟨hno, -⟩⟩
  case inr => exact absurd HR2.out.ok hno
  have HAS : Hid (Asked w3 g q m d L) := Lib.hid ⟨ht, HR2.out.pri.fr0 f3, HR2.out.len⟩
  have HF3 := Lib.hid ((HF1.out.trans0 HR2.out.fr).trans0 f3)
  clear f3 ht HN HF1 HR2
  by_cases ha : a < 1 ∨ 1000 < a
  · have HP := Lib.hid (parts_arg g L w3 a HAS.out.tab ha)
    by_cases ha1 : a < 1
    · have d1 : decide (a < 1) = true := decide_eq_true ha1
      clear ha ha1
      go_wp2_with fail
      refine HP.out.mono ?_
      rintro e w4 ⟨rfl, f4⟩
      go_wp2_with fail
      go_ret
      exact ⟨rfl, HF3.out.trans0 f4⟩
    · have d1 : decide (a < 1) = false := decide_eq_false ha1
      have d2 : decide (1000 < a) = true := decide_eq_true (by omega)
      clear ha ha1
      go_wp2_with fail
      refine HP.out.mono ?_
      rintro e w4 ⟨rfl, f4⟩
      go_wp2_with fail
      go_ret
      exact ⟨rfl, HF3.out.trans0 f4⟩
  obtain ⟨M, hM⟩ : ∃ M, a.toNat - 1 = M := ⟨_, rfl⟩
  obtain ⟨k, hk⟩ : ∃ k : Nat, a = (k : Int) := ⟨a.toNat, by omega⟩
  subst hk
  have hk1 : M + 1 = k := by omega
  have hM1 : M < 1000 := by omega
  have hk2 : k ≤ 1000 := by omega
  have d1 : decide ((k : Int) < 1) = false := decide_eq_false (by omega)
  have d2 : decide (1000 < (k : Int)) = false := decide_eq_false (by omega)
  clear hM
  by_cases hL : L = []
  · subst hL
    obtain rfl : m = 0 := HAS.out.len.symm
    have HP := Lib.hid (parts_none g w3 (k : Int) HAS.out.tab (by omega) (by omega))
    clear ha hk1 hM1 hk2
    go_wp2_with fail
    refine HP.out.mono ?_
    rintro e w4 ⟨rfl, f4⟩
    go_wp2_with fail
    go_ret
    exact ⟨rfl, HF3.out.trans0 f4⟩
  have hm0 : m ≠ 0 := fun e => hL (List.eq_nil_of_length_eq_zero (by rw [HAS.out.len, e]))
  have hmz : ((m : Int) == 0) = false := by rw [beq_eq_false_iff_ne]; omega
  have htp : 0 < ltot L := by
    rcases Nat.eq_zero_or_pos (ltot L) with h | h'
    · exact absurd ((tot_zero HAS.out.tab.ok.pos).1 h) hL
    · exact h'
  have h62 := HAS.out.tab.ok.tot
  have HP := Lib.hid (parts_pts g L w3 M k HAS.out.tab hL hM1 hk1)
  have ek : (k : Int) - 1 = (M : Int) := by omega
  have HT := Lib.hid (HAS.out.rtot)
  have HRK := Lib.hid (fun i (hi : i < M) => HAS.out.rkey (rnk (i + 1) k (ltot L)) (rnk_all (by omega) htp).1 (rnk_all (by omega) htp).2)
  have HRR := Lib.hid (fun i (hi : i < M) W => rrank_yes (i + 1) k (ltot L) W HAS.out.h64 (by omega) htp (by omega) (by omega))
  have HMO : Hid (∀ i, i + 1 < M → keyW L (rnk (i + 1) k (ltot L)) ≤ keyW L (rnk (i + 1 + 1) k (ltot L))) := Lib.hid fun i hi => keyW_mono HAS.out.tab.ok.srt (rnk_all (by omega) htp).1 (cut_rise (by omega)) (rnk_all (by omega) htp).2
  obtain ⟨T, hT⟩ : ∃ T, ltot L = T := ⟨_, rfl⟩
  have HTT := Lib.hid hT
  rw [hT] at HT HRK HRR HMO
  clear ha hL hm0 htp h62 hT
  go_wp2_with fail
  refine HP.out.mono ?_
  rintro e w4 ⟨qk, ck, rfl, hp⟩
  have HPT := Lib.hid hp
  clear hp HP
  go_wp2_with fail
  go_loopw [10, 11, 12] (fun i _ _ wr => ∃ j : Nat, j ≤ M ∧ i = .int .i64 j ∧ Hid (Pts w3 wr qk M k L)) (fun i _ _ _ => M - (intOf i).toNat)
  case atStart => exact ⟨0, by omega, rfl, HPT⟩
  case round =>
    obtain ⟨j, hj, rfl, hpt⟩ := hrel
    by_cases hjM : (j : Int) < (M : Int)
    · have hjl : j < M := by omega
      obtain ⟨b, o, rfl, c0⟩ := hpt.out.cel j hjl
      rw [HTT.out] at c0
      have HT4 := Lib.hid (HT.out wr hpt.out.fr)
      have HRRj := Lib.hid (HRR.out j hjl)
      have HRKj := Lib.hid (HRK.out j hjl)
      obtain ⟨J, hJ⟩ : ∃ J, j + 1 = J := ⟨_, rfl⟩
      have eJ : (j : Int) + 1 = (J : Int) := by omega
      have hJb : J ≤ 1000 := by omega
      have HC : Hid (j = 0 ∨ ∃ (i : Nat) (K2 : Int), (j : Int) - 1 = (i : Int) ∧ (i : Int) < (M : Int) ∧ wr.cell? ⟨b, o + i, none⟩ = some (.int .i64 K2) ∧ decide (keyW L (rnk (j + 1) k T) < K2) = false) := Lib.hid (by
        by_cases h0 : j = 0
        · exact .inl h0
        · obtain ⟨i, rfl⟩ : ∃ i, j = i + 1 := ⟨j - 1, by omega⟩
          obtain ⟨b2, o2, hp2, c2⟩ := hpt.out.cel i (by omega)
          obtain ⟨rfl, rfl⟩ : b = b2 ∧ o = o2 := by simpa using hp2
          rw [HTT.out] at c2
          exact .inr ⟨i, _, by omega, by omega, c2, decide_eq_false (by have := HMO.out i hjl; omega)⟩)
      rw [hJ] at HRRj HRKj c0 HC
      obtain ⟨R, hR⟩ : ∃ R, rnk J k T = R := ⟨_, rfl⟩
      rw [hR] at HRRj HRKj c0 HC
      obtain ⟨K, hK⟩ : ∃ K, keyW L R = K := ⟨_, rfl⟩
      obtain ⟨K', hK'⟩ : ∃ K, keyW L R = K := ⟨_, rfl⟩
      rw [hK] at c0 HC
      rw [hK'] at HRKj
      have HPW := Lib.hid hpt.out
      have hkk : (K != K') = false := by rw [← hK, ← hK']; simp
      clear hjl hpt hR hK hK' HRR HRK HMO
      go_wp2_with fail
      refine HT4.out.mono ?_
      rintro e w5 ⟨rfl, f5⟩
      have G5 := Lib.hid f5
      clear f5
      go_wp2_with fail
      refine (HRRj.out _).mono ?_
      rintro e w6 ⟨rfl, f6⟩
      have G6 := Lib.hid (G5.out.trans0 f6)
      clear f6 G5
      go_wp2_with fail
      have HPT6 := Lib.hid (HPW.out.fr0 G6.out)
      have y0 := G6.out.cell c0 (fun h => h)
      rcases HC.out with h0 | ⟨i, K2, ei, hiM, c2, dk⟩
      · have dj : decide (0 < j) = false := decide_eq_false (by omega)
        have dj2 : decide ((0 : Int) < (j : Int)) = false := decide_eq_false (by omega)
        clear h0 HC c0
        refine wp_region_held_drew (S := SeesK w6 b o j j K K) (by as_aux_lemma => kernel_rfl) ⟨(Fr.drew S0 _).cell y0 (fun h => h), (Fr.drew S0 _).cell y0 (fun h => h), Fr.drew S0 _⟩ (fun hHeld => ?_)
        refine held_of_any _ _ _ _ hHeld ?_
        clear hHeld y0
        refine anyS_take (i := 0) (oi := Oper.mk (some 83) _ _ _ _ _) (v := ?_) rfl (by as_aux_lemma => kernel_rfl) (by as_aux_lemma => kernel_rfl) (by as_aux_lemma => kernel_rfl) (fun _ _ _ h => h) (Or.inl ⟨by rfl, ?_⟩) ?_
        rotate_left
        · (intro w hSw; obtain ⟨s1, s2, -⟩ := hSw; go_simp <;> with_reducible rfl)
        simp only [Act.put, List.setIfInBounds_toArray, List.set_cons_zero, List.set_cons_succ]
        refine anyS_take (i := 1) (oi := Oper.mk (some 84) _ _ _ _ _) (v := ?_) rfl (by as_aux_lemma => kernel_rfl) (by as_aux_lemma => kernel_rfl) (by as_aux_lemma => kernel_rfl) (fun _ _ _ h => h) (Or.inl ⟨by rfl, ?_⟩) ?_
        rotate_left
        · (intro w hSw; obtain ⟨s1, s2, -⟩ := hSw; go_simp <;> with_reducible rfl)
        simp only [Act.put, List.setIfInBounds_toArray, List.set_cons_zero, List.set_cons_succ]
        refine anyS_take (i := 2) (oi := Oper.mk (some 85) _ _ _ _ _) (v := ?_) rfl (by as_aux_lemma => kernel_rfl) (by as_aux_lemma => kernel_rfl) (by as_aux_lemma => kernel_rfl) (fun _ _ _ h => h) (Or.inl ⟨by rfl, ?_⟩) ?_
        rotate_left
        · (intro w hSw; obtain ⟨s1, s2, -⟩ := hSw; go_simp <;> with_reducible rfl)
        simp only [Act.put, List.setIfInBounds_toArray, List.set_cons_zero, List.set_cons_succ]
        refine anyS_take (i := 3) (oi := Oper.mk (some 86) _ _ _ _ _) (v := ?_) rfl (by as_aux_lemma => kernel_rfl) (by as_aux_lemma => kernel_rfl) (by as_aux_lemma => kernel_rfl) (fun _ _ _ h => h) (Or.inl ⟨by rfl, ?_⟩) ?_
        rotate_left
        · (intro w hSw; obtain ⟨s1, s2, -⟩ := hSw; go_simp <;> with_reducible rfl)
        simp only [Act.put, List.setIfInBounds_toArray, List.set_cons_zero, List.set_cons_succ]
        refine anyS_take (i := 4) (oi := Oper.mk (some 87) _ _ _ _ _) (v := ?_) rfl (by as_aux_lemma => kernel_rfl) (by as_aux_lemma => kernel_rfl) (by as_aux_lemma => kernel_rfl) (fun _ _ _ h => h) (Or.inl ⟨by rfl, ?_⟩) ?_
        rotate_left
        · (intro w hSw; obtain ⟨s1, s2, -⟩ := hSw; go_simp <;> with_reducible rfl)
        simp only [Act.put, List.setIfInBounds_toArray, List.set_cons_zero, List.set_cons_succ]
        refine anyS_take (i := 5) (oi := Oper.mk (some 88) _ _ _ _ _) (v := ?_) rfl (by as_aux_lemma => kernel_rfl) (by as_aux_lemma => kernel_rfl) (by as_aux_lemma => kernel_rfl) (fun _ _ _ h => h) (Or.inl ⟨by rfl, ?_⟩) ?_
        rotate_left
        · (intro w hSw; obtain ⟨s1, s2, -⟩ := hSw; go_simp <;> with_reducible rfl)
        simp only [Act.put, List.setIfInBounds_toArray, List.set_cons_zero, List.set_cons_succ]
        refine anyS_call 16 #[.slice q m d, .int .u64 (R : Nat)] (i := 6) (oi := Oper.mk (some 89) _ _ _ _ _) (v := .int .i64 K') rfl (by as_aux_lemma => kernel_rfl) (by as_aux_lemma => kernel_rfl) (by as_aux_lemma => kernel_rfl) (fun _ _ _ h => h) (by rfl) (fun w => ?_) (fun w hSw => ?_) ?_
        · first | rfl | (go_simp; done) | (go_simp; rfl)
        · exact (HRKj.out w (HPT6.out.fr.trans0 hSw.2.2)).mono fun e w2 he => ⟨he.1, hSw.to he.2⟩
        simp only [Act.put, List.setIfInBounds_toArray, List.set_cons_zero, List.set_cons_succ]
        refine anyS_take (i := 7) (oi := Oper.mk (some 90) _ _ _ _ _) (v := ?_) rfl (by as_aux_lemma => kernel_rfl) (by as_aux_lemma => kernel_rfl) (by as_aux_lemma => kernel_rfl) (fun _ _ _ h => h) (Or.inl ⟨by rfl, ?_⟩) ?_
        rotate_left
        · (intro w hSw; obtain ⟨s1, s2, -⟩ := hSw; go_simp <;> with_reducible rfl)
        simp only [Act.put, List.setIfInBounds_toArray, List.set_cons_zero, List.set_cons_succ]
        refine anyS_take (i := 8) (oi := Oper.mk (some 91) _ _ _ _ _) (v := ?_) rfl (by as_aux_lemma => kernel_rfl) (by as_aux_lemma => kernel_rfl) (by as_aux_lemma => kernel_rfl) (fun _ _ _ h => h) (Or.inl ⟨by rfl, ?_⟩) ?_
        rotate_left
        · (intro w hSw; obtain ⟨s1, s2, -⟩ := hSw; go_simp <;> with_reducible rfl)
        simp only [Act.put, List.setIfInBounds_toArray, List.set_cons_zero, List.set_cons_succ]
        refine anyS_take (i := 9) (oi := Oper.mk (some 92) _ _ _ _ _) (v := ?_) rfl (by as_aux_lemma => kernel_rfl) (by as_aux_lemma => kernel_rfl) (by as_aux_lemma => kernel_rfl) (fun _ _ _ h => h) (Or.inl ⟨by rfl, ?_⟩) ?_
        rotate_left
        · (intro w hSw; obtain ⟨s1, s2, -⟩ := hSw; go_simp <;> with_reducible rfl)
        simp only [Act.put, List.setIfInBounds_toArray, List.set_cons_zero, List.set_cons_succ]
        refine anyS_take (i := 10) (oi := Oper.mk (some 93) _ _ _ _ _) (v := ?_) rfl (by as_aux_lemma => kernel_rfl) (by as_aux_lemma => kernel_rfl) (by as_aux_lemma => kernel_rfl) (fun _ _ _ h => h) (Or.inl ⟨by rfl, ?_⟩) ?_
        rotate_left
        · (intro w hSw; obtain ⟨s1, s2, -⟩ := hSw; go_simp <;> with_reducible rfl)
        simp only [Act.put, List.setIfInBounds_toArray, List.set_cons_zero, List.set_cons_succ]
        refine anyS_take (i := 11) (oi := Oper.mk (some 94) _ _ _ _ _) (v := ?_) rfl (by as_aux_lemma => kernel_rfl) (by as_aux_lemma => kernel_rfl) (by as_aux_lemma => kernel_rfl) (fun _ _ _ h => h) (Or.inl ⟨by rfl, ?_⟩) ?_
        rotate_left
        · (intro w hSw; obtain ⟨s1, s2, -⟩ := hSw; go_simp <;> with_reducible rfl)
        simp only [Act.put, List.setIfInBounds_toArray, List.set_cons_zero, List.set_cons_succ]
        refine anyS_take (i := 12) (oi := Oper.mk (some 95) _ _ _ _ _) (v := undef) rfl (by as_aux_lemma => kernel_rfl) (by as_aux_lemma => kernel_rfl) (by as_aux_lemma => kernel_rfl) (fun _ _ _ h => h) (Or.inr ⟨by rfl, rfl⟩) ?_
        simp only [Act.put, List.setIfInBounds_toArray, List.set_cons_zero, List.set_cons_succ]
        refine anyS_take (i := 13) (oi := Oper.mk (some 96) _ _ _ _ _) (v := undef) rfl (by as_aux_lemma => kernel_rfl) (by as_aux_lemma => kernel_rfl) (by as_aux_lemma => kernel_rfl) (fun _ _ _ h => h) (Or.inr ⟨by rfl, rfl⟩) ?_
        simp only [Act.put, List.setIfInBounds_toArray, List.set_cons_zero, List.set_cons_succ]
        refine anyS_take (i := 14) (oi := Oper.mk (some 97) _ _ _ _ _) (v := undef) rfl (by as_aux_lemma => kernel_rfl) (by as_aux_lemma => kernel_rfl) (by as_aux_lemma => kernel_rfl) (fun _ _ _ h => h) (Or.inr ⟨by rfl, rfl⟩) ?_
        simp only [Act.put, List.setIfInBounds_toArray, List.set_cons_zero, List.set_cons_succ]
        refine anyS_take (i := 15) (oi := Oper.mk (some 98) _ _ _ _ _) (v := undef) rfl (by as_aux_lemma => kernel_rfl) (by as_aux_lemma => kernel_rfl) (by as_aux_lemma => kernel_rfl) (fun _ _ _ h => h) (Or.inr ⟨by rfl, rfl⟩) ?_
        simp only [Act.put, List.setIfInBounds_toArray, List.set_cons_zero, List.set_cons_succ]
        refine anyS_take (i := 16) (oi := Oper.mk (some 99) _ _ _ _ _) (v := undef) rfl (by as_aux_lemma => kernel_rfl) (by as_aux_lemma => kernel_rfl) (by as_aux_lemma => kernel_rfl) (fun _ _ _ h => h) (Or.inr ⟨by rfl, rfl⟩) ?_
        simp only [Act.put, List.setIfInBounds_toArray, List.set_cons_zero, List.set_cons_succ]
        refine anyS_take (i := 17) (oi := Oper.mk (some 100) _ _ _ _ _) (v := undef) rfl (by as_aux_lemma => kernel_rfl) (by as_aux_lemma => kernel_rfl) (by as_aux_lemma => kernel_rfl) (fun _ _ _ h => h) (Or.inr ⟨by rfl, rfl⟩) ?_
        simp only [Act.put, List.setIfInBounds_toArray, List.set_cons_zero, List.set_cons_succ]
        refine anyS_take (i := 18) (oi := Oper.mk (some 101) _ _ _ _ _) (v := undef) rfl (by as_aux_lemma => kernel_rfl) (by as_aux_lemma => kernel_rfl) (by as_aux_lemma => kernel_rfl) (fun _ _ _ h => h) (Or.inr ⟨by rfl, rfl⟩) ?_
        simp only [Act.put, List.setIfInBounds_toArray, List.set_cons_zero, List.set_cons_succ]
        refine anyS_take (i := 19) (oi := Oper.mk (some 102) _ _ _ _ _) (v := undef) rfl (by as_aux_lemma => kernel_rfl) (by as_aux_lemma => kernel_rfl) (by as_aux_lemma => kernel_rfl) (fun _ _ _ h => h) (Or.inr ⟨by rfl, rfl⟩) ?_
        simp only [Act.put, List.setIfInBounds_toArray, List.set_cons_zero, List.set_cons_succ]
        refine anyS_take (i := 20) (oi := Oper.mk (some 103) _ _ _ _ _) (v := undef) rfl (by as_aux_lemma => kernel_rfl) (by as_aux_lemma => kernel_rfl) (by as_aux_lemma => kernel_rfl) (fun _ _ _ h => h) (Or.inr ⟨by rfl, rfl⟩) ?_
        simp only [Act.put, List.setIfInBounds_toArray, List.set_cons_zero, List.set_cons_succ]
        refine anyS_take (i := 21) (oi := Oper.mk (some 104) _ _ _ _ _) (v := undef) rfl (by as_aux_lemma => kernel_rfl) (by as_aux_lemma => kernel_rfl) (by as_aux_lemma => kernel_rfl) (fun _ _ _ h => h) (Or.inr ⟨by rfl, rfl⟩) ?_
        simp only [Act.put, List.setIfInBounds_toArray, List.set_cons_zero, List.set_cons_succ]
        refine anyS_take (i := 22) (oi := Oper.mk (some 105) _ _ _ _ _) (v := ?_) rfl (by as_aux_lemma => kernel_rfl) (by as_aux_lemma => kernel_rfl) (by as_aux_lemma => kernel_rfl) (fun _ _ _ h => h) (Or.inl ⟨by rfl, ?_⟩) ?_
        rotate_left
        · (intro w hSw; obtain ⟨s1, s2, -⟩ := hSw; go_simp <;> with_reducible rfl)
        simp only [Act.put, List.setIfInBounds_toArray, List.set_cons_zero, List.set_cons_succ]
        refine anyS_take (i := 23) (oi := Oper.mk (some 106) _ _ _ _ _) (v := ?_) rfl (by as_aux_lemma => kernel_rfl) (by as_aux_lemma => kernel_rfl) (by as_aux_lemma => kernel_rfl) (fun _ _ _ h => h) (Or.inl ⟨by rfl, ?_⟩) ?_
        rotate_left
        · (intro w hSw; obtain ⟨s1, s2, -⟩ := hSw; go_simp <;> with_reducible rfl)
        simp only [Act.put, List.setIfInBounds_toArray, List.set_cons_zero, List.set_cons_succ]
        refine anyS_done (by as_aux_lemma => kernel_rfl) (fun w7 hSw => ?_) _
        have HPT7 := Lib.hid (HPT6.out.fr0 hSw.2.2)
        clear hSw
        go_wp2_with fail
        go_roundw
        case rel => exact ⟨J, by omega, by go_num, HPT7⟩
        case measure => simp [intOf]; omega
      · have dj : decide (0 < j) = true := decide_eq_true (by omega)
        have dj2 : decide ((0 : Int) < (j : Int)) = true := decide_eq_true (by omega)
        have y2 := G6.out.cell c2 (fun h => h)
        have wi : IntKind.i64.wrap ((j : Int) - 1) = (i : Int) := by rw [ei]; exact IntWalk.i64_in (i : Int) (by omega)
        clear HC c0 c2 ei
        refine wp_region_held_drew (S := SeesK w6 b o j i K K2) (by as_aux_lemma => kernel_rfl) ⟨(Fr.drew S0 _).cell y0 (fun h => h), (Fr.drew S0 _).cell y2 (fun h => h), Fr.drew S0 _⟩ (fun hHeld => ?_)
        refine held_of_any _ _ _ _ hHeld ?_
        clear hHeld y0 y2
        refine anyS_take (i := 0) (oi := Oper.mk (some 83) _ _ _ _ _) (v := ?_) rfl (by as_aux_lemma => kernel_rfl) (by as_aux_lemma => kernel_rfl) (by as_aux_lemma => kernel_rfl) (fun _ _ _ h => h) (Or.inl ⟨by rfl, ?_⟩) ?_
        rotate_left
        · (intro w hSw; obtain ⟨s1, s2, -⟩ := hSw; go_simp <;> with_reducible rfl)
        simp only [Act.put, List.setIfInBounds_toArray, List.set_cons_zero, List.set_cons_succ]
        refine anyS_take (i := 1) (oi := Oper.mk (some 84) _ _ _ _ _) (v := ?_) rfl (by as_aux_lemma => kernel_rfl) (by as_aux_lemma => kernel_rfl) (by as_aux_lemma => kernel_rfl) (fun _ _ _ h => h) (Or.inl ⟨by rfl, ?_⟩) ?_
        rotate_left
        · (intro w hSw; obtain ⟨s1, s2, -⟩ := hSw; go_simp <;> with_reducible rfl)
        simp only [Act.put, List.setIfInBounds_toArray, List.set_cons_zero, List.set_cons_succ]
        refine anyS_take (i := 2) (oi := Oper.mk (some 85) _ _ _ _ _) (v := ?_) rfl (by as_aux_lemma => kernel_rfl) (by as_aux_lemma => kernel_rfl) (by as_aux_lemma => kernel_rfl) (fun _ _ _ h => h) (Or.inl ⟨by rfl, ?_⟩) ?_
        rotate_left
        · (intro w hSw; obtain ⟨s1, s2, -⟩ := hSw; go_simp <;> with_reducible rfl)
        simp only [Act.put, List.setIfInBounds_toArray, List.set_cons_zero, List.set_cons_succ]
        refine anyS_take (i := 3) (oi := Oper.mk (some 86) _ _ _ _ _) (v := ?_) rfl (by as_aux_lemma => kernel_rfl) (by as_aux_lemma => kernel_rfl) (by as_aux_lemma => kernel_rfl) (fun _ _ _ h => h) (Or.inl ⟨by rfl, ?_⟩) ?_
        rotate_left
        · (intro w hSw; obtain ⟨s1, s2, -⟩ := hSw; go_simp <;> with_reducible rfl)
        simp only [Act.put, List.setIfInBounds_toArray, List.set_cons_zero, List.set_cons_succ]
        refine anyS_take (i := 4) (oi := Oper.mk (some 87) _ _ _ _ _) (v := ?_) rfl (by as_aux_lemma => kernel_rfl) (by as_aux_lemma => kernel_rfl) (by as_aux_lemma => kernel_rfl) (fun _ _ _ h => h) (Or.inl ⟨by rfl, ?_⟩) ?_
        rotate_left
        · (intro w hSw; obtain ⟨s1, s2, -⟩ := hSw; go_simp <;> with_reducible rfl)
        simp only [Act.put, List.setIfInBounds_toArray, List.set_cons_zero, List.set_cons_succ]
        refine anyS_take (i := 5) (oi := Oper.mk (some 88) _ _ _ _ _) (v := ?_) rfl (by as_aux_lemma => kernel_rfl) (by as_aux_lemma => kernel_rfl) (by as_aux_lemma => kernel_rfl) (fun _ _ _ h => h) (Or.inl ⟨by rfl, ?_⟩) ?_
        rotate_left
        · (intro w hSw; obtain ⟨s1, s2, -⟩ := hSw; go_simp <;> with_reducible rfl)
        simp only [Act.put, List.setIfInBounds_toArray, List.set_cons_zero, List.set_cons_succ]
        refine anyS_call 16 #[.slice q m d, .int .u64 (R : Nat)] (i := 6) (oi := Oper.mk (some 89) _ _ _ _ _) (v := .int .i64 K') rfl (by as_aux_lemma => kernel_rfl) (by as_aux_lemma => kernel_rfl) (by as_aux_lemma => kernel_rfl) (fun _ _ _ h => h) (by rfl) (fun w => ?_) (fun w hSw => ?_) ?_
        · first | rfl | (go_simp; done) | (go_simp; rfl)
        · exact (HRKj.out w (HPT6.out.fr.trans0 hSw.2.2)).mono fun e w2 he => ⟨he.1, hSw.to he.2⟩
        simp only [Act.put, List.setIfInBounds_toArray, List.set_cons_zero, List.set_cons_succ]
        refine anyS_take (i := 7) (oi := Oper.mk (some 90) _ _ _ _ _) (v := ?_) rfl (by as_aux_lemma => kernel_rfl) (by as_aux_lemma => kernel_rfl) (by as_aux_lemma => kernel_rfl) (fun _ _ _ h => h) (Or.inl ⟨by rfl, ?_⟩) ?_
        rotate_left
        · (intro w hSw; obtain ⟨s1, s2, -⟩ := hSw; go_simp <;> with_reducible rfl)
        simp only [Act.put, List.setIfInBounds_toArray, List.set_cons_zero, List.set_cons_succ]
        refine anyS_take (i := 8) (oi := Oper.mk (some 91) _ _ _ _ _) (v := ?_) rfl (by as_aux_lemma => kernel_rfl) (by as_aux_lemma => kernel_rfl) (by as_aux_lemma => kernel_rfl) (fun _ _ _ h => h) (Or.inl ⟨by rfl, ?_⟩) ?_
        rotate_left
        · (intro w hSw; obtain ⟨s1, s2, -⟩ := hSw; go_simp <;> with_reducible rfl)
        simp only [Act.put, List.setIfInBounds_toArray, List.set_cons_zero, List.set_cons_succ]
        refine anyS_take (i := 9) (oi := Oper.mk (some 92) _ _ _ _ _) (v := ?_) rfl (by as_aux_lemma => kernel_rfl) (by as_aux_lemma => kernel_rfl) (by as_aux_lemma => kernel_rfl) (fun _ _ _ h => h) (Or.inl ⟨by rfl, ?_⟩) ?_
        rotate_left
        · (intro w hSw; obtain ⟨s1, s2, -⟩ := hSw; go_simp <;> with_reducible rfl)
        simp only [Act.put, List.setIfInBounds_toArray, List.set_cons_zero, List.set_cons_succ]
        refine anyS_take (i := 10) (oi := Oper.mk (some 93) _ _ _ _ _) (v := ?_) rfl (by as_aux_lemma => kernel_rfl) (by as_aux_lemma => kernel_rfl) (by as_aux_lemma => kernel_rfl) (fun _ _ _ h => h) (Or.inl ⟨by rfl, ?_⟩) ?_
        rotate_left
        · (intro w hSw; obtain ⟨s1, s2, -⟩ := hSw; go_simp <;> with_reducible rfl)
        simp only [Act.put, List.setIfInBounds_toArray, List.set_cons_zero, List.set_cons_succ]
        refine anyS_take (i := 11) (oi := Oper.mk (some 94) _ _ _ _ _) (v := ?_) rfl (by as_aux_lemma => kernel_rfl) (by as_aux_lemma => kernel_rfl) (by as_aux_lemma => kernel_rfl) (fun _ _ _ h => h) (Or.inl ⟨by rfl, ?_⟩) ?_
        rotate_left
        · (intro w hSw; obtain ⟨s1, s2, -⟩ := hSw; go_simp <;> with_reducible rfl)
        simp only [Act.put, List.setIfInBounds_toArray, List.set_cons_zero, List.set_cons_succ]
        refine anyS_take (i := 12) (oi := Oper.mk (some 95) _ _ _ _ _) (v := ?_) rfl (by as_aux_lemma => kernel_rfl) (by as_aux_lemma => kernel_rfl) (by as_aux_lemma => kernel_rfl) (fun _ _ _ h => h) (Or.inl ⟨by rfl, ?_⟩) ?_
        rotate_left
        · (intro w hSw; obtain ⟨s1, s2, -⟩ := hSw; go_simp <;> with_reducible rfl)
        simp only [Act.put, List.setIfInBounds_toArray, List.set_cons_zero, List.set_cons_succ]
        refine anyS_take (i := 13) (oi := Oper.mk (some 96) _ _ _ _ _) (v := ?_) rfl (by as_aux_lemma => kernel_rfl) (by as_aux_lemma => kernel_rfl) (by as_aux_lemma => kernel_rfl) (fun _ _ _ h => h) (Or.inl ⟨by rfl, ?_⟩) ?_
        rotate_left
        · (intro w hSw; obtain ⟨s1, s2, -⟩ := hSw; go_simp <;> with_reducible rfl)
        simp only [Act.put, List.setIfInBounds_toArray, List.set_cons_zero, List.set_cons_succ]
        refine anyS_take (i := 14) (oi := Oper.mk (some 97) _ _ _ _ _) (v := ?_) rfl (by as_aux_lemma => kernel_rfl) (by as_aux_lemma => kernel_rfl) (by as_aux_lemma => kernel_rfl) (fun _ _ _ h => h) (Or.inl ⟨by rfl, ?_⟩) ?_
        rotate_left
        · (intro w hSw; obtain ⟨s1, s2, -⟩ := hSw; go_simp <;> with_reducible rfl)
        simp only [Act.put, List.setIfInBounds_toArray, List.set_cons_zero, List.set_cons_succ]
        refine anyS_take (i := 15) (oi := Oper.mk (some 98) _ _ _ _ _) (v := ?_) rfl (by as_aux_lemma => kernel_rfl) (by as_aux_lemma => kernel_rfl) (by as_aux_lemma => kernel_rfl) (fun _ _ _ h => h) (Or.inl ⟨by rfl, ?_⟩) ?_
        rotate_left
        · (intro w hSw; obtain ⟨s1, s2, -⟩ := hSw; go_simp <;> with_reducible rfl)
        simp only [Act.put, List.setIfInBounds_toArray, List.set_cons_zero, List.set_cons_succ]
        refine anyS_take (i := 16) (oi := Oper.mk (some 99) _ _ _ _ _) (v := ?_) rfl (by as_aux_lemma => kernel_rfl) (by as_aux_lemma => kernel_rfl) (by as_aux_lemma => kernel_rfl) (fun _ _ _ h => h) (Or.inl ⟨by rfl, ?_⟩) ?_
        rotate_left
        · (intro w hSw; obtain ⟨s1, s2, -⟩ := hSw; go_simp <;> with_reducible rfl)
        simp only [Act.put, List.setIfInBounds_toArray, List.set_cons_zero, List.set_cons_succ]
        refine anyS_take (i := 17) (oi := Oper.mk (some 100) _ _ _ _ _) (v := ?_) rfl (by as_aux_lemma => kernel_rfl) (by as_aux_lemma => kernel_rfl) (by as_aux_lemma => kernel_rfl) (fun _ _ _ h => h) (Or.inl ⟨by rfl, ?_⟩) ?_
        rotate_left
        · (intro w hSw; obtain ⟨s1, s2, -⟩ := hSw; go_simp <;> with_reducible rfl)
        simp only [Act.put, List.setIfInBounds_toArray, List.set_cons_zero, List.set_cons_succ]
        refine anyS_take (i := 18) (oi := Oper.mk (some 101) _ _ _ _ _) (v := ?_) rfl (by as_aux_lemma => kernel_rfl) (by as_aux_lemma => kernel_rfl) (by as_aux_lemma => kernel_rfl) (fun _ _ _ h => h) (Or.inl ⟨by rfl, ?_⟩) ?_
        rotate_left
        · (intro w hSw; obtain ⟨s1, s2, -⟩ := hSw; go_simp <;> with_reducible rfl)
        simp only [Act.put, List.setIfInBounds_toArray, List.set_cons_zero, List.set_cons_succ]
        refine anyS_take (i := 19) (oi := Oper.mk (some 102) _ _ _ _ _) (v := ?_) rfl (by as_aux_lemma => kernel_rfl) (by as_aux_lemma => kernel_rfl) (by as_aux_lemma => kernel_rfl) (fun _ _ _ h => h) (Or.inl ⟨by rfl, ?_⟩) ?_
        rotate_left
        · (intro w hSw; obtain ⟨s1, s2, -⟩ := hSw; go_simp <;> with_reducible rfl)
        simp only [Act.put, List.setIfInBounds_toArray, List.set_cons_zero, List.set_cons_succ]
        refine anyS_take (i := 20) (oi := Oper.mk (some 103) _ _ _ _ _) (v := ?_) rfl (by as_aux_lemma => kernel_rfl) (by as_aux_lemma => kernel_rfl) (by as_aux_lemma => kernel_rfl) (fun _ _ _ h => h) (Or.inl ⟨by rfl, ?_⟩) ?_
        rotate_left
        · (intro w hSw; obtain ⟨s1, s2, -⟩ := hSw; go_simp <;> with_reducible rfl)
        simp only [Act.put, List.setIfInBounds_toArray, List.set_cons_zero, List.set_cons_succ]
        refine anyS_take (i := 21) (oi := Oper.mk (some 104) _ _ _ _ _) (v := ?_) rfl (by as_aux_lemma => kernel_rfl) (by as_aux_lemma => kernel_rfl) (by as_aux_lemma => kernel_rfl) (fun _ _ _ h => h) (Or.inl ⟨by rfl, ?_⟩) ?_
        rotate_left
        · (intro w hSw; obtain ⟨s1, s2, -⟩ := hSw; go_simp <;> with_reducible rfl)
        simp only [Act.put, List.setIfInBounds_toArray, List.set_cons_zero, List.set_cons_succ]
        refine anyS_take (i := 22) (oi := Oper.mk (some 105) _ _ _ _ _) (v := ?_) rfl (by as_aux_lemma => kernel_rfl) (by as_aux_lemma => kernel_rfl) (by as_aux_lemma => kernel_rfl) (fun _ _ _ h => h) (Or.inl ⟨by rfl, ?_⟩) ?_
        rotate_left
        · (intro w hSw; obtain ⟨s1, s2, -⟩ := hSw; go_simp <;> with_reducible rfl)
        simp only [Act.put, List.setIfInBounds_toArray, List.set_cons_zero, List.set_cons_succ]
        refine anyS_take (i := 23) (oi := Oper.mk (some 106) _ _ _ _ _) (v := ?_) rfl (by as_aux_lemma => kernel_rfl) (by as_aux_lemma => kernel_rfl) (by as_aux_lemma => kernel_rfl) (fun _ _ _ h => h) (Or.inl ⟨by rfl, ?_⟩) ?_
        rotate_left
        · (intro w hSw; obtain ⟨s1, s2, -⟩ := hSw; go_simp <;> with_reducible rfl)
        simp only [Act.put, List.setIfInBounds_toArray, List.set_cons_zero, List.set_cons_succ]
        refine anyS_done (by as_aux_lemma => kernel_rfl) (fun w7 hSw => ?_) _
        have HPT7 := Lib.hid (HPT6.out.fr0 hSw.2.2)
        clear hSw
        go_wp2_with fail
        go_roundw
        case rel => exact ⟨J, by omega, by go_num, HPT7⟩
        case measure => simp [intOf]; omega
    · obtain rfl : j = M := by omega
      have HE := Lib.hid hpt.out.fr
      clear hpt
      go_wp2_with fail
      go_ret
      exact ⟨rfl, HF3.out.trans0 HE.out⟩
end Go.Proofs.Ytegdhggilaehdaa
