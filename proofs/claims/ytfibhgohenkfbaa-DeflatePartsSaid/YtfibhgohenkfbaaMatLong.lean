/- The longest of all places where a text's bytes stood already. -/
import Derived.Test.YtfibhgohenkfbaaMatPast
import Derived.Laws.Cover3
namespace Go.Proofs.Ytfibhgohenkfbaa.M
open Go.RowKit Go.MapKept

theorem gap (b : List Nat) (k x y z : Nat) (L : List Nat) (hL : lst b k x y z = L) (hx : b.getD k 0 = x) (hy : b.getD (k + 1) 0 = y) (hz : b.getD (k + 2) 0 = z) (h3 : k + 3 ≤ b.length) (i : Nat) (hi : i < k) (hn : i ∉ L) : run b i k 258 ≤ 2 := by
  refine run_short b i k fun h => hn ?_
  rw [← hL, lst_mem]
  exact ⟨hi, by omega, by rw [h.1, hx], by rw [h.2.1, hy], by rw [h.2.2, hz]⟩
theorem lst_gap (L : List Nat) (hs : L.Pairwise (· < ·)) (k i0 i : Nat) (h0 : i0 < L.length) (h1 : L[i0] < i) (h2 : i < L.getD (i0 + 1) k) : i ∉ L := by
  intro hm
  obtain ⟨j, hj, rfl⟩ := List.mem_iff_getElem.1 hm
  have hp := List.pairwise_iff_getElem.1 hs
  rcases Nat.lt_trichotomy j i0 with h | h | h
  · have := hp j i0 hj h0 h; omega
  · subst h; omega
  · by_cases e : j = i0 + 1
    · subst e
      simp [hj] at h2
    · have h3 : i0 + 1 < L.length := by omega
      have := hp (i0 + 1) j h3 hj (by omega)
      simp [h3] at h2
      omega
theorem lst_first (L : List Nat) (hs : L.Pairwise (· < ·)) (k i : Nat) (h2 : i < L.getD 0 k) : i ∉ L := by
  intro hm
  obtain ⟨j, hj, rfl⟩ := List.mem_iff_getElem.1 hm
  have hp := List.pairwise_iff_getElem.1 hs
  have h0 : 0 < L.length := by omega
  simp only [List.getD_eq_getElem?_getD, List.getElem?_eq_getElem h0, Option.getD_some] at h2
  by_cases e : j = 0
  · subst e; omega
  · have := hp 0 j h0 hj (by omega)
    omega
theorem long_stop (b : List Nat) (k P J : Nat) (h : P ≤ J) (hJ : J ≤ k) (hle : ∀ i, i < k - P → k ≤ i + J → run b i k 258 ≤ (nrm (bst b k P)).1) : nrm (bst b k J) = nrm (bst b k P) :=
  nrm_stop b k P J h fun j h1 h2 => hle _ (by omega) (by omega)
theorem run_e (b : List Nat) (i k e : Nat) (he : min 258 (b.length - k) = e) (hk : k < b.length) : run b i k e = run b i k 258 := by
  by_cases h : e = 258
  · rw [h]
  · exact run_cap b 258 e i k (by omega) (.inl (by omega))
theorem run_le_e (b : List Nat) (i k e : Nat) (he : min 258 (b.length - k) = e) (hk : k < b.length) : run b i k 258 ≤ e := by
  rw [← run_e b i k e he hk]
  exact run_le b e i k
theorem long_next (b : List Nat) (k P t S e : Nat) (hP : P + t < k) (hgap : ∀ i, t < i → i < k - P → run b i k 258 ≤ 2) (hS : (nrm (bst b k P)).1 = S) (he : min 258 (b.length - k) = e) (hk : k < b.length) :
    nrm (bst b k (k - t)) = if S < sam b t k S e then (sam b t k S e, k - t) else nrm (bst b k P) := by
  have h1 := long_stop b k P (k - 1 - t) (by omega) (by omega) fun i h2 h3 => Nat.le_trans (hgap i (by omega) h2) (nrm_ge _)
  rw [show k - t = (k - 1 - t) + 1 by omega, nrm_step, h1, hS, show k - 1 - (k - 1 - t) = t by omega]
  have hc : k - 1 - t + 1 = k - t := by omega
  by_cases h : b.getD (t + S) 0 = b.getD (k + S) 0
  · have e1 : sam b t k S e = run b t k 258 := by unfold sam; rw [if_pos h, run_e b t k e he hk]
    rw [e1, hc]
  · have e1 : sam b t k S e = 0 := by unfold sam; rw [if_neg h]
    have h2 : ¬ S < run b t k 258 := fun h3 => h (run_all b 258 t k S h3).2
    rw [e1, if_neg h2, if_neg (by omega)]
theorem nrm_zero (b : List Nat) (k : Nat) : nrm (bst b k 0) = (2, 0) := rfl

set_option maxRecDepth 100000 in
set_option maxHeartbeats 2000000 in
theorem longest_any (a bm : Nat) (p : Option Addr) (c : Nat) (b : List Nat) (k : Nat) (T : Nat → Prop) (es : Array MapEntry) (clock : Nat) (w : World) (h : PastIs w a bm p c b k) (hg : Grp w bm T (lst b k) es clock) (hk : k < b.length) :
    Calls Try.prog 63 #[.pointer (some ⟨a, 0, none⟩)] w fun r w' => r = .returned (.tuple #[.int .i64 ((nrm (bst b k (min k 32768))).1 : Nat), .int .i64 ((nrm (bst b k (min k 32768))).2 : Nat)]) ∧ Fr S0 w w' := by
  have H := Lib.hid h
  have hc0 := h.c0
  have hc1 := h.c1
  have hc2 := h.c2
  have hlen := h.len
  have hcap := h.cap
  obtain ⟨m, hm⟩ : ∃ m, b.length = m := ⟨_, rfl⟩
  have HM := Lib.hid hm
  have HG := Lib.hid hg
  rw [hm] at hc0 hlen hcap hk
  clear h hg hm
  by_cases hs : 3 ≤ m - k
  · obtain ⟨B, o, hpe, hx0⟩ := H.out.txt.at k (by rw [HM.out]; omega)
    obtain ⟨B', o', hpe', hx1⟩ := H.out.txt.at (k + 1) (by rw [HM.out]; omega)
    obtain ⟨B'', o'', hpe'', hx2⟩ := H.out.txt.at (k + 2) (by rw [HM.out]; omega)
    rw [hpe] at hpe' hpe''
    obtain ⟨rfl, rfl⟩ : B = B' ∧ o = o' := by simpa using hpe'
    obtain ⟨rfl, rfl⟩ : B = B'' ∧ o = o'' := by simpa using hpe''
    subst hpe
    have H80 := H.out.small _ (List.getElem_mem (show k < b.length by rw [HM.out]; omega))
    have H81 := H.out.small _ (List.getElem_mem (show k + 1 < b.length by rw [HM.out]; omega))
    have H82 := H.out.small _ (List.getElem_mem (show k + 2 < b.length by rw [HM.out]; omega))
    have HX := getD_at b k (by rw [HM.out]; omega)
    have HY := getD_at b (k + 1) (by rw [HM.out]; omega)
    have HZ := getD_at b (k + 2) (by rw [HM.out]; omega)
    obtain ⟨x, hxe⟩ : ∃ x, b[k]'(by rw [HM.out]; omega) = x := ⟨_, rfl⟩
    obtain ⟨y, hye⟩ : ∃ y, b[k + 1]'(by rw [HM.out]; omega) = y := ⟨_, rfl⟩
    obtain ⟨z, hze⟩ : ∃ z, b[k + 2]'(by rw [HM.out]; omega) = z := ⟨_, rfl⟩
    rw [hxe] at hx0 HX H80
    rw [hye] at hx1 HY H81
    rw [hze] at hx2 HZ H82
    obtain ⟨v, hown, hlook⟩ := HG.out.look x y z H80 H81 H82
    obtain ⟨L, hL⟩ : ∃ L, lst b k x y z = L := ⟨_, rfl⟩
    rw [hL] at hown
    obtain ⟨n, hn⟩ : ∃ n, L.length = n := ⟨_, rfl⟩
    rw [hn] at hown
    obtain ⟨q, d, rfl, -, hnd, hdm⟩ := slForm hown
    have HLK : ∀ j, (Instr.lookup 70 (.map (some bm)) (.agg #[.int .u8 (x : Int), .int .u8 (y : Int), .int .u8 (z : Int)]) false).run Try.prog (w.drewN j) = .ok (.slice q n d) (w.drewN j) := fun j => hlook _ HG.out.row
    have HOWN := Lib.hid hown
    have HLL := Lib.hid hL
    have HN := Lib.hid hn
    have hnk : n ≤ k := by rw [← hn, ← hL]; exact lst_len b k x y z
    clear hpe' hpe'' hxe hye hze hlook hown hL hn
    obtain ⟨e, he⟩ : ∃ e, min 258 (m - k) = e := ⟨_, rfl⟩
    have HE := Lib.hid he
    have r1 : (k : Int) ≤ (m : Int) := by omega
    have r2 : (m : Int) ≤ (c : Int) := by omega
    have r3 : ¬ c = k := by omega
    have r4 : ¬ m - k < 3 := by omega
    have hat : ∀ w : World, (Instr.arrayAt 95 (.slice (some ⟨B, o + k, none⟩) (m - k) (c - k))).run Try.prog w = .ok (.pointer (some ⟨B, o + k, none⟩)) w := fun w => run_arrayAt w _ _ 3 _ _ _ Try.underlying95 hs
    have hx1' : w.cell? ⟨B, o + k + 1, none⟩ = some (.int .u8 (y : Int)) := hx1
    have hx2' : w.cell? ⟨B, o + k + 2, none⟩ = some (.int .u8 (z : Int)) := hx2
    have r5 : ¬ (e : Int) < 3 := by omega
    have HL2 : Hid (L.Pairwise (· < ·)) := Lib.hid (by rw [← HLL.out]; exact lst_sorted b k x y z)
    have HLT : Hid (∀ t ∈ L, t < k) := Lib.hid (fun t ht => by rw [← HLL.out, lst_mem] at ht; exact ht.1)
    have HGAP : Hid (∀ i, i < k → i ∉ L → run b i k 258 ≤ 2) := Lib.hid (fun i h1 h2 => gap b k x y z L HLL.out HX HY HZ (by rw [HM.out]; omega) i h1 h2)
    have HTOP : Hid (∀ i, run b i k 258 ≤ e) := Lib.hid (fun i => run_le_e b i k e (by rw [HM.out]; exact HE.out) (by rw [HM.out]; exact hk))
    have HSL := Lib.hid (SlI.ofOwns (l := L) HOWN.out)
    have emin : (if ((m : Int) - (k : Int)) < 258 then ((m : Int) - (k : Int)) else 258) = (e : Int) := by split <;> omega
    clear hx1 hx2 he
    go_enter Try.func63, Try.ntmps63
    go_wp2_with fail
    go_quiet (fail)
    go_wp2_with fail
    go_quiet (fail)
    go_wp2_with fail
    go_loopw [4, 5, 8, 9] (fun s u i _ wr => ∃ N S D : Nat, N ≤ n ∧ i = .int .i64 ((N : Int) - 1) ∧ s = .int .i64 S ∧ u = .int .i64 D ∧ nrm (bst b k (k - L.getD N k)) = (S, D) ∧ (N < n → k ≤ L.getD N k + 32768) ∧ Fr S0 w wr) (fun _ _ i _ _ => (intOf i + 1).toNat)
    case atStart => exact ⟨n, 2, 0, by omega, by simp, rfl, rfl, by rw [show L.getD n k = k by simp [HN.out]]; simp [nrm_zero], fun h => by omega, Fr.drewN _ _ _⟩
    case round =>
      obtain ⟨N, S, D, hN, rfl, rfl, rfl, hst, hfar, hfr⟩ := hrel
      have H1 := H.out.fr0 hfr
      have hc0 := H1.c0
      have hc1 := H1.c1
      rw [HM.out] at hc0
      have HFR := Lib.hid hfr
      have HST := Lib.hid hst
      have HFAR := Lib.hid hfar
      clear hst hfar hfr
      cases N with
      | zero =>
        have HR : Hid (nrm (bst b k (min k 32768)) = (S, D)) := Lib.hid (by
          have hf := HFAR.out
          have h1 := HST.out
          by_cases h0 : 0 < n
          · have h2 := hf h0
            have h3 := HLT.out (L.getD 0 k) (by simp [show 0 < L.length by rw [HN.out]; exact h0])
            rw [← h1, long_stop b k (k - L.getD 0 k) (min k 32768) (by omega) (by omega) fun i h4 _ => ?_]
            exact Nat.le_trans (HGAP.out i (by omega) (lst_first L HL2.out k i (by omega))) (nrm_ge _)
          · have h2 : L.getD 0 k = k := by simp [List.eq_nil_of_length_eq_zero (show L.length = 0 by rw [HN.out]; omega)]
            rw [h2] at h1
            rw [← h1, long_stop b k (k - k) (min k 32768) (by omega) (by omega) fun i h4 _ => ?_]
            exact Nat.le_trans (HGAP.out i (by omega) (lst_first L HL2.out k i (by omega))) (nrm_ge _))
        go_wp2_with fail
        go_quiet (fail)
        go_wp2
        go_ret2
        exact ⟨congrArg (fun r : Nat × Nat => Ending.returned (Value.tuple #[.int .i64 (r.1 : Int), .int .i64 (r.2 : Int)])) HR.out.symm, HFR.out.trans0 (Fr.drewN _ _ _)⟩
      | succ N =>
        have ei : (((N + 1 : Nat) : Int) - 1) = (N : Int) := by omega
        rw [ei]
        have hNL : N < L.length := by rw [HN.out]; omega
        obtain ⟨B2, o2, rfl, hcl⟩ := (HSL.out.fr0 HFR.out).at N hNL
        have HLN : Hid (L.getD N k = L[N]) := Lib.hid (by simp [hNL])
        have htk := HLT.out _ (List.getElem_mem hNL)
        have HGN : Hid (∀ i, L[N] < i → i < L.getD (N + 1) k → run b i k 258 ≤ 2) := Lib.hid (fun i h1 h2 => by
          by_cases h3 : i < k
          · exact HGAP.out i h3 (lst_gap L HL2.out k N i hNL h1 h2)
          · by_cases h4 : N + 1 < L.length
            · have := HLT.out (L.getD (N + 1) k) (by simp [h4])
              omega
            · have : L.getD (N + 1) k = k := by simp [List.getElem?_eq_none (Nat.le_of_not_lt h4)]
              omega)
        have HPT : Hid (k - L.getD (N + 1) k + L[N] < k ∧ k - (k - L.getD (N + 1) k) = L.getD (N + 1) k) := Lib.hid (by
          by_cases h4 : N + 1 < L.length
          · have h5 := HLT.out (L.getD (N + 1) k) (by simp [h4])
            have h6 := List.pairwise_iff_getElem.1 HL2.out N (N + 1) hNL h4 (by omega)
            have h7 : L.getD (N + 1) k = L[N + 1] := by simp [h4]
            omega
          · have : L.getD (N + 1) k = k := by simp [List.getElem?_eq_none (Nat.le_of_not_lt h4)]
            omega)
        obtain ⟨t, ht⟩ : ∃ t, L[N] = t := ⟨_, rfl⟩
        rw [ht] at hcl htk
        have HLN2 : Hid (L.getD N k = t) := Lib.hid (by rw [HLN.out, ht])
        have HGN2 : Hid (∀ i, t < i → i < L.getD (N + 1) k → run b i k 258 ≤ 2) := Lib.hid (by rw [← ht]; exact HGN.out)
        have HPT2 : Hid (k - L.getD (N + 1) k + t < k ∧ k - (k - L.getD (N + 1) k) = L.getD (N + 1) k) := Lib.hid (by rw [← ht]; exact HPT.out)
        clear HLN HGN HPT ht hNL
        have q1 : (N : Int) < (n : Int) := by omega
        by_cases hf : (k : Int) - (t : Int) ≤ 32768
        · by_cases hS : (S : Int) < (e : Int)
          · have HNX : Hid (nrm (bst b k (k - t)) = if S < sam b t k S e then (sam b t k S e, k - t) else (S, D)) := Lib.hid (by
              have h1 := long_next b k (k - L.getD (N + 1) k) t S e HPT2.out.1 (fun i h2 h3 => HGN2.out i h2 (by rw [HPT2.out.2] at h3; exact h3)) (by rw [HST.out]) (by rw [HM.out]; exact HE.out) (by rw [HM.out]; exact hk)
              rw [HST.out] at h1
              exact h1)
            obtain ⟨r, hr⟩ : ∃ r, sam b t k S e = r := ⟨_, rfl⟩
            rw [hr] at HNX
            by_cases hrs : (S : Int) < (r : Int)
            · have HNX2 : Hid (nrm (bst b k (k - L.getD N k)) = (r, k - t)) := Lib.hid (by rw [HLN2.out, HNX.out, if_pos (by omega)])
              have HFF : Hid (k ≤ L.getD N k + 32768) := Lib.hid (by rw [HLN2.out]; omega)
              go_wp2_with fail
              go_quiet (fail)
              go_wp2_with fail
              go_wp2_with (go_at_call 83; refine (same_any a bm _ c b k t S e _ (H1.fr0 (Fr.drewN _ _ _)) htk (by omega) (by rw [HM.out]; omega)).mono ?_; rintro _ w1 ⟨rfl, hf1⟩)
              have HF1 := Lib.hid ((HFR.out.trans0 (Fr.drewN _ _ _)).trans0 hf1)
              have H2 := H.out.fr0 HF1.out
              have hd0 := H2.c0
              have hd1 := H2.c1
              rw [HM.out] at hd0
              have hcl1 := (HFR.out.trans0 (Fr.drewN _ _ _)).trans0 hf1
              obtain ⟨B3, o3, he3, hcl3⟩ := (HSL.out.fr0 HF1.out).at N (by rw [HN.out]; omega)
              obtain ⟨rfl, rfl⟩ : B2 = B3 ∧ o2 = o3 := by simpa using he3
              have hcl4 : w1.cell? ⟨B2, o2 + N, none⟩ = some (.int .i64 (t : Int)) := by rw [hcl3, ← HLN2.out]; simp [show N < L.length by rw [HN.out]; omega]
              clear hf1 hcl1 he3 hcl3
              go_quiet (fail)
              go_wp2_with fail
              go_roundw
              case rel => exact ⟨N, r, k - t, by omega, rfl, rfl, by congr 1; omega, HNX2.out, fun _ => HFF.out, HF1.out.trans0 (Fr.drewN _ _ _)⟩
              case measure => simp [intOf]
            · have HNX2 : Hid (nrm (bst b k (k - L.getD N k)) = (S, D)) := Lib.hid (by rw [HLN2.out, HNX.out, if_neg (by omega)])
              have HFF : Hid (k ≤ L.getD N k + 32768) := Lib.hid (by rw [HLN2.out]; omega)
              go_wp2_with fail
              go_quiet (fail)
              go_wp2_with fail
              go_wp2_with (go_at_call 83; refine (same_any a bm _ c b k t S e _ (H1.fr0 (Fr.drewN _ _ _)) htk (by omega) (by rw [HM.out]; omega)).mono ?_; rintro _ w1 ⟨rfl, hf1⟩)
              have HF1 := Lib.hid ((HFR.out.trans0 (Fr.drewN _ _ _)).trans0 hf1)
              have H2 := H.out.fr0 HF1.out
              have hd0 := H2.c0
              have hd1 := H2.c1
              rw [HM.out] at hd0
              have hcl1 := (HFR.out.trans0 (Fr.drewN _ _ _)).trans0 hf1
              obtain ⟨B3, o3, he3, hcl3⟩ := (HSL.out.fr0 HF1.out).at N (by rw [HN.out]; omega)
              obtain ⟨rfl, rfl⟩ : B2 = B3 ∧ o2 = o3 := by simpa using he3
              have hcl4 : w1.cell? ⟨B2, o2 + N, none⟩ = some (.int .i64 (t : Int)) := by rw [hcl3, ← HLN2.out]; simp [show N < L.length by rw [HN.out]; omega]
              clear hf1 hcl1 he3 hcl3
              go_roundw
              case rel => exact ⟨N, S, D, by omega, rfl, rfl, rfl, HNX2.out, fun _ => HFF.out, HF1.out⟩
              case measure => simp [intOf]
          · have HR : Hid (nrm (bst b k (min k 32768)) = (S, D)) := Lib.hid (by
              have h1 := HPT2.out
              have h2 := HST.out
              have h3 := HFAR.out
              have h4 : k - L.getD (N + 1) k ≤ min k 32768 := by
                by_cases h5 : N + 1 < n
                · have := h3 h5; omega
                · have : L.getD (N + 1) k = k := by simp [List.getElem?_eq_none (show L.length ≤ N + 1 by rw [HN.out]; omega)]
                  omega
              rw [← h2, long_stop b k (k - L.getD (N + 1) k) (min k 32768) h4 (by omega) fun i _ _ => ?_]
              rw [h2]
              have := HTOP.out i
              omega)
            have hd : decide (S < e) = false := decide_eq_false (by omega)
            go_wp2_with fail
            go_quiet (fail)
            go_wp2
            go_ret2
            exact ⟨congrArg (fun r : Nat × Nat => Ending.returned (Value.tuple #[.int .i64 (r.1 : Int), .int .i64 (r.2 : Int)])) HR.out.symm, HFR.out.trans0 (Fr.drewN _ _ _)⟩
        · have HR : Hid (nrm (bst b k (min k 32768)) = (S, D)) := Lib.hid (by
            have h1 := HPT2.out
            have h2 := HST.out
            have h3 := HFAR.out
            have h4 : k - L.getD (N + 1) k ≤ min k 32768 := by
              by_cases h5 : N + 1 < n
              · have := h3 h5; omega
              · have : L.getD (N + 1) k = k := by simp [List.getElem?_eq_none (show L.length ≤ N + 1 by rw [HN.out]; omega)]
                omega
            rw [← h2, long_stop b k (k - L.getD (N + 1) k) (min k 32768) h4 (by omega) fun i h5 h6 => ?_]
            exact Nat.le_trans (HGN2.out i (by omega) (by omega)) (nrm_ge _))
          have hd : decide ((k : Int) - (t : Int) ≤ 32768) = false := decide_eq_false hf
          go_wp2_with fail
          go_quiet (fail)
          go_wp2
          go_ret2
          exact ⟨congrArg (fun r : Nat × Nat => Ending.returned (Value.tuple #[.int .i64 (r.1 : Int), .int .i64 (r.2 : Int)])) HR.out.symm, HFR.out.trans0 (Fr.drewN _ _ _)⟩
  · have HR : Hid (nrm (bst b k (min k 32768)) = (2, 0)) := Lib.hid (by
      rw [← nrm_zero b k, long_stop b k 0 (min k 32768) (by omega) (by omega) fun i _ _ => ?_]
      have := run_le_e b i k _ rfl (by rw [HM.out]; exact hk)
      rw [nrm_zero]
      rw [HM.out] at this
      omega)
    have emin : (if ((m : Int) - (k : Int)) < 258 then ((m : Int) - (k : Int)) else 258) = ((m - k : Nat) : Int) := by split <;> omega
    obtain ⟨e, he⟩ : ∃ e, m - k = e := ⟨_, rfl⟩
    rw [he] at emin
    have r5 : (e : Int) < 3 := by omega
    go_enter Try.func63, Try.ntmps63
    go_wp2_with fail
    go_quiet (fail)
    go_wp2
    go_ret2
    exact ⟨congrArg (fun r : Nat × Nat => Ending.returned (Value.tuple #[.int .i64 (r.1 : Int), .int .i64 (r.2 : Int)])) HR.out.symm, Fr.drewN _ _ _⟩
end Go.Proofs.Ytfibhgohenkfbaa.M
