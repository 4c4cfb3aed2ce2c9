/- The law on how long the best stream is. -/
import Derived.Test.YtfibhgohenkfbaaDefAlive
namespace Go.Proofs.Ytfibhgohenkfbaa
open Go.RowKit

theorem make_big (w : World) (n : Nat) (hn : n ≤ 100000) : (Instr.makeSlice 22 (.int .i64 (n : Nat)) (.int .i64 (n : Nat))).run Try.prog w = .ok (.slice (some ⟨w.heap.size, 0, none⟩) n n) (w.alloc (.cells (zers .u8 n) 5)) := by
  obtain ⟨i, hi, hz, hs, hb⟩ := info_parts info_u8
  have := run_make w 22 5 i _ Try.underlying22 hi hz .i64 .i64 (n : Int) (n : Int) (by omega) (by omega) (by rw [hb]; omega) (by omega)
  rw [this, hs, Nat.mul_one, Int.toNat_natCast]
  rfl
theorem zer_get (m i : Nat) : (List.replicate m 0).getD i 0 = 0 := by
  simp only [List.getD, List.getElem?_replicate]
  split <;> rfl
/-- bytes that are alike: the nearest run is as long as any -/
theorem zer_run (m k : Nat) (hk : k ≤ m) (i : Nat) : M.run (List.replicate m 0) i k 258 = min 258 (m - k) := by
  refine M.run_unique _ 258 i k _ (by omega) (fun j hj => ⟨by rw [List.length_replicate]; omega, by rw [zer_get, zer_get]⟩) (fun h => ?_)
  rw [List.length_replicate]
  rintro ⟨h1, -⟩
  omega
theorem zer_tok (m k : Nat) (h0 : 0 < k) (hk : k < m) : M.tok (List.replicate m 0) k = if 3 ≤ m - k then (0, min 258 (m - k), 1) else (0, 0, 0) := by
  rcases M.tok_is (List.replicate m 0) k (by rw [List.length_replicate]; exact hk) with ⟨e, h⟩ | ⟨s, d, e, h3, h258, hd, hdk, hd2, hks, hrun, hall, hnear⟩
  · have := h (k - 1) (by omega) (by omega)
    rw [zer_run m k (by omega)] at this
    rw [e, zer_get, if_neg (by omega)]
  · rw [List.length_replicate] at hks
    rw [zer_run m k (by omega)] at hrun
    have hd1 : d = 1 := by
      by_cases q : d = 1
      · exact q
      · have := hnear (k - 1) (by omega) (by omega)
        rw [zer_run m k (by omega)] at this
        omega
    rw [e, if_pos (by omega), hrun, hd1]
theorem bits_258 : (tkB (0, 258, 1)).length = 13 := by decide +kernel
theorem bits_0 : (tkB (0, 0, 0)).length = 8 := by decide +kernel
theorem bits_some (s : Nat) : (tkB (0, s, 1)).length ≤ 20 := by
  have e : tkB (0, s, 1) = numB fixLs' (lenS s) s (baseN (lenS s)) (baseC (lenS s)) ++ numB fives (spnS 1) 1 (farN (spnS 1)) (farC (spnS 1)) := by unfold tkB; rw [if_neg (by simp)]
  rw [e, fx_eq]
  have l2 := lenS_le s
  have l5 := fx_len (lenS s) (by omega)
  have l7 := baseN_le (lenS s) l2.1 l2.2
  have e1 : spnS 1 = 0 := by decide +kernel
  rw [List.length_append, numB, numB, List.length_append, List.length_append, code_length, code_length, grp_length, grp_length, e1, fv_len 0 (by decide), show farC 0 = 0 from rfl]
  omega
theorem zer_bits (m : Nat) : ∀ (n k : Nat), 0 < k → m ≤ k + n → (tksB (M.toks (List.replicate m 0) k)).length ≤ 13 * ((m - k) / 258) + (if 3 ≤ (m - k) % 258 then 20 else 8 * ((m - k) % 258))
  | 0, k, _, h => by rw [M.toks_out _ _ (by rw [List.length_replicate]; omega)]; exact Nat.zero_le _
  | n + 1, k, h0, h => by
    by_cases hk : k < m
    · rw [M.toks_in _ _ (by rw [List.length_replicate]; exact hk), zer_tok m k h0 hk]
      by_cases h3 : 3 ≤ m - k
      · rw [if_pos h3]
        have ih := zer_bits m n (k + M.wid (0, min 258 (m - k), 1)) (by omega) (by
          have : M.wid (0, min 258 (m - k), 1) = min 258 (m - k) := rfl
          omega)
        rw [show M.wid (0, min 258 (m - k), 1) = min 258 (m - k) from rfl] at ih
        rw [show tksB ((0, min 258 (m - k), 1) :: M.toks (List.replicate m 0) (k + M.wid (0, min 258 (m - k), 1))) = tkB (0, min 258 (m - k), 1) ++ tksB (M.toks (List.replicate m 0) (k + min 258 (m - k))) from rfl, List.length_append]
        by_cases h258 : 258 ≤ m - k
        · rw [show min 258 (m - k) = 258 by omega] at ih ⊢
          rw [bits_258]
          rw [show m - (k + 258) = m - k - 258 by omega, show (m - k - 258) / 258 = (m - k) / 258 - 1 by omega, show (m - k - 258) % 258 = (m - k) % 258 by omega] at ih
          have : 1 ≤ (m - k) / 258 := by omega
          omega
        · rw [show min 258 (m - k) = m - k by omega] at ih ⊢
          have hb := bits_some (m - k)
          rw [show m - (k + (m - k)) = 0 by omega] at ih
          rw [show (m - k) / 258 = 0 by omega, show (m - k) % 258 = m - k by omega, if_pos h3]
          simp only [Nat.zero_div, Nat.zero_mod, Nat.mul_zero] at ih
          rw [if_neg (by omega)] at ih
          omega
      · rw [if_neg h3]
        have ih := zer_bits m n (k + M.wid (0, 0, 0)) (by omega) (by
          have : M.wid (0, 0, 0) = 1 := rfl
          omega)
        rw [show M.wid (0, 0, 0) = 1 from rfl] at ih
        rw [show tksB ((0, 0, 0) :: M.toks (List.replicate m 0) (k + M.wid (0, 0, 0))) = tkB (0, 0, 0) ++ tksB (M.toks (List.replicate m 0) (k + 1)) from rfl, List.length_append, bits_0]
        rw [show (m - (k + 1)) / 258 = 0 by omega, show (m - (k + 1)) % 258 = m - k - 1 by omega, if_neg (by omega)] at ih
        rw [show (m - k) / 258 = 0 by omega, show (m - k) % 258 = m - k by omega, if_neg h3]
        omega
    · rw [M.toks_out _ _ (by rw [List.length_replicate]; omega)]; exact Nat.zero_le _
theorem zer_fxd (m : Nat) : (fxd (List.replicate m 0)).length ≤ 6 + m / 80 := by
  unfold fxd fxB
  rw [byt_length, List.length_append, List.length_append, code_length, show len fixLs' 256 = 7 by decide +kernel]
  simp only [List.length_cons, List.length_nil]
  cases m with
  | zero =>
    rw [M.toks_out _ _ (by simp)]
    exact (by decide : (0 + 1 + 1 + 1 + (tksB []).length + 7 + 7) / 8 ≤ 6 + 0 / 80)
  | succ m =>
    have e0 : M.tok (List.replicate (m + 1) 0) 0 = (0, 0, 0) := by
      rcases M.tok_is (List.replicate (m + 1) 0) 0 (by simp) with ⟨e, -⟩ | ⟨s, d, e, h3, h258, hd, hdk, -⟩
      · rw [e, zer_get]
      · omega
    rw [M.toks_in _ _ (by simp), e0, show tksB ((0, 0, 0) :: M.toks (List.replicate (m + 1) 0) (0 + M.wid (0, 0, 0))) = tkB (0, 0, 0) ++ tksB (M.toks (List.replicate (m + 1) 0) 1) from rfl, List.length_append, bits_0]
    have h := zer_bits (m + 1) (m + 1) 1 (by decide) (by omega)
    rw [Nat.add_sub_cancel] at h
    have h2 : (if 3 ≤ m % 258 then 20 else 8 * (m % 258)) ≤ 20 := by split <;> omega
    omega
theorem bst_fxd (b : List Nat) : (bst b).length ≤ (fxd b).length := by
  unfold bst
  split
  · omega
  · exact Nat.le_refl _
theorem bst_sto (b : List Nat) : (bst b).length ≤ (sto b).length := by
  unfold bst
  split
  · exact Nat.le_refl _
  · omega

set_option maxRecDepth 100000 in
set_option maxHeartbeats 4000000 in
theorem law_short (p : Option Addr) (d n : Nat) (b : List Nat) (w : World) (hb : SlI w .u8 p b) (h8 : ∀ x ∈ b, x < 256) (hp : p = none → d = 0) (hd : b.length ≤ d) (hn : n < 65536) :
    Calls Try.prog 4 #[.slice p b.length d, .int .u16 n] w fun r w' => r = .returned (.bool true) ∧ Fr S0 w w' := by
  have HAL := Lib.hid (alive8_any w)
  by_cases hbig : b.length ≤ 2000
  · have HB : Hid (∀ w', Fr S0 w w' → Calls Try.prog 13 #[.slice p b.length d] w' fun e w'' => ∃ v, e = .returned v ∧ Fr S0 w' w'' ∧ RowNew w' w'' v (bst b)) := Lib.hid fun w' f => best_any p d b w' (hb.fr0 f) h8 hp hd (by omega)
    have HF : Hid (∀ w', Fr S0 w w' → Calls Try.prog 9 #[.slice p b.length d] w' fun e w'' => ∃ v, e = .returned v ∧ Fr S0 w' w'' ∧ RowNew w' w'' v (fxd b)) := Lib.hid fun w' f => fixed_text p d b w' (hb.fr0 f) h8 hd (by omega)
    have HS : Hid (∀ w', Fr S0 w w' → Calls Try.prog 11 #[.slice p b.length d] w' fun e w'' => ∃ v, e = .returned v ∧ Fr S0 w' w'' ∧ RowNew w' w'' v (sto b)) := Lib.hid fun w' f => dsto_any p d b w' (hb.fr0 f) h8 hp hd (by omega)
    have i1 := bst_fxd b
    have i2 := bst_sto b
    have i3 : (sto b).length = b.length + 5 := by rw [sto_last (by omega), blk_length]
    have i4 := fxd_length b h8
    obtain ⟨m, hm⟩ : ∃ m, b.length = m := ⟨_, rfl⟩
    obtain ⟨M, hM⟩ : ∃ M : Nat, n % 4000 = M := ⟨_, rfl⟩
    have e1 : (n : Int) % 4000 = (M : Int) := by omega
    have hMs : M < 4000 := by omega
    have i5 := bst_fxd (List.replicate M 0)
    have i6 := zer_fxd M
    have HL : Hid (∀ (w' : World) (g : Nat), w'.ownsRow 0 5 1 (.slice (some ⟨g, 0, none⟩) M M) M (u8s (List.replicate M 0)) → Calls Try.prog 13 #[.slice (some ⟨g, 0, none⟩) M M] w' fun e w'' => ∃ v, e = .returned v ∧ Fr S0 w' w'' ∧ RowNew w' w'' v (bst (List.replicate M 0))) := Lib.hid fun w' g o => by
      have := best_any (some ⟨g, 0, none⟩) M (List.replicate M 0) w' (SlI.ofOwns o) (fun y hy => by rw [List.eq_of_mem_replicate hy]; decide) (fun h => by cases h) (by rw [List.length_replicate]; exact Nat.le_refl _) (by rw [List.length_replicate]; omega)
      rw [List.length_replicate] at this
      exact this
    have hmk : ∀ w, (Instr.makeSlice 22 (.int .i64 (M : Nat)) (.int .i64 (M : Nat))).run Try.prog w = .ok (.slice (some ⟨w.heap.size, 0, none⟩) M M) (w.alloc (.cells (zers .u8 M) 5)) := fun w => make_big w M (by omega)
    obtain ⟨N1, h1⟩ : ∃ N, (bst b).length = N := ⟨_, rfl⟩
    obtain ⟨N2, h2⟩ : ∃ N, (fxd b).length = N := ⟨_, rfl⟩
    obtain ⟨N3, h3⟩ : ∃ N, (sto b).length = N := ⟨_, rfl⟩
    obtain ⟨N4, h4⟩ : ∃ N, (bst (List.replicate M 0)).length = N := ⟨_, rfl⟩
    rw [h1, h2] at i1
    rw [h1, h3] at i2
    rw [h3, hm] at i3
    rw [h2, hm] at i4
    rw [h4] at i5
    rw [hm] at HB HF HS hbig ⊢
    have H1 := Lib.hid h1
    have H2 := Lib.hid h2
    have H3 := Lib.hid h3
    have H4 := Lib.hid h4
    have j1 : N4 ≤ 6 + M / 80 := by omega
    have hM8 : (M : Int) / 80 = ((M / 80 : Nat) : Int) := by omega
    obtain ⟨M8, hM8'⟩ : ∃ x, M / 80 = x := ⟨_, rfl⟩
    rw [hM8'] at hM8 j1
    have z1 : (N1 : Int) ≤ (m : Int) + 5 := by omega
    have z2 : (N1 : Int) ≤ (N2 : Int) := by omega
    have z3 : (N1 : Int) ≤ (N3 : Int) := by omega
    have z4 : (N4 : Int) ≤ 6 + (M8 : Int) := by omega
    clear hb h8 hp hd hm hM i1 i2 i3 i4 i5 i6 h1 h2 h3 h4 hM8' j1
    go_enter Try.func4, Try.ntmps4
    go_wp2_with fail
    refine HAL.out.mono ?_
    rintro _ w1 ⟨rfl, f1⟩
    have F1 := Lib.hid f1
    have K := Lib.hid (HB.out w1 f1)
    clear f1 HAL HB
    go_wp2_with fail
    refine K.out.mono ?_
    rintro _ w2 ⟨v2, rfl, f2, hv2⟩
    obtain ⟨q2, c2, rfl, -, -, -⟩ := slForm hv2.own
    have F2 := Lib.hid (F1.out.trans0 f2)
    rw [H1.out]
    clear f2 hv2 K F1
    go_wp2_with fail
    have o3 := zers_own w2 .u8 5 M (by omega)
    have f3 : Fr S0 w2 (w2.alloc (.cells (zers .u8 M) 5)) := Fr.alloc _ _ _
    obtain ⟨g, hg⟩ : ∃ g, w2.heap.size = g := ⟨_, rfl⟩
    rw [hg] at o3 ⊢
    generalize w2.alloc (.cells (zers .u8 M) 5) = w3 at o3 f3 ⊢
    have F3 := Lib.hid (F2.out.trans0 f3)
    have O3 : Hid (w3.ownsRow 0 5 1 (.slice (some ⟨g, 0, none⟩) M M) M (u8s (List.replicate M 0))) := Lib.hid o3
    have K := Lib.hid (HF.out w3 F3.out)
    clear o3 f3 hg hmk HF F2
    refine K.out.mono ?_
    rintro _ w4 ⟨v4, rfl, f4, hv4⟩
    obtain ⟨q4, c4, rfl, -, -, -⟩ := slForm hv4.own
    have F4 := Lib.hid (F3.out.trans0 f4)
    have O4 := Lib.hid (f4.owns O3.out (fun _ _ h => h))
    have K := Lib.hid (HS.out w4 F4.out)
    rw [H2.out]
    clear f4 hv4 HS F3 O3
    go_wp2_with fail
    refine K.out.mono ?_
    rintro _ w5 ⟨v5, rfl, f5, hv5⟩
    obtain ⟨q5, c5, rfl, -, -, -⟩ := slForm hv5.own
    have F5 := Lib.hid (F4.out.trans0 f5)
    have K := Lib.hid (HL.out w5 g (f5.owns O4.out (fun _ _ h => h)))
    rw [H3.out]
    clear f5 hv5 HL F4 O4
    go_wp2_with fail
    refine K.out.mono ?_
    rintro _ w6 ⟨v6, rfl, f6, hv6⟩
    obtain ⟨q6, c6, rfl, -, -, -⟩ := slForm hv6.own
    have F6 := Lib.hid (F5.out.trans0 f6)
    rw [H4.out]
    clear f6 hv6 F5
    go_wp2_with fail
    go_ret
    exact ⟨rfl, F6.out⟩
  · obtain ⟨m, hm⟩ : ∃ m, b.length = m := ⟨_, rfl⟩
    rw [hm] at hbig ⊢
    have hgt : (m : Int) > 2000 := by omega
    clear hb h8 hp hd hm
    go_enter Try.func4, Try.ntmps4
    go_wp2_with fail
    refine HAL.out.mono ?_
    rintro _ w1 ⟨rfl, f1⟩
    have F1 := Lib.hid f1
    clear f1 HAL
    go_wp2_with fail
    go_ret
    exact ⟨rfl, F1.out⟩
end Go.Proofs.Ytfibhgohenkfbaa
