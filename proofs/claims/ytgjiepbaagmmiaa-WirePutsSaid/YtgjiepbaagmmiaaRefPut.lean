/- The document's answer: numbers written by a pattern. -/
import Derived.Test.YtgjiepbaagmmiaaRefVar
namespace Go.Proofs.Ytgjiepbaagmmiaa
open Go.RowKit

theorem one_any (k n : Nat) (w : World) (hk : k < 10) (hn : n < 18446744073709551616) :
    Calls Try.prog 19 #[.int .u8 ((fRow k).1 : Nat), .int .u64 n] w fun e w' => OnePost w e w' k n := by
  by_cases h7 : k < 7
  · cases hh : (k == 2 || k == 4 || k == 6)
    · exact one_low k n w h7 hn hh
    · exact one_high k n w h7 hn hh
  · have : k = 7 ∨ k = 8 ∨ k = 9 := by omega
    rcases this with rfl | rfl | rfl
    · exact one_var7 n w hn
    · exact one_var8 n w hn
    · exact one_var9 n w hn
theorem rowsOf_get : ∀ (l ks : List Nat) (i : Nat) (_ : rowsOf l = some ks) (hi : i < ks.length) (hl : i < l.length), (fRow ks[i]).1 = l[i]
  | [], ks, i, h, hi, hl => by simp at hl
  | c :: r, ks, i, h, hi, hl => by
    simp only [rowsOf] at h
    cases hc : fIdx c with
    | none => simp [hc] at h
    | some k =>
      cases hr : rowsOf r with
      | none => simp [hc, hr] at h
      | some ks' =>
        simp [hc, hr] at h
        subst h
        cases i with
        | zero => exact (fIdx_some c k hc).2
        | succ i => exact rowsOf_get r ks' i hr (by simpa using hi) (by simpa using hl)
theorem pat_get (s : ByteArray) (i : Nat) (h : i < s.size) : (pat s)[i]'(by rw [pat_length]; exact h) = s[i].toNat := by
  simp [pat]; rfl

set_option maxRecDepth 100000 in
set_option maxHeartbeats 2000000 in
theorem refput_any (s : ByteArray) (p : Option Addr) (c : Nat) (l : List Nat) (w : World) (hs : s.size ≤ maxLen) (hl : SlI w .u64 p l) (hb : ∀ x ∈ l, x < 18446744073709551616) :
    Calls Try.prog 10 #[.string s, .slice p l.length c] w fun e w' => PutPost w e w' (putS (pat s) l) := by
  have hlen := hl.1
  have HB := Lib.hid hb
  have HS := Lib.hid hs
  have HPL := Lib.hid (pat_length s)
  unfold maxLen at hlen hs
  clear hb
  cases hfs : formsS (pat s) with
  | none =>
    have hright := right_any s w HS.out
    rw [hfs] at hright
    have HR := Lib.hid hright
    have HE : Hid (putS (pat s) l = .error 22) := Lib.hid (by unfold putS; rw [hfs])
    clear hfs hright
    go_enter Try.func10, Try.ntmps10
    go_wp2_with (go_at_call 18; refine HR.out.mono ?_; rintro e w' ⟨rfl, hf⟩)
    go_ret2
    rw [HE.out]
    exact ⟨hf, rfl⟩
  | some ks =>
    have hright := right_any s w HS.out
    rw [hfs] at hright
    have HR := Lib.hid hright
    have hrow : rowsOf (pat s) = some ks := by
      unfold formsS at hfs
      split at hfs
      · cases hfs
      · exact hfs
    have hkl : ks.length = s.size := by rw [rowsOf_length _ _ hrow, pat_length]
    have hk64 := forms_len _ _ hfs
    have HROW := Lib.hid hrow
    have HF := Lib.hid hfs
    clear hright hrow
    by_cases hne : (s.size : Int) = (l.length : Int)
    · have HE : Hid (putS (pat s) l = putRows ks l) := Lib.hid (by unfold putS; rw [hfs]; simp only; rw [if_pos (by omega)])
      have hbne : ((s.size : Int) != (l.length : Int)) = false := by simp; omega
      have HN := Lib.hid hne
      have HKL := Lib.hid hkl
      clear hfs hne hkl
      go_enter Try.func10, Try.ntmps10
      go_wp2_with (go_at_call 18; refine HR.out.mono ?_; rintro e w1 ⟨rfl, hf⟩)
      go_loopw [6, 7, 8, 9] (fun b i _ _ wr => ∃ (k : Nat) (bs : List Nat) (q : Option Addr) (d N : Nat), k ≤ l.length ∧ bs.length = N ∧ N ≤ 10 * k ∧ i = .int .i64 k ∧ b = .slice q N d ∧ wr.ownsRow 0 5 1 (.slice q N d) N (u8s bs) ∧ Fresh w (.slice q N d) ∧ Fr S0 w wr ∧
        putRows ks l = pre bs (putRows (ks.drop k) (l.drop k))) (fun _ i _ _ _ => l.length - (intOf i).toNat)
      case atStart => exact ⟨0, [], none, 0, 0, by omega, rfl, by omega, rfl, rfl, World.ownsRow_nil _ _ _ _, (fun g h => by simp [Value.ownBlock] at h), hf, by rw [List.drop_zero, List.drop_zero, pre_nil]⟩
      case round =>
        obtain ⟨k, bs, q, d, N, hk, hbs, hN10, rfl, rfl, own, hfv, hfr, hpr⟩ := hrel
        have HP := Lib.hid hpr
        have HBS := Lib.hid hbs
        clear hpr hbs
        by_cases hlt : (k : Int) < (l.length : Int)
        · have hkl : k < l.length := by omega
          have hks : k < ks.length := by have := HN.out; have := HKL.out; omega
          have hsk : k < s.size := by have := HN.out; omega
          have hskI : (k : Int) < (s.size : Int) := by omega
          obtain ⟨bl, ol, rfl, hcl⟩ := (hl.fr0 hfr).at k hkl
          obtain ⟨m, hm⟩ : ∃ m, ks[k] = m := ⟨_, rfl⟩
          obtain ⟨n, hn⟩ : ∃ n, l[k] = n := ⟨_, rfl⟩
          rw [hn] at hcl
          have HM := Lib.hid hm
          have HNN := Lib.hid hn
          have HN64 : Hid (n < 18446744073709551616) := Lib.hid (by rw [← hn]; exact HB.out l[k] (List.getElem_mem hkl))
          have hm10 := Lib.hid (forms_lt _ _ HF.out m (by rw [← hm]; exact List.getElem_mem hks))
          have HC : Hid (s[k].toNat = (fRow m).1) := Lib.hid (by
            rw [← pat_get s k hsk, ← hm]
            exact (rowsOf_get (pat s) ks k HROW.out hks (by rw [pat_length]; exact hsk)).symm)
          have hbl : bl < wr.heap.size := World.block_lt_of_cell? _ _ hcl
          clear hm hn
          by_cases hfit : fits m n = true
          · have HQ := Lib.hid hfit
            obtain ⟨N', hN'⟩ : ∃ N', N + (enc m n).length = N' := ⟨_, rfl⟩
            have HL10 := enc_length m n hm10.out
            have HR1 : Hid (Room N') := Lib.hid (Room.mk (by omega))
            have hN10' : N' ≤ 10 * (k + 1) := by omega
            have HN' := Lib.hid hN'
            clear hfit hN' HL10
            go_wp2
            go_region_law (go_simp; go_at_call 19; rw [HC.out]; refine (one_any m n _ hm10.out HN64.out).mono ?_; rintro e w' ⟨v, rfl, hf', own', hfv'⟩; rw [HQ.out]; dsimp only)
            all_goals
              have own2 : w'.ownsRow 0 5 1 (.slice q N d) N (u8s bs) := hf'.owns own (fun _ _ h => h)
              have f2 : Fr S0 w w' := (hfr.trans0 (Fr.drew S0 wr)).trans0 hf'
              go_wp2_with ((with_reducible show wpList _ _ _ (Oper.mk (some 41) _ _ _ _ _ :: _) _ _); refine app_many el5 (.tmp 39) (.tmp 40) own2 (SrcIs.ofOwns own') HN'.out rfl rfl rfl rfl (one8s _) HR1.out ?_; intro p4 c4 w4 own4 g4 at4; have f4 := f2.append g4 hfv; have v4 := fresh_many hfv f2.size at4; clear g4 at4)
              go_roundw
              case rel =>
                refine ⟨k + 1, bs ++ enc m n, p4, c4, N', by omega, ?_, by omega, by go_num, rfl, ?_, v4, f4, ?_⟩
                · rw [List.length_append, HBS.out, HN'.out]
                · rw [← u8s_append]; exact own4
                · rw [HP.out, putRows_step ks l k hks hkl bs (by rw [HM.out, HNN.out]; exact HQ.out), HM.out, HNN.out]
              case measure => simp [intOf]; omega
          · have HQ : Hid (fits m n = false) := Lib.hid (by simpa using hfit)
            have HX : Hid (putS (pat s) l = .error 5) := Lib.hid (by rw [HE.out, HP.out]; exact putRows_bad ks l k hks hkl bs (by rw [HM.out, HNN.out]; exact HQ.out))
            clear hfit
            go_wp2
            go_region_law (go_simp; go_at_call 19; rw [HC.out]; refine (one_any m n _ hm10.out HN64.out).mono ?_; rintro e w' ⟨v, rfl, hf', own', hfv'⟩; rw [HQ.out]; dsimp only)
            all_goals
              have f2 : Fr S0 w w' := (hfr.trans0 (Fr.drew S0 wr)).trans0 hf'
              go_wp2
              go_ret2
              rw [HX.out]
              exact ⟨f2, rfl⟩
        · have HX : Hid (putS (pat s) l = .ok bs) := Lib.hid (by
            have := HN.out
            have := HKL.out
            rw [HE.out, HP.out, List.drop_eq_nil_of_le (by omega), List.drop_eq_nil_of_le (by omega), putRows_nil, pre, List.append_nil])
          go_wp2
          go_ret2
          rw [HX.out]
          exact ⟨hfr, _, rfl, by rw [HBS.out]; exact own, hfv⟩
    · have HE : Hid (putS (pat s) l = .error 22) := Lib.hid (by unfold putS; rw [hfs]; simp only; rw [if_neg (by omega)])
      have hbne : ((s.size : Int) != (l.length : Int)) = true := by rw [bne_iff_ne]; exact hne
      clear hfs hne
      go_enter Try.func10, Try.ntmps10
      go_wp2_with (go_at_call 18; refine HR.out.mono ?_; rintro e w' ⟨rfl, hf⟩)
      go_ret2
      rw [HE.out]
      exact ⟨hf, rfl⟩
end Go.Proofs.Ytgjiepbaagmmiaa
