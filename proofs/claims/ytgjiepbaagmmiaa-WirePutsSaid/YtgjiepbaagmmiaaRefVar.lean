/- The document's answer: one number written in as few bytes as may be. -/
import Derived.Test.YtgjiepbaagmmiaaRefNum
namespace Go.Proofs.Ytgjiepbaagmmiaa
open Go.RowKit

theorem onePost_mk {w w' : World} {k n m : Nat} {v : Value} {xs : List Value} (hf : fits k n = true) (h : Fr S0 w w') (hm : (enc k n).length = m) (ho : w'.ownsRow 0 5 1 v m xs) (hx : xs = u8s (enc k n)) (hv : Fresh w v) :
    OnePost w (.returned (.tuple #[v, .bool true])) w' k n := ⟨v, by rw [hf], h, by rw [hm, ← hx]; exact ho, hv⟩
theorem fresh_app {w wr : World} {v : Value} {g n c : Nat} (h : Fr S0 w wr) (hv : Fresh w v) (hat : v.ownBlock = some g ∨ g = wr.heap.size + 1) : Fresh w (.slice (some ⟨g, 0, none⟩) n c) := by
  intro k hk
  simp only [Value.ownBlock, Option.some.injEq] at hk
  subst hk
  rcases hat with h1 | h1
  · exact hv _ h1
  · have := h.size; omega

set_option maxRecDepth 100000 in
set_option maxHeartbeats 1000000 in
theorem one_var7 (n : Nat) (w : World) (hn : n < 18446744073709551616) :
    Calls Try.prog 19 #[.int .u8 ((fRow 7).1 : Nat), .int .u64 n] w fun e w' => OnePost w e w' 7 n := by
  have hfix := fixed_row 7 (by decide) w
  rw [show fixS (some 7) = (0, false) from rfl] at hfix
  rw [show (fRow 7).1 = 118 from rfl] at hfix ⊢
  have HFIX := Lib.hid hfix
  have HF : Hid (fits 7 n = true) := Lib.hid (fits_big hn (by decide))
  have HE := Lib.hid (enc_7 n)
  have HZ := Lib.hid hn
  clear hfix hn
  go_enter Try.func19, Try.ntmps19
  go_wp2_with (go_at_call 21; refine HFIX.out.mono ?_; rintro e w' ⟨rfl, rfl⟩)
  go_loopw [8, 11] (fun b a wr => ∃ (j x : Nat) (ps : List Nat) (p : Option Addr) (c : Nat), j ≤ 9 ∧ x = n / 128 ^ j ∧ ps.length = j ∧ ps ++ vEnc (9 - j) x = vEnc 9 n ∧ a = .int .u64 x ∧ b = .slice p j c ∧ wr.ownsRow 0 5 1 (.slice p j c) j (u8s ps) ∧ Fresh w (.slice p j c) ∧ Fr S0 w wr) (fun _ a _ => (intOf a).toNat)
  case atStart => exact ⟨0, n, [], none, 0, by omega, by simp, rfl, rfl, rfl, rfl, World.ownsRow_nil _ _ _ _, (fun g h => by simp [Value.ownBlock] at h), Fr.refl _ _⟩
  case round =>
    obtain ⟨j, x, ps, p, c, hj, hx, hpl, hv, rfl, rfl, own, hfv, hfr⟩ := hrel
    have HR : Hid (Room (j + 1)) := Lib.hid (Room.mk (by omega))
    have HX := Lib.hid hx
    have HPL := Lib.hid hpl
    have HV := Lib.hid hv
    have HX64 : Hid (x < 18446744073709551616) := Lib.hid (by rw [hx]; exact Nat.lt_of_le_of_lt (Nat.div_le_self _ _) HZ.out)
    clear hx hpl hv
    by_cases h127 : (127 : Int) < (x : Int)
    · have hjF : j < 9 := by
        rcases Nat.lt_or_ge j 9 with h | h
        · exact h
        · exfalso
          have : j = 9 := by omega
          have h1 := HX.out
          have h2 := HZ.out
          rw [this, show (128 : Nat) ^ 9 = 9223372036854775808 by decide] at h1
          omega
      have HNEW : Hid (ps ++ [x % 128 + 128] ++ vEnc (9 - (j + 1)) (x / 128) = vEnc 9 n) := Lib.hid (by
        obtain ⟨f, hf⟩ : ∃ f, 9 - j = f + 1 := ⟨9 - j - 1, by omega⟩
        rw [← HV.out, hf, vEnc, if_neg (by omega), show 9 - (j + 1) = f by omega, List.append_assoc]
        rfl)
      go_wp2_with ((with_reducible show wpList _ _ _ (Oper.mk (some 66) _ _ _ _ _ :: _) _ _); refine app_one el5 (.tmp 60) (.tmp 65) rfl own rfl rfl rfl rfl rfl one8 HR.out ?_; intro g cap w1 hown hgrow hat hlt1)
      have hw := wrap128 x HX64.out
      rw [hw]
      refine ⟨⟨j + 1, x / 128, ps ++ [x % 128 + 128], some ⟨g, 0, none⟩, cap, by omega, ?_, ?_, HNEW.out, rfl, rfl, ?_, fresh_app hfr hfv hat, (hfr.trans0 (Fr.alloc S0 wr _)).append hgrow hfv⟩, by simp [intOf]; omega⟩
      · rw [HX.out, Nat.div_div_eq_div_mul, ← Nat.pow_succ]
      · rw [List.length_append, HPL.out]; rfl
      · rw [← u8s_append, show u8s [x % 128 + 128] = [.int .u8 (128 + (x : Int) % 128)] from by simp [u8s]; omega]
        exact hown
    · have HFIN : Hid (ps ++ [x] = vEnc 9 n) := Lib.hid (by
        rw [← HV.out]
        cases hf : 9 - j with
        | zero => rw [vEnc, Nat.mod_eq_of_lt (by omega)]
        | succ f => rw [vEnc, if_pos (by omega)])
      go_wp2_with ((with_reducible show wpList _ _ _ (Oper.mk (some 73) _ _ _ _ _ :: _) _ _); refine app_one el5 (.tmp 69) (.tmp 72) rfl own rfl rfl rfl rfl rfl one8 HR.out ?_; intro g cap w1 hown hgrow hat hlt1)
      go_ret2
      exact onePost_mk HF.out ((hfr.trans0 (Fr.alloc S0 wr _)).append hgrow hfv) (by rw [HE.out, ← HFIN.out, List.length_append, HPL.out]; rfl) hown (by rw [HE.out, ← HFIN.out, ← u8s_append]; rfl) (fresh_app hfr hfv hat)

set_option maxRecDepth 100000 in
set_option maxHeartbeats 1000000 in
theorem one_var8 (n : Nat) (w : World) (hn : n < 18446744073709551616) :
    Calls Try.prog 19 #[.int .u8 ((fRow 8).1 : Nat), .int .u64 n] w fun e w' => OnePost w e w' 8 n := by
  have hfix := fixed_row 8 (by decide) w
  rw [show fixS (some 8) = (0, false) from rfl] at hfix
  rw [show (fRow 8).1 = 122 from rfl] at hfix ⊢
  have HFIX := Lib.hid hfix
  have HF : Hid (fits 8 n = true) := Lib.hid (fits_big hn (by decide))
  have HE := Lib.hid (enc_8 n)
  have HZ := Lib.hid (zz_lt n hn)
  have hsg := fun w => refsign_any n w (by omega) (by omega)
  rw [zz_eq n hn] at hsg
  have HSG := Lib.hid hsg
  clear hfix hn hsg
  obtain ⟨z, hz⟩ : ∃ z, zz n = z := ⟨_, rfl⟩
  rw [hz] at HE HZ HSG
  clear hz
  go_enter Try.func19, Try.ntmps19
  go_wp2_with (first | (go_at_call 21; refine HFIX.out.mono ?_; rintro e w' ⟨rfl, rfl⟩) | (go_at_call 14; refine (HSG.out _).mono ?_; rintro e w' ⟨rfl, rfl⟩))
  go_loopw [8, 11] (fun b a wr => ∃ (j x : Nat) (ps : List Nat) (p : Option Addr) (c : Nat), j ≤ 9 ∧ x = z / 128 ^ j ∧ ps.length = j ∧ ps ++ vEnc (9 - j) x = vEnc 9 z ∧ a = .int .u64 x ∧ b = .slice p j c ∧ wr.ownsRow 0 5 1 (.slice p j c) j (u8s ps) ∧ Fresh w (.slice p j c) ∧ Fr S0 w wr) (fun _ a _ => (intOf a).toNat)
  case atStart => exact ⟨0, z, [], none, 0, by omega, by simp, rfl, rfl, rfl, rfl, World.ownsRow_nil _ _ _ _, (fun g h => by simp [Value.ownBlock] at h), Fr.refl _ _⟩
  case round =>
    obtain ⟨j, x, ps, p, c, hj, hx, hpl, hv, rfl, rfl, own, hfv, hfr⟩ := hrel
    have HR : Hid (Room (j + 1)) := Lib.hid (Room.mk (by omega))
    have HX := Lib.hid hx
    have HPL := Lib.hid hpl
    have HV := Lib.hid hv
    have HX64 : Hid (x < 18446744073709551616) := Lib.hid (by rw [hx]; exact Nat.lt_of_le_of_lt (Nat.div_le_self _ _) HZ.out)
    clear hx hpl hv
    by_cases h127 : (127 : Int) < (x : Int)
    · have hjF : j < 9 := by
        rcases Nat.lt_or_ge j 9 with h | h
        · exact h
        · exfalso
          have : j = 9 := by omega
          have h1 := HX.out
          have h2 := HZ.out
          rw [this, show (128 : Nat) ^ 9 = 9223372036854775808 by decide] at h1
          omega
      have HNEW : Hid (ps ++ [x % 128 + 128] ++ vEnc (9 - (j + 1)) (x / 128) = vEnc 9 z) := Lib.hid (by
        obtain ⟨f, hf⟩ : ∃ f, 9 - j = f + 1 := ⟨9 - j - 1, by omega⟩
        rw [← HV.out, hf, vEnc, if_neg (by omega), show 9 - (j + 1) = f by omega, List.append_assoc]
        rfl)
      go_wp2_with ((with_reducible show wpList _ _ _ (Oper.mk (some 66) _ _ _ _ _ :: _) _ _); refine app_one el5 (.tmp 60) (.tmp 65) rfl own rfl rfl rfl rfl rfl one8 HR.out ?_; intro g cap w1 hown hgrow hat hlt1)
      have hw := wrap128 x HX64.out
      rw [hw]
      refine ⟨⟨j + 1, x / 128, ps ++ [x % 128 + 128], some ⟨g, 0, none⟩, cap, by omega, ?_, ?_, HNEW.out, rfl, rfl, ?_, fresh_app hfr hfv hat, (hfr.trans0 (Fr.alloc S0 wr _)).append hgrow hfv⟩, by simp [intOf]; omega⟩
      · rw [HX.out, Nat.div_div_eq_div_mul, ← Nat.pow_succ]
      · rw [List.length_append, HPL.out]; rfl
      · rw [← u8s_append, show u8s [x % 128 + 128] = [.int .u8 (128 + (x : Int) % 128)] from by simp [u8s]; omega]
        exact hown
    · have HFIN : Hid (ps ++ [x] = vEnc 9 z) := Lib.hid (by
        rw [← HV.out]
        cases hf : 9 - j with
        | zero => rw [vEnc, Nat.mod_eq_of_lt (by omega)]
        | succ f => rw [vEnc, if_pos (by omega)])
      go_wp2_with ((with_reducible show wpList _ _ _ (Oper.mk (some 73) _ _ _ _ _ :: _) _ _); refine app_one el5 (.tmp 69) (.tmp 72) rfl own rfl rfl rfl rfl rfl one8 HR.out ?_; intro g cap w1 hown hgrow hat hlt1)
      go_ret2
      exact onePost_mk HF.out ((hfr.trans0 (Fr.alloc S0 wr _)).append hgrow hfv) (by rw [HE.out, ← HFIN.out, List.length_append, HPL.out]; rfl) hown (by rw [HE.out, ← HFIN.out, ← u8s_append]; rfl) (fresh_app hfr hfv hat)

set_option maxRecDepth 100000 in
set_option maxHeartbeats 1000000 in
theorem one_var9 (n : Nat) (w : World) (hn : n < 18446744073709551616) :
    Calls Try.prog 19 #[.int .u8 ((fRow 9).1 : Nat), .int .u64 n] w fun e w' => OnePost w e w' 9 n := by
  have hfix := fixed_row 9 (by decide) w
  rw [show fixS (some 9) = (0, false) from rfl] at hfix
  rw [show (fRow 9).1 = 110 from rfl] at hfix ⊢
  have HFIX := Lib.hid hfix
  have HF : Hid (fits 9 n = true) := Lib.hid (fits_big hn (by decide))
  have HE := Lib.hid (enc_9 n)
  have HZ := Lib.hid (zz_lt n hn)
  have hsg := fun w => refsign_any n w (by omega) (by omega)
  rw [zz_eq n hn] at hsg
  have HSG := Lib.hid hsg
  clear hfix hn hsg
  obtain ⟨z, hz⟩ : ∃ z, zz n = z := ⟨_, rfl⟩
  rw [hz] at HE HZ HSG
  clear hz
  go_enter Try.func19, Try.ntmps19
  go_wp2_with (first | (go_at_call 21; refine HFIX.out.mono ?_; rintro e w' ⟨rfl, rfl⟩) | (go_at_call 14; refine (HSG.out _).mono ?_; rintro e w' ⟨rfl, rfl⟩))
  go_loopw [8, 11] (fun b a wr => ∃ (j x : Nat) (ps : List Nat) (p : Option Addr) (c : Nat), j ≤ 8 ∧ x = z / 128 ^ j ∧ ps.length = j ∧ ps ++ vEnc (8 - j) x = vEnc 8 z ∧ a = .int .u64 x ∧ b = .slice p j c ∧ wr.ownsRow 0 5 1 (.slice p j c) j (u8s ps) ∧ Fresh w (.slice p j c) ∧ Fr S0 w wr) (fun _ a _ => (intOf a).toNat)
  case atStart => exact ⟨0, z, [], none, 0, by omega, by simp, rfl, rfl, rfl, rfl, World.ownsRow_nil _ _ _ _, (fun g h => by simp [Value.ownBlock] at h), Fr.refl _ _⟩
  case round =>
    obtain ⟨j, x, ps, p, c, hj, hx, hpl, hv, rfl, rfl, own, hfv, hfr⟩ := hrel
    have HR : Hid (Room (j + 1)) := Lib.hid (Room.mk (by omega))
    have HX := Lib.hid hx
    have HPL := Lib.hid hpl
    have HV := Lib.hid hv
    have HX64 : Hid (x < 18446744073709551616) := Lib.hid (by rw [hx]; exact Nat.lt_of_le_of_lt (Nat.div_le_self _ _) HZ.out)
    clear hx hpl hv
    by_cases h127 : (127 : Int) < (x : Int)
    · by_cases hj8 : j = 8
      · have h8 : ((j : Int) == 8) = true := by rw [hj8]; rfl
        have HFIN : Hid (ps ++ [x % 256] = vEnc 8 z) := Lib.hid (by rw [← HV.out, hj8]; rfl)
        clear hj8
        go_wp2_with ((with_reducible show wpList _ _ _ (Oper.mk (some 73) _ _ _ _ _ :: _) _ _); refine app_one el5 (.tmp 69) (.tmp 72) rfl own rfl rfl rfl rfl rfl one8 HR.out ?_; intro g cap w1 hown hgrow hat hlt1)
        go_ret2
        exact onePost_mk HF.out ((hfr.trans0 (Fr.alloc S0 wr _)).append hgrow hfv) (by rw [HE.out, ← HFIN.out, List.length_append, HPL.out]; rfl) hown (by rw [HE.out, ← HFIN.out, ← u8s_append]; rfl) (fresh_app hfr hfv hat)
      · have h8 : ((j : Int) == 8) = false := by rw [beq_eq_false_iff_ne]; omega
        have hjF : j < 8 := by omega
        have HNEW : Hid (ps ++ [x % 128 + 128] ++ vEnc (8 - (j + 1)) (x / 128) = vEnc 8 z) := Lib.hid (by
          obtain ⟨f, hf⟩ : ∃ f, 8 - j = f + 1 := ⟨8 - j - 1, by omega⟩
          rw [← HV.out, hf, vEnc, if_neg (by omega), show 8 - (j + 1) = f by omega, List.append_assoc]
          rfl)
        go_wp2_with ((with_reducible show wpList _ _ _ (Oper.mk (some 66) _ _ _ _ _ :: _) _ _); refine app_one el5 (.tmp 60) (.tmp 65) rfl own rfl rfl rfl rfl rfl one8 HR.out ?_; intro g cap w1 hown hgrow hat hlt1)
        have hw := wrap128 x HX64.out
        rw [hw]
        refine ⟨⟨j + 1, x / 128, ps ++ [x % 128 + 128], some ⟨g, 0, none⟩, cap, by omega, ?_, ?_, HNEW.out, rfl, rfl, ?_, fresh_app hfr hfv hat, (hfr.trans0 (Fr.alloc S0 wr _)).append hgrow hfv⟩, by simp [intOf]; omega⟩
        · rw [HX.out, Nat.div_div_eq_div_mul, ← Nat.pow_succ]
        · rw [List.length_append, HPL.out]; rfl
        · rw [← u8s_append, show u8s [x % 128 + 128] = [.int .u8 (128 + (x : Int) % 128)] from by simp [u8s]; omega]
          exact hown
    · have HFIN : Hid (ps ++ [x] = vEnc 8 z) := Lib.hid (by
        rw [← HV.out]
        cases hf : 8 - j with
        | zero => rw [vEnc, Nat.mod_eq_of_lt (by omega)]
        | succ f => rw [vEnc, if_pos (by omega)])
      go_wp2_with ((with_reducible show wpList _ _ _ (Oper.mk (some 73) _ _ _ _ _ :: _) _ _); refine app_one el5 (.tmp 69) (.tmp 72) rfl own rfl rfl rfl rfl rfl one8 HR.out ?_; intro g cap w1 hown hgrow hat hlt1)
      go_ret2
      exact onePost_mk HF.out ((hfr.trans0 (Fr.alloc S0 wr _)).append hgrow hfv) (by rw [HE.out, ← HFIN.out, List.length_append, HPL.out]; rfl) hown (by rw [HE.out, ← HFIN.out, ← u8s_append]; rfl) (fresh_app hfr hfv hat)
end Go.Proofs.Ytgjiepbaagmmiaa
