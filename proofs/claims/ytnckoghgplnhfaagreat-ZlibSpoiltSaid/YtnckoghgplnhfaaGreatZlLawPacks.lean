/- The law on what is wrapped. -/
import Derived.Test.YtnckoghgplnhfaaGreatZlAlive
namespace Go.Proofs.YtnckoghgplnhfaaGreat
open Go.RowKit

/-- how a call ends that tells the bytes A -/
def Says (A : List Nat) (N : Nat) (w : World) (e : Ending) (w' : World) : Prop := ∃ q c, e = .returned (.slice q N c) ∧ Fr S0 w w' ∧ w'.ownsRow 0 5 1 (.slice q N c) N (u8s A)
theorem says {A : List Nat} {N : Nat} (hA : A.length = N) {w : World} {e : Ending} {w' : World} (h : ∃ v, e = .returned v ∧ Fr S0 w w' ∧ RowNew w w' v A) : Says A N w e w' := by
  obtain ⟨v, rfl, f, hv⟩ := h
  obtain ⟨q, c, rfl, -, -, -⟩ := slForm hv.own
  subst hA
  exact ⟨q, c, rfl, f, hv.own⟩

set_option maxRecDepth 100000 in
set_option maxHeartbeats 8000000 in
theorem law_packs (p : Option Addr) (d : Nat) (b : List Nat) (lim : Nat) (w : World) (hb : SlI w .u8 p b) (h8 : ∀ x ∈ b, x < 256) (hp : p = none → d = 0) (hd : b.length ≤ d) (hl : lim < 65536) :
    Calls Tryz.prog 3 #[.slice p b.length d, .int .u16 lim] w fun r w' => r = .returned (.bool true) ∧ Fr S0 w w' := by
  have HAL := Lib.hid (alive9_any w)
  obtain ⟨n, hn⟩ : ∃ n, b.length = n := ⟨_, rfl⟩
  rw [hn] at hd ⊢
  by_cases hbig : n > 300
  · obtain ⟨T, hT⟩ : ∃ T, b.take 300 = T := ⟨_, rfl⟩
    have hbT : SlI w .u8 p T := by rw [← hT]; exact hb.take 300
    have hT8 : ∀ x ∈ T, x < 256 := by rw [← hT]; exact fun x hx => h8 x (List.mem_of_mem_take hx)
    have hTn : T.length = 300 := by rw [← hT, List.length_take]; omega
    have hNd : 300 ≤ d := by omega
    have hg : (n : Int) > 300 := by omega
    have hcap : (300 : Int) ≤ (d : Int) := by omega
    clear hb h8 hn hd hbig
    obtain ⟨P, hP⟩ : ∃ P, wrap9 (bst T) T = P := ⟨_, rfl⟩
    obtain ⟨M, hM⟩ : ∃ M, P.length = M := ⟨_, rfl⟩
    have hbl := bst_length T hT8
    have hML : M = (bst T).length + 6 := by rw [← hM, ← hP, wrap9_length]
    have hP8 : ∀ x ∈ P, x < 256 := by rw [← hP]; exact wrap9_256 (bst_256 T hT8)
    have HPK : Hid (∀ W, Fr S0 w W → Calls Tryz.prog 8 #[.slice p 300 d] W (Says P M W)) := Lib.hid fun W f =>
      (pack_any p 300 d T W hTn (hbT.fr0 f) hT8 hp hNd (by omega)).mono fun _ _ h => says hM (by rw [hP] at h; exact h)
    have HRP : Hid (∀ W, Fr S0 w W → Calls Tryz.prog 9 #[.slice p 300 d] W (Says P M W)) := Lib.hid fun W f =>
      (rpack_any p 300 d T W hTn (hbT.fr0 f) hT8 hp hNd (by omega)).mono fun _ _ h => says hM (by rw [hP] at h; exact h)
    have HCV : Hid (∀ W, Fr S0 w W → (convert 22 9 (.slice p 300 d)).run Tryz.prog W = .ok (.string (strB T)) W) := Lib.hid fun W f => by
      have k := conv_sl (hbT.fr0 f) 300 d (by omega)
      rw [List.take_of_length_le (by omega)] at k
      exact k
    have HMM := Lib.hid hM
    by_cases hlim : lim < 300
    · have HOP : Hid (∀ W q c, W.ownsRow 0 5 1 (.slice q M c) M (u8s P) → Calls Tryz.prog 10 #[.slice q M c, .int .i64 lim] W fun e w' => e = .returned (.tuple #[.slice none 0 0, .int .i64 64]) ∧ Fr S0 W w') := Lib.hid fun W q c own =>
        (open_own (x := .no 64) (lim := lim) hM own hP8 (by omega) (by omega) (by rw [← hP, wrap9_cons]; exact zopen_less (reads_bst T hT8) 120 1 lim (by decide) (by rw [hTn]; exact hlim))).mono fun _ _ h => ⟨h.2, h.1⟩
      have hi : (lim : Int) < (300 : Int) := by omega
      clear hP hM hbl hML hP8 hbT hTn hT8 hT hp hNd hlim
      go_enter Tryz.func3, Tryz.ntmps3
      go_wp2_with fail
      refine HAL.out.mono ?_
      rintro _ w1 ⟨rfl, f1⟩
      have F1 := Lib.hid f1
      have KP := Lib.hid (HPK.out w1 f1)
      clear f1 HAL HPK
      go_wp2_with fail
      refine KP.out.mono ?_
      rintro _ w2 ⟨q2, c2, rfl, f2, o2⟩
      have F2 := Lib.hid (F1.out.trans0 f2)
      have O2 := Lib.hid o2
      have k2 := cv8 (w := w2.drew) HMM.out o2
      have KR := Lib.hid (HRP.out w2.drew (F2.out.trans0 (Fr.drew _ _)))
      clear f2 o2 KP HRP F1
      go_wp2_with fail
      go_region_law (first
        | (go_simp; go_at_call 9; (with_reducible refine KR.out.mono ?_); rintro _ w4 ⟨q4, c4, rfl, f4, o4⟩; have k4 := cv8 HMM.out o4; have O4 := Lib.hid (((Fr.drew S0 w2).trans0 f4).owns O2.out (fun _ _ h => h)); have k4' := cv8 HMM.out O4.out; have F4 := Lib.hid (F2.out.trans0 ((Fr.drew S0 w2).trans0 f4)); clear f4 o4; dsimp only))
      all_goals
        clear KR O2 F2
        go_wp2_with fail
        refine (HOP.out w4 q2 c2 O4.out).mono ?_
        rintro _ w5 ⟨rfl, f5⟩
        have F5 := Lib.hid (F4.out.trans0 f5)
        clear f5 k4 k4' HOP O4 F4 HCV
        go_wp2_with fail
        go_ret
        exact ⟨rfl, F5.out⟩
    · have HOP : Hid (∀ W q c, W.ownsRow 0 5 1 (.slice q M c) M (u8s P) → Calls Tryz.prog 10 #[.slice q M c, .int .i64 lim] W fun e w' => ∃ q' c', e = .returned (.tuple #[.slice q' 300 c', .int .i64 0]) ∧ Fr S0 W w' ∧ (convert 22 9 (.slice q' 300 c')).run Tryz.prog w' = .ok (.string (strB T)) w') := Lib.hid fun W q c own => by
        refine (open_own (x := .ok T 0) (lim := lim) hM own hP8 (by omega) (by omega) (by rw [← hP, wrap9_cons]; exact zopen_yes (reads_bst T hT8) 120 1 lim (by decide) (by rw [hTn]; omega))).mono ?_
        rintro e w' ⟨f, v, rfl, hv⟩
        obtain ⟨q', c', rfl, -, -, -⟩ := slForm hv.own
        have k := conv_own hv.own
        rw [hTn] at k ⊢
        exact ⟨q', c', rfl, f, k⟩
      have hi : ¬ (lim : Int) < (300 : Int) := by omega
      clear hP hM hbl hML hP8 hbT hTn hT8 hT hp hNd hlim
      go_enter Tryz.func3, Tryz.ntmps3
      go_wp2_with fail
      refine HAL.out.mono ?_
      rintro _ w1 ⟨rfl, f1⟩
      have F1 := Lib.hid f1
      have KP := Lib.hid (HPK.out w1 f1)
      clear f1 HAL HPK
      go_wp2_with fail
      refine KP.out.mono ?_
      rintro _ w2 ⟨q2, c2, rfl, f2, o2⟩
      have F2 := Lib.hid (F1.out.trans0 f2)
      have O2 := Lib.hid o2
      have k2 := cv8 (w := w2.drew) HMM.out o2
      have KR := Lib.hid (HRP.out w2.drew (F2.out.trans0 (Fr.drew _ _)))
      clear f2 o2 KP HRP F1
      go_wp2_with fail
      go_region_law (first
        | (go_simp; go_at_call 9; (with_reducible refine KR.out.mono ?_); rintro _ w4 ⟨q4, c4, rfl, f4, o4⟩; have k4 := cv8 HMM.out o4; have O4 := Lib.hid (((Fr.drew S0 w2).trans0 f4).owns O2.out (fun _ _ h => h)); have k4' := cv8 HMM.out O4.out; have F4 := Lib.hid (F2.out.trans0 ((Fr.drew S0 w2).trans0 f4)); clear f4 o4; dsimp only))
      all_goals
        clear KR O2 F2
        go_wp2_with fail
        refine (HOP.out w4 q2 c2 O4.out).mono ?_
        rintro _ w5 ⟨q5, c5, rfl, f5, k5⟩
        have F5 := Lib.hid (F4.out.trans0 f5)
        have k5' := HCV.out w5 F5.out
        clear f5 k4 k4' HOP O4 F4 HCV
        go_wp2_with fail
        go_ret
        exact ⟨rfl, F5.out⟩
  · obtain ⟨T, hT⟩ : ∃ T, b = T := ⟨_, rfl⟩
    have hbT : SlI w .u8 p T := by rw [← hT]; exact hb
    have hT8 : ∀ x ∈ T, x < 256 := by rw [← hT]; exact h8
    have hTn : T.length = n := by rw [← hT]; exact hn
    have hNd : n ≤ d := hd
    have hg : ¬ (n : Int) > 300 := by omega
    clear hb h8 hn hd
    obtain ⟨P, hP⟩ : ∃ P, wrap9 (bst T) T = P := ⟨_, rfl⟩
    obtain ⟨M, hM⟩ : ∃ M, P.length = M := ⟨_, rfl⟩
    have hbl := bst_length T hT8
    have hML : M = (bst T).length + 6 := by rw [← hM, ← hP, wrap9_length]
    have hP8 : ∀ x ∈ P, x < 256 := by rw [← hP]; exact wrap9_256 (bst_256 T hT8)
    have HPK : Hid (∀ W, Fr S0 w W → Calls Tryz.prog 8 #[.slice p n d] W (Says P M W)) := Lib.hid fun W f =>
      (pack_any p n d T W hTn (hbT.fr0 f) hT8 hp hNd (by omega)).mono fun _ _ h => says hM (by rw [hP] at h; exact h)
    have HRP : Hid (∀ W, Fr S0 w W → Calls Tryz.prog 9 #[.slice p n d] W (Says P M W)) := Lib.hid fun W f =>
      (rpack_any p n d T W hTn (hbT.fr0 f) hT8 hp hNd (by omega)).mono fun _ _ h => says hM (by rw [hP] at h; exact h)
    have HCV : Hid (∀ W, Fr S0 w W → (convert 22 9 (.slice p n d)).run Tryz.prog W = .ok (.string (strB T)) W) := Lib.hid fun W f => by
      have k := conv_sl (hbT.fr0 f) n d (by omega)
      rw [List.take_of_length_le (by omega)] at k
      exact k
    have HMM := Lib.hid hM
    by_cases hlim : lim < n
    · have HOP : Hid (∀ W q c, W.ownsRow 0 5 1 (.slice q M c) M (u8s P) → Calls Tryz.prog 10 #[.slice q M c, .int .i64 lim] W fun e w' => e = .returned (.tuple #[.slice none 0 0, .int .i64 64]) ∧ Fr S0 W w') := Lib.hid fun W q c own =>
        (open_own (x := .no 64) (lim := lim) hM own hP8 (by omega) (by omega) (by rw [← hP, wrap9_cons]; exact zopen_less (reads_bst T hT8) 120 1 lim (by decide) (by rw [hTn]; exact hlim))).mono fun _ _ h => ⟨h.2, h.1⟩
      have hi : (lim : Int) < (n : Int) := by omega
      clear hP hM hbl hML hP8 hbT hTn hT8 hT hp hNd hlim
      go_enter Tryz.func3, Tryz.ntmps3
      go_wp2_with fail
      refine HAL.out.mono ?_
      rintro _ w1 ⟨rfl, f1⟩
      have F1 := Lib.hid f1
      have KP := Lib.hid (HPK.out w1 f1)
      clear f1 HAL HPK
      go_wp2_with fail
      refine KP.out.mono ?_
      rintro _ w2 ⟨q2, c2, rfl, f2, o2⟩
      have F2 := Lib.hid (F1.out.trans0 f2)
      have O2 := Lib.hid o2
      have k2 := cv8 (w := w2.drew) HMM.out o2
      have KR := Lib.hid (HRP.out w2.drew (F2.out.trans0 (Fr.drew _ _)))
      clear f2 o2 KP HRP F1
      go_wp2_with fail
      go_region_law (first
        | (go_simp; go_at_call 9; (with_reducible refine KR.out.mono ?_); rintro _ w4 ⟨q4, c4, rfl, f4, o4⟩; have k4 := cv8 HMM.out o4; have O4 := Lib.hid (((Fr.drew S0 w2).trans0 f4).owns O2.out (fun _ _ h => h)); have k4' := cv8 HMM.out O4.out; have F4 := Lib.hid (F2.out.trans0 ((Fr.drew S0 w2).trans0 f4)); clear f4 o4; dsimp only))
      all_goals
        clear KR O2 F2
        go_wp2_with fail
        refine (HOP.out w4 q2 c2 O4.out).mono ?_
        rintro _ w5 ⟨rfl, f5⟩
        have F5 := Lib.hid (F4.out.trans0 f5)
        clear f5 k4 k4' HOP O4 F4 HCV
        go_wp2_with fail
        go_ret
        exact ⟨rfl, F5.out⟩
    · have HOP : Hid (∀ W q c, W.ownsRow 0 5 1 (.slice q M c) M (u8s P) → Calls Tryz.prog 10 #[.slice q M c, .int .i64 lim] W fun e w' => ∃ q' c', e = .returned (.tuple #[.slice q' n c', .int .i64 0]) ∧ Fr S0 W w' ∧ (convert 22 9 (.slice q' n c')).run Tryz.prog w' = .ok (.string (strB T)) w') := Lib.hid fun W q c own => by
        refine (open_own (x := .ok T 0) (lim := lim) hM own hP8 (by omega) (by omega) (by rw [← hP, wrap9_cons]; exact zopen_yes (reads_bst T hT8) 120 1 lim (by decide) (by rw [hTn]; omega))).mono ?_
        rintro e w' ⟨f, v, rfl, hv⟩
        obtain ⟨q', c', rfl, -, -, -⟩ := slForm hv.own
        have k := conv_own hv.own
        rw [hTn] at k ⊢
        exact ⟨q', c', rfl, f, k⟩
      have hi : ¬ (lim : Int) < (n : Int) := by omega
      clear hP hM hbl hML hP8 hbT hTn hT8 hT hp hNd hlim
      go_enter Tryz.func3, Tryz.ntmps3
      go_wp2_with fail
      refine HAL.out.mono ?_
      rintro _ w1 ⟨rfl, f1⟩
      have F1 := Lib.hid f1
      have KP := Lib.hid (HPK.out w1 f1)
      clear f1 HAL HPK
      go_wp2_with fail
      refine KP.out.mono ?_
      rintro _ w2 ⟨q2, c2, rfl, f2, o2⟩
      have F2 := Lib.hid (F1.out.trans0 f2)
      have O2 := Lib.hid o2
      have k2 := cv8 (w := w2.drew) HMM.out o2
      have KR := Lib.hid (HRP.out w2.drew (F2.out.trans0 (Fr.drew _ _)))
      clear f2 o2 KP HRP F1
      go_wp2_with fail
      go_region_law (first
        | (go_simp; go_at_call 9; (with_reducible refine KR.out.mono ?_); rintro _ w4 ⟨q4, c4, rfl, f4, o4⟩; have k4 := cv8 HMM.out o4; have O4 := Lib.hid (((Fr.drew S0 w2).trans0 f4).owns O2.out (fun _ _ h => h)); have k4' := cv8 HMM.out O4.out; have F4 := Lib.hid (F2.out.trans0 ((Fr.drew S0 w2).trans0 f4)); clear f4 o4; dsimp only))
      all_goals
        clear KR O2 F2
        go_wp2_with fail
        refine (HOP.out w4 q2 c2 O4.out).mono ?_
        rintro _ w5 ⟨q5, c5, rfl, f5, k5⟩
        have F5 := Lib.hid (F4.out.trans0 f5)
        have k5' := HCV.out w5 F5.out
        clear f5 k4 k4' HOP O4 F4 HCV
        go_wp2_with fail
        go_ret
        exact ⟨rfl, F5.out⟩
end Go.Proofs.YtnckoghgplnhfaaGreat
