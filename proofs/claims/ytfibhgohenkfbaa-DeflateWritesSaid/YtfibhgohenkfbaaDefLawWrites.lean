/- The law on what is written. -/
import Derived.Test.YtfibhgohenkfbaaDefText
import Derived.Test.YtfibhgohenkfbaaDefRef2
namespace Go.Proofs.Ytfibhgohenkfbaa
open Go.RowKit

/-- how a call ends that tells the bytes A -/
def Says (A : List Nat) (N : Nat) (w : World) (e : Ending) (w' : World) : Prop := ∃ q c, e = .returned (.slice q N c) ∧ Fr S0 w w' ∧ w'.ownsRow 0 5 1 (.slice q N c) N (u8s A)
theorem says {A : List Nat} {N : Nat} (hA : A.length = N) {w : World} {e : Ending} {w' : World} (h : ∃ v, e = .returned v ∧ Fr S0 w w' ∧ RowNew w w' v A) : Says A N w e w' := by
  obtain ⟨v, rfl, f, hv⟩ := h
  obtain ⟨q, c, rfl, -, -, -⟩ := slForm hv.own
  subst hA
  exact ⟨q, c, rfl, f, hv.own⟩

set_option maxRecDepth 100000 in
set_option maxHeartbeats 8000000 in
theorem law_writes (p : Option Addr) (d : Nat) (b : List Nat) (wide : Bool) (w : World) (hb : SlI w .u8 p b) (h8 : ∀ x ∈ b, x < 256) :
    Calls Try.prog 3 #[.slice p b.length d, .bool wide] w fun r w' => r = .returned (.bool true) ∧ Fr S0 w w' := by
  have HAL := Lib.hid (alive8_any w)
  have HTX := Lib.hid (fun w' (f : Fr S0 w w') => text8_any p d b wide w' (hb.fr0 f) h8)
  have hT := txt_256 b wide h8
  have hTl := txt_length b wide
  obtain ⟨T, hTe⟩ : ∃ T, txt b wide = T := ⟨_, rfl⟩
  rw [hTe] at HTX hT hTl
  obtain ⟨n, hn⟩ : ∃ n, T.length = n := ⟨_, rfl⟩
  have HN := Lib.hid hn
  have hn3 : n ≤ 300 := by omega
  obtain ⟨A, hA⟩ : ∃ A, fxd T = A := ⟨_, rfl⟩
  obtain ⟨B, hB⟩ : ∃ A, sto T = A := ⟨_, rfl⟩
  obtain ⟨C, hC⟩ : ∃ A, bst T = A := ⟨_, rfl⟩
  obtain ⟨NA, hNA⟩ : ∃ N, A.length = N := ⟨_, rfl⟩
  obtain ⟨NB, hNB⟩ : ∃ N, B.length = N := ⟨_, rfl⟩
  obtain ⟨NC, hNC⟩ : ∃ N, C.length = N := ⟨_, rfl⟩
  have HNA := Lib.hid hNA
  have HNB := Lib.hid hNB
  have HNC := Lib.hid hNC
  have HCALL : Hid (∀ (q : Option Addr) (c : Nat) (w' : World), SlI w' .u8 q T → (q = none → c = 0) → n ≤ c →
      Calls Try.prog 9 #[.slice q n c] w' (Says A NA w') ∧ Calls Try.prog 10 #[.slice q n c] w' (Says A NA w') ∧
      Calls Try.prog 11 #[.slice q n c] w' (Says B NB w') ∧ Calls Try.prog 12 #[.slice q n c] w' (Says B NB w') ∧
      Calls Try.prog 13 #[.slice q n c] w' (Says C NC w') ∧ Calls Try.prog 14 #[.slice q n c] w' (Says C NC w')) := Lib.hid fun q c w' hs hq hc => by
    subst hn hA hB hC
    exact ⟨(fixed_text q c T w' hs hT hc (by omega)).mono fun _ _ h => says hNA h, (rfixed_text q c T w' hs hT (by omega)).mono fun _ _ h => says hNA h,
      (stored_any q c T w' hs hT hq hc (by omega)).mono fun _ _ h => says hNB h, (rstored_any q c T w' hs hq hc (by omega)).mono fun _ _ h => says hNB h,
      (best_any q c T w' hs hT hq hc (by omega)).mono fun _ _ h => says hNC h, (rbest_any q c T w' hs hT hq hc (by omega)).mono fun _ _ h => says hNC h⟩
  obtain ⟨m, hm⟩ : ∃ m, b.length = m := ⟨_, rfl⟩
  rw [hm] at HTX ⊢
  clear hb h8 hT hTl hTe hn hA hB hC hNA hNB hNC hm
  go_enter Try.func3, Try.ntmps3
  go_wp2_with fail
  refine HAL.out.mono ?_
  rintro _ w1 ⟨rfl, f1⟩
  have F1 := Lib.hid f1
  have KT := Lib.hid (HTX.out w1 f1)
  clear f1 HAL HTX
  go_wp2_with fail
  refine KT.out.mono ?_
  rintro _ w2 ⟨v, rfl, f2, hv⟩
  obtain ⟨q, c, rfl, hq, hc, -⟩ := slForm hv.own
  have OT : Hid (w2.ownsRow 0 5 1 (.slice q n c) n (u8s T)) := Lib.hid (by have h := hv.own; rw [HN.out] at h; exact h)
  have HC : Hid (∀ w', Fr S0 w2 w' → Calls Try.prog 9 #[.slice q n c] w' (Says A NA w') ∧ Calls Try.prog 10 #[.slice q n c] w' (Says A NA w') ∧
      Calls Try.prog 11 #[.slice q n c] w' (Says B NB w') ∧ Calls Try.prog 12 #[.slice q n c] w' (Says B NB w') ∧
      Calls Try.prog 13 #[.slice q n c] w' (Says C NC w') ∧ Calls Try.prog 14 #[.slice q n c] w' (Says C NC w')) := Lib.hid fun w' f =>
    HCALL.out q c w' (SlI.ofOwns (f.owns OT.out (fun _ _ h => h))) hq (by rw [← HN.out]; exact hc)
  have F2 := Lib.hid (F1.out.trans0 f2)
  rw [HN.out]
  clear f2 hv hq hc KT HCALL F1 HN OT
  go_wp2_with fail
  go_region_law (first
    | (go_simp; go_at_call 9; refine ((HC.out _ (Fr.drew _ _)).1).mono ?_; rintro _ w3 ⟨q3, c3, rfl, f3, o3⟩; have k3 := cv8 HNA.out o3; have O3 := Lib.hid o3; have F3 := Lib.hid ((Fr.drew S0 w2).trans0 f3); clear f3 o3; dsimp only)
    | (go_simp; go_at_call 10; refine ((HC.out _ F3.out).2.1).mono ?_; rintro _ w4 ⟨q4, c4, rfl, f4, o4⟩; have k4 := cv8 HNA.out o4; have k34 := cv8 HNA.out (f4.owns O3.out (fun _ _ h => h)); have F4 := Lib.hid (F3.out.trans0 f4); clear f4 o4; dsimp only)
    | (go_simp; go_at_call 11; refine ((HC.out _ F4.out).2.2.1).mono ?_; rintro _ w5 ⟨q5, c5, rfl, f5, o5⟩; have k5 := cv8 HNB.out o5; have O5 := Lib.hid o5; have F5 := Lib.hid (F4.out.trans0 f5); clear f5 o5; dsimp only)
    | (go_simp; go_at_call 12; refine ((HC.out _ F5.out).2.2.2.1).mono ?_; rintro _ w6 ⟨q6, c6, rfl, f6, o6⟩; have k6 := cv8 HNB.out o6; have k56 := cv8 HNB.out (f6.owns O5.out (fun _ _ h => h)); have F6 := Lib.hid (F5.out.trans0 f6); clear f6 o6; dsimp only)
    | (go_simp; go_at_call 13; refine ((HC.out _ F6.out).2.2.2.2.1).mono ?_; rintro _ w7 ⟨q7, c7, rfl, f7, o7⟩; have k7 := cv8 HNC.out o7; have O7 := Lib.hid o7; have F7 := Lib.hid (F6.out.trans0 f7); clear f7 o7; dsimp only)
    | (go_simp; go_at_call 14; refine ((HC.out _ F7.out).2.2.2.2.2).mono ?_; rintro _ w8 ⟨q8, c8, rfl, f8, o8⟩; have k8 := cv8 HNC.out o8; have k78 := cv8 HNC.out (f8.owns O7.out (fun _ _ h => h)); have F8 := Lib.hid (F7.out.trans0 f8); clear f8 o8; dsimp only))
  all_goals
    go_wp2_with fail
    go_ret
    exact ⟨rfl, F2.out.trans0 F8.out⟩
end Go.Proofs.Ytfibhgohenkfbaa
