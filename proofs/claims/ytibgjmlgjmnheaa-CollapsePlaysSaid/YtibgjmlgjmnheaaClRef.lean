/- The document's answers for a store. -/
import Derived.Test.YtibgjmlgjmnheaaClSto
import Derived.Test.YtibgjmlgjmnheaaSpRef
import Derived.Deep.RegionLaw
import Derived.Deep.RegionHeld3
namespace Go.Proofs.Ytibgjmlgjmnheaa
open Go.RowKit
section
variable (p : Option Addr) (n c m : Nat) (l : List Pr) (w : World)
set_option maxRecDepth 100000 in
set_option maxHeartbeats 1000000 in
theorem rkept_any (hm : 1 ≤ m) (h : PrI w p l) (hn : l.length = n) (hN : n ≤ 100000) (ht : ltot l < 18446744073709551616) :
    Calls Try.prog 33 #[.slice p n c, .int .i64 (m : Nat)] w fun e w' => ∃ v, e = .returned (.tuple #[v, .int .u64 (cutA l m : Nat)]) ∧ Got w w' p v (cutN l m) := by
  have H := rcut_any p n c l w (m : Int) h hn hN ht
  rw [show most (m : Int) = m by unfold most; omega] at H
  have HC := Lib.hid H
  clear h ht hN H
  go_enter Try.func33, Try.ntmps33
  go_wp2_with fail
  refine HC.out.mono ?_
  rintro e w1 ⟨v, rfl, hg⟩
  have HG := Lib.hid hg
  clear hg
  go_wp2_with fail
  go_ret2
  exact ⟨v, rfl, HG.out⟩
set_option maxRecDepth 100000 in
set_option maxHeartbeats 1000000 in
theorem rkey15_any (r : Nat) (hm : 1 ≤ m) (h : PrI w p l) (hn : l.length = n) (hN : n ≤ 100000) (hs : Srt l) (hp : Pos l) (h1 : 1 ≤ r) (h2 : r ≤ ltot l) (ht : ltot l < 18446744073709551616) :
    Calls Try.prog 19 #[.slice p n c, .int .i64 (m : Nat), .int .u64 (r : Nat)] w fun e w' => e = .returned (.tuple #[.int .i64 (keyW (cutN l m) r), .bool (decide (cutA l m ≠ 0 ∧ keyW (cutN l m) r = hk (cutN l m)))]) ∧ Fr S0 w w' := by
  have HK := Lib.hid (rkept_any p n c m l w hm h hn hN ht)
  have HR : Hid (∀ q N d W, PrI W q (cutN l m) → (cutN l m).length = N → Calls Try.prog 20 #[.slice q N d, .int .u64 (r : Nat)] W fun e w' => e = .returned (.int .i64 (keyW (cutN l m) r)) ∧ Fr S0 W w') := Lib.hid fun q N d W hq hN2 =>
    rkey_any q N d (cutN l m) W r hq hN2 (cut_srt hs hp hm) h1 (by rw [cut_tot hs hp hm]; exact h2) (by rw [cut_tot hs hp hm]; exact ht)
  have HAB := Lib.hid (hk_above (m := m) hs hp hm)
  obtain ⟨F, hF⟩ : ∃ F, cutA l m = F := ⟨_, rfl⟩
  obtain ⟨V, hV⟩ : ∃ V, keyW (cutN l m) r = V := ⟨_, rfl⟩
  rw [hF] at HK HAB
  rw [hV] at HR
  rw [hF, hV]
  clear hm h hn hN hs hp h1 h2 ht hV hF
  by_cases hf : F = 0
  · subst hf
    go_enter Try.func19, Try.ntmps19
    go_wp2_with fail
    refine HK.out.mono ?_
    rintro e w1 ⟨v, rfl, ⟨q, N, d, rfl, hN2, hq, -⟩, f1⟩
    have HR2 := Lib.hid (HR.out q N d w1 hq hN2)
    have F1 := Lib.hid f1
    clear hN2 hq f1 HK HR
    go_wp2_with fail
    refine HR2.out.mono ?_
    rintro e w2 ⟨rfl, f2⟩
    have F2 := Lib.hid (F1.out.trans0 f2)
    clear f2 HR2 F1
    go_wp2_with fail
    go_quiet (fail)
    go_wp2_with fail
    go_ret2
    exact ⟨by simp, F2.out.trans0 (Fr.drewN _ _ _)⟩
  · have hfp : decide (0 < (F : Int)) = true := decide_eq_true (by omega)
    have hfp2 : decide (0 < F) = true := decide_eq_true (by omega)
    have hfb : (0 : Int) < (F : Int) := by omega
    obtain ⟨hlen, -, ⟨tk, tn⟩, t, hcons, htk, -⟩ := HAB.out hf
    obtain ⟨B, hB⟩ : ∃ B, (V == tk) = B := ⟨_, rfl⟩
    have HV : Hid (decide (F ≠ 0 ∧ V = hk (cutN l m)) = B) := Lib.hid (by
      rw [← htk, ← hB]
      by_cases e : V = tk <;> simp [e, hf])
    have HC0 : Hid (∀ W q, PrI W q (cutN l m) → ∃ b o, q = some ⟨b, o, none⟩ ∧ W.cell? ⟨b, o, none⟩ = some (.int .i64 tk)) := Lib.hid fun W q hq => by
      have hl0 : 0 < (cutN l m).length := by rw [hcons, List.length_cons]; omega
      obtain ⟨b, o, h1, h2, -⟩ := hq.at 0 hl0
      have e0 : (cutN l m)[0] = (tk, tn) := by
        have : (cutN l m)[0]? = some (tk, tn) := by rw [hcons]; rfl
        exact Option.some.inj ((List.getElem?_eq_getElem hl0).symm.trans this)
      rw [e0] at h2
      simp only [Nat.zero_mul, Nat.add_zero] at h2
      exact ⟨b, o, h1, h2⟩
    have hm0 : 0 < (cutN l m).length := by rw [hcons, List.length_cons]; omega
    have HM0 := Lib.hid hm0
    clear hlen hcons htk HAB hm0
    go_enter Try.func19, Try.ntmps19
    go_wp2_with fail
    refine HK.out.mono ?_
    rintro e w1 ⟨v, rfl, ⟨q, N, d, rfl, hN2, hq, -⟩, f1⟩
    have HR2 := Lib.hid (HR.out q N d w1 hq hN2)
    have F1 := Lib.hid f1
    have HQ := Lib.hid hq
    have hN0 : (0 : Int) < (N : Int) := by have := HM0.out; omega
    have hN1 : 0 < N := by omega
    clear hN2 hq f1 HK HR
    go_wp2_with fail
    refine HR2.out.mono ?_
    rintro e w2 ⟨rfl, f2⟩
    have F2 := Lib.hid (F1.out.trans0 f2)
    obtain ⟨b, o, rfl, c0⟩ := HC0.out w2 q (HQ.out.fr0 f2)
    clear f2 HR2 F1 HC0 HQ hf
    go_wp2_with fail
    go_quiet (fail)
    go_wp2_with fail
    go_ret2
    exact ⟨by rw [HV.out]; rfl, F2.out.trans0 (Fr.drewN _ _ _)⟩
end
set_option maxRecDepth 100000 in
set_option maxHeartbeats 1000000 in
theorem rsame15_yes (p q : Option Addr) (n c d : Nat) (l : List Pr) (w : World) (h : PrI w p l) (h' : PrI w q l) (hn : l.length = n) :
    Calls Try.prog 21 #[.slice p n c, .slice q n d] w fun e w' => e = .returned (.bool true) ∧ Fr S0 w w' := by
  have HS := Lib.hid (rsame_yes p q n c d l w h h' hn)
  clear h h' hn
  go_enter Try.func21, Try.ntmps21
  go_wp2_with fail
  refine HS.out.mono ?_
  rintro e w1 ⟨rfl, f1⟩
  have F1 := Lib.hid f1
  clear f1
  go_wp2_with fail
  go_ret
  exact ⟨rfl, F1.out⟩
end Go.Proofs.Ytibgjmlgjmnheaa
