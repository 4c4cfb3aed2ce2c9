/- The texts that the statements look at. -/
import Derived.Test.YtoplighbodcbnaaMatTold
import Derived.Test.YtoplighbodcbnaaMatRef
namespace Go.Proofs.Ytoplighbodcbnaa
open Go.RowKit Go.MapKept

set_option maxRecDepth 100000 in
set_option maxHeartbeats 2000000 in
theorem spread_any (p p' : Option Addr) (c c' : Nat) (bs ts : List Nat) (w : World) (h : SlI w .u8 p bs) (h' : SlI w .u8 p' ts) (hb8 : ∀ x ∈ bs, x < 256) (ht8 : ∀ x ∈ ts, x < 256) :
    Calls Try.prog 8 #[.slice p bs.length c, .slice p' ts.length c'] w fun r w' => ∃ t q d, r = .returned (.slice q t.length d) ∧ w'.ownsRow 0 5 1 (.slice q t.length d) t.length (u8s t) ∧ (∀ x ∈ t, x < 256) ∧ t.length ≤ 1440 ∧ Fr S0 w w' ∧ Fresh w (.slice q t.length d) := by
  have H := Lib.hid h
  have H' := Lib.hid h'
  have HB8 := Lib.hid hb8
  have HT8 := Lib.hid ht8
  have hbm := h.1
  have htm := h'.1
  obtain ⟨m, hm⟩ : ∃ m, bs.length = m := ⟨_, rfl⟩
  obtain ⟨m', hm'⟩ : ∃ m', ts.length = m' := ⟨_, rfl⟩
  have HM := Lib.hid hm
  have HM' := Lib.hid hm'
  rw [hm] at hbm
  rw [hm'] at htm
  have hbm2 : m ≤ 9223372036854775807 := by unfold maxLen at hbm; omega
  have htm2 : m' ≤ 9223372036854775807 := by unfold maxLen at htm; omega
  rw [hm, hm']
  clear h h' hb8 ht8 hm hm' hbm htm
  go_enter Try.func8, Try.ntmps8
  go_wp2_with fail
  go_loopw [5, 6, 7, 8] (fun s i _ _ wr => ∃ (j : Nat) (t : List Nat) (q : Option Addr) (n d : Nat), j ≤ 60 ∧ i = .int .i64 j ∧ s = .slice q n d ∧ t.length = n ∧ wr.ownsRow 0 5 1 (.slice q n d) n (u8s t) ∧ (∀ x ∈ t, x < 256) ∧ n ≤ 24 * j ∧ Fr S0 w wr ∧ Fresh w (.slice q n d)) (fun _ i _ _ _ => 60 - (intOf i).toNat)
  case atStart => exact ⟨0, [], none, 0, 0, by omega, rfl, rfl, rfl, World.ownsRow_nil _ _ _ _, fun x hx => by simp at hx, by omega, Fr.refl _ _, fresh_nil _ _⟩
  case round =>
    obtain ⟨j, t, q, n, d, hj, rfl, rfl, htn, hown, h8, hn, hfr, hnew⟩ := hrel
    have HOWN := Lib.hid hown
    have HFR := Lib.hid hfr
    have HNEW := Lib.hid hnew
    have HTN := Lib.hid htn
    have H8 := Lib.hid h8
    clear hown hfr hnew htn h8
    by_cases hjm : (j : Int) < (m : Int)
    · by_cases hj6 : (j : Int) < 60
      · obtain ⟨B, o, rfl, hx0⟩ := (H.out.fr0 HFR.out).at j (by rw [HM.out]; omega)
        have HXL := HB8.out _ (List.getElem_mem (show j < bs.length by rw [HM.out]; omega))
        obtain ⟨x, hxe⟩ : ∃ x, bs[j]'(by rw [HM.out]; omega) = x := ⟨_, rfl⟩
        rw [hxe] at hx0 HXL
        have HXE := Lib.hid hxe
        obtain ⟨X, hX⟩ : ∃ X, x % 4 = X := ⟨_, rfl⟩
        have eX : (x : Int) % 4 = (X : Int) := by omega
        have hX4 : X < 4 := by omega
        clear hxe hX
        have key : ∃ N : Nat, N ≤ 24 ∧ 1 ≤ N ∧ ∀ X : Nat, (∀ hjt : j < ts.length, X = 1 + ts[j] % 24) → (¬ j < ts.length → X = 1) → X = N := by
          by_cases hjt : j < ts.length
          · exact ⟨1 + ts[j] % 24, by omega, by omega, fun X h1 _ => h1 hjt⟩
          · exact ⟨1, by omega, by omega, fun X _ h2 => h2 hjt⟩
        obtain ⟨N, hN, hN1, hNX⟩ := key
        have HNX := Lib.hid hNX
        clear hNX
        by_cases hjt : (j : Int) < (m' : Int)
        · obtain ⟨B', o', rfl, hy0⟩ := (H'.out.fr0 HFR.out).at j (by rw [HM'.out]; omega)
          have HYL := HT8.out _ (List.getElem_mem (show j < ts.length by rw [HM'.out]; omega))
          have HNE : Hid (1 + ts[j]'(by rw [HM'.out]; omega) % 24 = N) := Lib.hid (HNX.out _ (fun _ => rfl) (fun h => absurd (by rw [HM'.out]; omega) h))
          obtain ⟨y, hye⟩ : ∃ y, ts[j]'(by rw [HM'.out]; omega) = y := ⟨_, rfl⟩
          rw [hye] at hy0 HYL HNE
          have e1 : (1 : Int) + (y : Int) % 24 = (N : Int) := by have := HNE.out; omega
          clear hye
          go_wp2_with fail
          go_loopw [5, 8] (fun s i wi => ∃ (i2 : Nat) (t2 : List Nat) (q2 : Option Addr) (n2 d2 : Nat), i2 ≤ N ∧ i = .int .i64 i2 ∧ s = .slice q2 n2 d2 ∧ t2.length = n2 ∧ wi.ownsRow 0 5 1 (.slice q2 n2 d2) n2 (u8s t2) ∧ (∀ x ∈ t2, x < 256) ∧ n2 ≤ 24 * j + i2 ∧ Fr S0 w wi ∧ Fresh w (.slice q2 n2 d2)) (fun _ i _ => N - (intOf i).toNat)
          case atStart => exact ⟨0, t, q, n, d, by omega, rfl, rfl, HTN.out, HOWN.out, H8.out, by omega, HFR.out, HNEW.out⟩
          case round =>
            obtain ⟨i2, t2, q2, n2, d2, hi2, rfl, rfl, htn2, hown2, h82, hn2, hfr2, hnew2⟩ := hrel
            have HOWN2 := Lib.hid hown2
            have HFR2 := Lib.hid hfr2
            have HNEW2 := Lib.hid hnew2
            have HTN2 := Lib.hid htn2
            have H82 := Lib.hid h82
            clear hown2 hfr2 hnew2 htn2 h82
            by_cases hi : (i2 : Int) < (N : Int)
            · obtain ⟨B3, o3, hp3, hx1⟩ := (H.out.fr0 HFR2.out).at j (by rw [HM.out]; omega)
              obtain ⟨rfl, rfl⟩ : B = B3 ∧ o = o3 := by simpa using hp3
              rw [HXE.out] at hx1
              have HR : Hid (Room (n2 + 1)) := Lib.hid (Room.mk (by omega))
              clear hp3
              go_wp2_with (at_builtin; refine app_one el8 (.tmp 35) (.tmp 41) rfl HOWN2.out rfl rfl rfl rfl rfl one8 HR.out ?_; intro g cap w2 hown hgrow hat hlt2; have HO := Lib.hid hown; have HG := Lib.hid hgrow; have HA := Lib.hid hat; clear hown hgrow hat)
              go_roundw
              case rel => exact ⟨i2 + 1, t2 ++ [X], some ⟨g, 0, none⟩, n2 + 1, cap, by omega, by simp, rfl, by simp [HTN2.out], by rw [← u8s_append]; exact HO.out, fun z hz => by
                rcases List.mem_append.1 hz with h1 | h1
                · exact H82.out z h1
                · simp at h1; omega, by omega, HFR2.out.append ((World.grownBy_alloc _ _ _).trans HG.out) HNEW2.out, fresh_app HFR2.out HNEW2.out HA.out⟩
              case measure => simp [intOf]; omega
            · go_wp2_with fail
              go_roundw
              case rel => exact ⟨j + 1, t2, q2, n2, d2, by omega, by simp, rfl, HTN2.out, HOWN2.out, H82.out, by omega, HFR2.out, HNEW2.out⟩
              case measure => simp [intOf]; omega
        · have HNE : Hid (1 = N) := Lib.hid (HNX.out 1 (fun h => absurd h (by rw [HM'.out]; omega)) (fun _ => rfl))
          have hN1 := HNE.out
          subst hN1
          go_wp2_with fail
          go_loopw [5, 8] (fun s i wi => ∃ (i2 : Nat) (t2 : List Nat) (q2 : Option Addr) (n2 d2 : Nat), i2 ≤ 1 ∧ i = .int .i64 i2 ∧ s = .slice q2 n2 d2 ∧ t2.length = n2 ∧ wi.ownsRow 0 5 1 (.slice q2 n2 d2) n2 (u8s t2) ∧ (∀ x ∈ t2, x < 256) ∧ n2 ≤ 24 * j + i2 ∧ Fr S0 w wi ∧ Fresh w (.slice q2 n2 d2)) (fun _ i _ => 1 - (intOf i).toNat)
          case atStart => exact ⟨0, t, q, n, d, by omega, rfl, rfl, HTN.out, HOWN.out, H8.out, by omega, HFR.out, HNEW.out⟩
          case round =>
            obtain ⟨i2, t2, q2, n2, d2, hi2, rfl, rfl, htn2, hown2, h82, hn2, hfr2, hnew2⟩ := hrel
            have HOWN2 := Lib.hid hown2
            have HFR2 := Lib.hid hfr2
            have HNEW2 := Lib.hid hnew2
            have HTN2 := Lib.hid htn2
            have H82 := Lib.hid h82
            clear hown2 hfr2 hnew2 htn2 h82
            by_cases hi : (i2 : Int) < (1 : Int)
            · obtain ⟨B3, o3, hp3, hx1⟩ := (H.out.fr0 HFR2.out).at j (by rw [HM.out]; omega)
              obtain ⟨rfl, rfl⟩ : B = B3 ∧ o = o3 := by simpa using hp3
              rw [HXE.out] at hx1
              have HR : Hid (Room (n2 + 1)) := Lib.hid (Room.mk (by omega))
              clear hp3
              go_wp2_with (at_builtin; refine app_one el8 (.tmp 35) (.tmp 41) rfl HOWN2.out rfl rfl rfl rfl rfl one8 HR.out ?_; intro g cap w2 hown hgrow hat hlt2; have HO := Lib.hid hown; have HG := Lib.hid hgrow; have HA := Lib.hid hat; clear hown hgrow hat)
              go_roundw
              case rel => exact ⟨i2 + 1, t2 ++ [X], some ⟨g, 0, none⟩, n2 + 1, cap, by omega, by simp, rfl, by simp [HTN2.out], by rw [← u8s_append]; exact HO.out, fun z hz => by
                rcases List.mem_append.1 hz with h1 | h1
                · exact H82.out z h1
                · simp at h1; omega, by omega, HFR2.out.append ((World.grownBy_alloc _ _ _).trans HG.out) HNEW2.out, fresh_app HFR2.out HNEW2.out HA.out⟩
              case measure => simp [intOf]; omega
            · go_wp2_with fail
              go_roundw
              case rel => exact ⟨j + 1, t2, q2, n2, d2, by omega, by simp, rfl, HTN2.out, HOWN2.out, H82.out, by omega, HFR2.out, HNEW2.out⟩
              case measure => simp [intOf]; omega
      · have hn2 : n ≤ 1440 := by omega
        have htn := HTN.out
        subst htn
        go_wp2
        go_ret
        exact ⟨t, q, d, rfl, HOWN.out, H8.out, hn2, HFR.out, HNEW.out⟩
    · have hn2 : n ≤ 1440 := by omega
      have htn := HTN.out
      subst htn
      go_wp2
      go_ret
      exact ⟨t, q, d, rfl, HOWN.out, H8.out, hn2, HFR.out, HNEW.out⟩
end Go.Proofs.Ytoplighbodcbnaa
