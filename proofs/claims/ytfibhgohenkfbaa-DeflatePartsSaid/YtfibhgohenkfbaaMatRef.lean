/- The reference's tokens: all places are looked at. -/
import Derived.Test.YtfibhgohenkfbaaMatList
namespace Go.Proofs.Ytfibhgohenkfbaa.M
open Go.RowKit Go.MapKept

set_option maxRecDepth 100000 in
set_option maxHeartbeats 1000000 in
theorem rsame_any (p : Option Addr) (c : Nat) (b : List Nat) (i k : Nat) (w : World) (h : SlI w .u8 p b) (hlen : b.length ≤ 1048576) (hi : i < k) (hk : k < b.length) :
    Calls Try.prog 50 #[.slice p b.length c, .int .i64 (i : Nat), .int .i64 (k : Nat)] w fun r w' => r = .returned (.int .i64 (run b i k 258 : Nat)) ∧ Fr S0 w w' := by
  have H := Lib.hid h
  obtain ⟨m, hm⟩ : ∃ m, b.length = m := ⟨_, rfl⟩
  have HM := Lib.hid hm
  rw [hm] at hlen hk
  rw [hm]
  clear h hm
  go_enter Try.func50, Try.ntmps50
  go_wp2_with fail
  go_loopw [7] (fun n wr => ∃ j : Nat, j ≤ 258 ∧ k + j ≤ m ∧ n = .int .i64 j ∧ Fr S0 w wr ∧ ∀ q, q < j → b.getD (i + q) 0 = b.getD (k + q) 0) (fun n _ => 258 - (intOf n).toNat)
  case atStart => exact ⟨0, by omega, by omega, rfl, Fr.refl _ _, fun q hq => by omega⟩
  case round =>
    obtain ⟨j, hj, hkj, rfl, hfr, hq⟩ := hrel
    have HFR := Lib.hid hfr
    have HQ := Lib.hid hq
    clear hfr hq
    by_cases hj8 : (j : Int) < 258
    · by_cases hjm : (k : Int) + (j : Int) < (m : Int)
      · obtain ⟨B, o, rfl, hu⟩ := (H.out.fr0 HFR.out).at (i + j) (by rw [HM.out]; omega)
        obtain ⟨B', o', hp', hv⟩ := (H.out.fr0 HFR.out).at (k + j) (by rw [HM.out]; omega)
        obtain ⟨rfl, rfl⟩ : B = B' ∧ o = o' := by simpa using hp'
        have HU := getD_at b (i + j) (by rw [HM.out]; omega)
        have HV := getD_at b (k + j) (by rw [HM.out]; omega)
        obtain ⟨u, hue⟩ : ∃ u, b[i + j]'(by rw [HM.out]; omega) = u := ⟨_, rfl⟩
        obtain ⟨v, hve⟩ : ∃ v, b[k + j]'(by rw [HM.out]; omega) = v := ⟨_, rfl⟩
        rw [hue] at hu HU
        rw [hve] at hv HV
        have r1 : (i : Int) + (j : Int) < (m : Int) := by omega
        have hu' : wr.cell? ⟨B, o + (i + j), none⟩ = some (.int .u8 (u : Int)) := hu
        have hv' : wr.cell? ⟨B, o + (k + j), none⟩ = some (.int .u8 (v : Int)) := hv
        clear hp' hue hve hu hv
        by_cases huv : (u : Int) = (v : Int)
        · go_wp2_with fail
          go_quiet (fail)
          go_wp2_with fail
          go_roundw
          case rel => exact ⟨j + 1, by omega, by omega, by simp, HFR.out.trans0 (Fr.drewN _ _ _), fun q hq => by
            by_cases e1 : q = j
            · rw [e1, HU, HV]; omega
            · exact HQ.out q (by omega)⟩
          case measure => simp [intOf]; omega
        · have HR : Hid (run b i k 258 = j) := Lib.hid (run_unique b 258 i k j (by omega) (fun q h1 => ⟨by rw [HM.out]; omega, HQ.out q h1⟩) fun _ h2 => huv (by rw [← HU, ← HV, h2.2]))
          go_wp2_with fail
          go_quiet (fail)
          go_wp2
          go_ret
          exact ⟨congrArg (fun z : Nat => Ending.returned (Value.int .i64 (z : Int))) HR.out.symm, HFR.out.trans0 (Fr.drewN _ _ _)⟩
      · have HR : Hid (run b i k 258 = j) := Lib.hid (run_unique b 258 i k j (by omega) (fun q h1 => ⟨by rw [HM.out]; omega, HQ.out q h1⟩) fun _ h2 => by have := h2.1; rw [HM.out] at this; omega)
        have hd : decide ((k : Int) + (j : Int) < (m : Int)) = false := decide_eq_false hjm
        go_wp2_with fail
        go_quiet (fail)
        go_wp2
        go_ret
        exact ⟨congrArg (fun z : Nat => Ending.returned (Value.int .i64 (z : Int))) HR.out.symm, HFR.out.trans0 (Fr.drewN _ _ _)⟩
    · have HR : Hid (run b i k 258 = j) := Lib.hid (run_unique b 258 i k j (by omega) (fun q h1 => ⟨by rw [HM.out]; omega, HQ.out q h1⟩) fun h2 => by omega)
      have hd : decide ((j : Int) < 258) = false := decide_eq_false hj8
      go_wp2_with fail
      go_quiet (fail)
      go_wp2
      go_ret
      exact ⟨congrArg (fun z : Nat => Ending.returned (Value.int .i64 (z : Int))) HR.out.symm, HFR.out.trans0 (Fr.drewN _ _ _)⟩

theorem tok_ge (b : List Nat) (k S D : Nat) (h : bst b k (min k 32768) = (S, D)) (h3 : 3 ≤ S) : tok b k = (0, S, D) := by
  have hn : nrm (bst b k (min k 32768)) = (S, D) := by rw [h]; exact if_pos h3
  unfold tok
  rw [hn]
  exact if_neg (by simp only; omega)
theorem tok_lt (b : List Nat) (k S D : Nat) (h : bst b k (min k 32768) = (S, D)) (h3 : ¬ 3 ≤ S) : tok b k = (b.getD k 0, 0, 0) := by
  have hn : nrm (bst b k (min k 32768)) = (2, 0) := by rw [h]; exact if_neg h3
  unfold tok
  rw [hn]
  exact if_pos (by simp)

set_option maxRecDepth 100000 in
set_option maxHeartbeats 2000000 in
theorem rfind_any (p : Option Addr) (c : Nat) (b : List Nat) (w : World) (h : SlI w .u8 p b) (hlen : b.length ≤ 1048576) :
    Calls Try.prog 28 #[.slice p b.length c] w fun r w' => ∃ q n d, r = .returned (.slice q n d) ∧ n = (toks b 0).length ∧ w'.ownsRow 0 45 3 (.slice q n d) n (tkl (toks b 0)) ∧ Fr S0 w w' ∧ Fresh w (.slice q n d) := by
  have H := Lib.hid h
  obtain ⟨m, hm⟩ : ∃ m, b.length = m := ⟨_, rfl⟩
  have HM := Lib.hid hm
  rw [hm] at hlen
  rw [hm]
  clear h hm
  go_enter Try.func28, Try.ntmps28
  go_wp2_with fail
  go_loopw [3, 4, 5, 6, 7, 8] (fun s e _ _ _ _ wr => ∃ (k : Nat) (q : Option Addr) (n d : Nat) (l : List Tk), s = .slice q n d ∧ e = .int .i64 k ∧ toks b 0 = l ++ toks b k ∧ l.length = n ∧ n ≤ k ∧ k ≤ m ∧ Fr S0 w wr ∧ wr.ownsRow 0 45 3 (.slice q n d) n (tkl l) ∧ Fresh w (.slice q n d)) (fun _ e _ _ _ _ _ => m - (intOf e).toNat)
  case atStart => exact ⟨0, none, 0, 0, [], rfl, rfl, by simp, rfl, by omega, by omega, Fr.refl _ _, World.ownsRow_nil _ _ _ _, fresh_nil _ _⟩
  case round =>
    obtain ⟨k, q, n, d, l, rfl, rfl, htk, hln, hnk, hkm, hfr, hown, hnew⟩ := hrel
    have HFR := Lib.hid hfr
    have HOWN := Lib.hid hown
    have HNEW := Lib.hid hnew
    have HTK := Lib.hid htk
    have HLN := Lib.hid hln
    clear hfr hown hnew htk hln
    by_cases hlt : (k : Int) < (m : Int)
    · have HWP := Lib.hid (wid_pos b k (by rw [HM.out]; omega))
      have HR : Hid (Room (n + 1)) := Lib.hid (Room.mk (by omega))
      have HTIN := Lib.hid (toks_in b k (by rw [HM.out]; omega))
      go_wp2_with fail
      go_loopw [5, 6, 7, 8] (fun s u i _ wi => ∃ j S D : Nat, j ≤ min k 32768 ∧ i = .int .i64 ((k : Int) - 1 - (j : Int)) ∧ s = .int .i64 S ∧ u = .int .i64 D ∧ bst b k j = (S, D) ∧ Fr S0 wr wi) (fun _ _ i _ _ => (intOf i + 1).toNat)
      case atStart => exact ⟨0, 0, 0, by omega, by simp, rfl, rfl, rfl, Fr.refl _ _⟩
      case round =>
        obtain ⟨j, S, D, hj, rfl, rfl, rfl, hb, hfi⟩ := hrel
        have HBJ := Lib.hid hb
        have HFI := Lib.hid hfi
        have HF := Lib.hid (HFR.out.trans0 hfi)
        have HOWN2 := Lib.hid (hfi.owns HOWN.out fun _ _ h => h)
        clear hb hfi
        by_cases hjk : j < min k 32768
        · obtain ⟨i, hi⟩ : ∃ i, k - 1 - j = i := ⟨_, rfl⟩
          have ei : (k : Int) - 1 - (j : Int) = (i : Int) := by omega
          have HNX : Hid (bst b k (j + 1) = if S < run b i k 258 then (run b i k 258, j + 1) else (S, D)) := Lib.hid (by rw [bst, HBJ.out, hi])
          obtain ⟨r, hr⟩ : ∃ r, run b i k 258 = r := ⟨_, rfl⟩
          have HRR := Lib.hid hr
          rw [hr] at HNX
          rw [ei]
          have q1 : (k : Int) - (i : Int) ≤ 32768 := by omega
          clear hr
          by_cases hrs : (S : Int) < (r : Int)
          · have HNX2 : Hid (bst b k (j + 1) = (r, j + 1)) := Lib.hid (by rw [HNX.out, if_pos (by omega)])
            go_wp2_with (go_at_call 50; rw [← HM.out]; refine (rsame_any p c b i k _ (H.out.fr0 HF.out) (by rw [HM.out]; omega) (by omega) (by rw [HM.out]; omega)).mono ?_; rintro _ w1 ⟨rfl, hf1⟩; rw [HRR.out, HM.out]; have HF1 := Lib.hid hf1; clear hf1)
            go_roundw
            case rel => exact ⟨j + 1, r, j + 1, by omega, by congr 1; omega, rfl, by congr 1; omega, HNX2.out, HFI.out.trans0 HF1.out⟩
            case measure => simp [intOf]
          · have HNX2 : Hid (bst b k (j + 1) = (S, D)) := Lib.hid (by rw [HNX.out, if_neg (by omega)])
            go_wp2_with (go_at_call 50; rw [← HM.out]; refine (rsame_any p c b i k _ (H.out.fr0 HF.out) (by rw [HM.out]; omega) (by omega) (by rw [HM.out]; omega)).mono ?_; rintro _ w1 ⟨rfl, hf1⟩; rw [HRR.out, HM.out]; have HF1 := Lib.hid hf1; clear hf1)
            go_roundw
            case rel => exact ⟨j + 1, S, D, by omega, by congr 1; omega, rfl, rfl, HNX2.out, HFI.out.trans0 HF1.out⟩
            case measure => simp [intOf]
        · have hje : j = min k 32768 := by omega
          have HB : Hid (bst b k (min k 32768) = (S, D)) := Lib.hid (by rw [← hje]; exact HBJ.out)
          by_cases hk2 : k ≤ 32768
          · have ei : (k : Int) - 1 - (j : Int) = -1 := by omega
            rw [ei]
            clear hje hjk hj
            by_cases h3 : (3 : Int) ≤ (S : Int)
            · have HT : Hid (tok b k = (0, S, D)) := Lib.hid (tok_ge b k S D HB.out (by omega))
              have HW : Hid (wid (tok b k) = S) := Lib.hid (by
                rcases tok_is b k (by rw [HM.out]; omega) with ⟨h1, _⟩ | ⟨s, e, h1, _, _, h2, _⟩
                · rw [HT.out] at h1; simp only [Prod.mk.injEq] at h1; omega
                · rw [HT.out] at h1 ⊢; simp only [Prod.mk.injEq] at h1; simp only [wid]; rw [if_neg (by omega)])
              have hkS : k + S ≤ m := by have h1 := HWP.out.2; rw [HW.out, HM.out] at h1; exact h1
              skip
              go_wp2_with (at_builtin; refine app_one elTk (.tmp 38) (.tmp 42) rfl HOWN2.out rfl rfl rfl rfl rfl (one_tk (0, S, D)) HR.out ?_; intro g cap w2 hown hgrow hat hlt2; have HO3 := Lib.hid hown; have HG3 := Lib.hid hgrow; have HA3 := Lib.hid hat; clear hown hgrow hat)
              go_roundw
              case rel => exact ⟨k + S, some ⟨g, 0, none⟩, n + 1, cap, l ++ [(0, S, D)], rfl, by simp, by rw [HTK.out, HTIN.out, HT.out, List.append_assoc, ← HT.out, HW.out]; rfl, by simp [HLN.out], by omega, hkS, (HF.out.trans0 (Fr.alloc _ _ _)).append HG3.out HNEW.out, by rw [tkl_append, tkl_one]; exact HO3.out, fresh_app HF.out HNEW.out HA3.out⟩
              case measure => simp [intOf]; omega
            · have HT : Hid (tok b k = (b.getD k 0, 0, 0)) := Lib.hid (tok_lt b k S D HB.out (by omega))
              have HW : Hid (wid (tok b k) = 1) := Lib.hid (by rw [HT.out]; rfl)
              obtain ⟨B, o, rfl, hx0⟩ := (H.out.fr0 HF.out).at k (by rw [HM.out]; omega)
              have HX := getD_at b k (by rw [HM.out]; omega)
              obtain ⟨x, hxe⟩ : ∃ x, b[k]'(by rw [HM.out]; omega) = x := ⟨_, rfl⟩
              rw [hxe] at hx0 HX
              have HTX : Hid (tok b k = (x, 0, 0)) := Lib.hid (by rw [HT.out, HX])
              clear hxe HT
              skip
              go_wp2_with (at_builtin; refine app_one elTk (.tmp 47) (.tmp 53) rfl HOWN2.out rfl rfl rfl rfl rfl (one_tk (x, 0, 0)) HR.out ?_; intro g cap w2 hown hgrow hat hlt2; have HO3 := Lib.hid hown; have HG3 := Lib.hid hgrow; have HA3 := Lib.hid hat; clear hown hgrow hat)
              go_roundw
              case rel => exact ⟨k + 1, some ⟨g, 0, none⟩, n + 1, cap, l ++ [(x, 0, 0)], rfl, by simp, by rw [HTK.out, HTIN.out, HW.out, HTX.out, List.append_assoc]; rfl, by simp [HLN.out], by omega, by omega, (HF.out.trans0 (Fr.alloc _ _ _)).append HG3.out HNEW.out, by rw [tkl_append, tkl_one]; exact HO3.out, fresh_app HF.out HNEW.out HA3.out⟩
              case measure => simp [intOf]; omega
          · have ei : (k : Int) - 1 - (j : Int) = ((k - 32769 : Nat) : Int) := by omega
            obtain ⟨i, hi⟩ : ∃ i, k - 32769 = i := ⟨_, rfl⟩
            rw [ei, hi]
            have hd : ¬ (k : Int) - (i : Int) ≤ 32768 := by omega
            clear hje hjk hj ei
            by_cases h3 : (3 : Int) ≤ (S : Int)
            · have HT : Hid (tok b k = (0, S, D)) := Lib.hid (tok_ge b k S D HB.out (by omega))
              have HW : Hid (wid (tok b k) = S) := Lib.hid (by
                rcases tok_is b k (by rw [HM.out]; omega) with ⟨h1, _⟩ | ⟨s, e, h1, _, _, h2, _⟩
                · rw [HT.out] at h1; simp only [Prod.mk.injEq] at h1; omega
                · rw [HT.out] at h1 ⊢; simp only [Prod.mk.injEq] at h1; simp only [wid]; rw [if_neg (by omega)])
              have hkS : k + S ≤ m := by have h1 := HWP.out.2; rw [HW.out, HM.out] at h1; exact h1
              skip
              go_wp2_with (at_builtin; refine app_one elTk (.tmp 38) (.tmp 42) rfl HOWN2.out rfl rfl rfl rfl rfl (one_tk (0, S, D)) HR.out ?_; intro g cap w2 hown hgrow hat hlt2; have HO3 := Lib.hid hown; have HG3 := Lib.hid hgrow; have HA3 := Lib.hid hat; clear hown hgrow hat)
              go_roundw
              case rel => exact ⟨k + S, some ⟨g, 0, none⟩, n + 1, cap, l ++ [(0, S, D)], rfl, by simp, by rw [HTK.out, HTIN.out, HT.out, List.append_assoc, ← HT.out, HW.out]; rfl, by simp [HLN.out], by omega, hkS, (HF.out.trans0 (Fr.alloc _ _ _)).append HG3.out HNEW.out, by rw [tkl_append, tkl_one]; exact HO3.out, fresh_app HF.out HNEW.out HA3.out⟩
              case measure => simp [intOf]; omega
            · have HT : Hid (tok b k = (b.getD k 0, 0, 0)) := Lib.hid (tok_lt b k S D HB.out (by omega))
              have HW : Hid (wid (tok b k) = 1) := Lib.hid (by rw [HT.out]; rfl)
              obtain ⟨B, o, rfl, hx0⟩ := (H.out.fr0 HF.out).at k (by rw [HM.out]; omega)
              have HX := getD_at b k (by rw [HM.out]; omega)
              obtain ⟨x, hxe⟩ : ∃ x, b[k]'(by rw [HM.out]; omega) = x := ⟨_, rfl⟩
              rw [hxe] at hx0 HX
              have HTX : Hid (tok b k = (x, 0, 0)) := Lib.hid (by rw [HT.out, HX])
              clear hxe HT
              skip
              go_wp2_with (at_builtin; refine app_one elTk (.tmp 47) (.tmp 53) rfl HOWN2.out rfl rfl rfl rfl rfl (one_tk (x, 0, 0)) HR.out ?_; intro g cap w2 hown hgrow hat hlt2; have HO3 := Lib.hid hown; have HG3 := Lib.hid hgrow; have HA3 := Lib.hid hat; clear hown hgrow hat)
              go_roundw
              case rel => exact ⟨k + 1, some ⟨g, 0, none⟩, n + 1, cap, l ++ [(x, 0, 0)], rfl, by simp, by rw [HTK.out, HTIN.out, HW.out, HTX.out, List.append_assoc]; rfl, by simp [HLN.out], by omega, by omega, (HF.out.trans0 (Fr.alloc _ _ _)).append HG3.out HNEW.out, by rw [tkl_append, tkl_one]; exact HO3.out, fresh_app HF.out HNEW.out HA3.out⟩
              case measure => simp [intOf]; omega
    · go_wp2
      go_ret
      exact ⟨q, n, d, rfl, by rw [HTK.out, toks_out b k (by rw [HM.out]; omega), List.append_nil, HLN.out], by rw [HTK.out, toks_out b k (by rw [HM.out]; omega), List.append_nil]; exact HOWN.out, HFR.out, HNEW.out⟩
end Go.Proofs.Ytfibhgohenkfbaa.M
