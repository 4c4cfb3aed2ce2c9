/- MatchLong. -/
import Derived.Test.YtoplighbodcbnaaMatLawFinds
namespace Go.Proofs.Ytoplighbodcbnaa
open Go.RowKit Go.MapKept

theorem long_tok (t : List Nat) (P k : Nat) (hP : 0 < P) (hP2 : P ≤ 300) (hper : ∀ i, i + P < t.length → t.getD i 0 = t.getD (i + P) 0) (h1 : P ≤ k) (h2 : k < t.length) :
    (3 ≤ min 258 (t.length - k) → ∃ d, tok t k = (0, min 258 (t.length - k), d) ∧ 0 < d ∧ d ≤ P) ∧ (min 258 (t.length - k) < 3 → ∃ x, tok t k = (x, 0, 0)) := by
  have hrun : run t (k - P) k 258 = min 258 (t.length - k) := by
    refine run_unique t 258 (k - P) k _ (by omega) (fun j hj => ⟨by omega, ?_⟩) fun h => by omega
    have := hper (k - P + j) (by omega)
    rw [this]
    congr 1
    omega
  have hmax : ∀ i, run t i k 258 ≤ min 258 (t.length - k) := fun i => run_le_e t i k _ rfl h2
  rcases tok_is t k h2 with ⟨ht, hall⟩ | ⟨s, d, ht, h3, h8, hd, hdk, hdf, hks, hrs, hall, hnear⟩
  · have := hall (k - P) (by omega) (by omega)
    exact ⟨fun h => by omega, fun _ => ⟨_, ht⟩⟩
  · have h4 := hall (k - P) (by omega) (by omega)
    have h5 := hmax (k - d)
    refine ⟨fun _ => ⟨d, ?_, hd, ?_⟩, fun h => by omega⟩
    · rw [ht]; simp only [Prod.mk.injEq, true_and, and_true]; omega
    · rcases Nat.lt_or_ge P d with h6 | h6
      · have := hnear (k - P) (by omega) (by omega); omega
      · exact h6
/-- a text's bytes, over and over -/
def per (b : List Nat) (N : Nat) : List Nat := (List.range N).map fun i => b.getD (i % b.length) 0
theorem per_len (b : List Nat) (N : Nat) : (per b N).length = N := by simp [per]
theorem per_next (b : List Nat) (N : Nat) : per b (N + 1) = per b N ++ [b.getD (N % b.length) 0] := by simp [per, List.range_succ]
theorem per_at (b : List Nat) (N i : Nat) (h : i < N) : (per b N).getD i 0 = b.getD (i % b.length) 0 := by simp [per, h]
theorem per_per (b : List Nat) (N i : Nat) (h : i + b.length < (per b N).length) : (per b N).getD i 0 = (per b N).getD (i + b.length) 0 := by
  rw [per_len] at h
  rw [per_at b N i (by omega), per_at b N (i + b.length) h, Nat.add_mod_right]
theorem per_small (b : List Nat) (N : Nat) (h : ∀ x ∈ b, x < 256) : ∀ x ∈ per b N, x < 256 := by
  intro x hx
  simp only [per, List.mem_map, List.mem_range] at hx
  obtain ⟨i, _, rfl⟩ := hx
  rw [List.getD_eq_getElem?_getD]
  cases e : b[i % b.length]? with
  | none => simp
  | some y => exact h y (List.mem_of_getElem? e)

set_option maxRecDepth 100000 in
set_option maxHeartbeats 4000000 in
theorem law_long (p : Option Addr) (c n P : Nat) (bs : List Nat) (w : World) (hn : n < 65536) (hP : bs.length = P) (h : SlI w .u8 p bs) (hb8 : ∀ x ∈ bs, x < 256) :
    Calls Try.prog 4 #[.slice p P c, .int .u16 (n : Nat)] w fun r w' => r = .returned (.bool true) ∧ Fr S0 w w' := by
  have H := Lib.hid h
  have HP := Lib.hid hP
  have H8 := Lib.hid hb8
  clear h hb8 hP
  by_cases h0 : P = 0
  · subst h0
    go_enter Try.func4, Try.ntmps4
    go_wp2_with fail
    refine start _ _ ?_
    intro w1 f1
    have F1 := Lib.hid f1
    clear f1
    go_wp2
    go_ret
    exact ⟨rfl, F1.out⟩
  · by_cases h3 : (300 : Int) < (P : Int)
    · have h0' : ((P : Int) == 0) = false := by simpa using h0
      go_enter Try.func4, Try.ntmps4
      go_wp2_with fail
      refine start _ _ ?_
      intro w1 f1
      have F1 := Lib.hid f1
      clear f1
      go_wp2
      go_ret
      exact ⟨rfl, F1.out⟩
    · have h0' : ((P : Int) == 0) = false := by simpa using h0
      have hP0 : 0 < P := by omega
      obtain ⟨E, hE⟩ : ∃ E, n % 3000 = E := ⟨_, rfl⟩
      have eE : (n : Int) % 3000 = (E : Int) := by omega
      have hE3 : E < 3000 := by omega
      clear hE
      go_enter Try.func4, Try.ntmps4
      go_wp2_with fail
      refine start _ _ ?_
      intro w1 f1
      have F1 := Lib.hid f1
      clear f1
      go_wp2_with fail
      go_loopw [5, 6] (fun s i wr => ∃ (j : Nat) (q : Option Addr) (d : Nat), j ≤ P + E ∧ i = .int .i64 j ∧ s = .slice q j d ∧ wr.ownsRow 0 5 1 (.slice q j d) j (u8s (per bs j)) ∧ Fr S0 w wr ∧ Fresh w (.slice q j d)) (fun _ i _ => P + E - (intOf i).toNat)
      case atStart => exact ⟨0, none, 0, by omega, rfl, rfl, World.ownsRow_nil _ _ _ _, F1.out, fresh_nil _ _⟩
      case round =>
        obtain ⟨j, q, d, hj, rfl, rfl, hown, hfr, hnew⟩ := hrel
        have HOWN := Lib.hid hown
        have HFR := Lib.hid hfr
        have HNEW := Lib.hid hnew
        clear hown hfr hnew
        by_cases hjn : (j : Int) < (P : Int) + (E : Int)
        · have hmod := Nat.mod_lt j hP0
          obtain ⟨B, o, rfl, hx0⟩ := (H.out.fr0 HFR.out).at (j % P) (by rw [HP.out]; exact hmod)
          obtain ⟨x, hxe⟩ : ∃ x, bs[j % P]'(by rw [HP.out]; exact hmod) = x := ⟨_, rfl⟩
          have HPER : Hid (per bs (j + 1) = per bs j ++ [x]) := Lib.hid (by rw [per_next, HP.out, getD_at bs (j % P) (by rw [HP.out]; exact hmod), hxe])
          rw [hxe] at hx0
          obtain ⟨J, hJ⟩ : ∃ J, j % P = J := ⟨_, rfl⟩
          rw [hJ] at hx0 hmod
          have eJ : (j : Int) % (P : Int) = (J : Int) := by rw [← hJ]; exact (Int.natCast_emod j P).symm
          have eJ2 : (j : Int).tmod (P : Int) = (J : Int) := by rw [← hJ]; rfl
          have HR : Hid (Room (j + 1)) := Lib.hid (Room.mk (by omega))
          clear hxe hJ
          go_wp2_with (at_builtin; refine app_one el8 (.tmp 31) (.tmp 39) rfl HOWN.out rfl rfl rfl rfl rfl one8 HR.out ?_; intro g cap w2 hown hgrow hat hlt2; have HO := Lib.hid hown; have HG := Lib.hid hgrow; have HA := Lib.hid hat; clear hown hgrow hat)
          go_roundw
          case rel => exact ⟨j + 1, some ⟨g, 0, none⟩, cap, by omega, by simp, rfl, by rw [HPER.out, ← u8s_append]; exact HO.out, HFR.out.append ((World.grownBy_alloc _ _ _).trans HG.out) HNEW.out, fresh_app HFR.out HNEW.out HA.out⟩
          case measure => simp [intOf]; omega
        · have hjN : j = P + E := by omega
          go_wp2_with fail
          obtain ⟨N, hN⟩ : ∃ N, P + E = N := ⟨_, rfl⟩
          rw [hN] at hjN
          subst hjN
          rw [hN]
          have eN : (P : Int) + (E : Int) = (j : Int) := by omega
          have HNN := Lib.hid hN
          have hj0 : j ≤ 3300 := by omega
          obtain ⟨T, hT⟩ : ∃ T, per bs j = T := ⟨_, rfl⟩
          have HTT := Lib.hid hT
          have HTL : Hid (T.length = j) := Lib.hid (by rw [← hT, per_len])
          have HTP : Hid (∀ i, i + P < T.length → T.getD i 0 = T.getD (i + P) 0) := Lib.hid (by rw [← hT, ← HP.out]; exact fun i h => per_per bs j i h)
          rw [hT] at HOWN
          refine (find_n q d j T _ HTL.out (SlI.ofOwns HOWN.out) (by obtain ⟨_, _, e, _, h, _⟩ := slForm HOWN.out; cases e; exact h) (by rw [← HTT.out]; exact per_small bs j H8.out) (by omega)).mono ?_
          rintro _ w4 ⟨q4, m4, d4, hm4, rfl, hk4, hle4, f4⟩
          have HM4 := Lib.hid hm4
          have HK4 := Lib.hid hk4
          have F4 := Lib.hid (HFR.out.trans0 f4)
          have hPj : P ≤ j := by omega
          clear hm4 hk4 f4 hT hjn hN
          go_wp2_with fail
          go_loopw [8, 9, 10] (fun s i _ wi => ∃ (k i2 : Nat) (l : List Tk), s = .int .i64 k ∧ i = .int .i64 i2 ∧ i2 ≤ m4 ∧ k ≤ j ∧ toks T 0 = l ++ toks T k ∧ l.length = i2 ∧ Fr S0 w4 wi) (fun _ i _ _ => m4 - (intOf i).toNat)
          case atStart => exact ⟨0, 0, [], rfl, rfl, by omega, by omega, by simp, rfl, Fr.refl _ _⟩
          case round =>
            obtain ⟨k, i2, l, rfl, rfl, hi2, hkj, htk, hll, hfr⟩ := hrel
            have HFR2 := Lib.hid hfr
            have HTK := Lib.hid htk
            have HLL := Lib.hid hll
            clear hfr htk hll
            by_cases hi : (i2 : Int) < (m4 : Int)
            · have HAT := Lib.hid (toks_at T l k i2 HTK.out HLL.out (by rw [HM4.out]; omega))
              have hkN : k < j := by rw [← HTL.out]; exact HAT.out.1
              obtain ⟨g, rfl, c0, c1, c2⟩ := (HK4.out.fr0 HFR2.out).at i2 (by rw [HM4.out]; omega)
              rw [HAT.out.2] at c0 c1 c2
              have HTIN := Lib.hid (toks_in T k (by rw [HTL.out]; omega))
              have HWP := Lib.hid (wid_pos T k (by rw [HTL.out]; omega))
              by_cases hkP : (P : Int) ≤ (k : Int)
              · have HLT := Lib.hid (long_tok T P k hP0 (by omega) HTP.out (by omega) (by rw [HTL.out]; omega))
                rw [HTL.out] at HLT
                obtain ⟨W, hW⟩ : ∃ W, min 258 (j - k) = W := ⟨_, rfl⟩
                rw [hW] at HLT
                have emin : (if (j : Int) - (k : Int) < 258 then (j : Int) - (k : Int) else 258) = (W : Int) := by split <;> omega
                by_cases hW3 : (3 : Int) ≤ (W : Int)
                · obtain ⟨e, ht, he0, heP⟩ := HLT.out.1 (by omega)
                  rw [ht] at c0 c1 c2
                  have HT4 : Hid (toks T 0 = (l ++ [(0, W, e)]) ++ toks T (k + W)) := Lib.hid (by
                    rw [HTK.out, HTIN.out, ht, show wid (0, W, e) = W from by simp only [wid]; rw [if_neg (by omega)], List.append_assoc]; rfl)
                  have n1 : ((e : Int) == 0) = false := by simp; omega
                  have n2 : (e : Int) ≤ (P : Int) := by omega
                  have n3 : ¬ (W : Int) < 3 := by omega
                  have n4 : (1 : Int) < (W : Int) := by omega
                  have hkW : k + W ≤ j := by omega
                  simp only at c0 c1 c2
                  clear ht hW
                  go_wp2_with fail
                  go_roundw
                  case rel => exact ⟨k + W, i2 + 1, l ++ [(0, W, e)], by simp, by simp, by omega, hkW, HT4.out, by simp [HLL.out], HFR2.out⟩
                  case measure => simp [intOf]; omega
                · obtain ⟨x, ht⟩ := HLT.out.2 (by omega)
                  rw [ht] at c0 c1 c2
                  have HT4 : Hid (toks T 0 = (l ++ [(x, 0, 0)]) ++ toks T (k + 1)) := Lib.hid (by
                    rw [HTK.out, HTIN.out, ht, show wid (x, 0, 0) = 1 from rfl, List.append_assoc]; rfl)
                  have n3 : (W : Int) < 3 := by omega
                  simp only at c0 c1 c2
                  clear ht hW
                  go_wp2_with fail
                  go_roundw
                  case rel => exact ⟨k + 1, i2 + 1, l ++ [(x, 0, 0)], by simp, by simp, by omega, by omega, HT4.out, by simp [HLL.out], HFR2.out⟩
                  case measure => simp [intOf]; omega
              · rcases tok_is T k (by rw [HTL.out]; omega) with ⟨ht, _⟩ | ⟨s, e, ht, s3, s8, e0, ek, e2, hks, _⟩
                · obtain ⟨x, hx⟩ : ∃ x, T.getD k 0 = x := ⟨_, rfl⟩
                  rw [hx] at ht
                  rw [ht] at c0 c1 c2
                  have HT4 : Hid (toks T 0 = (l ++ [(x, 0, 0)]) ++ toks T (k + 1)) := Lib.hid (by
                    rw [HTK.out, HTIN.out, ht, show wid (x, 0, 0) = 1 from rfl, List.append_assoc]; rfl)
                  simp only at c0 c1 c2
                  clear ht hx
                  go_wp2_with fail
                  go_roundw
                  case rel => exact ⟨k + 1, i2 + 1, l ++ [(x, 0, 0)], by simp, by simp, by omega, by omega, HT4.out, by simp [HLL.out], HFR2.out⟩
                  case measure => simp [intOf]; omega
                · rw [ht] at c0 c1 c2
                  rw [HTL.out] at hks
                  have HT4 : Hid (toks T 0 = (l ++ [(0, s, e)]) ++ toks T (k + s)) := Lib.hid (by
                    rw [HTK.out, HTIN.out, ht, show wid (0, s, e) = s from by simp only [wid]; rw [if_neg (by omega)], List.append_assoc]; rfl)
                  have n4 : (1 : Int) < (s : Int) := by omega
                  simp only at c0 c1 c2
                  clear ht
                  go_wp2_with fail
                  go_roundw
                  case rel => exact ⟨k + s, i2 + 1, l ++ [(0, s, e)], by simp, by simp, by omega, hks, HT4.out, by simp [HLL.out], HFR2.out⟩
                  case measure => simp [intOf]; omega
            · have hK : k = j := by
                rcases Nat.lt_or_ge k j with h1 | h1
                · have h2 := HTK.out
                  have h3 := congrArg List.length h2
                  rw [List.length_append, HM4.out, HLL.out, toks_in T k (by rw [HTL.out]; exact h1), List.length_cons] at h3
                  omega
                · omega
              have eK : ((k : Int) == (j : Int)) = true := by simp; omega
              clear hK
              go_wp2
              go_ret
              exact ⟨rfl, F4.out.trans0 HFR2.out⟩
end Go.Proofs.Ytoplighbodcbnaa
