/- Tell of a text's tokens. -/
import Derived.Test.YtoplighbodcbnaaMatTell
namespace Go.Proofs.Ytoplighbodcbnaa
open Go.RowKit Go.MapKept

theorem toks_at (b : List Nat) (l : List Tk) (k i : Nat) (h : toks b 0 = l ++ toks b k) (hl : l.length = i) (hi : i < (toks b 0).length) : k < b.length ∧ ∀ h' : i < (toks b 0).length, (toks b 0)[i] = tok b k := by
  have hk : k < b.length := by
    rcases Nat.lt_or_ge k b.length with h1 | h1
    · exact h1
    · rw [h, toks_out b k h1, List.append_nil, hl] at hi
      omega
  refine ⟨hk, fun h' => ?_⟩
  have : (toks b 0)[i]? = some (tok b k) := by
    rw [h, toks_in b k hk, List.getElem?_append_right (by omega), hl]
    simp
  rw [List.getElem?_eq_getElem h'] at this
  exact Option.some.inj this
theorem put_fr {w wr w2 w3 : World} {v v' : Value} (h : Fr S0 w wr) (hf : Fr S0 wr w2) (hv : Fresh w v) (hp : PutTo w2 w3 v v') : Fr S0 w w3 ∧ Fresh w v' :=
  ⟨(h.trans0 hf).trans hp.fr fun j hj e => by have := hv j e; omega, fun g hg => by
    rcases hp.at' g hg with h1 | h1
    · exact hv g h1
    · exact Nat.le_trans (h.trans0 hf).size h1⟩

set_option maxRecDepth 100000 in
set_option maxHeartbeats 2000000 in
theorem tell_any (q : Option Addr) (n d : Nat) (b : List Nat) (w : World) (h : TkI w q (toks b 0)) (hn : (toks b 0).length = n) (hlen : b.length ≤ 1048576) :
    Calls Try.prog 10 #[.slice q n d] w fun r w' => ∃ p c, r = .returned (.tuple #[.slice p b.length c, .bool true]) ∧ w'.ownsRow 0 5 1 (.slice p b.length c) b.length (u8s b) ∧ Fr S0 w w' ∧ Fresh w (.slice p b.length c) := by
  have H := Lib.hid h
  have HN := Lib.hid hn
  have hnm := toks_le b
  rw [hn] at hnm
  obtain ⟨m, hm⟩ : ∃ m, b.length = m := ⟨_, rfl⟩
  have HM := Lib.hid hm
  rw [hm] at hlen hnm
  rw [hm]
  clear h hn hm
  go_enter Try.func10, Try.ntmps10
  go_wp2_with fail
  go_loopw [4, 6, 9] (fun s _ i wr => ∃ (j k : Nat) (p : Option Addr) (c : Nat) (l : List Tk), j ≤ n ∧ i = .int .i64 j ∧ s = .slice p k c ∧ toks b 0 = l ++ toks b k ∧ l.length = j ∧ k ≤ m ∧ wr.ownsRow 0 5 1 (.slice p k c) k (u8s (b.take k)) ∧ Fr S0 w wr ∧ Fresh w (.slice p k c)) (fun _ _ i _ => n - (intOf i).toNat)
  case atStart => exact ⟨0, 0, none, 0, [], by omega, rfl, rfl, by simp, rfl, by omega, World.ownsRow_nil _ _ _ _, Fr.refl _ _, fresh_nil _ _⟩
  case round =>
    obtain ⟨j, k, p, c, l, hj, rfl, rfl, htk, hll, hkm, hown, hfr, hnew⟩ := hrel
    have HOWN := Lib.hid hown
    have HFR := Lib.hid hfr
    have HNEW := Lib.hid hnew
    have HTK := Lib.hid htk
    have HLL := Lib.hid hll
    clear hown hfr hnew htk hll
    by_cases hjn : (j : Int) < (n : Int)
    · have HAT := Lib.hid (toks_at b l k j HTK.out HLL.out (by rw [HN.out]; omega))
      have hkl : k < m := by rw [← HM.out]; exact HAT.out.1
      obtain ⟨g, rfl, c0, c1, c2⟩ := (H.out.fr0 HFR.out).at j (by rw [HN.out]; omega)
      rw [HAT.out.2] at c0 c1 c2
      have HWP := Lib.hid (wid_pos b k (by rw [HM.out]; omega))
      have HTIN := Lib.hid (toks_in b k (by rw [HM.out]; omega))
      rcases tok_is b k (by rw [HM.out]; omega) with ⟨ht, _⟩ | ⟨s, e, ht, s3, s8, e0, ek, e2, hks, hrun, _, _⟩
      · obtain ⟨x, hx⟩ : ∃ x, b.getD k 0 = x := ⟨_, rfl⟩
        rw [hx] at ht
        have HX := Lib.hid hx
        have HT := Lib.hid ht
        rw [ht] at c0 c1 c2
        have HTAKE : Hid (b.take (k + 1) = b.take k ++ [x]) := Lib.hid (by rw [List.take_succ_eq_append_getElem (by rw [HM.out]; omega), ← getD_at b k (by rw [HM.out]; omega), HX.out])
        have HW : Hid (wid (x, 0, 0) = 1) := Lib.hid rfl
        have q1 : (1 : Int) ≤ 1048576 - (k : Int) := by omega
        clear hx ht
        go_wp2_with (first
          | (go_at_call 17; refine (fits_byte x k _).mono ?_; rintro _ w1 ⟨rfl, f1⟩; have HF1 := Lib.hid ((Fr.alloc S0 wr _).trans0 f1); have t0 := f1.row (heap_alloc_new wr (.cells #[.int .u8 (x : Int), .int .i64 0, .int .i64 0] 34)) (fun h => h); have T0 := Lib.hid t0; obtain ⟨t1, t2, t3, _⟩ := tok_facts t0; clear f1 t0)
          | (go_at_call 16; refine (width_any (x, 0, 0) _).mono ?_; rintro _ w2 ⟨rfl, f2⟩; rw [HW.out]; have HF2 := Lib.hid (HF1.out.trans0 f2); obtain ⟨t4, t5, t6, _⟩ := tok_facts (f2.row T0.out (fun h => h)); clear f2)
          | (go_at_call 18; refine (put_byte p k c x (b.take k) _ (HF2.out.owns HOWN.out fun _ _ h => h) (by omega)).mono ?_; rintro _ w3 ⟨p', c', rfl, ho3, hp3⟩; have HO3 := Lib.hid ho3; have HP3 := Lib.hid hp3; clear ho3 hp3))
        go_roundw
        case rel => exact ⟨j + 1, k + 1, p', c', l ++ [(x, 0, 0)], by omega, by simp, rfl, by rw [HTK.out, HTIN.out, HT.out, List.append_assoc]; rfl, by simp [HLL.out], by omega, by rw [HTAKE.out]; exact HO3.out, (put_fr HFR.out HF2.out HNEW.out HP3.out).1, (put_fr HFR.out HF2.out HNEW.out HP3.out).2⟩
        case measure => simp [intOf]; omega
      · have HT := Lib.hid ht
        rw [ht] at c0 c1 c2
        have HW : Hid (wid (0, s, e) = s) := Lib.hid (by simp only [wid]; rw [if_neg (by omega)])
        have HRUN : Hid (∀ j, j < s → b.getD (k - e + j) 0 = b.getD (k + j) 0) := Lib.hid (fun j h1 => (run_all b 258 (k - e) k j (by rw [hrun]; exact h1)).2)
        rw [HM.out] at hks
        have q1 : (s : Int) ≤ 1048576 - (k : Int) := by omega
        clear ht hrun
        go_wp2_with (first
          | (go_at_call 17; refine (fits_again s e k _ s3 s8 e0 ek e2 (by omega)).mono ?_; rintro _ w1 ⟨rfl, f1⟩; have HF1 := Lib.hid ((Fr.alloc S0 wr _).trans0 f1); have t0 := f1.row (heap_alloc_new wr (.cells #[.int .u8 0, .int .i64 (s : Int), .int .i64 (e : Int)] 34)) (fun h => h); have T0 := Lib.hid t0; obtain ⟨t1, t2, t3, _⟩ := tok_facts t0; clear f1 t0)
          | (go_at_call 16; refine (width_any (0, s, e) _).mono ?_; rintro _ w2 ⟨rfl, f2⟩; rw [HW.out]; have HF2 := Lib.hid (HF1.out.trans0 f2); obtain ⟨t4, t5, t6, _⟩ := tok_facts (f2.row T0.out (fun h => h)); clear f2)
          | (go_at_call 18; refine (put_again p c k s e b _ (HF2.out.owns HOWN.out fun _ _ h => h) e0 ek (by rw [HM.out]; exact hks) (by rw [HM.out]; exact hlen) HRUN.out).mono ?_; rintro _ w3 ⟨p', c', rfl, ho3, hp3⟩; have HO3 := Lib.hid ho3; have HP3 := Lib.hid hp3; clear ho3 hp3))
        go_roundw
        case rel => exact ⟨j + 1, k + s, p', c', l ++ [(0, s, e)], by omega, by simp, rfl, by rw [HTK.out, HTIN.out, HT.out, HW.out, List.append_assoc]; rfl, by simp [HLL.out], by omega, HO3.out, (put_fr HFR.out HF2.out HNEW.out HP3.out).1, (put_fr HFR.out HF2.out HNEW.out HP3.out).2⟩
        case measure => simp [intOf]; omega
    · have HK : Hid (k = m) := Lib.hid (by
        rcases Nat.lt_or_ge k m with h1 | h1
        · have h2 := HTK.out
          have h3 := congrArg List.length h2
          rw [List.length_append, HN.out, HLL.out, toks_in b k (by rw [HM.out]; exact h1), List.length_cons] at h3
          omega
        · omega)
      have hk := HK.out
      subst hk
      go_wp2
      go_ret2
      exact ⟨p, c, rfl, by have h1 := HOWN.out; rw [List.take_of_length_le (by rw [HM.out]; omega)] at h1; exact h1, HFR.out, HNEW.out⟩
end Go.Proofs.Ytoplighbodcbnaa
