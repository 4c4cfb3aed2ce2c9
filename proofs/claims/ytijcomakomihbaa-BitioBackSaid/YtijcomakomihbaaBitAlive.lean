/- The document's examples of layer 4. -/
import Derived.Test.YtijcomakomihbaaBitRef
namespace Go.Proofs.Ytijcomakomihbaa
open Go.RowKit

theorem WrNew.fr0 {w w1 w2 : World} {g : Nat} {L : List Nat} (h : WrNew w w1 g L) (hf : Fr S0 w1 w2) : WrNew w w2 g L := by
  obtain ⟨r, h1, f, hg, hr⟩ := h
  exact ⟨r, h1.fr0 hf, f.trans0 hf, hg, hr⟩
theorem WrNew.lt {w w1 : World} {g : Nat} {L : List Nat} (h : WrNew w w1 g L) : g < w1.heap.size := by
  obtain ⟨r, h1, -⟩ := h
  exact h1.lt
/-- a reader that is younger goes on -/
theorem WrNew.beside {w w1 w2 w3 : World} {g g2 : Nat} {L : List Nat} {r2 : Option Nat} {b : List Nat} {k : Nat} (h : WrNew w w1 g L) (hg2 : w1.heap.size ≤ g2) (hf : Fr S0 w1 w2) (hto : RdTo w2 w3 g2 r2 b k) : WrNew w w3 g L := by
  obtain ⟨r, h1, f, hg, hr⟩ := h
  have hlt := h1.lt
  have hrl := h1.rlt
  refine ⟨r, (h1.fr0 hf).fr hto.2 (fun e => by omega) (fun j hj e => by have := hrl j hj; omega), (f.trans0 hf).trans hto.2 (fun j hj e => by have := f.size; omega), hg, hr⟩
theorem new_group {w w1 : World} {g : Nat} {L : List Nat} (h : WrNew w w1 g L) (n : Nat) (c : Int) (hn : n < 4294967296) (hf : fitB n c = true) (hL : L.length + 32 ≤ 1099511627776) :
    Calls Try.prog 10 #[.pointer (some ⟨g, 0, none⟩), .int .u32 n, .int .i64 c] w1 fun e w2 => e = .returned (.int .i64 0) ∧ WrNew w w2 g (L ++ grp n c.toNat) := by
  obtain ⟨r, h1, f, hg, hr⟩ := h
  refine (group_yes g r L n c w1 h1 hn hf hL).mono ?_
  rintro e w2 ⟨rfl, hto⟩
  exact ⟨rfl, WrNew.to f hg hr hto⟩
theorem new_code {w w1 : World} {g : Nat} {L : List Nat} (h : WrNew w w1 g L) (n : Nat) (c : Int) (hn : n < 4294967296) (hf : fitB n c = true) (hL : L.length + 32 ≤ 1099511627776) :
    Calls Try.prog 9 #[.pointer (some ⟨g, 0, none⟩), .int .u32 n, .int .i64 c] w1 fun e w2 => e = .returned (.int .i64 0) ∧ WrNew w w2 g (L ++ code n c.toNat) := by
  obtain ⟨r, h1, f, hg, hr⟩ := h
  refine (code_yes g r L n c w1 h1 hn hf hL).mono ?_
  rintro e w2 ⟨rfl, hto⟩
  exact ⟨rfl, WrNew.to f hg hr hto⟩

set_option maxRecDepth 100000 in
set_option maxHeartbeats 4000000 in
theorem alive_any (w : World) : Calls Try.prog 8 #[] w fun e w' => e = .returned (.bool true) ∧ Fr S0 w w' := by
  have W0 := Lib.hid (WrNew.zero (Fr.refl S0 w))
  go_enter Try.func8, Try.ntmps8
  go_wp2_with fail
  refine (new_group W0.out 5 3 (by decide) (by decide) (by decide)).mono ?_
  rintro e w1 ⟨rfl, h1⟩
  have W1 := Lib.hid (show WrNew w w1 w.heap.size [1, 0, 1] from h1)
  clear h1 W0
  go_wp2_with fail
  refine (new_code W1.out 1 3 (by decide) (by decide) (by decide)).mono ?_
  rintro e w2 ⟨rfl, h2⟩
  have W2 := Lib.hid (show WrNew w w2 w.heap.size [1, 0, 1, 0, 0, 1] from h2)
  clear h2 W1
  go_wp2_with fail
  refine (new_group W2.out 1 1 (by decide) (by decide) (by decide)).mono ?_
  rintro e w3 ⟨rfl, h3⟩
  have W3 := Lib.hid (show WrNew w w3 w.heap.size [1, 0, 1, 0, 0, 1, 1] from h3)
  clear h3 W2
  go_wp2_with fail
  refine (new_any (some ⟨w3.heap.size, 0, none⟩) 1 [101] _ (SlI.new w3 _ _ _ _ _ rfl (by decide)) (by decide) (fun h => by cases h) (by decide)).mono ?_
  rintro e w4 ⟨g, r, rfl, hr, f4, hg, -⟩
  have hgs : w3.heap.size ≤ g := by simp at hg; omega
  have W4 := W3.out.fr0 ((Fr.alloc _ _ _).trans0 f4)
  have F4 := Lib.hid ((Fr.alloc S0 w3 (.cells #[.int .u8 101] 5)).trans0 f4)
  clear hg f4 W4
  have hne : ((some ⟨g, 0, none⟩ : Option Addr) == none) = false := rfl
  go_wp2_with fail
  refine (rgroup_ok g r [101] 0 3 w4 hr (by decide) (by decide) (by decide)).mono ?_
  rintro e w5 ⟨rfl, t5⟩
  rw [show num (bitsAt [101] 0 3) = 5 by decide]
  have T5 := Lib.hid t5
  clear t5 hr
  go_wp2_with fail
  refine (rgroup_ok g r [101] 3 3 w5 T5.out.1 (by decide) (by decide) (by decide)).mono ?_
  rintro e w6 ⟨rfl, t6⟩
  rw [show num (bitsAt [101] 3 3) = 4 by decide]
  have T6 := Lib.hid (T5.out.trans t6)
  clear t6 T5
  go_wp2_with fail
  refine (rbit_of g w6 _ _ _ (rgroup_ok g r [101] 6 1 w6 T6.out.1 (by decide) (by decide) (by decide))).mono ?_
  rintro e w7 ⟨rfl, t7⟩
  rw [show num (bitsAt [101] 6 1) = 1 by decide]
  have T7 := Lib.hid (T6.out.trans t7)
  clear t7 T6
  have W7 := Lib.hid (W3.out.beside hgs F4.out T7.out)
  clear W3 F4
  have hby := W7.out
  obtain ⟨rr, hb, -⟩ := hby
  go_wp2_with fail
  refine (bytes_any _ rr _ w7 hb (by decide)).mono ?_
  rintro e w8 ⟨v, rfl, f8, hv⟩
  rw [show byt [1, 0, 1, 0, 0, 1, 1] = [101] by decide] at hv
  have kv := conv_own hv.own
  have W8 := Lib.hid (W7.out.fr0 f8)
  have T8 := Lib.hid (T7.out.fr0 f8)
  clear hb W7 T7 f8 hv hne
  have hs : (strB [101]).toList = [101] := by rw [ba_toList]; decide
  go_wp2_with fail
  obtain ⟨rr, hb, -⟩ := W8.out
  refine (len_any _ rr _ w8 hb).mono ?_
  rintro e w' ⟨rfl, rfl⟩
  go_wp2_with fail
  refine (left_any g r [101] 7 w8 T8.out.1 (by decide)).mono ?_
  rintro e w9 ⟨rfl, f9⟩
  have W9 := Lib.hid (W8.out.fr0 f9)
  clear f9 T8 W8 hb
  go_wp2_with fail
  refine (turn_any 1 3 w9 (by decide) (by decide) (by decide)).mono ?_
  rintro e w' ⟨rfl, rfl⟩
  rw [show turn 1 (3 : Int).toNat = 4 by decide]
  go_wp2
  go_ret
  obtain ⟨_, _, f, _⟩ := W9.out
  exact ⟨rfl, f⟩

theorem start (w : World) (R) (h : ∀ w1, Fr S0 w w1 → R (.returned (.bool true)) w1) : Calls Try.prog 8 #[] w R :=
  (alive_any w).mono fun e w1 he => by rw [he.1]; exact h w1 he.2

set_option maxRecDepth 100000 in
set_option maxHeartbeats 1000000 in
theorem law_turns (n : Nat) (c : Int) (w : World) (hn : n < 4294967296) :
    Calls Try.prog 6 #[.int .u32 n, .int .i64 c] w fun e w' => e = .returned (.bool true) ∧ Fr S0 w w' := by
  have hw := start w
  by_cases h : 0 ≤ c ∧ c ≤ 32
  · obtain ⟨k, rfl⟩ : ∃ k : Nat, c = k := ⟨c.toNat, by omega⟩
    have h0 : ¬ (k : Int) < 0 := by omega
    have h1 : ¬ (k : Int) > 32 := by omega
    have hk : k ≤ 32 := by omega
    have HT := Lib.hid (turn_any n k)
    have HT2 := Lib.hid (turn_any (turn n k) k)
    have HTT := Lib.hid (turn_turn n k)
    have HNG := Lib.hid (num_grp n k)
    have HTE : Hid (num (grp n k).reverse = turn n k) := Lib.hid rfl
    have HT32 := Lib.hid (turn_32 n k hk)
    rw [Int.toNat_natCast] at HT HT2
    rw [HTT.out] at HT2
    obtain ⟨T, hT⟩ : ∃ T, turn n k = T := ⟨_, rfl⟩
    obtain ⟨Z, hZ⟩ : ∃ Z, n % 2 ^ k = Z := ⟨_, rfl⟩
    rw [hT] at HT HT2 HTE HT32
    rw [hZ] at HT2 HNG
    clear h hT hZ HTT
    go_enter Try.func6, Try.ntmps6
    go_wp2_with fail
    refine hw _ ?_
    intro w1 g1
    clear hw
    go_wp2_with fail
    refine (rgrp_any n k w1 hn hk).mono ?_
    rintro e w2 ⟨v, rfl, f2, hv⟩
    have g2 := g1.trans0 f2
    clear f2 g1
    have hN : Hid (Calls Try.prog 23 #[v] w2 fun e w' => e = .returned (.int .u32 (Z : Nat)) ∧ w2 = w') := by
      obtain ⟨p, cp, rfl, -⟩ := slForm hv.own
      have h := rnumber_any p cp (grp n k) w2 (SlI.ofOwns hv.own) (grp_bit n k) (by rw [grp_length]; exact hk)
      rw [HNG.out] at h
      exact Lib.hid h
    clear hv
    go_wp2_with fail
    refine hN.out.mono ?_
    rintro e w' ⟨rfl, rfl⟩
    go_wp2_with fail
    refine (HT.out w2 hn (by omega) (by omega)).mono ?_
    rintro e w' ⟨rfl, rfl⟩
    go_wp2_with fail
    refine (rgrp_any n k w2 hn hk).mono ?_
    rintro e w3 ⟨v3, rfl, f3, hv3⟩
    have g3 := g2.trans0 f3
    clear f3 g2 hN
    have hR : Hid (Calls Try.prog 13 #[v3] w3 fun e w' => ∃ v, e = .returned v ∧ Fr S0 w3 w' ∧ RowNew w3 w' v (grp n k).reverse) := by
      obtain ⟨p, cp, rfl, -⟩ := slForm hv3.own
      exact Lib.hid (rturned_any p cp (grp n k) w3 (SlI.ofOwns hv3.own) (by rw [grp_length]; omega))
    clear hv3
    go_wp2_with fail
    refine hR.out.mono ?_
    rintro e w4 ⟨v4, rfl, f4, hv4⟩
    have g4 := g3.trans0 f4
    clear f4 g3 hR
    have hN : Hid (Calls Try.prog 23 #[v4] w4 fun e w' => e = .returned (.int .u32 (T : Nat)) ∧ w4 = w') := by
      obtain ⟨p, cp, rfl, -⟩ := slForm hv4.own
      have h := rnumber_any p cp (grp n k).reverse w4 (SlI.ofOwns hv4.own) (grp_bit n k).rev (by rw [List.length_reverse, grp_length]; exact hk)
      rw [HTE.out] at h
      exact Lib.hid h
    clear hv4
    go_wp2_with fail
    refine hN.out.mono ?_
    rintro e w' ⟨rfl, rfl⟩
    go_wp2_with fail
    refine (HT.out w4 hn (by omega) (by omega)).mono ?_
    rintro e w' ⟨rfl, rfl⟩
    go_wp2_with fail
    refine (HT2.out w4 HT32.out (by omega) (by omega)).mono ?_
    rintro e w' ⟨rfl, rfl⟩
    go_wp2
    go_ret
    exact ⟨rfl, g4⟩
  · have HT := Lib.hid (fun w1 => turn_no n c w1 h)
    by_cases h0 : c < 0
    · clear h
      go_enter Try.func6, Try.ntmps6
      go_wp2_with fail
      refine hw _ ?_
      intro w1 g1
      clear hw
      go_wp2_with fail
      refine (HT.out w1).mono ?_
      rintro e w' ⟨rfl, rfl⟩
      go_wp2
      go_ret
      exact ⟨rfl, g1⟩
    · have h2 : c > 32 := by omega
      clear h
      go_enter Try.func6, Try.ntmps6
      go_wp2_with fail
      refine hw _ ?_
      intro w1 g1
      clear hw
      go_wp2_with fail
      refine (HT.out w1).mono ?_
      rintro e w' ⟨rfl, rfl⟩
      go_wp2
      go_ret
      exact ⟨rfl, g1⟩
end Go.Proofs.Ytijcomakomihbaa
