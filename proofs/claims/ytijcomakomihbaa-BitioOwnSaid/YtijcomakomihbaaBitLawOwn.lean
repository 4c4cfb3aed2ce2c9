/- The law of layer 4 on what may be written over. -/
import Derived.Test.YtijcomakomihbaaBitRow
namespace Go.Proofs.Ytijcomakomihbaa
open Go.RowKit

theorem own_bits (a : List Nat) (m : Nat) (ha : ∀ x ∈ a, x < 256) (hm : m < 32) : byt (bts a ++ grp m 5) = a ++ [m] := by
  rw [byt_app _ _ (by rw [bts_length]; omega), byt_bts a ha]
  congr 1
  unfold byt
  rw [grp_length]
  simp only [show (5 + 7) / 8 = 1 by decide, List.range_one, List.map_cons, List.map_nil, oct, Nat.mul_zero, List.drop_zero]
  rw [List.take_of_length_le (by simp), num_grp, Nat.mod_eq_of_lt (by omega)]

set_option maxRecDepth 100000 in
set_option maxHeartbeats 2000000 in
theorem law_own (p : Option Addr) (d : Nat) (a : List Nat) (p2 : Option Addr) (d2 : Nat) (b : List Nat) (n : Nat) (w : World) (ha : SlI w .u8 p a) (h8 : ∀ x ∈ a, x < 256) (hp : p = none → d = 0)
    (hb : SlI w .u8 p2 b) (h82 : ∀ x ∈ b, x < 256) (hp2 : p2 = none → d2 = 0) (hn : n < 4294967296) :
    Calls Try.prog 7 #[.slice p a.length d, .slice p2 b.length d2, .int .u32 n] w fun e w' => e = .returned (.bool true) ∧ Fr S0 w w' := by
  have hw := start w
  have HA := Lib.hid ha
  have H8 := Lib.hid h8
  have HP := Lib.hid hp
  have HB := Lib.hid hb
  have H82 := Lib.hid h82
  have HP2 := Lib.hid hp2
  clear ha h8 hp hb h82 hp2
  by_cases k1 : (1000 : Int) < (a.length : Int)
  · go_enter Try.func7, Try.ntmps7
    go_wp2_with (go_at_call 8; refine hw _ ?_; intro w1 hf)
    go_ret
    exact ⟨rfl, hf⟩
  by_cases k2 : (1000 : Int) < (b.length : Int)
  · go_enter Try.func7, Try.ntmps7
    go_wp2_with (go_at_call 8; refine hw _ ?_; intro w1 hf)
    go_ret
    exact ⟨rfl, hf⟩
  have HR1 : Hid (Room a.length) := Lib.hid (Room.mk (by omega))
  go_enter Try.func7, Try.ntmps7
  go_wp2_with fail
  refine hw _ ?_
  intro w1 g1
  clear hw
  have F2 : Hid (Fr S0 w (w1.alloc (.cells #[.slice none 0 0, .int .i64 0] 27))) := Lib.hid (g1.trans0 (Fr.alloc _ _ _))
  have W2 := Lib.hid (WrNew.zero g1)
  have s1 := SrcIs.ofSl ((HA.out.fr0 F2.out).fr0 (Fr.alloc S0 _ (.cells #[] 5))) HP.out
  have o1 := own_none (w1.alloc (.cells #[.slice none 0 0, .int .i64 0] 27)) 5
  rw [size_alloc] at o1
  clear g1
  go_wp2_with (first
    | ((with_reducible show wpList _ _ _ (Oper.mk (some 27) _ _ _ _ _ :: _) _ _); refine app_many el8 (.tmp 25) (.tmp 26) o1 s1 (Nat.zero_add _) rfl rfl rfl rfl (ones _) HR1.out ?_; intro p3 c3 w3 own3 g3 at3; rw [List.nil_append] at own3; rw [← size_alloc w1 (.cells #[.slice none 0 0, .int .i64 0] 27)] at g3; have f3 := fr_made (Fr.refl S0 _) g3; have v3 := fresh_many (fresh_made (n := 0) (c := 0) (Fr.refl S0 _)) (size_le (Fr.refl S0 _)) (by rw [size_alloc w1]; exact at3); clear g3 at3)
    | fail)
  have R3 := Lib.hid (WrRow.ofNew W2.out f3 ⟨own3, v3⟩)
  obtain ⟨g, hg⟩ : ∃ g, w1.heap.size = g := ⟨_, rfl⟩
  rw [hg] at R3 ⊢
  clear own3 f3 v3 W2 F2 o1 s1 hg
  have HC3 := Lib.hid (show p3 = none → c3 = 0 by obtain ⟨p', c', hv, hn, -⟩ := slForm R3.out.own; simp only [Value.slice.injEq] at hv; obtain ⟨rfl, -, rfl⟩ := hv; exact hn)
  refine (row_text R3.out p3 c3 a (SlI.ofOwns R3.out.own) H8.out HC3.out (by simp; omega)).mono ?_
  rintro e w4 ⟨rfl, h4⟩
  have R4 := Lib.hid (show WrRow w w4 g (bts a) (.slice p3 a.length c3) a from h4)
  clear h4 R3
  go_wp2
  go_loopw [9] (fun i wr => ∃ (k : Nat) (xs : List Nat), k ≤ a.length ∧ i = .int .i64 k ∧ xs.length = a.length ∧ (∀ x ∈ xs, x < 256) ∧ WrRow w wr g (bts a) (.slice p3 a.length c3) xs) (fun i _ => a.length - (intOf i).toNat)
  case atStart => exact ⟨0, a, by omega, rfl, rfl, H8.out, R4.out⟩
  case round =>
    obtain ⟨k, xs, hk, rfl, hxl, hx8, hR⟩ := hrel
    have R := Lib.hid hR
    have HX := Lib.hid hx8
    by_cases hkl : (k : Int) < (a.length : Int)
    · have ho := hR.own
      rw [hxl] at ho
      obtain ⟨q, cap, hv, -, -⟩ := ho.form (by omega)
      simp only [Value.slice.injEq] at hv
      obtain ⟨rfl, -, rfl⟩ := hv
      have cc := ho.cellAt k (by omega)
      have hkx : k < xs.length := by omega
      rw [show (u8s xs)[k]? = some (.int .u8 (xs[k] : Nat)) by simp [u8s, hkx]] at cc
      have cf := ho.frozenAt k
      have hxk := hx8 _ (List.getElem_mem hkx)
      obtain ⟨x, hx⟩ : ∃ x, xs[k] = x := ⟨_, rfl⟩
      rw [hx] at cc hxk
      have hs := hR.set hxl k ((x + 1) % 256)
      have HS := Lib.hid hs
      have HXL := Lib.hid hxl
      clear hs hx ho hR hx8 hkx hxl
      go_wp2
      go_roundw
      case rel => exact ⟨k + 1, xs.set k ((x + 1) % 256), by omega, by go_num, by rw [List.length_set]; exact HXL.out, fun y hy => (List.mem_or_eq_of_mem_set hy).elim (HX.out y) (fun e => by omega), HS.out⟩
      case measure => simp [intOf]; omega
    · have RN := Lib.hid hR.nw
      clear hR R hx8
      go_wp2_with fail
      obtain ⟨rr, hb0, -⟩ := RN.out
      refine (bytes_any g rr _ wr hb0 (by rw [bts_length]; omega)).mono ?_
      rintro e w5 ⟨v, rfl, f5, hv⟩
      rw [byt_bts a H8.out] at hv
      have R5 := Lib.hid (WrRow.ofNew RN.out f5 hv)
      obtain ⟨p5, c5, rfl, -⟩ := slForm hv.own
      clear hv f5 RN hb0
      go_wp2
      go_loopw [11] (fun i wr => ∃ (k : Nat) (xs : List Nat), k ≤ a.length ∧ i = .int .i64 k ∧ xs.length = a.length ∧ (∀ x ∈ xs, x < 256) ∧ WrRow w wr g (bts a) (.slice p5 a.length c5) xs) (fun i _ => a.length - (intOf i).toNat)
      case atStart => exact ⟨0, a, by omega, rfl, rfl, H8.out, R5.out⟩
      case round =>
        obtain ⟨k2, xs2, hk2, rfl, hxl2, hx82, hR2⟩ := hrel
        have R2 := Lib.hid hR2
        have HX2 := Lib.hid hx82
        by_cases hkl2 : (k2 : Int) < (a.length : Int)
        · have ho := hR2.own
          rw [hxl2] at ho
          obtain ⟨q, cap, hv, -, -⟩ := ho.form (by omega)
          simp only [Value.slice.injEq] at hv
          obtain ⟨rfl, -, rfl⟩ := hv
          have cc := ho.cellAt k2 (by omega)
          have hkx : k2 < xs2.length := by omega
          rw [show (u8s xs2)[k2]? = some (.int .u8 (xs2[k2] : Nat)) by simp [u8s, hkx]] at cc
          have cf := ho.frozenAt k2
          have hxk := hx82 _ (List.getElem_mem hkx)
          obtain ⟨x, hx⟩ : ∃ x, xs2[k2] = x := ⟨_, rfl⟩
          rw [hx] at cc hxk
          have hs := hR2.set hxl2 k2 ((x + 255) % 256)
          rw [show (((x + 255) % 256 : Nat) : Int) = ((x : Int) - 1) % 256 by omega] at hs
          have HS := Lib.hid hs
          have HXL2 := Lib.hid hxl2
          clear hs hx ho hR2 hx82 hkx hxl2
          go_wp2
          go_roundw
          case rel => exact ⟨k2 + 1, xs2.set k2 ((x + 255) % 256), by omega, by go_num, by rw [List.length_set]; exact HXL2.out, fun y hy => (List.mem_or_eq_of_mem_set hy).elim (HX2.out y) (fun e => by omega), HS.out⟩
          case measure => simp [intOf]; omega
        · have RN := Lib.hid hR2.nw
          clear hR2 R2 hx82
          have hfit : fitB (n % 32) 5 = true := decide_eq_true ⟨by decide, by decide, by simp; omega⟩
          have HG := Lib.hid (new_group RN.out (n % 32) 5 (by omega) hfit (by rw [bts_length]; omega))
          obtain ⟨m, hm⟩ : ∃ m, n % 32 = m := ⟨_, rfl⟩
          rw [hm] at HG
          have hm32 : m < 32 := by omega
          have em : (n : Int) % 32 = (m : Int) := by omega
          clear hm hfit RN
          go_wp2_with fail
          refine HG.out.mono ?_
          rintro e w6 ⟨rfl, h6⟩
          obtain ⟨L6, hL6⟩ : ∃ L, bts a ++ grp m (Int.toNat 5) = L := ⟨_, rfl⟩
          have hb6 : byt L6 = a ++ [m] := by rw [← hL6]; exact own_bits a m H8.out hm32
          have hl6 : L6.length ≤ 9000 := by rw [← hL6, List.length_append, bts_length, grp_length]; omega
          rw [hL6] at h6
          have R6 := Lib.hid h6
          clear h6 HG hL6
          go_wp2_with fail
          refine (new_text R6.out p2 d2 b (HB.out.fr0 R6.out.fr) H82.out HP2.out (by omega)).mono ?_
          rintro e w7 ⟨rfl, h7⟩
          have hb7 : byt (alg L6 ++ bts b) = (a ++ [m]) ++ b := by rw [byt_text' L6 b H82.out, hb6]
          have hl7 : (alg L6 ++ bts b).length ≤ 20000 := by rw [List.length_append, alg_length, bts_length]; omega
          obtain ⟨L7, hL7⟩ : ∃ L, alg L6 ++ bts b = L := ⟨_, rfl⟩
          rw [hL7] at h7 hb7 hl7
          have R7 := Lib.hid h7
          have HB7 := Lib.hid hb7
          have HL7 := Lib.hid hl7
          clear h7 hL7 hb7 hl7 hl6 hb6 R6
          have s1 := SrcIs.ofSl ((HA.out.fr0 R7.out.fr).fr0 (Fr.alloc S0 w7 (.cells #[] 5))) HP.out
          have HR2 : Hid (Room (a.length + 1)) := Lib.hid (Room.mk (by omega))
          go_wp2_with (first
            | ((with_reducible show wpList _ _ _ (Oper.mk (some 66) _ _ _ _ _ :: _) _ _); refine app_many el8 (.tmp 64) (.tmp 65) (own_none w7 _) s1 (Nat.zero_add _) rfl rfl rfl rfl (ones _) HR1.out ?_; intro p8 c8 w8 own8 g8 at8; rw [List.nil_append] at own8; have f8 := fr_made (Fr.refl S0 w7) g8; have v8 := fresh_many (fresh_made (n := 0) (c := 0) (Fr.refl S0 w7)) (size_le (Fr.refl S0 w7)) at8; clear g8 at8)
            | ((with_reducible show wpList _ _ _ (Oper.mk (some 71) _ _ _ _ _ :: _) _ _); refine app_one el8 (.tmp 66) (.tmp 70) rfl own8 rfl rfl rfl rfl rfl one8 HR2.out ?_; intro q9 c9 w9 own9 g9 at9 hlt9; have f9 := (f8.trans0 (Fr.alloc S0 w8 _)).append g9 v8; have v9 := fresh_app (n := a.length + 1) (c := c9) f8 v8 at9; clear g9 at9 hlt9)
            | fail)
          have R9 := Lib.hid (WrRow.ofNew (v := .slice (some ⟨q9, 0, none⟩) (a.length + 1) c9) (xs := a ++ [m]) R7.out f9 ⟨by rw [List.length_append, ← u8s_append]; exact own9, v9⟩)
          obtain ⟨X, hX⟩ : ∃ X, a ++ [m] = X := ⟨_, rfl⟩
          rw [hX] at R9 HB7
          have hXl : Hid (X.length + b.length ≤ 2001) := Lib.hid (by rw [← hX, List.length_append, List.length_singleton]; omega)
          have SB := Lib.hid (SrcIs.ofSl ((HB.out.fr0 R9.out.fr).fr0 (Fr.drew S0 w9)) HP2.out)
          clear own8 f8 v8 own9 f9 v9 s1 hX R7
          obtain ⟨N, hN⟩ : ∃ N, X.length + b.length = N := ⟨_, rfl⟩
          have HN := Lib.hid hN
          have HRN : Hid (Room N) := Lib.hid (Room.mk (by have := hXl.out; omega))
          have hZ : (X ++ b).length = N := by rw [List.length_append]; exact hN
          obtain ⟨Z, hZZ⟩ : ∃ Z, X ++ b = Z := ⟨_, rfl⟩
          have HZ := Lib.hid hZZ
          rw [hZZ] at HB7 hZ
          have HZL := Lib.hid hZ
          have R9d := Lib.hid (R9.out.fr0 (Fr.drew S0 w9))
          clear hN hZ hZZ
          go_region_law (first
            | (go_simp; go_at_call 18; refine (row_bytes R9d.out (by have := HL7.out; omega)).mono ?_; rintro e w10 ⟨u, rfl, f10, hu⟩; rw [HB7.out] at hu; have R10 := Lib.hid (R9d.out.fr0 f10); have S10 := Lib.hid (SB.out.fr f10 (fun _ _ h => h)); have ku := conv_own hu.own; have HU := Lib.hid hu; clear hu f10; dsimp only)
            | (refine step_many el8 (.tmp 75) (.tmp 76) R10.out.own S10.out HN.out rfl rfl rfl rfl (ones _) HRN.out ?_; intro p11 c11 w11 own11 g11 at11; rw [show u8s X ++ List.map (fun (x : Nat) => Value.int IntKind.u8 (x : Int)) b = u8s Z by rw [← HZ.out]; exact u8s_append X b] at own11; have F11 : Hid (Fr S0 w w11) := Lib.hid (R10.out.fr.append g11 R10.out.fresh); have kb := conv_own (v := .slice p11 N c11) (bs := Z) (by rw [HZL.out]; exact own11); have ku := conv_own (HU.out.own.kept g11 (.inr (fun e => Nat.not_le_of_lt (R9d.out.own.lt q9 rfl).2 (HU.out.fresh q9 e)))); clear g11 at11 own11))
          all_goals
            go_wp2
            go_ret
            exact ⟨rfl, F11.out⟩
end Go.Proofs.Ytijcomakomihbaa
