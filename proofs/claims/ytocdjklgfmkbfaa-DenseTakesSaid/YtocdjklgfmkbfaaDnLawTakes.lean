/- What is taken of a store. -/
import Derived.Test.YtocdjklgfmkbfaaDnQuad
namespace Go.Proofs.Ytocdjklgfmkbfaa
open Go.RowKit

set_option maxRecDepth 100000 in
set_option maxHeartbeats 4000000 in
theorem law_takes (p q : Option Addr) (c d m n : Nat) (a b : List Pr) (w : World) (hm : a.length = m) (ha : PrI w p a) (ha64 : ∀ x ∈ a, (-9223372036854775808 ≤ x.1 ∧ x.1 ≤ 9223372036854775807) ∧ x.2 < 18446744073709551616)
    (hn : b.length = n) (hb : PrI w q b) (hb64 : ∀ x ∈ b, (-9223372036854775808 ≤ x.1 ∧ x.1 ≤ 9223372036854775807) ∧ x.2 < 18446744073709551616) :
    Calls Try.prog 5 #[.slice p m c, .slice q n d] w fun e w' => e = .returned (.bool true) ∧ Fr S0 w w' := by
  have hw := start w
  have HA := Lib.hid ha
  have HA64 := Lib.hid ha64
  have HMA := Lib.hid hm
  have HB := Lib.hid hb
  have HB64 := Lib.hid hb64
  have HMB := Lib.hid hn
  have hlen := ha.len
  have hlen2 := hb.len
  rw [hm] at hlen
  rw [hn] at hlen2
  unfold maxLen at hlen hlen2
  clear ha ha64 hm hb hb64 hn
  by_cases h1 : (100 : Int) < (m : Int)
  · go_enter Try.func5, Try.ntmps5
    go_wp2_with fail
    refine hw _ ?_
    intro w1 f1
    clear hw
    go_wp2_with fail
    go_ret
    exact ⟨rfl, f1⟩
  have h1' : decide ((100 : Int) < (m : Int)) = false := decide_eq_false h1
  have hm2 : m ≤ 100 := by omega
  clear h1
  by_cases h2 : (100 : Int) < (n : Int)
  · go_enter Try.func5, Try.ntmps5
    go_wp2_with fail
    refine hw _ ?_
    intro w1 f1
    clear hw
    go_wp2_with fail
    go_ret
    exact ⟨rfl, f1⟩
  have h2' : decide ((100 : Int) < (n : Int)) = false := decide_eq_false h2
  have hn2 : n ≤ 100 := by omega
  clear h2 hlen hlen2
  go_enter Try.func5, Try.ntmps5
  go_wp2_with fail
  refine hw _ ?_
  intro w1 f1
  clear hw
  have D0 := Lib.hid (Quad.new f1)
  clear f1
  go_wp2_with fail
  obtain ⟨g1, hg1⟩ : ∃ g, w1.heap.size = g := ⟨_, rfl⟩
  obtain ⟨g2, hg2⟩ : ∃ g, g1 + 1 = g := ⟨_, rfl⟩
  obtain ⟨g3, hg3⟩ : ∃ g, g2 + 1 = g := ⟨_, rfl⟩
  obtain ⟨g4, hg4⟩ : ∃ g, g3 + 1 = g := ⟨_, rfl⟩
  rw [hg1, hg2, hg3, hg4] at D0 ⊢
  clear hg1 hg2 hg3 hg4
  generalize (((w1.alloc (.cells #[.int .i64 0, .int .i64 0, .int .i64 0, .slice none 0 0, .int .i64 0, .int .u64 0] 32)).alloc (.cells #[.int .i64 0, .int .i64 0, .int .i64 0, .slice none 0 0, .int .i64 0, .int .u64 0] 32)).alloc (.cells #[.int .i64 0, .int .i64 0, .int .i64 0, .slice none 0 0, .int .i64 0, .int .u64 0] 32)).alloc (.cells #[.int .i64 0, .int .i64 0, .int .i64 0, .slice none 0 0, .int .i64 0, .int .u64 0] 32) = w2 at D0 ⊢
  go_loopw [9] (fun x wr => ∃ (i : Nat), i ≤ m ∧ x = .int .i64 i ∧ Hid (Quad w wr g1 g2 g3 g4 (adds tak [] (a.take i)) [] (adds tak [] (a.take i)) (adds tak [] (a.take i)))) (fun x _ => m - (intOf x).toNat)
  case atStart => exact ⟨0, by omega, rfl, D0⟩
  case round =>
    clear D0
    obtain ⟨i, hi, rfl, hd⟩ := hrel
    by_cases him : (i : Int) < (m : Int)
    · have hil : i < a.length := by rw [HMA.out]; omega
      obtain ⟨bb, oo, rfl, c0, c1⟩ := (HA.out.fr0 hd.out.fr).at i hil
      have HC : Hid (∀ W, Fr S0 w W → W.cell? ⟨bb, oo + i * 2, none⟩ = some (.int .i64 a[i].1) ∧ W.cell? ⟨bb, oo + i * 2 + 1, none⟩ = some (.int .u64 (a[i].2 : Int))) := Lib.hid fun W f => by
        obtain ⟨b', o', hp, c3, c4⟩ := (HA.out.fr0 f).at i hil
        simp only [Option.some.injEq, Addr.mk.injEq] at hp
        obtain ⟨rfl, rfl, -⟩ := hp
        exact ⟨c3, c4⟩
      have r1 := HA64.out _ (List.getElem_mem hil)
      have HS1 := Lib.hid (adds_take tak [] a i hil)
      obtain ⟨⟨k1, n1⟩, ht1⟩ : ∃ t, a[i] = t := ⟨_, rfl⟩
      rw [ht1] at c0 c1 HC r1 HS1
      simp only at c0 c1 HC r1
      obtain ⟨K, hK⟩ : ∃ K, k1.tmod 4000 = K := ⟨_, rfl⟩
      obtain ⟨N, hN⟩ : ∃ N, n1 % 100000 = N := ⟨_, rfl⟩
      have o1 : tak (k1, n1) = (K, N) := by unfold tak; rw [hK, hN]
      rw [o1] at HS1
      simp only at HS1
      have eN1 : (n1 : Int).tmod 100000 = (N : Int) := by rw [Int.tmod_eq_emod_of_nonneg (by omega)]; omega
      have eN2 : (n1 : Int) % 100000 = (N : Int) := by omega
      have hN18 : N < 18446744073709551616 := by omega
      have HN := Lib.hid hN18
      clear ht1 hN o1 hil hN18
      go_wp2_with fail
      go_still_tail 13, (by kernel_rfl)
      obtain ⟨V0, hV0, v0⟩ := drewFr wr
      change wpList _ _ _ _ _ (wr).drew
      rw [hV0]
      have HA0 := Lib.hid ((hd.out.fr0 v0).add1 K N _ HN.out HS1.out.symm)
      clear hV0 v0 c0 c1 hd
      go_wp2_with fail
      refine HA0.out.mono ?_
      rintro e U0 ⟨⟨E0, rfl⟩, q0⟩
      have HQ0 := Lib.hid q0
      obtain ⟨c0, c1⟩ := HC.out U0 q0.fr
      clear HA0 q0
      go_wp2_with fail
      go_still_tail 13, (by kernel_rfl)
      obtain ⟨V1, hV1, v1⟩ := drewFr U0
      change wpList _ _ _ _ _ (U0).drew
      rw [hV1]
      have HA1 := Lib.hid ((HQ0.out.fr0 v1).add3 K N _ HN.out HS1.out.symm)
      clear hV1 v1 c0 c1 HQ0
      go_wp2_with fail
      refine HA1.out.mono ?_
      rintro e U1 ⟨⟨E1, rfl⟩, q1⟩
      have HQ1 := Lib.hid q1
      obtain ⟨c0, c1⟩ := HC.out U1 q1.fr
      clear HA1 q1
      go_wp2_with fail
      go_still_tail 13, (by kernel_rfl)
      obtain ⟨V2, hV2, v2⟩ := drewFr U1
      change wpList _ _ _ _ _ (U1).drew
      rw [hV2]
      have HA2 := Lib.hid ((HQ1.out.fr0 v2).add4 K N _ HN.out HS1.out.symm)
      clear hV2 v2 c0 c1 HQ1
      go_wp2_with fail
      refine HA2.out.mono ?_
      rintro e U2 ⟨⟨E2, rfl⟩, q2⟩
      have HQ2 := Lib.hid q2
      obtain ⟨c0, c1⟩ := HC.out U2 q2.fr
      clear HA2 q2
      go_wp2_with fail
      clear c0 c1
      go_roundw
      case rel => exact ⟨i + 1, by omega, by go_num, HQ2⟩
      case measure => simp [intOf]; omega
    · obtain rfl : i = m := by omega
      have e1 : a.take i = a := List.take_of_length_le (by rw [HMA.out]; exact Nat.le_refl _)
      rw [e1] at hd
      obtain ⟨NA, CA⟩ := adds_near tak_small a [] 0 Near.nil (by rw [HMA.out]; omega)
      have HNA : Hid (Near (adds tak [] a) 10000000) := Lib.hid (NA.mono (by rw [HMA.out]; omega))
      clear e1 NA CA
      obtain ⟨A, hA⟩ : ∃ A, adds tak [] a = A := ⟨_, rfl⟩
      rw [hA] at hd HNA
      clear hA
      go_wp2_with fail
      go_loopw [10] (fun x wr => ∃ (i : Nat), i ≤ n ∧ x = .int .i64 i ∧ Hid (Quad w wr g1 g2 g3 g4 A (adds tak [] (b.take i)) A (adds tak A (b.take i)))) (fun x _ => n - (intOf x).toNat)
      case atStart => exact ⟨0, by omega, rfl, hd⟩
      case round =>
        clear hd
        clear hi
        obtain ⟨i, hi, rfl, hd⟩ := hrel
        by_cases him : (i : Int) < (n : Int)
        · have hil : i < b.length := by rw [HMB.out]; omega
          obtain ⟨bb, oo, rfl, c0, c1⟩ := (HB.out.fr0 hd.out.fr).at i hil
          have HC : Hid (∀ W, Fr S0 w W → W.cell? ⟨bb, oo + i * 2, none⟩ = some (.int .i64 b[i].1) ∧ W.cell? ⟨bb, oo + i * 2 + 1, none⟩ = some (.int .u64 (b[i].2 : Int))) := Lib.hid fun W f => by
            obtain ⟨b', o', hp, c3, c4⟩ := (HB.out.fr0 f).at i hil
            simp only [Option.some.injEq, Addr.mk.injEq] at hp
            obtain ⟨rfl, rfl, -⟩ := hp
            exact ⟨c3, c4⟩
          have r1 := HB64.out _ (List.getElem_mem hil)
          have HS1 := Lib.hid (adds_take tak [] b i hil)
          have HS2 := Lib.hid (adds_take tak A b i hil)
          obtain ⟨⟨k1, n1⟩, ht1⟩ : ∃ t, b[i] = t := ⟨_, rfl⟩
          rw [ht1] at c0 c1 HC r1 HS1 HS2
          simp only at c0 c1 HC r1
          obtain ⟨K, hK⟩ : ∃ K, k1.tmod 4000 = K := ⟨_, rfl⟩
          obtain ⟨N, hN⟩ : ∃ N, n1 % 100000 = N := ⟨_, rfl⟩
          have o1 : tak (k1, n1) = (K, N) := by unfold tak; rw [hK, hN]
          rw [o1] at HS1 HS2
          simp only at HS1 HS2
          have eN1 : (n1 : Int).tmod 100000 = (N : Int) := by rw [Int.tmod_eq_emod_of_nonneg (by omega)]; omega
          have eN2 : (n1 : Int) % 100000 = (N : Int) := by omega
          have hN18 : N < 18446744073709551616 := by omega
          have HN := Lib.hid hN18
          clear ht1 hN o1 hil hN18
          go_wp2_with fail
          go_still_tail 13, (by kernel_rfl)
          obtain ⟨V0, hV0, v0⟩ := drewFr wr
          change wpList _ _ _ _ _ (wr).drew
          rw [hV0]
          have HA0 := Lib.hid ((hd.out.fr0 v0).add2 K N _ HN.out HS1.out.symm)
          clear hV0 v0 c0 c1 hd
          go_wp2_with fail
          refine HA0.out.mono ?_
          rintro e U0 ⟨⟨E0, rfl⟩, q0⟩
          have HQ0 := Lib.hid q0
          obtain ⟨c0, c1⟩ := HC.out U0 q0.fr
          clear HA0 q0
          go_wp2_with fail
          go_still_tail 13, (by kernel_rfl)
          obtain ⟨V1, hV1, v1⟩ := drewFr U0
          change wpList _ _ _ _ _ (U0).drew
          rw [hV1]
          have HA1 := Lib.hid ((HQ0.out.fr0 v1).add4 K N _ HN.out HS2.out.symm)
          clear hV1 v1 c0 c1 HQ0
          go_wp2_with fail
          refine HA1.out.mono ?_
          rintro e U1 ⟨⟨E1, rfl⟩, q1⟩
          have HQ1 := Lib.hid q1
          obtain ⟨c0, c1⟩ := HC.out U1 q1.fr
          clear HA1 q1
          go_wp2_with fail
          clear c0 c1
          go_roundw
          case rel => exact ⟨i + 1, by omega, by go_num, HQ1⟩
          case measure => simp [intOf]; omega
        · obtain rfl : i = n := by omega
          have e1 : b.take i = b := List.take_of_length_le (by rw [HMB.out]; exact Nat.le_refl _)
          rw [e1] at hd
          obtain ⟨NB, CB⟩ := adds_near tak_small b [] 0 Near.nil (by rw [HMB.out]; omega)
          obtain ⟨NV, CV⟩ := adds_near tak_small b A 10000000 HNA.out (by rw [HMB.out]; omega)
          have NB' := NB.mono (show 0 + 100000 * b.length ≤ 10000000 by rw [HMB.out]; omega)
          obtain ⟨E1, N1, C1⟩ := HNA.out.take NB' (by omega)
          obtain ⟨E2, N2, C2⟩ := NB'.take HNA.out (by omega)
          have X1 : takeL A (adds tak [] b) = adds tak A b := N1.same NV fun j => by rw [C1, CV, CB]; simp [cnt]
          have X2 : takeL (adds tak [] b) A = adds tak A b := N2.same NV fun j => by rw [C2, CV, CB]; simp [cnt]; omega
          have HE := Lib.hid (And.intro E1 (And.intro E2 (And.intro X1 X2)))
          clear e1 NB CB NV CV NB' E1 N1 C1 E2 N2 C2 X1 X2
          obtain ⟨B, hB⟩ : ∃ B, adds tak [] b = B := ⟨_, rfl⟩
          obtain ⟨C, hC⟩ : ∃ C, adds tak A b = C := ⟨_, rfl⟩
          rw [hB, hC] at hd HE
          clear hB hC
          go_wp2_with fail
          refine hd.out.pairs2N.mono ?_
          rintro e w3 ⟨p3, d3, n3, rfl, i3, hn3, f3, hfre⟩
          have HT3 := Lib.hid (hd.out.take1L f3 i3 hfre C HE.out.1 HE.out.2.2.1)
          have HN3 := Lib.hid hn3
          clear i3 hn3 f3 hd hfre
          go_wp2_with fail
          refine HT3.out.mono ?_
          rintro e w4 ⟨rfl, q4, i4⟩
          have HQ4 := Lib.hid q4
          have HI4 := Lib.hid i4
          clear HT3 q4 i4
          go_wp2_with fail
          refine HQ4.out.pairs2.mono ?_
          rintro e w5 ⟨p5, d5, n5, rfl, i5, hn5, f5⟩
          obtain rfl : n3 = n5 := HN3.out.symm.trans hn5
          have HS5 := Lib.hid (rsame_yes p5 p3 n3 d5 d3 B w5 i5 (HI4.out.fr0 f5) hn5)
          have HQ5 := Lib.hid (HQ4.out.fr0 f5)
          clear HQ4 HI4 i5 hn5 f5
          go_wp2_with fail
          refine HS5.out.mono ?_
          rintro e w6 ⟨rfl, f6⟩
          have HT6 := Lib.hid ((HQ5.out.fr0 f6).take2 C HE.out.2.1 HE.out.2.2.2)
          clear HS5 HQ5 f6 HN3
          go_wp2_with fail
          refine HT6.out.mono ?_
          rintro e w7 ⟨rfl, q7⟩
          have HQ7 := Lib.hid q7
          clear HT6 q7
          go_wp2_with fail
          refine HQ7.out.pairs1.mono ?_
          rintro e w8 ⟨p8, d8, n8, rfl, i8, hn8, f8⟩
          have HQ8 := Lib.hid (HQ7.out.fr0 f8)
          have HI8 := Lib.hid i8
          have HN8 := Lib.hid hn8
          clear HQ7 i8 hn8 f8
          go_wp2_with fail
          refine HQ8.out.pairs2.mono ?_
          rintro e w9 ⟨p9, d9, n9, rfl, i9, hn9, f9⟩
          obtain rfl : n8 = n9 := HN8.out.symm.trans hn9
          have HS9 := Lib.hid (rsame_yes p8 p9 n8 d8 d9 C w9 (HI8.out.fr0 f9) i9 hn9)
          have HQ9 := Lib.hid (HQ8.out.fr0 f9)
          clear HQ8 HI8 i9 hn9 f9
          go_wp2_with fail
          refine HS9.out.mono ?_
          rintro e w10 ⟨rfl, f10⟩
          have HQ10 := Lib.hid (HQ9.out.fr0 f10)
          clear HS9 HQ9 f10
          go_wp2_with fail
          refine HQ10.out.pairs1.mono ?_
          rintro e w11 ⟨p11, d11, n11, rfl, i11, hn11, f11⟩
          have HQ11 := Lib.hid (HQ10.out.fr0 f11)
          have HI11 := Lib.hid i11
          have HN11 := Lib.hid hn11
          clear HQ10 i11 hn11 f11
          go_wp2_with fail
          refine HQ11.out.pairs4.mono ?_
          rintro e w12 ⟨p12, d12, n12, rfl, i12, hn12, f12⟩
          obtain rfl : n11 = n12 := HN11.out.symm.trans hn12
          have HS12 := Lib.hid (rsame_yes p11 p12 n11 d11 d12 C w12 (HI11.out.fr0 f12) i12 hn12)
          have HF12 := Lib.hid (HQ11.out.fr.trans0 f12)
          clear HQ11 HI11 i12 hn12 f12
          go_wp2_with fail
          refine HS12.out.mono ?_
          rintro e w13 ⟨rfl, f13⟩
          clear HS12
          go_wp2_with fail
          go_ret
          exact ⟨rfl, HF12.out.trans0 f13⟩
end Go.Proofs.Ytocdjklgfmkbfaa
