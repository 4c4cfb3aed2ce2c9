/- ReWrite -/
import Derived.Test.YtaemgflhgdlmiaaGreatPw1
import Derived.Test.YtaemgflhgdlmiaaGreatPw2
import Derived.Test.YtaemgflhgdlmiaaGreatPw3
import Derived.Test.YtaemgflhgdlmiaaGreatPw4
import Derived.Test.YtaemgflhgdlmiaaGreatPw5
import Derived.Test.YtaemgflhgdlmiaaGreatPw6
import Derived.Test.YtaemgflhgdlmiaaGreatPw7
import Derived.Test.YtaemgflhgdlmiaaGreatPw8
import Derived.Test.YtaemgflhgdlmiaaGreatPw9
import Derived.Test.YtaemgflhgdlmiaaGreatPw10
import Derived.Test.YtaemgflhgdlmiaaGreatPw11
import Derived.Test.YtaemgflhgdlmiaaGreatPw12
import Derived.Test.YtaemgflhgdlmiaaGreatPw13
import Derived.Test.YtaemgflhgdlmiaaGreatPw14
import Derived.Test.YtaemgflhgdlmiaaGreatPw15
import Derived.Test.YtaemgflhgdlmiaaGreatPw16
import Derived.Test.YtaemgflhgdlmiaaGreatPw17
import Derived.Test.YtaemgflhgdlmiaaGreatPw18
import Derived.Test.YtaemgflhgdlmiaaGreatPw19
import Derived.Test.YtaemgflhgdlmiaaGreatPw20
import Derived.Test.YtaemgflhgdlmiaaGreatPw21
import Derived.Test.YtaemgflhgdlmiaaGreatPw22
import Derived.Test.YtaemgflhgdlmiaaGreatPw23
import Derived.Test.YtaemgflhgdlmiaaGreatPw24
import Derived.Test.YtaemgflhgdlmiaaGreatPw25
import Derived.Test.YtaemgflhgdlmiaaGreatPw26
import Derived.Test.YtaemgflhgdlmiaaGreatPw27
import Derived.Test.YtaemgflhgdlmiaaGreatPw28
import Derived.Test.YtaemgflhgdlmiaaGreatPw29
import Derived.Test.YtaemgflhgdlmiaaGreatPw30
import Derived.Test.YtaemgflhgdlmiaaGreatPw31
import Derived.Defers
import Derived.Recover
import Derived.Deep.RegionHeld2
import Derived.StillTailTactics
import Derived.WalkKit
import Derived.Laws.BitsAllLaws
import Derived.Laws.BytesArg
import Derived.Lib.SlBytesConst
import Derived.Maps.AppendAt
import Derived.Laws.AppendOwnNone
import Derived.WalkSpells
import Derived.WalkLawsBesides
import Derived.Deep.QuietTactic
import Derived.BigQuiet
import Derived.RegionTactic
import Derived.Deep.AppendLies
import Derived.Deep.RegionLaw
import Derived.Laws.ResultCell
import Derived.Laws.EntriesVeiled
import Derived.Lib.Hide
import Derived.Test.YtaemgflhgdlmiaaGreatRows
import Derived.Deep.RegionHeld3
import Derived.Lib.SliceRun
import Derived.BigRegion
import Derived.Laws.Externs
import Derived.Shelf.Spec.BitsCarry
import Derived.Deep.CutBlock
import Derived.Deep.CutRange
import Derived.Deep.DeepCutAuto
import Derived.Lib.BitFns
import Derived.Shelf.Small.Bits
import Derived.Shelf.Strconv.Itoa0
import Derived.Shelf.Bits.Mul64
import Derived.Lib.AppendZeros
import Derived.Laws.CopyOwn
import Derived.Lib.Overlaps
import Derived.Lib.AppendZerosOnto
import Derived.Laws.OwnMore
import Derived.Shelf.SlSortCmp.WholeK
set_option maxRecDepth 100000
set_option maxHeartbeats 8000000
namespace Go.Proofs.YtaemgflhgdlmiaaGreat
open Go.RowKit
theorem AccB.nil {w wr : World} (f : Fr S0 w wr) : AccB w wr (.slice none 0 0) 0 [] := ⟨World.ownsRow_nil _ _ _ _, fresh_nil _ _, f⟩
section
variable (k n : Nat) (pv : Option Addr) (N cv : Nat) (C : List Nat) (w wr : World)
theorem rone_any (hk : k < 10) (hn : n < 18446744073709551616) (hN : N ≤ 1000000) (h : AccB w wr (.slice pv N cv) N C) :
    Calls Tryz.prog 45 #[.slice pv N cv, .int .u8 ((fRow k).1 : Nat), .int .u64 (n : Nat)] wr fun e w' => ∃ q c M, e = .returned (.slice q M c) ∧ AccB w w' (.slice q M c) M (C ++ enc k n) ∧ M ≤ N + 10 := by
  have H := Lib.hid (one_any k n wr hk hn)
  have hl := enc_length k n hk
  obtain ⟨E, eE⟩ : ∃ E, enc k n = E := ⟨_, rfl⟩
  unfold OnePost at H
  rw [eE] at H hl ⊢
  obtain ⟨L, eL⟩ : ∃ L, (fRow k).1 = L := ⟨_, rfl⟩
  rw [eL] at H ⊢
  have HA := Lib.hid h
  clear h eE eL hk hn
  go_enter Tryz.func45, Tryz.ntmps45
  go_wp2_with fail
  refine H.out.mono ?_
  rintro e w1 ⟨v, rfl, f1, own, hf⟩
  obtain ⟨p1, c1, rfl⟩ := slFormN own
  have HS := Lib.hid (SrcIs.ofOwns own)
  have HA1 := Lib.hid (HA.out.fr0 f1)
  clear own hf f1 H HA
  go_wp2_with (first
    | ((with_reducible show wpList _ _ _ (Oper.mk (some 17) _ _ _ _ _ :: _) _ _); refine app_many el8 (.tmp 15) (.tmp 16) HA1.out.own HS.out rfl rfl rfl rfl rfl (ones8 _) (Room.mk (by omega)) ?_; intro p6 c6 w6 own6 g6 at6; have HA6 := Lib.hid (HA1.out.app own6 g6 at6); clear own6 g6 at6)
    | fail)
  go_ret
  exact ⟨p6, c6, _, rfl, HA6.out, by omega⟩
end
section
variable (A m f n c : Nat) (p : Option Addr) (l : List Pr) (w : World)
theorem rwrite21_any (hp : PrI w p l) (hn : l.length = n) (hn4 : n ≤ 10000) (hg : Good l) (hA : A ≤ 2097152) (hm : m ≤ 2097152) (hf : f < 18446744073709551616) :
    Calls Tryz.prog 21 #[.int .i64 (A : Nat), .int .i64 (m : Nat), .slice p n c, .int .u64 (f : Nat)] w fun e w' => ∃ v, e = .returned v ∧ AccB w w' v (ddB A m l f).length (ddB A m l f) := by
  have HONE : Hid (∀ (x : Nat) (pv : Option Addr) (N cv : Nat) (C : List Nat) (wr : World), x < 18446744073709551616 → N ≤ 1000000 → AccB w wr (.slice pv N cv) N C → Calls Tryz.prog 45 #[.slice pv N cv, .int .u8 118, .int .u64 (x : Nat)] wr fun e w' => ∃ q c M, e = .returned (.slice q M c) ∧ AccB w w' (.slice q M c) M (C ++ enc 7 x) ∧ M ≤ N + 10) := Lib.hid fun x pv N cv C wr hx hN h => rone_any 7 x pv N cv C w wr (by decide) hx hN h
  have HONZ : Hid (∀ (x : Nat) (pv : Option Addr) (N cv : Nat) (C : List Nat) (wr : World), x < 18446744073709551616 → N ≤ 1000000 → AccB w wr (.slice pv N cv) N C → Calls Tryz.prog 45 #[.slice pv N cv, .int .u8 122, .int .u64 (x : Nat)] wr fun e w' => ∃ q c M, e = .returned (.slice q M c) ∧ AccB w w' (.slice q M c) M (C ++ enc 8 x) ∧ M ≤ N + 10) := Lib.hid fun x pv N cv C wr hx hN h => rone_any 8 x pv N cv C w wr (by decide) hx hN h
  have HG := Lib.hid hg
  have HP := Lib.hid hp
  have HNL := Lib.hid hn
  have hlen := hp.len
  rw [hn] at hlen
  unfold maxLen at hlen
  have H64 : Hid (∀ x ∈ l, x.2 < 18446744073709551616) := Lib.hid fun x hx => by
    have h1 := cnt_mem hg.srt hx
    have h2 := cnt_tot l x.1
    have := hg.tot
    omega
  have HDD : Hid (ddB A m l f = ((([] ++ enc 7 A) ++ enc 7 m) ++ enc 7 n) ++ enc 7 f ++ wrP true 0 (l.drop 0)) := Lib.hid (by simp [ddB, List.append_assoc, hn])
  have H1 := Lib.hid (fun wr (h : Fr S0 w wr) => HONE.out A none 0 0 [] wr (by omega) (by decide) (AccB.nil h))
  have H2 := Lib.hid (fun pv N cv C wr hN h => HONE.out m pv N cv C wr (by omega) hN h)
  have H3 := Lib.hid (fun pv N cv C wr hN h => HONE.out n pv N cv C wr (by omega) hN h)
  have H4 := Lib.hid (fun pv N cv C wr hN h => HONE.out f pv N cv C wr hf hN h)
  have hAb : (A : Int) ≤ 2097152 := by omega
  have hmb : (m : Int) ≤ 2097152 := by omega
  have hnb : (n : Int) ≤ 10000 := by omega
  clear hp hn hg hA hm hf hlen
  obtain ⟨D, hD⟩ : ∃ D, ddB A m l f = D := ⟨_, rfl⟩
  rw [hD] at HDD ⊢
  clear hD
  go_enter Tryz.func21, Tryz.ntmps21
  go_wp2_with fail
  refine (H1.out _ (Fr.refl _ _)).mono ?_
  rintro e w1 ⟨q1, c1, N1, rfl, ha, hN1⟩
  have HA1 := Lib.hid ha
  clear ha H1
  go_wp2_with fail
  refine (H2.out _ _ _ _ _ (by omega) HA1.out).mono ?_
  rintro e w2 ⟨q2, c2, N2, rfl, ha, hN2⟩
  have HA2 := Lib.hid ha
  clear ha H2 HA1
  go_wp2_with fail
  refine (H3.out _ _ _ _ _ (by omega) HA2.out).mono ?_
  rintro e w3 ⟨q3, c3, N3, rfl, ha, hN3⟩
  have HA3 := Lib.hid ha
  clear ha H3 HA2
  go_wp2_with fail
  refine (H4.out _ _ _ _ _ (by omega) HA3.out).mono ?_
  rintro e w4 ⟨q4, c4, N4, rfl, ha, hN4⟩
  have HA4 := Lib.hid ha
  obtain ⟨C0, eC0⟩ : ∃ C0, [] ++ enc 7 A ++ enc 7 m ++ enc 7 n ++ enc 7 f = C0 := ⟨_, rfl⟩
  rw [eC0] at HA4 HDD
  have hN40 : N4 ≤ 40 := by omega
  clear ha H4 HA3 eC0 hN1 hN2 hN3 hN4
  go_wp2_with fail
  go_loopw [9, 10] (fun v i wr => ∃ (j N : Nat) (C : List Nat) (pv : Option Addr) (cv : Nat), j ≤ n ∧ N ≤ 40 + 20 * j ∧ i = .int .i64 j ∧ v = .slice pv N cv ∧ Hid (AccB w wr (.slice pv N cv) N C) ∧ Hid (D = C ++ wrP (decide (j = 0)) (if h : 0 < j ∧ j - 1 < l.length then (l[j - 1]'h.2).1 + 1 else 0) (l.drop j))) (fun _ i _ => n - (intOf i).toNat)
  case atStart => exact ⟨0, N4, C0, q4, c4, by omega, by omega, rfl, rfl, HA4, Lib.hid (by rw [HDD.out]; rfl)⟩
  case round =>
    clear HA4 HDD
    obtain ⟨j, N, C, pv, cv, hj, hN, rfl, rfl, hacc, heq⟩ := hrel
    by_cases hjn : (j : Int) < (n : Int)
    · have hjl : j < l.length := by rw [HNL.out]; omega
      obtain ⟨b, o, rfl, d0, d1⟩ := (HP.out.fr0 hacc.out.fr).at j hjl
      have hkk := pri_from HG.out.all hjl
      have hn64 := H64.out _ (List.getElem_mem hjl)
      have hdr := List.drop_eq_getElem_cons hjl
      have HCELL : Hid (∀ W, Fr S0 w W → W.cell? ⟨b, o + j * 2, none⟩ = some (.int .i64 l[j].1) ∧ W.cell? ⟨b, o + j * 2 + 1, none⟩ = some (.int .u64 (l[j].2 : Nat))) := Lib.hid fun W fW => by
        obtain ⟨b', o', hp', c0, c1⟩ := (HP.out.fr0 fW).at j hjl
        simp only [Option.some.injEq, Addr.mk.injEq] at hp'
        obtain ⟨rfl, rfl, -⟩ := hp'
        exact ⟨c0, c1⟩
      by_cases hj0 : j = 0
      · subst hj0
        obtain ⟨⟨tk, tn⟩, hx⟩ : ∃ x, l[0] = x := ⟨_, rfl⟩
        rw [hx] at d0 d1 hkk hn64 hdr HCELL
        simp only at d0 d1 hkk hn64 HCELL
        obtain ⟨hk1, hk2⟩ := hkk
        obtain ⟨X, hX⟩ : ∃ X, numb tk = X := ⟨_, rfl⟩
        have hX64 : X < 18446744073709551616 := by rw [← hX]; exact numb_lt _
        have eX2 : IntKind.u64.wrap tk = (X : Int) := by rw [← hX, numb]; simp [IntKind.wrap, IntKind.bits, IntKind.signed]; omega
        have eX3 : tk % 18446744073709551616 = (X : Int) := by rw [← hX, numb]; omega
        have HNX : Hid (D = ((C ++ enc 8 X) ++ enc 7 tn) ++ wrP false (tk + 1) (l.drop 1)) := Lib.hid (by
          rw [heq.out, hdr]
          simp only [decide_true, Nat.lt_irrefl, false_and, dite_false, wrP, letr, if_true, Int.sub_zero]
          rw [hX]
          simp [List.append_assoc])
        have HZ := Lib.hid (HONZ.out X pv N cv C wr hX64 (by omega) hacc.out)
        have HO := Lib.hid (fun pv N cv C wr hN h => HONE.out tn pv N cv C wr hn64 hN h)
        simp only [Nat.zero_mul, Nat.add_zero] at d0 d1 HCELL
        have hnp : (0 : Int) < (n : Int) := by omega
        have HX0 := Lib.hid hx
        clear heq hdr hX hx hn64 HONE HONZ
        go_wp2_with fail
        refine HZ.out.mono ?_
        rintro e w5 ⟨q5, c5, N5, rfl, ha5, hN5⟩
        have HA5 := Lib.hid ha5
        obtain ⟨d2, d3⟩ := HCELL.out w5 ha5.fr
        clear ha5 HZ
        go_wp2_with fail
        refine (HO.out _ _ _ _ _ (by omega) HA5.out).mono ?_
        rintro e w6 ⟨q6, c6, N6, rfl, ha6, hN6⟩
        have HA6 := Lib.hid ha6
        clear ha6 HO HA5
        go_wp2_with fail
        go_roundw
        case rel =>
          refine ⟨1, N6, _, q6, c6, by omega, by omega, rfl, rfl, HA6, Lib.hid ?_⟩
          rw [HNX.out, dif_pos ⟨by decide, hjl⟩]
          simp only [Nat.sub_self, HX0.out]
          rfl
        case measure => simp [intOf]; omega
      · have hpl : j - 1 < l.length := by omega
        obtain ⟨b', o', hp', e0, -⟩ := (HP.out.fr0 hacc.out.fr).at (j - 1) hpl
        simp only [Option.some.injEq, Addr.mk.injEq] at hp'
        obtain ⟨rfl, rfl, -⟩ := hp'
        have hpk := pri_from HG.out.all hpl
        obtain ⟨i, hi⟩ : ∃ i, j - 1 = i := ⟨_, rfl⟩
        obtain ⟨⟨tk, tn⟩, hx⟩ : ∃ x, l[j] = x := ⟨_, rfl⟩
        obtain ⟨PK, hPK⟩ : ∃ PK, (l[j - 1]'hpl).1 = PK := ⟨_, rfl⟩
        rw [hx] at d0 d1 hkk hn64 hdr HCELL
        rw [hPK] at e0 hpk
        rw [hi] at e0
        simp only at d0 d1 hkk hn64 HCELL
        obtain ⟨hk1, hk2⟩ := hkk
        obtain ⟨hp1, hp2⟩ := hpk
        obtain ⟨X, hX⟩ : ∃ X, numb (tk - (PK + 1)) = X := ⟨_, rfl⟩
        have hX64 : X < 18446744073709551616 := by rw [← hX]; exact numb_lt _
        have eS1 : IntKind.i64.wrap (tk - PK) = tk - PK := by simp [IntKind.wrap, IntKind.bits, IntKind.signed]; omega
        have eS2 : IntKind.i64.wrap (tk - PK - 1) = tk - PK - 1 := by simp [IntKind.wrap, IntKind.bits, IntKind.signed]; omega
        have eX2 : IntKind.u64.wrap (tk - PK - 1) = (X : Int) := by rw [← hX, numb]; simp [IntKind.wrap, IntKind.bits, IntKind.signed]; omega
        have ei : (j : Int) - 1 = (i : Int) := by omega
        have ei2 : IntKind.i64.wrap ((j : Int) - 1) = (i : Int) := by rw [ei]; simp [IntKind.wrap, IntKind.bits, IntKind.signed]; omega
        have hin : (i : Int) < (n : Int) := by omega
        have hjz : ((j : Int) == 0) = false := by rw [beq_eq_false_iff_ne]; omega
        have HNX : Hid (D = ((C ++ enc 7 X) ++ enc 7 tn) ++ wrP false (tk + 1) (l.drop (j + 1))) := Lib.hid (by
          rw [heq.out, hdr, dif_pos ⟨by omega, hpl⟩, hPK, decide_eq_false hj0]
          simp only [wrP, letr]
          rw [hX]
          simp [List.append_assoc])
        have HZ := Lib.hid (fun W h => HONE.out X pv N cv C W hX64 (by omega) h)
        have HO := Lib.hid (fun pv N cv C wr hN h => HONE.out tn pv N cv C wr hn64 hN h)
        have HX0 := Lib.hid hx
        have HJ0 := Lib.hid hj0
        have hi0 : (i : Int) < 10000 := by omega
        clear heq hdr hX hx hn64 HONE HONZ hPK hi hj0 ei
        go_wp2_with fail
        go_region_law (first
          | (go_simp; go_at_call 45; (with_reducible refine (HZ.out _ (hacc.out.fr0 (Fr.drew S0 _))).mono ?_); rintro _ w5 ⟨q5, c5, N5, rfl, ha5, hN5⟩; have HA5 := Lib.hid ha5; have d2 := (HCELL.out w5 ha5.fr).1; have d3 := (HCELL.out w5 ha5.fr).2; clear ha5; dsimp only)
          | fail)
        all_goals
          go_wp2_with fail
          refine (HO.out _ _ _ _ _ (by omega) HA5.out).mono ?_
          rintro e w6 ⟨q6, c6, N6, rfl, ha6, hN6⟩
          have HA6 := Lib.hid ha6
          clear ha6 HO HA5
          go_wp2_with fail
          go_roundw
          case rel =>
            refine ⟨j + 1, N6, _, q6, c6, by omega, by omega, by go_num, rfl, HA6, Lib.hid ?_⟩
            rw [HNX.out, dif_pos ⟨by omega, by rw [Nat.add_sub_cancel]; exact hjl⟩, decide_eq_false (by omega)]
            simp only [Nat.add_sub_cancel, HX0.out]
          case measure => simp [intOf]; omega
    · obtain rfl : j = n := by omega
      have HE : Hid (D = C) := Lib.hid (by rw [heq.out, ← HNL.out, List.drop_length, wrP, List.append_nil])
      clear heq
      go_wp2_with fail
      go_ret
      rw [HE.out, hacc.out.len]
      exact ⟨_, rfl, hacc.out⟩
end
end Go.Proofs.YtaemgflhgdlmiaaGreat
