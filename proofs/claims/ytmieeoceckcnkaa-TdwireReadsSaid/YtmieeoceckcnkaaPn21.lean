/- RtWrite -/
import Derived.Test.YtmieeoceckcnkaaPn1
import Derived.Test.YtmieeoceckcnkaaPn2
import Derived.Test.YtmieeoceckcnkaaPn3
import Derived.Test.YtmieeoceckcnkaaPn4
import Derived.Test.YtmieeoceckcnkaaPn5
import Derived.Test.YtmieeoceckcnkaaPn6
import Derived.Test.YtmieeoceckcnkaaPn7
import Derived.Test.YtmieeoceckcnkaaPn8
import Derived.Test.YtmieeoceckcnkaaPn9
import Derived.Test.YtmieeoceckcnkaaPn10
import Derived.Test.YtmieeoceckcnkaaPn11
import Derived.Test.YtmieeoceckcnkaaPn12
import Derived.Test.YtmieeoceckcnkaaPn13
import Derived.Test.YtmieeoceckcnkaaPn14
import Derived.Test.YtmieeoceckcnkaaPn15
import Derived.Test.YtmieeoceckcnkaaPn16
import Derived.Test.YtmieeoceckcnkaaPn17
import Derived.StillTailTactics
import Derived.Defers
import Derived.Recover
import Derived.Deep.RegionHeld2
import Derived.WalkKit
import Derived.Laws.BitsAllLaws
import Derived.Laws.BytesArg
import Derived.Lib.SlBytesConst
import Derived.Maps.AppendAt
import Derived.Laws.AppendOwnNone
import Derived.WalkSpells
import Derived.WalkLawsBesides
import Derived.Deep.QuietTactic
import Derived.BigQuiet
import Derived.RegionTactic
import Derived.Deep.AppendLies
import Derived.Deep.RegionLaw
import Derived.Laws.ResultCell
import Derived.Laws.EntriesVeiled
import Derived.Lib.Hide
import Derived.Test.YtmieeoceckcnkaaRows
import Derived.Deep.RegionHeld3
import Derived.BigRegion
import Derived.Laws.OwnMore
import Derived.Lib.AppendZerosOnto
import Derived.Lib.SliceRun
import Derived.Lib.Walk
import Derived.Laws.Externs
import Derived.Shelf.Spec.BitsCarry
import Derived.Deep.CutBlock
import Derived.Deep.CutRange
import Derived.Deep.DeepCutAuto
import Derived.Lib.BitFns
import Derived.Shelf.Small.Bits
import Derived.Shelf.Strconv.Itoa0
import Derived.Shelf.Bits.Mul64
set_option maxRecDepth 100000
set_option maxHeartbeats 8000000
namespace Go.Proofs.Ytmieeoceckcnkaa
open Go.RowKit
theorem AccB.nil {w wr : World} (f : Fr S0 w wr) : AccB w wr (.slice none 0 0) 0 [] := ⟨World.ownsRow_nil _ _ _ _, fresh_nil _ _, f⟩
section
variable (k n : Nat) (pv : Option Addr) (N cv : Nat) (C : List Nat) (w wr : World)
theorem rone_any (hk : k < 10) (hn : n < 18446744073709551616) (hN : N ≤ 100000000) (h : AccB w wr (.slice pv N cv) N C) :
    Calls Try.prog 23 #[.slice pv N cv, .int .u8 ((fRow k).1 : Nat), .int .u64 (n : Nat)] wr fun e w' => ∃ q c M, e = .returned (.slice q M c) ∧ AccB w w' (.slice q M c) M (C ++ enc k n) ∧ M ≤ N + 10 := by
  have H := Lib.hid (one_any k n wr hk hn)
  have hl := enc_length k n hk
  obtain ⟨E, eE⟩ : ∃ E, enc k n = E := ⟨_, rfl⟩
  unfold OnePost at H
  rw [eE] at H hl ⊢
  obtain ⟨L, eL⟩ : ∃ L, (fRow k).1 = L := ⟨_, rfl⟩
  rw [eL] at H ⊢
  have HA := Lib.hid h
  clear h eE eL hk hn
  go_enter Try.func23, Try.ntmps23
  go_wp2_with fail
  refine H.out.mono ?_
  rintro e w1 ⟨v, rfl, f1, own, hf⟩
  obtain ⟨p1, c1, rfl⟩ := slFormN own
  have HS := Lib.hid (SrcIs.ofOwns own)
  have HA1 := Lib.hid (HA.out.fr0 f1)
  clear own hf f1 H HA
  go_wp2_with (first
    | ((with_reducible show wpList _ _ _ (Oper.mk (some 17) _ _ _ _ _ :: _) _ _); refine app_many el8 (.tmp 15) (.tmp 16) HA1.out.own HS.out rfl rfl rfl rfl rfl (ones8 _) (Room.mk (by omega)) ?_; intro p6 c6 w6 own6 g6 at6; have HA6 := Lib.hid (HA1.out.app own6 g6 at6); clear own6 g6 at6)
    | fail)
  go_ret
  exact ⟨p6, c6, _, rfl, HA6.out, by omega⟩
end
structure RgRaw (w : World) (g d : Nat) (lo hi : Int) (p : Option Addr) (n c : Nat) (q : Option Addr) (m e : Nat) (L U : List Tm) : Prop where
  blk : w.heap[g]? = some (.cells #[.int .i64 (d : Nat), .slice p n c, .slice q m e, .int .i64 lo, .int .i64 hi] 38 (0, 0))
  sL : Sl w p n c L
  sU : Sl w q m e U
section
variable {w w' : World} {g d : Nat} {lo hi : Int} {p : Option Addr} {n c : Nat} {q : Option Addr} {m e : Nat} {L U : List Tm}
theorem RgRaw.fr0 (s : RgRaw w g d lo hi p n c q m e L U) (f : Fr S0 w w') : RgRaw w' g d lo hi p n c q m e L U := ⟨f.row s.blk fun h => h, s.sL.fr0 f, s.sU.fr0 f⟩
theorem RgRaw.c0 (s : RgRaw w g d lo hi p n c q m e L U) : w.cell? ⟨g, 0, none⟩ = some (.int .i64 (d : Nat)) := by simp [World.cell?, s.blk]
theorem RgRaw.c1 (s : RgRaw w g d lo hi p n c q m e L U) : w.cell? ⟨g, 1, none⟩ = some (.slice p n c) := by simp [World.cell?, s.blk]
theorem RgRaw.c2 (s : RgRaw w g d lo hi p n c q m e L U) : w.cell? ⟨g, 2, none⟩ = some (.slice q m e) := by simp [World.cell?, s.blk]
theorem RgRaw.c3 (s : RgRaw w g d lo hi p n c q m e L U) : w.cell? ⟨g, 3, none⟩ = some (.int .i64 lo) := by simp [World.cell?, s.blk]
theorem RgRaw.c4 (s : RgRaw w g d lo hi p n c q m e L U) : w.cell? ⟨g, 4, none⟩ = some (.int .i64 hi) := by simp [World.cell?, s.blk]
end
section
variable (g d : Nat) (lo hi : Int) (p : Option Addr) (n c : Nat) (q : Option Addr) (m ce : Nat) (L U : List Tm) (w : World)
theorem rwrite_any (s : RgRaw w g d lo hi p n c q m ce L U) (hd : d < 9223372036854775808) (hL : In64 L) (hU : In64 U) (hn : n ≤ 1000000) (hm : m ≤ 1000000) :
    Calls Try.prog 14 #[.pointer (some ⟨g, 0, none⟩)] w fun e w' => ∃ v, e = .returned v ∧ AccB w w' v (tdB d lo hi L U).length (tdB d lo hi L U) := by
  have HONE : Hid (∀ (x : Nat) (pv : Option Addr) (N cv : Nat) (C : List Nat) (wr : World), x < 18446744073709551616 → N ≤ 100000000 → AccB w wr (.slice pv N cv) N C → Calls Try.prog 23 #[.slice pv N cv, .int .u8 118, .int .u64 (x : Nat)] wr fun e w' => ∃ q c M, e = .returned (.slice q M c) ∧ AccB w w' (.slice q M c) M (C ++ enc 7 x) ∧ M ≤ N + 10) := Lib.hid fun x pv N cv C wr hx hN h => rone_any 7 x pv N cv C w wr (by decide) hx hN h
  have HONZ : Hid (∀ (x : Nat) (pv : Option Addr) (N cv : Nat) (C : List Nat) (wr : World), x < 18446744073709551616 → N ≤ 100000000 → AccB w wr (.slice pv N cv) N C → Calls Try.prog 23 #[.slice pv N cv, .int .u8 122, .int .u64 (x : Nat)] wr fun e w' => ∃ q c M, e = .returned (.slice q M c) ∧ AccB w w' (.slice q M c) M (C ++ enc 8 x) ∧ M ≤ N + 10) := Lib.hid fun x pv N cv C wr hx hN h => rone_any 8 x pv N cv C w wr (by decide) hx hN h
  have HS := Lib.hid s
  have HIL := Lib.hid hL
  have HIU := Lib.hid hU
  have hnL := s.sL.len
  have hmU := s.sU.len
  have HNL := Lib.hid hnL
  have HMU := Lib.hid hmU
  obtain ⟨X, hX⟩ : ∃ X, numb lo = X := ⟨_, rfl⟩
  obtain ⟨Y, hY⟩ : ∃ X, numb hi = X := ⟨_, rfl⟩
  have eX : lo % 18446744073709551616 = (X : Int) := by rw [← hX, numb]; omega
  have eX2 : IntKind.u64.wrap lo = (X : Int) := by rw [← eX]; simp [IntKind.wrap, IntKind.bits, IntKind.signed]
  have eY : hi % 18446744073709551616 = (Y : Int) := by rw [← hY, numb]; omega
  have eY2 : IntKind.u64.wrap hi = (Y : Int) := by rw [← eY]; simp [IntKind.wrap, IntKind.bits, IntKind.signed]
  have hX64 : X < 18446744073709551616 := by rw [← hX]; exact numb_lt _
  have hY64 : Y < 18446744073709551616 := by rw [← hY]; exact numb_lt _
  have HDD : Hid (tdB d lo hi L U = ((([] ++ enc 7 d) ++ enc 8 X) ++ enc 8 Y) ++ enc 7 n ++ (wrM true true 0 (L.drop 0) ++ (enc 7 m ++ wrM false true 0 U))) := Lib.hid (by simp [tdB, List.append_assoc, hnL, hmU, hX, hY])
  have H1 := Lib.hid (fun wr (h : Fr S0 w wr) => HONE.out d none 0 0 [] wr (by omega) (by decide) (AccB.nil h))
  have H2 := Lib.hid (fun pv N cv C wr hN h => HONZ.out X pv N cv C wr hX64 hN h)
  have H3 := Lib.hid (fun pv N cv C wr hN h => HONZ.out Y pv N cv C wr hY64 hN h)
  have H4 := Lib.hid (fun pv N cv C wr hN h => HONE.out n pv N cv C wr (by omega) hN h)
  have H5 := Lib.hid (fun pv N cv C wr hN h => HONE.out m pv N cv C wr (by omega) hN h)
  have hdb : (d : Int) < 9223372036854775808 := by omega
  have hnb : (n : Int) ≤ 1000000 := by omega
  have hmb : (m : Int) ≤ 1000000 := by omega
  have k0 := s.c0
  clear s hL hU hnL hmU hX hY hX64 hY64 hd
  obtain ⟨D, hD⟩ : ∃ D, tdB d lo hi L U = D := ⟨_, rfl⟩
  rw [hD] at HDD ⊢
  clear hD
  go_enter Try.func14, Try.ntmps14
  go_wp2_with fail
  refine (H1.out _ (Fr.refl _ _)).mono ?_
  rintro e w1 ⟨q1, c1, N1, rfl, ha, hN1⟩
  have HA1 := Lib.hid ha
  have k3 := (HS.out.fr0 ha.fr).c3
  clear ha H1 k0
  go_wp2_with fail
  refine (H2.out _ _ _ _ _ (by omega) HA1.out).mono ?_
  rintro e w2 ⟨q2, c2, N2, rfl, ha, hN2⟩
  have HA2 := Lib.hid ha
  have k4 := (HS.out.fr0 ha.fr).c4
  clear ha H2 HA1 k3
  go_wp2_with fail
  refine (H3.out _ _ _ _ _ (by omega) HA2.out).mono ?_
  rintro e w3 ⟨q3, c3, N3, rfl, ha, hN3⟩
  have HA3 := Lib.hid ha
  have k1 := (HS.out.fr0 ha.fr).c1
  clear ha H3 HA2 k4
  go_wp2_with fail
  refine (H4.out _ _ _ _ _ (by omega) HA3.out).mono ?_
  rintro e w4 ⟨q4, c4, N4, rfl, ha, hN4⟩
  have HA4 := Lib.hid ha
  obtain ⟨C0, eC0⟩ : ∃ C0, [] ++ enc 7 d ++ enc 8 X ++ enc 8 Y ++ enc 7 n = C0 := ⟨_, rfl⟩
  rw [eC0] at HA4 HDD
  have hN40 : N4 ≤ 40 := by omega
  clear ha H4 HA3 eC0 hN1 hN2 hN3 hN4 k1
  go_wp2_with fail
  go_loopw [3, 4] (fun v i wr => ∃ (j N : Nat) (C : List Nat) (pv : Option Addr) (cv : Nat), j ≤ n ∧ N ≤ 40 + 20 * j ∧ i = .int .i64 j ∧ v = .slice pv N cv ∧ Hid (AccB w wr (.slice pv N cv) N C) ∧ Hid (D = C ++ (wrM true (decide (j = 0)) (if h : 0 < j ∧ j - 1 < L.length then (L[j - 1]'h.2).1 else 0) (L.drop j) ++ (enc 7 m ++ wrM false true 0 U)))) (fun _ i _ => n - (intOf i).toNat)
  case atStart => exact ⟨0, N4, C0, q4, c4, by omega, by omega, rfl, rfl, HA4, Lib.hid (by rw [HDD.out]; rfl)⟩
  case round =>
    clear HA4 HDD
    obtain ⟨j, N, C, pv, cv, hj, hN, rfl, rfl, hacc, heq⟩ := hrel
    have k1 := (HS.out.fr0 hacc.out.fr).c1
    by_cases hjn : (j : Int) < (n : Int)
    · have hjl : j < L.length := by rw [HNL.out]; omega
      obtain ⟨b, o, rfl, d0, d1⟩ := (HS.out.fr0 hacc.out.fr).sL.at j hjl
      have hin := HIL.out _ (List.getElem_mem hjl)
      have hdr := List.drop_eq_getElem_cons hjl
      have HCELL : Hid (∀ W, Fr S0 w W → W.cell? ⟨g, 1, none⟩ = some (.slice (some ⟨b, o, none⟩) n c) ∧ W.cell? ⟨b, o + j * 2 + 1, none⟩ = some (.int .u64 (L[j].2 : Nat))) := Lib.hid fun W fW => by
        obtain ⟨b', o', hp', c0, c1⟩ := (HS.out.fr0 fW).sL.at j hjl
        simp only [Option.some.injEq, Addr.mk.injEq] at hp'
        obtain ⟨rfl, rfl, -⟩ := hp'
        exact ⟨(HS.out.fr0 fW).c1, c1⟩
      by_cases hj0 : j = 0
      · subst hj0
        obtain ⟨⟨tk, tn⟩, hx⟩ : ∃ x, L[0] = x := ⟨_, rfl⟩
        rw [hx] at d0 d1 hin hdr HCELL
        simp only at d0 d1 hin HCELL
        obtain ⟨⟨hk1, hk2⟩, hn64⟩ := hin
        obtain ⟨Z, hZ⟩ : ∃ X, numb tk = X := ⟨_, rfl⟩
        have hZ64 : Z < 18446744073709551616 := by rw [← hZ]; exact numb_lt _
        have eZ3 : tk % 18446744073709551616 = (Z : Int) := by rw [← hZ, numb]; omega
        have eZ2 : IntKind.u64.wrap tk = (Z : Int) := by rw [← eZ3]; simp [IntKind.wrap, IntKind.bits, IntKind.signed]
        have HNX : Hid (D = ((C ++ enc 8 Z) ++ enc 7 tn) ++ (wrM true false tk (L.drop 1) ++ (enc 7 m ++ wrM false true 0 U))) := Lib.hid (by
          rw [heq.out, hdr]
          simp only [decide_true, Nat.lt_irrefl, false_and, dite_false, wrM]
          rw [show mnum true true 0 tk = Z from by rw [← hZ, mnum, if_pos (show alone true true = true from rfl)], show letr (alone true true) = 8 from rfl]
          simp [List.append_assoc])
        have HZ := Lib.hid (HONZ.out Z pv N cv C wr hZ64 (by omega) hacc.out)
        have HO := Lib.hid (fun pv N cv C wr hN h => HONE.out tn pv N cv C wr hn64 hN h)
        simp only [Nat.zero_mul, Nat.add_zero] at d0 d1 HCELL
        have hnp : (0 : Int) < (n : Int) := by omega
        have hnp2 : 0 < n := by omega
        have HX0 := Lib.hid hx
        clear heq hdr hZ hx hn64 HONE HONZ
        go_wp2_with fail
        refine HZ.out.mono ?_
        rintro e w5 ⟨q5, c5, N5, rfl, ha5, hN5⟩
        have HA5 := Lib.hid ha5
        obtain ⟨k2, d3⟩ := HCELL.out w5 ha5.fr
        clear ha5 HZ
        go_wp2_with fail
        refine (HO.out _ _ _ _ _ (by omega) HA5.out).mono ?_
        rintro e w6 ⟨q6, c6, N6, rfl, ha6, hN6⟩
        have HA6 := Lib.hid ha6
        clear ha6 HO HA5
        go_wp2_with fail
        go_roundw
        case rel =>
          refine ⟨1, N6, _, q6, c6, by omega, by omega, rfl, rfl, HA6, Lib.hid ?_⟩
          rw [HNX.out, dif_pos ⟨by decide, hjl⟩]
          simp only [Nat.sub_self, HX0.out]
          rfl
        case measure => simp [intOf]; omega
      · have hpl : j - 1 < L.length := by omega
        obtain ⟨b', o', hp', e0, -⟩ := (HS.out.fr0 hacc.out.fr).sL.at (j - 1) hpl
        simp only [Option.some.injEq, Addr.mk.injEq] at hp'
        obtain ⟨rfl, rfl, -⟩ := hp'
        have hpk := HIL.out _ (List.getElem_mem hpl)
        obtain ⟨i, hi⟩ : ∃ i, j - 1 = i := ⟨_, rfl⟩
        obtain ⟨⟨tk, tn⟩, hx⟩ : ∃ x, L[j] = x := ⟨_, rfl⟩
        obtain ⟨PK, hPK⟩ : ∃ PK, (L[j - 1]'hpl).1 = PK := ⟨_, rfl⟩
        rw [hx] at d0 d1 hin hdr HCELL
        rw [hPK] at e0 hpk
        rw [hi] at e0
        simp only at d0 d1 hin HCELL
        obtain ⟨⟨hk1, hk2⟩, hn64⟩ := hin
        obtain ⟨⟨hp1, hp2⟩, -⟩ := hpk
        obtain ⟨Z, hZ⟩ : ∃ X, numb (tk - PK) = X := ⟨_, rfl⟩
        obtain ⟨TX, hTX⟩ : ∃ X, numb tk = X := ⟨_, rfl⟩
        obtain ⟨PX, hPX⟩ : ∃ X, numb PK = X := ⟨_, rfl⟩
        have hZ64 : Z < 18446744073709551616 := by rw [← hZ]; exact numb_lt _
        have bT : (TX : Int) < 18446744073709551616 := by rw [← hTX]; have := numb_lt tk; omega
        have bP : (PX : Int) < 18446744073709551616 := by rw [← hPX]; have := numb_lt PK; omega
        have eT : IntKind.u64.wrap tk = (TX : Int) := by rw [← hTX, numb]; simp [IntKind.wrap, IntKind.bits, IntKind.signed]; omega
        have eP : IntKind.u64.wrap PK = (PX : Int) := by rw [← hPX, numb]; simp [IntKind.wrap, IntKind.bits, IntKind.signed]; omega
        have eZ2 : IntKind.u64.wrap ((TX : Int) - (PX : Int)) = (Z : Int) := by rw [← hZ, ← hTX, ← hPX, numb, numb, numb]; simp [IntKind.wrap, IntKind.bits, IntKind.signed]; omega
        have ei : (j : Int) - 1 = (i : Int) := by omega
        have ei2 : IntKind.i64.wrap ((j : Int) - 1) = (i : Int) := by rw [ei]; simp [IntKind.wrap, IntKind.bits, IntKind.signed]; omega
        have hin : (i : Int) < (n : Int) := by omega
        have hin2 : i < n := by omega
        have hjn2 : j < n := by omega
        have hjz : ((j : Int) == 0) = false := by rw [beq_eq_false_iff_ne]; omega
        have HNX : Hid (D = ((C ++ enc 7 Z) ++ enc 7 tn) ++ (wrM true false tk (L.drop (j + 1)) ++ (enc 7 m ++ wrM false true 0 U))) := Lib.hid (by
          rw [heq.out, hdr, dif_pos ⟨by omega, hpl⟩, hPK, decide_eq_false hj0]
          simp only [wrM]
          rw [show mnum true false PK tk = Z from by rw [← hZ, mnum, if_neg (show ¬ alone true false = true by decide)], show letr (alone true false) = 7 from rfl]
          simp [List.append_assoc])
        have HZ := Lib.hid (fun W h => HONE.out Z pv N cv C W hZ64 (by omega) h)
        have HO := Lib.hid (fun pv N cv C wr hN h => HONE.out tn pv N cv C wr hn64 hN h)
        have HX0 := Lib.hid hx
        have HJ0 := Lib.hid hj0
        have hi0 : (i : Int) < 1000000 := by omega
        clear heq hdr hZ hTX hPX hx hn64 HONE HONZ hPK hi hj0 ei
        go_wp2_with fail
        go_still_tail 21, (by kernel_rfl)
        change wpList _ _ _ _ _ wr.drew
        go_wp2_with fail
        refine (HZ.out _ (hacc.out.fr0 (Fr.drew S0 _))).mono ?_
        rintro e w5 ⟨q5, c5, N5, rfl, ha5, hN5⟩
        have HA5 := Lib.hid ha5
        obtain ⟨k2, d3⟩ := HCELL.out w5 ha5.fr
        clear ha5 HZ
        go_wp2_with fail
        refine (HO.out _ _ _ _ _ (by omega) HA5.out).mono ?_
        rintro e w6 ⟨q6, c6, N6, rfl, ha6, hN6⟩
        have HA6 := Lib.hid ha6
        clear ha6 HO HA5
        go_wp2_with fail
        go_roundw
        case rel =>
          refine ⟨j + 1, N6, _, q6, c6, by omega, by omega, by go_num, rfl, HA6, Lib.hid ?_⟩
          rw [HNX.out, dif_pos ⟨by omega, by rw [Nat.add_sub_cancel]; exact hjl⟩, decide_eq_false (by omega)]
          simp only [Nat.add_sub_cancel, HX0.out]
        case measure => simp [intOf]; omega
    · obtain rfl : j = n := by omega
      have HE : Hid (D = C ++ enc 7 m ++ (wrM false true 0 (U.drop 0))) := Lib.hid (by rw [heq.out, ← HNL.out, List.drop_length, wrM]; simp [List.append_assoc])
      have k2 := (HS.out.fr0 hacc.out.fr).c2
      clear heq
      go_wp2_with fail
      refine (H5.out _ _ _ _ _ (by omega) hacc.out).mono ?_
      rintro e w5 ⟨q5, c5, N5, rfl, ha5, hN5⟩
      have HA5 := Lib.hid ha5
      obtain ⟨C5, eC5⟩ : ∃ C5, C ++ enc 7 m = C5 := ⟨_, rfl⟩
      rw [eC5] at HA5 HE
      have hN50 : N5 ≤ 50 + 20 * 1000000 := by omega
      clear ha5 H5 eC5 k1 k2 hacc hN hN5
      go_wp2_with fail
      go_loopw [3, 5] (fun v i wr => ∃ (j N : Nat) (C : List Nat) (pv : Option Addr) (cv : Nat) (first : Bool) (a : Int), j ≤ m ∧ N ≤ 50 + 20 * 1000000 + 20 * j ∧ i = .int .i64 j ∧ v = .slice pv N cv ∧ Hid (AccB w wr (.slice pv N cv) N C) ∧ Hid (D = C ++ wrM false first a (U.drop j))) (fun _ i _ => m - (intOf i).toNat)
      case atStart => exact ⟨0, N5, C5, q5, c5, true, 0, by omega, by omega, rfl, rfl, HA5, HE⟩
      case round =>
        clear HA5 HE
        obtain ⟨j2, N, C, pv, cv, first, a, hj2, hN, rfl, rfl, hacc, heq⟩ := hrel
        have k2 := (HS.out.fr0 hacc.out.fr).c2
        by_cases hjm : (j2 : Int) < (m : Int)
        · have hjl : j2 < U.length := by rw [HMU.out]; omega
          obtain ⟨b, o, rfl, d0, d1⟩ := (HS.out.fr0 hacc.out.fr).sU.at j2 hjl
          have hin := HIU.out _ (List.getElem_mem hjl)
          have hdr := List.drop_eq_getElem_cons hjl
          have HCELL : Hid (∀ W, Fr S0 w W → W.cell? ⟨g, 2, none⟩ = some (.slice (some ⟨b, o, none⟩) m ce) ∧ W.cell? ⟨b, o + j2 * 2 + 1, none⟩ = some (.int .u64 (U[j2].2 : Nat))) := Lib.hid fun W fW => by
            obtain ⟨b', o', hp', c0, c1⟩ := (HS.out.fr0 fW).sU.at j2 hjl
            simp only [Option.some.injEq, Addr.mk.injEq] at hp'
            obtain ⟨rfl, rfl, -⟩ := hp'
            exact ⟨(HS.out.fr0 fW).c2, c1⟩
          obtain ⟨⟨tk, tn⟩, hx⟩ : ∃ x, U[j2] = x := ⟨_, rfl⟩
          rw [hx] at d0 d1 hin hdr HCELL
          simp only at d0 d1 hin HCELL
          obtain ⟨⟨hk1, hk2⟩, hn64⟩ := hin
          obtain ⟨Z, hZ⟩ : ∃ X, numb tk = X := ⟨_, rfl⟩
          have hZ64 : Z < 18446744073709551616 := by rw [← hZ]; exact numb_lt _
          have eZ3 : tk % 18446744073709551616 = (Z : Int) := by rw [← hZ, numb]; omega
          have eZ2 : IntKind.u64.wrap tk = (Z : Int) := by rw [← eZ3]; simp [IntKind.wrap, IntKind.bits, IntKind.signed]
          have hal : alone false first = true := by cases first <;> rfl
          have HNX : Hid (D = ((C ++ enc 8 Z) ++ enc 7 tn) ++ wrM false false tk (U.drop (j2 + 1))) := Lib.hid (by
            rw [heq.out, hdr, wrM]
            simp only
            rw [show mnum false first a tk = Z from by rw [← hZ, mnum, if_pos hal], hal, show letr true = 8 from rfl]
            simp [List.append_assoc])
          have HZ := Lib.hid (HONZ.out Z pv N cv C wr hZ64 (by omega) hacc.out)
          have HO := Lib.hid (fun pv N cv C wr hN h => HONE.out tn pv N cv C wr hn64 hN h)
          clear heq hdr hZ hx hn64 HONE HONZ
          go_wp2_with fail
          refine HZ.out.mono ?_
          rintro e w6 ⟨q6, c6, N6, rfl, ha6, hN6⟩
          have HA6 := Lib.hid ha6
          obtain ⟨k3, d3⟩ := HCELL.out w6 ha6.fr
          clear ha6 HZ
          go_wp2_with fail
          refine (HO.out _ _ _ _ _ (by omega) HA6.out).mono ?_
          rintro e w7 ⟨q7, c7, N7, rfl, ha7, hN7⟩
          have HA7 := Lib.hid ha7
          clear ha7 HO HA6
          go_wp2_with fail
          go_roundw
          case rel => exact ⟨j2 + 1, N7, _, q7, c7, false, tk, by omega, by omega, by go_num, rfl, HA7, HNX⟩
          case measure => simp [intOf]; omega
        · obtain rfl : j2 = m := by omega
          have HE : Hid (D = C) := Lib.hid (by rw [heq.out, ← HMU.out, List.drop_length, wrM, List.append_nil])
          clear heq
          go_wp2_with fail
          go_ret
          rw [HE.out, hacc.out.len]
          exact ⟨_, rfl, hacc.out⟩
end
end Go.Proofs.Ytmieeoceckcnkaa
