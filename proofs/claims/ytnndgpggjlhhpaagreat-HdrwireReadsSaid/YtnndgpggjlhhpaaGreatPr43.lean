/- HwRefs -/
import Derived.Test.YtnndgpggjlhhpaaGreatPr1
import Derived.Test.YtnndgpggjlhhpaaGreatPr2
import Derived.Test.YtnndgpggjlhhpaaGreatPr3
import Derived.Test.YtnndgpggjlhhpaaGreatPr4
import Derived.Test.YtnndgpggjlhhpaaGreatPr5
import Derived.Test.YtnndgpggjlhhpaaGreatPr6
import Derived.Test.YtnndgpggjlhhpaaGreatPr7
import Derived.Test.YtnndgpggjlhhpaaGreatPr8
import Derived.Test.YtnndgpggjlhhpaaGreatPr9
import Derived.Test.YtnndgpggjlhhpaaGreatPr10
import Derived.Test.YtnndgpggjlhhpaaGreatPr11
import Derived.Test.YtnndgpggjlhhpaaGreatPr12
import Derived.Test.YtnndgpggjlhhpaaGreatPr13
import Derived.Test.YtnndgpggjlhhpaaGreatPr14
import Derived.Test.YtnndgpggjlhhpaaGreatPr15
import Derived.Test.YtnndgpggjlhhpaaGreatPr16
import Derived.Test.YtnndgpggjlhhpaaGreatPr17
import Derived.Test.YtnndgpggjlhhpaaGreatPr18
import Derived.Test.YtnndgpggjlhhpaaGreatPr19
import Derived.Test.YtnndgpggjlhhpaaGreatPr20
import Derived.Test.YtnndgpggjlhhpaaGreatPr21
import Derived.Test.YtnndgpggjlhhpaaGreatPr22
import Derived.Test.YtnndgpggjlhhpaaGreatPr23
import Derived.Test.YtnndgpggjlhhpaaGreatPr24
import Derived.Test.YtnndgpggjlhhpaaGreatPr25
import Derived.Test.YtnndgpggjlhhpaaGreatPr26
import Derived.Test.YtnndgpggjlhhpaaGreatPr27
import Derived.Test.YtnndgpggjlhhpaaGreatPr28
import Derived.Test.YtnndgpggjlhhpaaGreatPr29
import Derived.Test.YtnndgpggjlhhpaaGreatPr30
import Derived.Test.YtnndgpggjlhhpaaGreatPr31
import Derived.Test.YtnndgpggjlhhpaaGreatPr32
import Derived.Test.YtnndgpggjlhhpaaGreatPr33
import Derived.Test.YtnndgpggjlhhpaaGreatPr34
import Derived.Test.YtnndgpggjlhhpaaGreatPr35
import Derived.Test.YtnndgpggjlhhpaaGreatPr36
import Derived.Test.YtnndgpggjlhhpaaGreatPr37
import Derived.Test.YtnndgpggjlhhpaaGreatPr38
import Derived.Test.YtnndgpggjlhhpaaGreatPr39
import Derived.Test.YtnndgpggjlhhpaaGreatPr40
import Derived.Test.YtnndgpggjlhhpaaGreatPr41
import Derived.BigRegion
import Derived.RangeFuncNested
import Derived.RangeFuncBound
import Derived.RangeFuncCalls
import Derived.RangeFuncLeaves
import Derived.Shelf.Abstract
import Derived.Shelf.RegionOpen
import Derived.WalkKit
import Derived.OwnWalkIn
import Derived.TacticsInMore
import Derived.LoopNIn
import Derived.LoopIn
import Derived.Sort.BigQuietIn
import Derived.Lib.Repeat
import Derived.StillTailTactics
import Derived.Laws.BitsAllLaws
import Derived.Laws.BytesArg
import Derived.Lib.SlBytesConst
import Derived.Maps.AppendAt
import Derived.Laws.AppendOwnNone
import Derived.WalkSpells
import Derived.WalkLawsBesides
import Derived.Deep.QuietTactic
import Derived.BigQuiet
import Derived.RegionTactic
import Derived.Deep.AppendLies
import Derived.Deep.RegionLaw
import Derived.Laws.ResultCell
import Derived.Laws.EntriesVeiled
import Derived.Lib.Hide
import Derived.Test.YtnndgpggjlhhpaaGreatRows
import Derived.Maps.RangeWalk
import Derived.Deep.RegionHeld3
import Derived.Deep.CutBlock
import Derived.Deep.DeepCutAuto
import Derived.Deep.CutRange
import Derived.Lib.BitFns
import Derived.Shelf.Small.Bits
import Derived.Shelf.Strconv.Itoa0
import Derived.Shelf.Bits.Mul64
import Derived.Laws.Externs
import Derived.Shelf.Spec.BitsCarry
import Derived.Shelf.SlSortCmp.WholeK
import Derived.Shelf.Strings.Repeat
import Derived.Lib.AppendZerosOnto
import Derived.Lib.SliceRun
import Derived.Lib.Walk
import Derived.Laws.MakeOwn
import Derived.Laws.OwnMore
import Derived.IntWalk
import Derived.Lib.MakeNoZero
import Derived.Laws.CopyOwn
import Derived.Laws.Tables
import Derived.Defers
import Derived.Recover
import Derived.DeepKeys4
import Derived.WideKeyPair
import Derived.MapKept
import Derived.ChangeMaps
import Derived.Laws.Cover3
import Derived.Stop.BytesEq
set_option maxRecDepth 100000
set_option maxHeartbeats 8000000
namespace Go.Proofs.YtnndgpggjlhhpaaGreat
open Go.RowKit
def OneNew (w w' : World) (e : Ending) (b : List Nat) : Prop := ∃ q c, e = .returned (.slice q b.length c) ∧ Fr S0 w w' ∧ RowNew w w' (.slice q b.length c) b
theorem one19_any (k n : Nat) (w : World) (hk : k < 10) (hn : n < 18446744073709551616) :
    Calls Tryz.prog 29 #[.int .u8 ((fRow k).1 : Nat), .int .u64 (n : Nat)] w fun e w' => OneNew w w' e (enc k n) := by
  have H := Lib.hid (one_any k n w hk hn)
  clear hk hn
  obtain ⟨L, hL⟩ : ∃ L, (fRow k).1 = L := ⟨_, rfl⟩
  rw [hL] at H ⊢
  clear hL
  go_enter Tryz.func29, Tryz.ntmps29
  go_wp2_with fail
  refine (H.out).mono ?_
  rintro _ w2 ⟨v, rfl, f, o, fr⟩
  obtain ⟨q, c, rfl, -, -, -⟩ := slForm o
  have O := Lib.hid (show OneNew w w2 (.returned (.slice q (enc k n).length c)) (enc k n) from ⟨q, c, rfl, f, ⟨o, fr⟩⟩)
  clear f o fr H
  go_wp2_with fail
  go_ret
  exact O.out
theorem one_n (n : Nat) (w : World) (hn : n < 18446744073709551616) :
    Calls Tryz.prog 29 #[.int .u8 110, .int .u64 (n : Nat)] w fun e w' => OneNew w w' e (enc 9 n) := one19_any 9 n w (by decide) hn
theorem one_W (n : Nat) (w : World) (hn : n < 18446744073709551616) :
    Calls Tryz.prog 29 #[.int .u8 87, .int .u64 (n : Nat)] w fun e w' => OneNew w w' e (enc 4 n) := one19_any 4 n w (by decide) hn
theorem one_Q (n : Nat) (w : World) (hn : n < 18446744073709551616) :
    Calls Tryz.prog 29 #[.int .u8 81, .int .u64 (n : Nat)] w fun e w' => OneNew w w' e (enc 6 n) := one19_any 6 n w (by decide) hn
theorem PrI.key {w : World} {p : Option Addr} {l : List Pr} (h : PrI w p l) (i : Nat) (hi : i < l.length) : ∃ b o, p = some ⟨b, o, none⟩ ∧ w.cell? ⟨b, o + i * 2, none⟩ = some (.int .i64 l[i].1) ∧ w.cell? ⟨b, o + i * 2 + 1, none⟩ = some (.int .u64 (l[i].2 : Nat)) := by
  obtain ⟨b, o, e, c0, c1⟩ := h.at i hi
  exact ⟨b, o, e, c0, c1⟩
theorem rcounts_any (p : Option Addr) (n c : Nat) (l : List Pr) (w : World) (h : PrI w p l) (hn : l.length = n) (hu : Upw 0 l) (hk : ∀ x ∈ l, x.1 < 1099511627776) (hs : n ≤ 40000) :
    Calls Tryz.prog 28 #[.slice p n c] w fun e w' => OneNew w w' e (encs (nums l)) := by
  have H := Lib.hid h
  have HN := Lib.hid hn
  have HK := Lib.hid hk
  have HROOM : Hid (∀ k, k ≤ 1000001 → Room k) := Lib.hid fun k hk => Room.mk (by omega)
  have hlen := h.len
  obtain ⟨T, hT⟩ : ∃ T, encs (numsAt 0 l) = T := ⟨_, rfl⟩
  have HI0 : Hid ([] ++ encs (numsAt 0 (l.drop 0)) = T ∧ ([] : List Nat).length ≤ 20 * 0 ∧ Upw 0 (l.drop 0)) := Lib.hid ⟨by rw [← hT]; rfl, Nat.le_refl _, hu⟩
  have HE : Hid (n ≠ 0 → encs (nums l) = T) := Lib.hid fun h0 => by
    rw [nums, if_neg (fun e => by rw [e] at hn; exact h0 hn.symm)]; exact hT
  have HZ : Hid (n = 0 → encs (nums l) = enc 9 0) := Lib.hid fun h0 => by
    obtain rfl : l = [] := List.length_eq_zero_iff.1 (by omega)
    rw [nums, if_pos rfl, encs]
    simp
  obtain ⟨U, hU⟩ : ∃ U, encs (nums l) = U := ⟨_, rfl⟩
  rw [hU] at HE HZ ⊢
  clear h hn hu hT hk hU
  go_enter Tryz.func28, Tryz.ntmps28
  go_wp2_with fail
  go_loopw [3, 4, 5] (fun vb va vi wr => ∃ (j a : Nat) (B : List Nat), vi = .int .i64 (j : Int) ∧ va = .int .i64 (a : Int) ∧ j ≤ n ∧ a ≤ 1099511627776 ∧ Hid (RowG w wr vb B.length B) ∧ Hid (B ++ encs (numsAt a (l.drop j)) = T ∧ B.length ≤ 20 * j ∧ Upw a (l.drop j))) (fun _ _ vi _ => n - (intOf vi).toNat)
  case atStart => exact ⟨0, 0, [], rfl, rfl, by omega, by omega, Lib.hid ⟨World.ownsRow_nil _ _ _ _, Fr.refl _ _, fresh_nil _ _⟩, HI0⟩
  case round =>
    obtain ⟨j, a, B, rfl, rfl, hj, ha, HG, HI⟩ := hrel
    by_cases hjn : (j : Int) < (n : Int)
    · have hjl : j < l.length := by rw [HN.out]; omega
      obtain ⟨b, o, rfl, x0, x1⟩ := H.out.key j hjl
      have HC := Lib.hid (fun W (f : Fr S0 w W) => And.intro (f.cell x0 fun h => h) (f.cell x1 fun h => h))
      clear x0 x1
      have hkj := HK.out _ (List.getElem_mem hjl)
      have hdr := List.drop_eq_getElem_cons hjl
      obtain ⟨⟨tk, tn⟩, ht⟩ : ∃ t, l[j] = t := ⟨_, rfl⟩
      rw [ht] at HC hkj hdr
      obtain ⟨R, hR⟩ : ∃ R, l.drop (j + 1) = R := ⟨_, rfl⟩
      rw [hR] at hdr
      rw [hdr] at HI
      obtain ⟨hB, hBl, k0, ka, n0, n1, hup⟩ := HI.out
      obtain ⟨K, rfl⟩ : ∃ K : Nat, tk = K := ⟨tk.toNat, by omega⟩
      rw [numsAt, encs_app, encs_cons, show ((K : Int)).toNat = K by omega] at hB
      rw [show ((K : Int)).toNat = K by omega] at ka hup
      obtain ⟨M, hM⟩ : ∃ M, B.length = M := ⟨_, rfl⟩
      rw [hM] at HG hBl
      obtain ⟨g, hg⟩ : ∃ g, K - a = g := ⟨_, rfl⟩
      rw [hg] at hB
      obtain ⟨K1, hK1⟩ : ∃ K1, K + 1 = K1 := ⟨_, rfl⟩
      rw [hK1] at hB hup
      obtain ⟨c0, c1⟩ := HC.out _ HG.out.fr
      have e1 : (K : Int) - (a : Int) = (g : Int) := by omega
      have e2 : (K : Int) + 1 = (K1 : Int) := by omega
      have hk2 : K < 1099511627776 := by omega
      have hg2 : g < 1099511627776 := by omega
      have HON := Lib.hid (fun W => one_n tn W (by omega))
      have HML := Lib.hid hBl
      have hlt := enc_length 9 tn (by decide)
      obtain ⟨Et, hEt⟩ : ∃ Et, enc 9 tn = Et := ⟨_, rfl⟩
      rw [hEt] at HON hlt hB
      have HLT : Hid (Et.length ≤ 10) := Lib.hid (by omega)
      have HNXT : Hid (B ++ (encs (zers g) ++ (Et ++ encs (numsAt K1 R))) = T ∧ Upw K1 R ∧ l.drop (j + 1) = R ∧ K1 ≤ 1099511627776 ∧ B.length = M) := Lib.hid ⟨hB, hup, hR, by omega, hM⟩
      have hK1b : K1 ≤ 1099511627776 := by omega
      have hj1 : j + 1 ≤ n := by omega
      have HML2 : Hid (20 * j + 20 ≤ 800000) := Lib.hid (by omega)
      clear hB hBl hup hdr HI ht hR hkj hM hEt hlt hg hK1 ka
      have hc : g = 0 ∨ g = 1 ∨ 2 ≤ g := by omega
      rcases hc with rfl | rfl | hg3
      · have e1' : (K : Int) - (a : Int) = 0 := e1
        clear e1
        have HLZ : Hid ((enc 9 0).length ≤ 10) := Lib.hid (by have := enc_length 9 0 (by decide); omega)
        have HZZ : Hid (encs (zers 0) = []) := Lib.hid rfl
        go_wp2_with fail
        refine (HON.out _).mono ?_
        rintro _ w2 ⟨q2, d2, rfl, f2, r2⟩
        have G2 := Lib.hid (HG.out.fr0 f2)
        have O2 := Lib.hid r2
        clear f2 r2
        go_wp2_with (first
          | ((with_reducible show wpList _ _ _ (Oper.mk (some 41) _ _ _ _ _ :: _) _ _); refine app_many el8 (.tmp 34) (.tmp 40) G2.out.own (SrcIs.ofOwns O2.out.own) rfl rfl rfl rfl rfl (one8s _) (HROOM.out _ (by have h1 := HML.out; have h2 := HML2.out; have h3 := HLT.out; have h4 := HLZ.out; omega)) ?_; intro p3 c3 w3 own3 g3 at3; have G3 := Lib.hid (G2.out.app own3 g3 at3); clear own3 g3 at3; obtain ⟨y3, z3⟩ := HC.out _ G3.out.fr)
          | fail)
        have hL : (B ++ Et).length = M + Et.length := by simp only [List.length_append]; rw [HNXT.out.2.2.2.2]
        go_roundw
        case rel => exact ⟨j + 1, K1, B ++ Et, by go_num, rfl, hj1, hK1b, Lib.hid (by rw [hL]; exact G3.out), Lib.hid ⟨by rw [HNXT.out.2.2.1]; have h := HNXT.out.1; rw [HZZ.out] at h; simpa [List.append_assoc] using h, by have h1 := HML.out; have h3 := HLT.out; have h4 := HLZ.out; rw [hL]; omega, by rw [HNXT.out.2.2.1]; exact HNXT.out.2.1⟩⟩
        case measure => simp [intOf]; omega
      · have e1' : (K : Int) - (a : Int) = 1 := e1
        clear e1
        have HZC := Lib.hid (fun W => show Calls Tryz.prog 29 #[.int .u8 110, .int .u64 0] W fun e w' => OneNew W w' e (enc 9 0) from one_n 0 W (by decide))
        obtain ⟨E0, hE0⟩ : ∃ E0, enc 9 0 = E0 := ⟨_, rfl⟩
        have HLZ : Hid (E0.length ≤ 10) := Lib.hid (by have := enc_length 9 0 (by decide); rw [← hE0]; omega)
        have HZZ : Hid (encs (zers 1) = E0) := Lib.hid (by rw [← hE0]; simp [encs, zers])
        rw [hE0] at HZC
        clear hE0
        go_wp2_with fail
        refine (HZC.out _).mono ?_
        rintro _ w2 ⟨q2, d2, rfl, f2, r2⟩
        have G2 := Lib.hid (HG.out.fr0 f2)
        have O2 := Lib.hid r2
        clear f2 r2
        go_wp2_with (first
          | ((with_reducible show wpList _ _ _ (Oper.mk (some 24) _ _ _ _ _ :: _) _ _); refine app_many el8 (.tmp 22) (.tmp 23) G2.out.own (SrcIs.ofOwns O2.out.own) rfl rfl rfl rfl rfl (one8s _) (HROOM.out _ (by have h1 := HML.out; have h2 := HML2.out; have h3 := HLT.out; have h4 := HLZ.out; omega)) ?_; intro p3 c3 w3 own3 g3 at3; have G3 := Lib.hid (G2.out.app own3 g3 at3); clear own3 g3 at3; obtain ⟨y3, z3⟩ := HC.out _ G3.out.fr)
          | fail)
        refine (HON.out _).mono ?_
        rintro _ w4 ⟨q4, d4, rfl, f4, r4⟩
        have G4 := Lib.hid (G3.out.fr0 f4)
        have O4 := Lib.hid r4
        clear f4 r4
        go_wp2_with (first
          | ((with_reducible show wpList _ _ _ (Oper.mk (some 41) _ _ _ _ _ :: _) _ _); refine app_many el8 (.tmp 34) (.tmp 40) G4.out.own (SrcIs.ofOwns O4.out.own) rfl rfl rfl rfl rfl (one8s _) (HROOM.out _ (by have h1 := HML.out; have h2 := HML2.out; have h3 := HLT.out; have h4 := HLZ.out; omega)) ?_; intro p5 c5 w5 own5 g5 at5; have G5 := Lib.hid (G4.out.app own5 g5 at5); clear own5 g5 at5; obtain ⟨y5, z5⟩ := HC.out _ G5.out.fr)
          | fail)
        have hL : (B ++ E0 ++ Et).length = M + E0.length + Et.length := by simp only [List.length_append]; rw [HNXT.out.2.2.2.2]
        go_roundw
        case rel => exact ⟨j + 1, K1, B ++ E0 ++ Et, by go_num, rfl, hj1, hK1b, Lib.hid (by rw [hL]; exact G5.out), Lib.hid ⟨by rw [HNXT.out.2.2.1]; have h := HNXT.out.1; rw [HZZ.out] at h; simpa [List.append_assoc] using h, by have h1 := HML.out; have h3 := HLT.out; have h4 := HLZ.out; rw [hL]; omega, by rw [HNXT.out.2.2.1]; exact HNXT.out.2.1⟩⟩
        case measure => simp [intOf]; omega
      · obtain ⟨Z, hZ⟩ : ∃ Z, 18446744073709551616 - g = Z := ⟨_, rfl⟩
        obtain ⟨g1, hg1⟩ : ∃ g1, g - 1 = g1 := ⟨_, rfl⟩
        have e3 : (g : Int) - 1 = (g1 : Int) := by omega
        have e4 : 18446744073709551615 - (g1 : Int) = (Z : Int) := by omega
        have hg4 : g1 < 1099511627776 := by omega
        have dg1 : decide ((g : Int) = 1) = false := decide_eq_false (by omega)
        have dg2 : decide (1 < (g : Int)) = true := decide_eq_true (by omega)
        have HZC := Lib.hid (fun W => one_n Z W (by omega))
        obtain ⟨E0, hE0⟩ : ∃ E0, enc 9 Z = E0 := ⟨_, rfl⟩
        have HLZ : Hid (E0.length ≤ 10) := Lib.hid (by have := enc_length 9 Z (by decide); rw [← hE0]; omega)
        have HZZ : Hid (encs (zers g) = E0) := Lib.hid (by rw [zers, if_neg (by omega), if_neg (by omega), hZ, ← hE0, encs]; simp)
        rw [hE0] at HZC
        clear hE0 hZ hg1 hg2
        go_wp2_with fail
        refine (HZC.out _).mono ?_
        rintro _ w2 ⟨q2, d2, rfl, f2, r2⟩
        have G2 := Lib.hid (HG.out.fr0 f2)
        have O2 := Lib.hid r2
        clear f2 r2
        go_wp2_with (first
          | ((with_reducible show wpList _ _ _ (Oper.mk (some 33) _ _ _ _ _ :: _) _ _); refine app_many el8 (.tmp 27) (.tmp 32) G2.out.own (SrcIs.ofOwns O2.out.own) rfl rfl rfl rfl rfl (one8s _) (HROOM.out _ (by have h1 := HML.out; have h2 := HML2.out; have h3 := HLT.out; have h4 := HLZ.out; omega)) ?_; intro p3 c3 w3 own3 g3 at3; have G3 := Lib.hid (G2.out.app own3 g3 at3); clear own3 g3 at3; obtain ⟨y3, z3⟩ := HC.out _ G3.out.fr)
          | fail)
        refine (HON.out _).mono ?_
        rintro _ w4 ⟨q4, d4, rfl, f4, r4⟩
        have G4 := Lib.hid (G3.out.fr0 f4)
        have O4 := Lib.hid r4
        clear f4 r4
        go_wp2_with (first
          | ((with_reducible show wpList _ _ _ (Oper.mk (some 41) _ _ _ _ _ :: _) _ _); refine app_many el8 (.tmp 34) (.tmp 40) G4.out.own (SrcIs.ofOwns O4.out.own) rfl rfl rfl rfl rfl (one8s _) (HROOM.out _ (by have h1 := HML.out; have h2 := HML2.out; have h3 := HLT.out; have h4 := HLZ.out; omega)) ?_; intro p5 c5 w5 own5 g5 at5; have G5 := Lib.hid (G4.out.app own5 g5 at5); clear own5 g5 at5; obtain ⟨y5, z5⟩ := HC.out _ G5.out.fr)
          | fail)
        have hL : (B ++ E0 ++ Et).length = M + E0.length + Et.length := by simp only [List.length_append]; rw [HNXT.out.2.2.2.2]
        go_roundw
        case rel => exact ⟨j + 1, K1, B ++ E0 ++ Et, by go_num, rfl, hj1, hK1b, Lib.hid (by rw [hL]; exact G5.out), Lib.hid ⟨by rw [HNXT.out.2.2.1]; have h := HNXT.out.1; rw [HZZ.out] at h; simpa [List.append_assoc] using h, by have h1 := HML.out; have h3 := HLT.out; have h4 := HLZ.out; rw [hL]; omega, by rw [HNXT.out.2.2.1]; exact HNXT.out.2.1⟩⟩
        case measure => simp [intOf]; omega
    · have dg : decide ((j : Int) < (n : Int)) = false := decide_eq_false hjn
      have HT : Hid (B = T) := Lib.hid (by
        obtain ⟨h, -⟩ := HI.out
        rw [List.drop_of_length_le (by rw [HN.out]; omega)] at h
        simpa [numsAt, encs] using h)
      by_cases hn0 : n = 0
      · have HZC := Lib.hid (fun W => show Calls Tryz.prog 29 #[.int .u8 110, .int .u64 0] W fun e w' => OneNew W w' e (enc 9 0) from one_n 0 W (by decide))
        rw [← HZ.out hn0] at HZC
        subst hn0
        go_wp2_with fail
        refine (HZC.out _).mono ?_
        rintro _ w2 ⟨q2, d2, rfl, f2, r2⟩
        have O : Hid (OneNew w w2 (.returned (.slice q2 U.length d2)) U) := Lib.hid ⟨q2, d2, rfl, HG.out.fr.trans0 f2, r2.own, fun k hk => Nat.le_trans HG.out.fr.size (r2.fresh k hk)⟩
        clear f2 r2
        go_wp2_with fail
        go_ret
        exact O.out
      · have dn : decide ((n : Int) = 0) = false := decide_eq_false (by omega)
        go_wp2_with fail
        go_ret
        obtain ⟨q, c2, rfl, -, -, -⟩ := slForm HG.out.own
        rw [HE.out hn0, ← HT.out]
        exact ⟨q, c2, rfl, HG.out.fr, HG.out.own, HG.out.fresh⟩
def OneIs (m : Nat) (b : List Nat) (w : World) (e : Ending) (w' : World) : Prop := ∃ q c, e = .returned (.slice q m c) ∧ Fr S0 w w' ∧ w'.ownsRow 0 5 1 (.slice q m c) m (u8s b)
theorem one_W4 (n : Nat) (w : World) (hn : n < 18446744073709551616) :
    Calls Tryz.prog 29 #[.int .u8 87, .int .u64 (n : Nat)] w (OneIs 4 (enc 4 n) w) :=
  (one_W n w hn).mono fun e w' ⟨q, c, h1, h2, h3⟩ => by
    have h4 := h3.own
    rw [enc4_len] at h1 h4
    exact ⟨q, c, h1, h2, h4⟩
theorem one_Q8 (n : Nat) (w : World) (hn : n < 18446744073709551616) :
    Calls Tryz.prog 29 #[.int .u8 81, .int .u64 (n : Nat)] w (OneIs 8 (enc 6 n) w) :=
  (one_Q n w hn).mono fun e w' ⟨q, c, h1, h2, h3⟩ => by
    have h4 := h3.own
    rw [enc6_len] at h1 h4
    exact ⟨q, c, h1, h2, h4⟩
theorem headB_is (n D L R : Nat) (C : List Nat) : headB n D L R ++ C = [] ++ enc 4 478450451 ++ enc 4 n ++ enc 4 0 ++ enc 4 D ++ enc 6 L ++ enc 6 R ++ enc 6 4607182418800017408 ++ C := by
  simp [headB]
theorem rwrite19_any (L R D : Nat) (p : Option Addr) (n c : Nat) (l : List Pr) (w : World) (h : PrI w p l) (hn : l.length = n) (hu : Upw 0 l) (hk : ∀ x ∈ l, x.1 < 1099511627776) (hs : n ≤ 40000) (hL : L < 9223372036854775808) (hR : R < 9223372036854775808) (hD : D < 1000) (hb : (encs (nums l)).length ≤ 900000) :
    Calls Tryz.prog 11 #[.int .i64 (L : Nat), .int .i64 (R : Nat), .int .i64 (D : Nat), .slice p n c] w fun e w' => OneNew w w' e (headB (encs (nums l)).length D L R ++ encs (nums l)) := by
  have HC := Lib.hid (rcounts_any p n c l w h hn hu hk hs)
  obtain ⟨C, hC⟩ : ∃ C, encs (nums l) = C := ⟨_, rfl⟩
  rw [hC] at HC hb ⊢
  obtain ⟨N, hN⟩ : ∃ N, C.length = N := ⟨_, rfl⟩
  rw [hN] at hb ⊢
  have HN := Lib.hid hN
  have HROOM : Hid (∀ k, k ≤ 1000001 → Room k) := Lib.hid fun k hk => Room.mk (by omega)
  have A1 := Lib.hid (fun W => show Calls Tryz.prog 29 #[.int .u8 87, .int .u64 478450451] W (OneIs 4 (enc 4 478450451) W) from one_W4 478450451 W (by decide))
  have A2 := Lib.hid (fun W => one_W4 N W (by omega))
  have A3 := Lib.hid (fun W => show Calls Tryz.prog 29 #[.int .u8 87, .int .u64 0] W (OneIs 4 (enc 4 0) W) from one_W4 0 W (by decide))
  have A4 := Lib.hid (fun W => one_W4 D W (by omega))
  have A5 := Lib.hid (fun W => one_Q8 L W (by omega))
  have A6 := Lib.hid (fun W => one_Q8 R W (by omega))
  have A7 := Lib.hid (fun W => show Calls Tryz.prog 29 #[.int .u8 81, .int .u64 4607182418800017408] W (OneIs 8 (enc 6 4607182418800017408) W) from one_Q8 4607182418800017408 W (by decide))
  have HU : Hid (headB N D L R ++ C = [] ++ enc 4 478450451 ++ enc 4 N ++ enc 4 0 ++ enc 4 D ++ enc 6 L ++ enc 6 R ++ enc 6 4607182418800017408 ++ C) := Lib.hid (headB_is N D L R C)
  obtain ⟨B1, h1⟩ : ∃ B, enc 4 478450451 = B := ⟨_, rfl⟩
  obtain ⟨B2, h2⟩ : ∃ B, enc 4 N = B := ⟨_, rfl⟩
  obtain ⟨B3, h3⟩ : ∃ B, enc 4 0 = B := ⟨_, rfl⟩
  obtain ⟨B4, h4⟩ : ∃ B, enc 4 D = B := ⟨_, rfl⟩
  obtain ⟨B5, h5⟩ : ∃ B, enc 6 L = B := ⟨_, rfl⟩
  obtain ⟨B6, h6⟩ : ∃ B, enc 6 R = B := ⟨_, rfl⟩
  obtain ⟨B7, h7⟩ : ∃ B, enc 6 4607182418800017408 = B := ⟨_, rfl⟩
  obtain ⟨U, hU⟩ : ∃ U, headB N D L R ++ C = U := ⟨_, rfl⟩
  have HUL : Hid (U.length = 40 + N) := Lib.hid (by rw [← hU, List.length_append, headB_len, hN])
  rw [h1, h2, h3, h4, h5, h6, h7] at HU
  rw [h1] at A1
  rw [h2] at A2
  rw [h3] at A3
  rw [h4] at A4
  rw [h5] at A5
  rw [h6] at A6
  rw [h7] at A7
  rw [hU] at HU ⊢
  clear h hn hu hk hs hC hN h1 h2 h3 h4 h5 h6 h7 hU
  go_enter Tryz.func11, Tryz.ntmps11
  go_wp2_with fail
  refine (HC.out).mono ?_
  rintro _ w1 ⟨q1, c1, rfl, f1, r1⟩
  have hr1 := r1.own
  rw [HN.out] at hr1 ⊢
  have O1 := Lib.hid hr1
  have F1 := Lib.hid f1
  have G0 : Hid (RowG w1 w1 (.slice none 0 0) 0 []) := Lib.hid ⟨World.ownsRow_nil _ _ _ _, Fr.refl _ _, fresh_nil _ _⟩
  clear f1 r1 hr1 HC
  go_wp2_with fail
  refine (A1.out _).mono ?_
  rintro _ u0 ⟨q2, d0, rfl, f0, r0⟩
  have G0' := Lib.hid (G0.out.fr0 f0)
  have O2 := Lib.hid r0
  clear f0 r0 A1 G0
  go_wp2_with (first
    | ((with_reducible show wpList _ _ _ (Oper.mk (some 15) _ _ _ _ _ :: _) _ _); refine app_many (N := 4) el8 (.tmp 13) (.tmp 14) G0'.out.own (SrcIs.ofOwns O2.out) rfl rfl rfl rfl rfl (one8s _) (HROOM.out _ (by omega)) ?_; intro p0 c0' v0 own0 g0 at0; (have G1 := Lib.hid (G0'.out.app own0 g0 at0)); clear own0 g0 at0 O2 G0')
    | fail)
  refine (A2.out _).mono ?_
  rintro _ u1 ⟨q3, d1, rfl, f1, r1⟩
  have G1' := Lib.hid (G1.out.fr0 f1)
  have O3 := Lib.hid r1
  clear f1 r1 A2 G1
  go_wp2_with (first
    | ((with_reducible show wpList _ _ _ (Oper.mk (some 21) _ _ _ _ _ :: _) _ _); refine app_many (N := 8) el8 (.tmp 16) (.tmp 20) G1'.out.own (SrcIs.ofOwns O3.out) rfl rfl rfl rfl rfl (one8s _) (HROOM.out _ (by omega)) ?_; intro p1 c1' v1 own1 g1 at1; (have G2 := Lib.hid (G1'.out.app own1 g1 at1)); clear own1 g1 at1 O3 G1')
    | fail)
  refine (A3.out _).mono ?_
  rintro _ u2 ⟨q4, d2, rfl, f2, r2⟩
  have G2' := Lib.hid (G2.out.fr0 f2)
  have O4 := Lib.hid r2
  clear f2 r2 A3 G2
  go_wp2_with (first
    | ((with_reducible show wpList _ _ _ (Oper.mk (some 24) _ _ _ _ _ :: _) _ _); refine app_many (N := 12) el8 (.tmp 22) (.tmp 23) G2'.out.own (SrcIs.ofOwns O4.out) rfl rfl rfl rfl rfl (one8s _) (HROOM.out _ (by omega)) ?_; intro p2 c2' v2 own2 g2 at2; (have G3 := Lib.hid (G2'.out.app own2 g2 at2)); clear own2 g2 at2 O4 G2')
    | fail)
  refine (A4.out _).mono ?_
  rintro _ u3 ⟨q5, d3, rfl, f3, r3⟩
  have G3' := Lib.hid (G3.out.fr0 f3)
  have O5 := Lib.hid r3
  clear f3 r3 A4 G3
  go_wp2_with (first
    | ((with_reducible show wpList _ _ _ (Oper.mk (some 29) _ _ _ _ _ :: _) _ _); refine app_many (N := 16) el8 (.tmp 25) (.tmp 28) G3'.out.own (SrcIs.ofOwns O5.out) rfl rfl rfl rfl rfl (one8s _) (HROOM.out _ (by omega)) ?_; intro p3 c3' v3 own3 g3 at3; (have G4 := Lib.hid (G3'.out.app own3 g3 at3)); clear own3 g3 at3 O5 G3')
    | fail)
  refine (A5.out _).mono ?_
  rintro _ u4 ⟨q6, d4, rfl, f4, r4⟩
  have G4' := Lib.hid (G4.out.fr0 f4)
  have O6 := Lib.hid r4
  clear f4 r4 A5 G4
  go_wp2_with (first
    | ((with_reducible show wpList _ _ _ (Oper.mk (some 34) _ _ _ _ _ :: _) _ _); refine app_many (N := 24) el8 (.tmp 30) (.tmp 33) G4'.out.own (SrcIs.ofOwns O6.out) rfl rfl rfl rfl rfl (one8s _) (HROOM.out _ (by omega)) ?_; intro p4 c4' v4 own4 g4 at4; (have G5 := Lib.hid (G4'.out.app own4 g4 at4)); clear own4 g4 at4 O6 G4')
    | fail)
  refine (A6.out _).mono ?_
  rintro _ u5 ⟨q7, d5, rfl, f5, r5⟩
  have G5' := Lib.hid (G5.out.fr0 f5)
  have O7 := Lib.hid r5
  clear f5 r5 A6 G5
  go_wp2_with (first
    | ((with_reducible show wpList _ _ _ (Oper.mk (some 39) _ _ _ _ _ :: _) _ _); refine app_many (N := 32) el8 (.tmp 35) (.tmp 38) G5'.out.own (SrcIs.ofOwns O7.out) rfl rfl rfl rfl rfl (one8s _) (HROOM.out _ (by omega)) ?_; intro p5 c5' v5 own5 g5 at5; (have G6 := Lib.hid (G5'.out.app own5 g5 at5)); clear own5 g5 at5 O7 G5')
    | fail)
  refine (A7.out _).mono ?_
  rintro _ u6 ⟨q8, d6, rfl, f6, r6⟩
  have G6' := Lib.hid (G6.out.fr0 f6)
  have O8 := Lib.hid r6
  clear f6 r6 A7 G6
  go_wp2_with (first
    | ((with_reducible show wpList _ _ _ (Oper.mk (some 42) _ _ _ _ _ :: _) _ _); refine app_many (N := 40) el8 (.tmp 40) (.tmp 41) G6'.out.own (SrcIs.ofOwns O8.out) rfl rfl rfl rfl rfl (one8s _) (HROOM.out _ (by omega)) ?_; intro p6 c6' v6 own6 g6 at6; (have G7 := Lib.hid (G6'.out.app own6 g6 at6)); clear own6 g6 at6 O8 G6')
    | ((with_reducible show wpList _ _ _ (Oper.mk (some 45) _ _ _ _ _ :: _) _ _); refine app_many (N := 40 + N) el8 (.tmp 43) (.tmp 44) G7.out.own (SrcIs.ofOwns (G7.out.fr.owns O1.out (fun _ _ h => h))) rfl rfl rfl rfl rfl (one8s _) (HROOM.out _ (by omega)) ?_; intro p8 c8' v8 own8 g8 at8; (have G8 := Lib.hid (G7.out.app own8 g8 at8)); clear own8 g8 at8)
    | fail)
  go_ret
  have h := G8.out
  rw [← HU.out] at h
  unfold OneNew
  rw [HUL.out]
  exact ⟨_, _, rfl, F1.out.trans0 h.fr, by rw [HUL.out]; exact h.own, fun k hk => Nat.le_trans F1.out.size (h.fresh k hk)⟩
theorem one_W4f (n : Nat) (w : World) (hn : n < 18446744073709551616) :
    Calls Tryz.prog 29 #[.int .u8 87, .int .u64 (n : Nat)] w fun e w' => ∃ q c, e = .returned (.slice q 4 c) ∧ RowG w w' (.slice q 4 c) 4 (enc 4 n) :=
  (one_W n w hn).mono fun e w' ⟨q, c, h1, h2, h3⟩ => by
    have h4 := h3.own
    rw [enc4_len] at h1 h4
    have h5 := h3.fresh
    rw [enc4_len] at h5
    exact ⟨q, c, h1, h4, h2, h5⟩
theorem rpack19_any (p : Option Addr) (n d : Nat) (T : List Nat) (w : World) (hn : T.length = n) (hb : SlI w .u8 p T) (h8 : ∀ x ∈ T, x < 256) (hp : p = none → d = 0) (hd : n ≤ d) (hs : n ≤ 40000) :
    Calls Tryz.prog 16 #[.slice p n d] w fun e w' => OneNew w w' e (packB T) := by
  have HC := Lib.hid (rpack_any p n d T w hn hb h8 hp hd (by omega))
  have hwl := wrap_small T h8 (by omega)
  have HU : Hid (packB T = enc 4 478450452 ++ enc 4 (wrap9 (zbst T) T).length ++ wrap9 (zbst T) T) := Lib.hid rfl
  have hUL := packB_len T
  obtain ⟨U, hU⟩ : ∃ U, packB T = U := ⟨_, rfl⟩
  obtain ⟨C, hC⟩ : ∃ C, wrap9 (zbst T) T = C := ⟨_, rfl⟩
  rw [hC] at HC HU hUL hwl
  rw [hU] at HU hUL ⊢
  obtain ⟨N, hN⟩ : ∃ N, C.length = N := ⟨_, rfl⟩
  rw [hN] at HU hUL hwl
  have HN := Lib.hid hN
  have HUL : Hid (U.length = 8 + N) := Lib.hid hUL
  have HROOM : Hid (∀ k, k ≤ 1000001 → Room k) := Lib.hid fun k hk => Room.mk (by omega)
  have A1 := Lib.hid (fun W => show Calls Tryz.prog 29 #[.int .u8 87, .int .u64 478450452] W fun e w' => ∃ q c, e = .returned (.slice q 4 c) ∧ RowG W w' (.slice q 4 c) 4 (enc 4 478450452) from one_W4f 478450452 W (by decide))
  have A2 := Lib.hid (fun W => one_W4 N W (by omega))
  obtain ⟨B1, h1⟩ : ∃ B, enc 4 478450452 = B := ⟨_, rfl⟩
  obtain ⟨B2, h2⟩ : ∃ B, enc 4 N = B := ⟨_, rfl⟩
  rw [h1, h2] at HU
  rw [h1] at A1
  rw [h2] at A2
  clear hn hb h8 hp hd hs hC hN h1 h2 hU hUL
  go_enter Tryz.func16, Tryz.ntmps16
  go_wp2_with fail
  refine (HC.out).mono ?_
  rintro _ w1 ⟨v1, rfl, f1, r1⟩
  have hr1 := r1.own
  rw [HN.out] at hr1
  obtain ⟨q1, c1, rfl⟩ := slFormN hr1
  have F1 := Lib.hid f1
  have O1 := Lib.hid hr1
  clear f1 r1 hr1 HC
  go_wp2_with fail
  refine (A1.out _).mono ?_
  rintro _ w2 ⟨q2, c2, rfl, g2⟩
  have G2 := Lib.hid g2
  clear g2 A1
  go_wp2_with fail
  refine (A2.out _).mono ?_
  rintro _ w3 ⟨q3, c3, rfl, f3, r3⟩
  have G3 := Lib.hid (G2.out.fr0 f3)
  have O3 := Lib.hid r3
  clear f3 r3 A2 G2
  go_wp2_with (first
    | ((with_reducible show wpList _ _ _ (Oper.mk (some 12) _ _ _ _ _ :: _) _ _); refine app_many (N := 8) el8 (.tmp 7) (.tmp 11) G3.out.own (SrcIs.ofOwns O3.out) rfl rfl rfl rfl rfl (one8s _) (HROOM.out _ (by omega)) ?_; intro p4 c4 w4 own4 g4 at4; (have G4 := Lib.hid (G3.out.app own4 g4 at4)); clear own4 g4 at4)
    | ((with_reducible show wpList _ _ _ (Oper.mk (some 15) _ _ _ _ _ :: _) _ _); refine app_many (N := 8 + N) el8 (.tmp 13) (.tmp 14) G4.out.own (SrcIs.ofOwns (G4.out.fr.owns O1.out (fun _ _ h => h))) rfl rfl rfl rfl rfl (one8s _) (HROOM.out _ (by omega)) ?_; intro p5 c5 w5 own5 g5 at5; (have G5 := Lib.hid (G4.out.app own5 g5 at5)); clear own5 g5 at5)
    | fail)
  go_ret
  have h := G5.out
  rw [← HU.out] at h
  unfold OneNew
  rw [HUL.out]
  exact ⟨_, _, rfl, F1.out.trans0 h.fr, by rw [HUL.out]; exact h.own, fun k hk => Nat.le_trans F1.out.size (h.fresh k hk)⟩
end Go.Proofs.YtnndgpggjlhhpaaGreat
