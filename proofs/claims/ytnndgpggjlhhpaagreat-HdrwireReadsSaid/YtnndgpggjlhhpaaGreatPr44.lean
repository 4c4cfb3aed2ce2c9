/- HwLawWrites, HwLawReads -/
import Derived.Test.YtnndgpggjlhhpaaGreatPr1
import Derived.Test.YtnndgpggjlhhpaaGreatPr2
import Derived.Test.YtnndgpggjlhhpaaGreatPr3
import Derived.Test.YtnndgpggjlhhpaaGreatPr4
import Derived.Test.YtnndgpggjlhhpaaGreatPr5
import Derived.Test.YtnndgpggjlhhpaaGreatPr6
import Derived.Test.YtnndgpggjlhhpaaGreatPr7
import Derived.Test.YtnndgpggjlhhpaaGreatPr8
import Derived.Test.YtnndgpggjlhhpaaGreatPr9
import Derived.Test.YtnndgpggjlhhpaaGreatPr10
import Derived.Test.YtnndgpggjlhhpaaGreatPr11
import Derived.Test.YtnndgpggjlhhpaaGreatPr12
import Derived.Test.YtnndgpggjlhhpaaGreatPr13
import Derived.Test.YtnndgpggjlhhpaaGreatPr14
import Derived.Test.YtnndgpggjlhhpaaGreatPr15
import Derived.Test.YtnndgpggjlhhpaaGreatPr16
import Derived.Test.YtnndgpggjlhhpaaGreatPr17
import Derived.Test.YtnndgpggjlhhpaaGreatPr18
import Derived.Test.YtnndgpggjlhhpaaGreatPr19
import Derived.Test.YtnndgpggjlhhpaaGreatPr20
import Derived.Test.YtnndgpggjlhhpaaGreatPr21
import Derived.Test.YtnndgpggjlhhpaaGreatPr22
import Derived.Test.YtnndgpggjlhhpaaGreatPr23
import Derived.Test.YtnndgpggjlhhpaaGreatPr24
import Derived.Test.YtnndgpggjlhhpaaGreatPr25
import Derived.Test.YtnndgpggjlhhpaaGreatPr26
import Derived.Test.YtnndgpggjlhhpaaGreatPr27
import Derived.Test.YtnndgpggjlhhpaaGreatPr28
import Derived.Test.YtnndgpggjlhhpaaGreatPr29
import Derived.Test.YtnndgpggjlhhpaaGreatPr30
import Derived.Test.YtnndgpggjlhhpaaGreatPr31
import Derived.Test.YtnndgpggjlhhpaaGreatPr32
import Derived.Test.YtnndgpggjlhhpaaGreatPr33
import Derived.Test.YtnndgpggjlhhpaaGreatPr34
import Derived.Test.YtnndgpggjlhhpaaGreatPr35
import Derived.Test.YtnndgpggjlhhpaaGreatPr36
import Derived.Test.YtnndgpggjlhhpaaGreatPr37
import Derived.Test.YtnndgpggjlhhpaaGreatPr38
import Derived.Test.YtnndgpggjlhhpaaGreatPr39
import Derived.Test.YtnndgpggjlhhpaaGreatPr40
import Derived.Test.YtnndgpggjlhhpaaGreatPr41
import Derived.Test.YtnndgpggjlhhpaaGreatPr43
import Derived.BigRegion
import Derived.RangeFuncNested
import Derived.RangeFuncBound
import Derived.RangeFuncCalls
import Derived.RangeFuncLeaves
import Derived.Shelf.Abstract
import Derived.Shelf.RegionOpen
import Derived.WalkKit
import Derived.OwnWalkIn
import Derived.TacticsInMore
import Derived.LoopNIn
import Derived.LoopIn
import Derived.Sort.BigQuietIn
import Derived.Lib.Repeat
import Derived.StillTailTactics
import Derived.Laws.BitsAllLaws
import Derived.Laws.BytesArg
import Derived.Lib.SlBytesConst
import Derived.Maps.AppendAt
import Derived.Laws.AppendOwnNone
import Derived.WalkSpells
import Derived.WalkLawsBesides
import Derived.Deep.QuietTactic
import Derived.BigQuiet
import Derived.RegionTactic
import Derived.Deep.AppendLies
import Derived.Deep.RegionLaw
import Derived.Laws.ResultCell
import Derived.Laws.EntriesVeiled
import Derived.Lib.Hide
import Derived.Test.YtnndgpggjlhhpaaGreatRows
import Derived.Maps.RangeWalk
import Derived.Deep.RegionHeld3
import Derived.Deep.CutBlock
import Derived.Deep.DeepCutAuto
import Derived.Deep.CutRange
import Derived.Lib.BitFns
import Derived.Shelf.Small.Bits
import Derived.Shelf.Strconv.Itoa0
import Derived.Shelf.Bits.Mul64
import Derived.Laws.Externs
import Derived.Shelf.Spec.BitsCarry
import Derived.Shelf.SlSortCmp.WholeK
import Derived.Shelf.Strings.Repeat
import Derived.Lib.AppendZerosOnto
import Derived.Lib.SliceRun
import Derived.Lib.Walk
import Derived.Laws.MakeOwn
import Derived.Laws.OwnMore
import Derived.IntWalk
import Derived.Lib.MakeNoZero
import Derived.Laws.CopyOwn
import Derived.Laws.Tables
import Derived.Defers
import Derived.Recover
import Derived.DeepKeys4
import Derived.WideKeyPair
import Derived.MapKept
import Derived.ChangeMaps
import Derived.Laws.Cover3
import Derived.Stop.BytesEq
set_option maxRecDepth 100000
set_option maxHeartbeats 8000000
namespace Go.Proofs.YtnndgpggjlhhpaaGreat
open Go.RowKit Go.ChangeMaps
theorem RowNew.sli {w w' : World} {q : Option Addr} {n d : Nat} {l : List Nat} (h : RowNew w w' (.slice q n d) l) (hn : l.length = n) : SlI w' .u8 q l ∧ (q = none → d = 0) ∧ n ≤ d ∧ d ≤ maxLen := by
  obtain ⟨p, c, e, h0, h1, h2⟩ := slForm h.own
  simp only [Value.slice.injEq] at e
  obtain ⟨rfl, -, rfl⟩ := e
  have hs := h.own
  rw [hn] at hs
  exact ⟨SlI.ofOwns hs, h0, by omega, h2⟩
theorem RowNew.txt {w w' : World} {q : Option Addr} {n d : Nat} {l : List Nat} (h : RowNew w w' (.slice q n d) l) (hn : l.length = n) {W : World} (f : Fr S0 w' W) : (convert 31 9 (.slice q n d)).run Tryz.prog W = .ok (.string (strB l)) W := by
  have := conv_sl ((h.sli hn).1.fr0 f) n d (by omega)
  rwa [List.take_of_length_le (by omega)] at this
section
variable (a d y : Nat) (gr : Bool) (p : Option Addr) (m c : Nat) (vs : List Int) (q : Option Addr) (k c2 : Nat) (ns : List Nat) (w : World)
end
end Go.Proofs.YtnndgpggjlhhpaaGreat

namespace Go.Proofs.YtnndgpggjlhhpaaGreat
open Go.RowKit Go.ChangeMaps
theorem open_packed {T : List Nat} (t8 : ∀ x ∈ T, x < 256) (hT : T.length ≤ 40000) {q : Option Addr} {n d : Nat} {w W : World} (hn : (packB T).length = n) (h : RowNew w W (.slice q n d) (packB T)) (W2 : World) (f2 : Fr S0 W W2) :
    Calls Tryz.prog 20 #[.slice q n d] W2 fun e w' => TdEnds (fun M => Is19 M T) W2 w' e := by
  obtain ⟨s, h0, h1, h2⟩ := h.sli hn
  exact hopen_any _ q n d W2 fun W3 f => ofPacked_pack T t8 hT q n d W3 hn ((s.fr0 f2).fr0 f) h0 h1 h2
section
variable (p : Option Addr) (n d : Nat) (l : List Nat) (w : World)
theorem law_reads (hn : l.length = n) (hl : SlI w .u8 p l) (h8 : ∀ x ∈ l, x < 256) (hp : p = none → d = 0) (hd : n ≤ d) (hdm : d ≤ maxLen) :
    Calls Tryz.prog 5 #[.slice p n d] w fun e w' => e = .returned (.bool true) ∧ Fr S0 w w' := by
  have HA := Lib.hid (alive19_any w)
  have H8 := Lib.hid h8
  have HN := Lib.hid hn
  have HSL := Lib.hid hl
  by_cases hs : n ≤ 400
  · have HRD := Lib.hid (fun W (f : Fr S0 w W) => hread_any p n d l W hn (hl.fr0 f) h8 hp hd hdm (by omega))
    have HRP := Lib.hid (fun W (f : Fr S0 w W) => rpack19_any p n d l W hn (hl.fr0 f) h8 hp hd (by omega))
    have HOP := Lib.hid (fun (q : Option Addr) (c : Nat) (w W : World) (h : RowNew w W (.slice q (packB l).length c) (packB l)) (W2 : World) (f : Fr S0 W W2) => open_packed h8 (by omega) rfl h W2 f)
    have dg : decide ((n : Int) > 400) = false := decide_eq_false (by omega)
    clear hn hl h8 hp hd hdm
    go_enter Tryz.func5, Tryz.ntmps5
    go_wp2_with fail
    refine HA.out.mono ?_
    rintro e w1 ⟨rfl, f1⟩
    have F1 := Lib.hid f1
    clear f1 HA
    go_wp2_with fail
    refine (HRD.out _ F1.out).mono ?_
    rintro e w2 ⟨f2, hh⟩
    have F2 := Lib.hid (F1.out.trans0 f2)
    clear f2 HRD
    rcases hh with ⟨M, g, hm, rfl, hx, hi, -, -⟩ | ⟨hno, rfl⟩
    · have HX := Lib.hid hx
      have HI := Lib.hid hi
      clear hx hi
      go_wp2_with fail
      refine (HRP.out _ F2.out).mono ?_
      rintro e w3 ⟨qp, cp, rfl, f3, rp⟩
      have F3 := Lib.hid f3
      have HO := Lib.hid (HOP.out qp cp _ _ rp _ (Fr.refl S0 w3))
      clear f3 rp HRP HOP
      go_wp2_with fail
      refine HO.out.mono ?_
      rintro e w4 ⟨f4, ⟨M', gy, hy, rfl, hx2, hi2, -, -⟩ | ⟨hno, rfl⟩⟩
      · obtain rfl := hi2.uniq HI.out (by rw [HN.out]; omega)
        have HY := Lib.hid hx2
        have F4 := Lib.hid f4
        clear hx2 hi2 f4 HO
        go_wp2_with fail
        have HSH := Lib.hid (xshape_any g hm M' w4 (HX.out.fr0 (F3.out.trans0 F4.out)))
        refine HSH.out.mono ?_
        rintro e w5 ⟨rfl, f5⟩
        have F5 := Lib.hid f5
        clear f5 HSH
        have HT := Lib.hid (fun W (f : Fr S0 w5 W) => (by have h := conv_sl (HSL.out.fr0 (((F2.out.trans0 F3.out).trans0 (F4.out.trans0 F5.out)).trans0 f)) n d (by rw [HN.out]; exact Nat.le_refl _); rwa [List.take_of_length_le (by rw [HN.out]; exact Nat.le_refl _)] at h : (convert 31 9 (.slice p n d)).run Tryz.prog W = .ok (.string (strB l)) W))
        have HBX := box3a w5 (.int .i64 (M'.L : Nat)) (.int .i64 (M'.H : Nat)) (.int .i64 (M'.D : Nat)) 27
        have FB : Fr S0 w5 (w5.alloc (.cells #[.int .i64 (M'.L : Nat), .int .i64 (M'.H : Nat), .int .i64 (M'.D : Nat)] 27)) := Fr.alloc _ _ _
        have HPL := HI.out.pairs
        rw [HN.out] at HPL
        have HXX := Lib.hid (fun W (f : Fr S0 w5 W) => HX.out.fr0 (((F3.out.trans0 F4.out).trans0 F5.out).trans0 f))
        have HYY := Lib.hid (fun W (f : Fr S0 w5 W) => HY.out.fr0 (F5.out.trans0 f))
        go_wp2_with fail
        generalize w5.alloc (.cells #[.int .i64 (M'.L : Nat), .int .i64 (M'.H : Nat), .int .i64 (M'.D : Nat)] 27) = WB at HBX FB ⊢
        obtain ⟨X, hX⟩ : ∃ X, w5.heap.size = X := ⟨_, rfl⟩
        rw [hX] at HBX ⊢
        have HFB := Lib.hid FB
        have HC := Lib.hid (fun W (f : Fr S0 WB W) => And.intro (f.cell HBX.1 fun h => h) (And.intro (f.cell HBX.2.1 fun h => h) (And.intro (f.cell HBX.2.2 fun h => h) (HT.out W (FB.trans0 f)))))
        have HGR := Lib.hid (fun W (f : Fr S0 WB W) => show Calls Tryz.prog 21 #[.pointer (some ⟨g, 0, none⟩)] W fun e w' => e = .returned (.bool false) ∧ Fr S0 W w' from by
          have h := xgrows_any g hm M' W (HXX.out W (HFB.out.trans0 f))
          rwa [HI.out.own.gr] at h)
        have HRE := Lib.hid (fun W (f : Fr S0 WB W) => show Calls Tryz.prog 12 #[.pointer (some ⟨g, 0, none⟩)] W fun e w' => e = .returned (.int .i64 (M'.H : Nat)) ∧ Fr S0 W w' from by
          have h := xreach_any g hm M' W (HXX.out W (HFB.out.trans0 f))
          rwa [HI.out.reach] at h)
        have HPX := Lib.hid (fun W (f : Fr S0 WB W) => xpairs_any g hm M' W (HXX.out W (HFB.out.trans0 f)) (by omega))
        have HPY := Lib.hid (fun W (f : Fr S0 WB W) => xpairs_any gy hy M' W (HYY.out W (HFB.out.trans0 f)) (by omega))
        have HRW := Lib.hid (fun W (pp : Option Addr) (cc nn : Nat) (hp : PrI W pp M'.l) (hn : M'.l.length = nn) => show Calls Tryz.prog 11 #[.int .i64 (M'.L : Nat), .int .i64 (M'.H : Nat), .int .i64 (M'.D : Nat), .slice pp nn cc] W fun e w' => OneNew W w' e l from by
          have hg := HI.out.good
          have h := rwrite19_any M'.L M'.H M'.D pp nn cc M'.l W hp hn hg.upw hg.klt2 (by omega) (by have := hg.lh; have := hg.hh; omega) hg.hh (by have := hg.d; omega) (by have := HI.out.len; rw [HN.out] at this; omega)
          rwa [← HI.out.split] at h)
        have HSA := Lib.hid (fun W (pp q : Option Addr) (nn c d : Nat) (h : PrI W pp M'.l) (h' : PrI W q M'.l) (hn : M'.l.length = nn) => rsame_yes pp q nn c d M'.l W h h' hn)
        have FW : Hid (Fr S0 w WB) := Lib.hid (((F2.out.trans0 F3.out).trans0 (F4.out.trans0 F5.out)).trans0 FB)
        obtain ⟨L, eL⟩ : ∃ L, M'.L = L := ⟨_, rfl⟩
        obtain ⟨R, eR⟩ : ∃ R, M'.H = R := ⟨_, rfl⟩
        obtain ⟨D, eD⟩ : ∃ D, M'.D = D := ⟨_, rfl⟩
        rw [eL, eR, eD] at HC HRW
        rw [eR] at HRE
        clear HBX FB HPL HXX HYY HX HY HI HT eL eR eD hX HFB F1 F2 F3 F4 F5 H8 HSL HN
        refine wp_region_noPanic ?_
        refine wp_region_held_drew (S := fun w' => Fr S0 WB w' ∧ w'.cell? ⟨X, 0, none⟩ = some (.int .i64 (L : Nat)) ∧ w'.cell? ⟨X, 1, none⟩ = some (.int .i64 (R : Nat)) ∧ w'.cell? ⟨X, 2, none⟩ = some (.int .i64 (D : Nat)) ∧ (convert 31 9 (.slice p n d)).run Tryz.prog w' = .ok (.string (strB l)) w') (by kernel_rfl) ⟨Fr.drew S0 WB, HC.out _ (Fr.drew S0 WB)⟩ (fun hHeld0 => ?_)
        refine wpAnyH_take (i := 0) (oi := Oper.mk (some 50) _ _ _ _ _) (v := ?_) rfl (by as_aux_lemma => kernel_rfl) (by as_aux_lemma => kernel_rfl) (by as_aux_lemma => kernel_rfl) (fun _ _ _ h => h) (Or.inl ⟨by rfl, ?_⟩) (by assumption) ?_
        rotate_left
        · (intro w hSw; obtain ⟨hf, h0, h1, h2, h3⟩ := hSw; go_simp <;> with_reducible rfl)
        simp only [Act.put, List.setIfInBounds_toArray, List.set_cons_zero, List.set_cons_succ]
        refine wpAnyH_ready (rs := [1]) (by kernel_rfl) (by simp) (AllReadyH.cons (o := Oper.mk (some 51) _ _ _ _ _) rfl (fun K hK => ?_) AllReadyH.nil)
        go_simp
        go_at_call 21
        refine (HGR.out _ hHeld0.1).mono ?_
        rintro _ v1 ⟨rfl, f⟩
        refine hK.out _ _ ⟨hHeld0.1.trans0 f, HC.out _ (hHeld0.1.trans0 f)⟩ (fun hHeld1 => ?_)
        clear hK K hHeld0 f
        try simp only [Act.put, List.setIfInBounds_toArray, List.set_cons_zero, List.set_cons_succ]
        refine wpAnyH_take (i := 2) (oi := Oper.mk (some 52) _ _ _ _ _) (v := ?_) rfl (by as_aux_lemma => kernel_rfl) (by as_aux_lemma => kernel_rfl) (by as_aux_lemma => kernel_rfl) (fun _ _ _ h => h) (Or.inl ⟨by rfl, ?_⟩) (by assumption) ?_
        rotate_left
        · (intro w hSw; obtain ⟨hf, h0, h1, h2, h3⟩ := hSw; go_simp <;> with_reducible rfl)
        simp only [Act.put, List.setIfInBounds_toArray, List.set_cons_zero, List.set_cons_succ]
        refine wpAnyH_take (i := 3) (oi := Oper.mk (some 53) _ _ _ _ _) (v := ?_) rfl (by as_aux_lemma => kernel_rfl) (by as_aux_lemma => kernel_rfl) (by as_aux_lemma => kernel_rfl) (fun _ _ _ h => h) (Or.inl ⟨by rfl, ?_⟩) (by assumption) ?_
        rotate_left
        · (intro w hSw; obtain ⟨hf, h0, h1, h2, h3⟩ := hSw; go_simp <;> with_reducible rfl)
        simp only [Act.put, List.setIfInBounds_toArray, List.set_cons_zero, List.set_cons_succ]
        refine wpAnyH_take (i := 4) (oi := Oper.mk (some 54) _ _ _ _ _) (v := ?_) rfl (by as_aux_lemma => kernel_rfl) (by as_aux_lemma => kernel_rfl) (by as_aux_lemma => kernel_rfl) (fun _ _ _ h => h) (Or.inl ⟨by rfl, ?_⟩) (by assumption) ?_
        rotate_left
        · (intro w hSw; obtain ⟨hf, h0, h1, h2, h3⟩ := hSw; go_simp <;> with_reducible rfl)
        simp only [Act.put, List.setIfInBounds_toArray, List.set_cons_zero, List.set_cons_succ]
        refine wpAnyH_take (i := 5) (oi := Oper.mk (some 55) _ _ _ _ _) (v := ?_) rfl (by as_aux_lemma => kernel_rfl) (by as_aux_lemma => kernel_rfl) (by as_aux_lemma => kernel_rfl) (fun _ _ _ h => h) (Or.inl ⟨by rfl, ?_⟩) (by assumption) ?_
        rotate_left
        · (intro w hSw; obtain ⟨hf, h0, h1, h2, h3⟩ := hSw; go_simp <;> with_reducible rfl)
        simp only [Act.put, List.setIfInBounds_toArray, List.set_cons_zero, List.set_cons_succ]
        refine wpAnyH_take (i := 6) (oi := Oper.mk (some 56) _ _ _ _ _) (v := ?_) rfl (by as_aux_lemma => kernel_rfl) (by as_aux_lemma => kernel_rfl) (by as_aux_lemma => kernel_rfl) (fun _ _ _ h => h) (Or.inl ⟨by rfl, ?_⟩) (by assumption) ?_
        rotate_left
        · (intro w hSw; obtain ⟨hf, h0, h1, h2, h3⟩ := hSw; go_simp <;> with_reducible rfl)
        simp only [Act.put, List.setIfInBounds_toArray, List.set_cons_zero, List.set_cons_succ]
        refine wpAnyH_ready (rs := [7]) (by kernel_rfl) (by simp) (AllReadyH.cons (o := Oper.mk (some 57) _ _ _ _ _) rfl (fun K hK => ?_) AllReadyH.nil)
        go_simp
        go_at_call 12
        refine (HRE.out _ hHeld1.1).mono ?_
        rintro _ v7 ⟨rfl, f⟩
        refine hK.out _ _ ⟨hHeld1.1.trans0 f, HC.out _ (hHeld1.1.trans0 f)⟩ (fun hHeld2 => ?_)
        clear hK K hHeld1 f
        try simp only [Act.put, List.setIfInBounds_toArray, List.set_cons_zero, List.set_cons_succ]
        refine wpAnyH_take (i := 8) (oi := Oper.mk (some 58) _ _ _ _ _) (v := ?_) rfl (by as_aux_lemma => kernel_rfl) (by as_aux_lemma => kernel_rfl) (by as_aux_lemma => kernel_rfl) (fun _ _ _ h => h) (Or.inl ⟨by rfl, ?_⟩) (by assumption) ?_
        rotate_left
        · (intro w hSw; obtain ⟨hf, h0, h1, h2, h3⟩ := hSw; go_simp <;> with_reducible rfl)
        simp only [Act.put, List.setIfInBounds_toArray, List.set_cons_zero, List.set_cons_succ]
        refine wpAnyH_take (i := 9) (oi := Oper.mk (some 59) _ _ _ _ _) (v := ?_) rfl (by as_aux_lemma => kernel_rfl) (by as_aux_lemma => kernel_rfl) (by as_aux_lemma => kernel_rfl) (fun _ _ _ h => h) (Or.inl ⟨by rfl, ?_⟩) (by assumption) ?_
        rotate_left
        · (intro w hSw; obtain ⟨hf, h0, h1, h2, h3⟩ := hSw; go_simp <;> with_reducible rfl)
        simp only [Act.put, List.setIfInBounds_toArray, List.set_cons_zero, List.set_cons_succ]
        refine wpAnyH_take (i := 10) (oi := Oper.mk (some 60) _ _ _ _ _) (v := ?_) rfl (by as_aux_lemma => kernel_rfl) (by as_aux_lemma => kernel_rfl) (by as_aux_lemma => kernel_rfl) (fun _ _ _ h => h) (Or.inl ⟨by rfl, ?_⟩) (by assumption) ?_
        rotate_left
        · (intro w hSw; obtain ⟨hf, h0, h1, h2, h3⟩ := hSw; go_simp <;> with_reducible rfl)
        simp only [Act.put, List.setIfInBounds_toArray, List.set_cons_zero, List.set_cons_succ]
        refine wpAnyH_take (i := 11) (oi := Oper.mk (some 61) _ _ _ _ _) (v := ?_) rfl (by as_aux_lemma => kernel_rfl) (by as_aux_lemma => kernel_rfl) (by as_aux_lemma => kernel_rfl) (fun _ _ _ h => h) (Or.inl ⟨by rfl, ?_⟩) (by assumption) ?_
        rotate_left
        · (intro w hSw; obtain ⟨hf, h0, h1, h2, h3⟩ := hSw; go_simp <;> with_reducible rfl)
        simp only [Act.put, List.setIfInBounds_toArray, List.set_cons_zero, List.set_cons_succ]
        refine wpAnyH_take (i := 12) (oi := Oper.mk (some 62) _ _ _ _ _) (v := ?_) rfl (by as_aux_lemma => kernel_rfl) (by as_aux_lemma => kernel_rfl) (by as_aux_lemma => kernel_rfl) (fun _ _ _ h => h) (Or.inl ⟨by rfl, ?_⟩) (by assumption) ?_
        rotate_left
        · (intro w hSw; obtain ⟨hf, h0, h1, h2, h3⟩ := hSw; go_simp <;> with_reducible rfl)
        simp only [Act.put, List.setIfInBounds_toArray, List.set_cons_zero, List.set_cons_succ]
        refine wpAnyH_take (i := 13) (oi := Oper.mk (some 63) _ _ _ _ _) (v := ?_) rfl (by as_aux_lemma => kernel_rfl) (by as_aux_lemma => kernel_rfl) (by as_aux_lemma => kernel_rfl) (fun _ _ _ h => h) (Or.inl ⟨by rfl, ?_⟩) (by assumption) ?_
        rotate_left
        · (intro w hSw; obtain ⟨hf, h0, h1, h2, h3⟩ := hSw; go_simp <;> with_reducible rfl)
        simp only [Act.put, List.setIfInBounds_toArray, List.set_cons_zero, List.set_cons_succ]
        refine wpAnyH_take (i := 14) (oi := Oper.mk (some 64) _ _ _ _ _) (v := ?_) rfl (by as_aux_lemma => kernel_rfl) (by as_aux_lemma => kernel_rfl) (by as_aux_lemma => kernel_rfl) (fun _ _ _ h => h) (Or.inl ⟨by rfl, ?_⟩) (by assumption) ?_
        rotate_left
        · (intro w hSw; obtain ⟨hf, h0, h1, h2, h3⟩ := hSw; go_simp <;> with_reducible rfl)
        simp only [Act.put, List.setIfInBounds_toArray, List.set_cons_zero, List.set_cons_succ]
        refine wpAnyH_take (i := 15) (oi := Oper.mk (some 65) _ _ _ _ _) (v := ?_) rfl (by as_aux_lemma => kernel_rfl) (by as_aux_lemma => kernel_rfl) (by as_aux_lemma => kernel_rfl) (fun _ _ _ h => h) (Or.inl ⟨by rfl, ?_⟩) (by assumption) ?_
        rotate_left
        · (intro w hSw; obtain ⟨hf, h0, h1, h2, h3⟩ := hSw; go_simp <;> with_reducible rfl)
        simp only [Act.put, List.setIfInBounds_toArray, List.set_cons_zero, List.set_cons_succ]
        refine wpAnyH_take (i := 16) (oi := Oper.mk (some 66) _ _ _ _ _) (v := ?_) rfl (by as_aux_lemma => kernel_rfl) (by as_aux_lemma => kernel_rfl) (by as_aux_lemma => kernel_rfl) (fun _ _ _ h => h) (Or.inl ⟨by rfl, ?_⟩) (by assumption) ?_
        rotate_left
        · (intro w hSw; obtain ⟨hf, h0, h1, h2, h3⟩ := hSw; go_simp <;> with_reducible rfl)
        simp only [Act.put, List.setIfInBounds_toArray, List.set_cons_zero, List.set_cons_succ]
        refine wpAnyH_take (i := 17) (oi := Oper.mk (some 67) _ _ _ _ _) (v := ?_) rfl (by as_aux_lemma => kernel_rfl) (by as_aux_lemma => kernel_rfl) (by as_aux_lemma => kernel_rfl) (fun _ _ _ h => h) (Or.inl ⟨by rfl, ?_⟩) (by assumption) ?_
        rotate_left
        · (intro w hSw; obtain ⟨hf, h0, h1, h2, h3⟩ := hSw; go_simp <;> with_reducible rfl)
        simp only [Act.put, List.setIfInBounds_toArray, List.set_cons_zero, List.set_cons_succ]
        refine wpAnyH_take (i := 21) (oi := Oper.mk (some 71) _ _ _ _ _) (v := ?_) rfl (by as_aux_lemma => kernel_rfl) (by as_aux_lemma => kernel_rfl) (by as_aux_lemma => kernel_rfl) (fun _ _ _ h => h) (Or.inl ⟨by rfl, ?_⟩) (by assumption) ?_
        rotate_left
        · (intro w hSw; obtain ⟨hf, h0, h1, h2, h3⟩ := hSw; go_simp <;> with_reducible rfl)
        simp only [Act.put, List.setIfInBounds_toArray, List.set_cons_zero, List.set_cons_succ]
        refine wpAnyH_take (i := 22) (oi := Oper.mk (some 72) _ _ _ _ _) (v := ?_) rfl (by as_aux_lemma => kernel_rfl) (by as_aux_lemma => kernel_rfl) (by as_aux_lemma => kernel_rfl) (fun _ _ _ h => h) (Or.inl ⟨by rfl, ?_⟩) (by assumption) ?_
        rotate_left
        · (intro w hSw; obtain ⟨hf, h0, h1, h2, h3⟩ := hSw; go_simp <;> with_reducible rfl)
        simp only [Act.put, List.setIfInBounds_toArray, List.set_cons_zero, List.set_cons_succ]
        refine wpAnyH_ready (rs := [18]) (by kernel_rfl) (by simp) (AllReadyH.cons (o := Oper.mk (some 68) _ _ _ _ _) rfl (fun K hK => ?_) AllReadyH.nil)
        go_simp
        go_at_call 13
        refine (HPX.out _ hHeld2.1).mono ?_
        rintro _ v18 ⟨pa, ca, na, rfl, see⟩
        have HSEE := Lib.hid (And.intro see.pri see.len)
        refine hK.out _ _ ⟨hHeld2.1.trans0 see.fr, HC.out _ (hHeld2.1.trans0 see.fr)⟩ (fun hHeld3 => ?_)
        clear hK K hHeld2 see
        try simp only [Act.put, List.setIfInBounds_toArray, List.set_cons_zero, List.set_cons_succ]
        refine wpAnyH_ready (rs := [19]) (by kernel_rfl) (by simp) (AllReadyH.cons (o := Oper.mk (some 69) _ _ _ _ _) rfl (fun K hK => ?_) AllReadyH.nil)
        go_simp
        go_at_call 11
        refine (HRW.out _ _ _ _ HSEE.out.1 HSEE.out.2).mono ?_
        rintro _ v19 ⟨qw, dw, rfl, f, rw3⟩
        have tw := rw3.txt rfl (Fr.refl S0 v19)
        refine hK.out _ _ ⟨hHeld3.1.trans0 f, HC.out _ (hHeld3.1.trans0 f)⟩ (fun hHeld4 => ?_)
        clear hK K hHeld3 f rw3 HSEE
        try simp only [Act.put, List.setIfInBounds_toArray, List.set_cons_zero, List.set_cons_succ]
        refine wpAnyH_ready (rs := [20]) (by kernel_rfl) (by simp) (AllReadyH.cons (o := Oper.mk (some 70) _ _ _ _ _) rfl (fun K hK => ?_) AllReadyH.nil)
        go_simp
        refine hK.out _ _ hHeld4 (fun hHeld5 => ?_)
        clear hK K  hHeld4 tw
        try simp only [Act.put, List.setIfInBounds_toArray, List.set_cons_zero, List.set_cons_succ]
        refine wpAnyH_take (i := 23) (oi := Oper.mk (some 73) _ _ _ _ _) (v := ?_) rfl (by as_aux_lemma => kernel_rfl) (by as_aux_lemma => kernel_rfl) (by as_aux_lemma => kernel_rfl) (fun _ _ _ h => h) (Or.inl ⟨by rfl, ?_⟩) (by assumption) ?_
        rotate_left
        · (intro w hSw; obtain ⟨hf, h0, h1, h2, h3⟩ := hSw; go_simp <;> with_reducible rfl)
        simp only [Act.put, List.setIfInBounds_toArray, List.set_cons_zero, List.set_cons_succ]
        refine wpAnyH_take (i := 24) (oi := Oper.mk (some 74) _ _ _ _ _) (v := ?_) rfl (by as_aux_lemma => kernel_rfl) (by as_aux_lemma => kernel_rfl) (by as_aux_lemma => kernel_rfl) (fun _ _ _ h => h) (Or.inl ⟨by rfl, ?_⟩) (by assumption) ?_
        rotate_left
        · (intro w hSw; obtain ⟨hf, h0, h1, h2, h3⟩ := hSw; go_simp <;> with_reducible rfl)
        simp only [Act.put, List.setIfInBounds_toArray, List.set_cons_zero, List.set_cons_succ]
        refine wpAnyH_take (i := 25) (oi := Oper.mk (some 75) _ _ _ _ _) (v := ?_) rfl (by as_aux_lemma => kernel_rfl) (by as_aux_lemma => kernel_rfl) (by as_aux_lemma => kernel_rfl) (fun _ _ _ h => h) (Or.inl ⟨by rfl, ?_⟩) (by assumption) ?_
        rotate_left
        · (intro w hSw; obtain ⟨hf, h0, h1, h2, h3⟩ := hSw; go_simp <;> with_reducible rfl)
        simp only [Act.put, List.setIfInBounds_toArray, List.set_cons_zero, List.set_cons_succ]
        refine wpAnyH_take (i := 26) (oi := Oper.mk (some 76) _ _ _ _ _) (v := ?_) rfl (by as_aux_lemma => kernel_rfl) (by as_aux_lemma => kernel_rfl) (by as_aux_lemma => kernel_rfl) (fun _ _ _ h => h) (Or.inl ⟨by rfl, ?_⟩) (by assumption) ?_
        rotate_left
        · (intro w hSw; obtain ⟨hf, h0, h1, h2, h3⟩ := hSw; go_simp <;> with_reducible rfl)
        simp only [Act.put, List.setIfInBounds_toArray, List.set_cons_zero, List.set_cons_succ]
        refine wpAnyH_take (i := 28) (oi := Oper.mk (some 78) _ _ _ _ _) (v := ?_) rfl (by as_aux_lemma => kernel_rfl) (by as_aux_lemma => kernel_rfl) (by as_aux_lemma => kernel_rfl) (fun _ _ _ h => h) (Or.inl ⟨by rfl, ?_⟩) (by assumption) ?_
        rotate_left
        · (intro w hSw; obtain ⟨hf, h0, h1, h2, h3⟩ := hSw; go_simp <;> with_reducible rfl)
        simp only [Act.put, List.setIfInBounds_toArray, List.set_cons_zero, List.set_cons_succ]
        refine wpAnyH_ready (rs := [27]) (by kernel_rfl) (by simp) (AllReadyH.cons (o := Oper.mk (some 77) _ _ _ _ _) rfl (fun K hK => ?_) AllReadyH.nil)
        go_simp
        go_at_call 13
        refine (HPX.out _ hHeld5.1).mono ?_
        rintro _ v27 ⟨pb, cb, nb, rfl, see⟩
        have HSB := Lib.hid (And.intro see.pri see.len)
        refine hK.out _ _ ⟨hHeld5.1.trans0 see.fr, HC.out _ (hHeld5.1.trans0 see.fr)⟩ (fun hHeld6 => ?_)
        clear hK K hHeld5 see
        try simp only [Act.put, List.setIfInBounds_toArray, List.set_cons_zero, List.set_cons_succ]
        refine wpAnyH_ready (rs := [29]) (by kernel_rfl) (by simp) (AllReadyH.cons (o := Oper.mk (some 79) _ _ _ _ _) rfl (fun K hK => ?_) AllReadyH.nil)
        go_simp
        go_at_call 13
        refine (HPY.out _ hHeld6.1).mono ?_
        rintro _ v29 ⟨pc, cc, nc, rfl, see⟩
        have HSC := Lib.hid (And.intro (HSB.out.1.fr0 see.fr) see.pri)
        obtain rfl : nb = nc := HSB.out.2.symm.trans see.len
        refine hK.out _ _ ⟨hHeld6.1.trans0 see.fr, HC.out _ (hHeld6.1.trans0 see.fr)⟩ (fun hHeld7 => ?_)
        clear hK K hHeld6 see
        try simp only [Act.put, List.setIfInBounds_toArray, List.set_cons_zero, List.set_cons_succ]
        refine wpAnyH_ready (rs := [30]) (by kernel_rfl) (by simp) (AllReadyH.cons (o := Oper.mk (some 80) _ _ _ _ _) rfl (fun K hK => ?_) AllReadyH.nil)
        go_simp
        go_at_call 24
        refine (HSA.out _ _ _ _ _ _ HSC.out.1 HSC.out.2 HSB.out.2).mono ?_
        rintro _ v30 ⟨rfl, f⟩
        refine hK.out _ _ ⟨hHeld7.1.trans0 f, HC.out _ (hHeld7.1.trans0 f)⟩ (fun hHeld8 => ?_)
        clear hK K hHeld7 f HSB HSC
        try simp only [Act.put, List.setIfInBounds_toArray, List.set_cons_zero, List.set_cons_succ]
        refine wpAnyH_take (i := 31) (oi := Oper.mk (some 81) _ _ _ _ _) (v := ?_) rfl (by as_aux_lemma => kernel_rfl) (by as_aux_lemma => kernel_rfl) (by as_aux_lemma => kernel_rfl) (fun _ _ _ h => h) (Or.inl ⟨by rfl, ?_⟩) (by assumption) ?_
        rotate_left
        · (intro w hSw; obtain ⟨hf, h0, h1, h2, h3⟩ := hSw; go_simp <;> with_reducible rfl)
        simp only [Act.put, List.setIfInBounds_toArray, List.set_cons_zero, List.set_cons_succ]
        refine wpAnyH_take (i := 32) (oi := Oper.mk (some 2) _ _ _ _ _) (v := ?_) rfl (by as_aux_lemma => kernel_rfl) (by as_aux_lemma => kernel_rfl) (by as_aux_lemma => kernel_rfl) (fun _ _ _ h => h) (Or.inl ⟨by rfl, ?_⟩) (by assumption) ?_
        rotate_left
        · (intro w hSw; obtain ⟨hf, h0, h1, h2, h3⟩ := hSw; go_simp <;> with_reducible rfl)
        simp only [Act.put, List.setIfInBounds_toArray, List.set_cons_zero, List.set_cons_succ]
        have FZ := Lib.hid (FW.out.trans0 hHeld8.1)
        clear hHeld8
        refine wpAnyH_done (by kernel_rfl) ?_ _
        refine NoPanic.normal ?_
        go_wp2_with fail
        go_ret
        exact ⟨rfl, FZ.out⟩
      · exact absurd ⟨_, HI.out⟩ hno
    · have HNO := Lib.hid hno
      clear hno
      go_wp2_with fail
      refine (HRP.out _ F2.out).mono ?_
      rintro e w3 ⟨qp, cp, rfl, f3, rp⟩
      have F3 := Lib.hid f3
      have HO := Lib.hid (HOP.out qp cp _ _ rp _ (Fr.refl S0 w3))
      clear f3 rp HRP HOP
      go_wp2_with fail
      refine HO.out.mono ?_
      rintro e w4 ⟨f4, ⟨M', gy, hy, rfl, hx2, hi2, -, -⟩ | ⟨hno2, rfl⟩⟩
      · exact absurd ⟨_, hi2⟩ HNO.out
      · have F4 := Lib.hid ((F2.out.trans0 F3.out).trans0 f4)
        clear hno2 f4 HO
        go_wp2_with fail
        go_ret
        exact ⟨rfl, F4.out⟩
  · have dg : decide ((n : Int) > 400) = true := decide_eq_true (by omega)
    clear hn hl h8 hp hd hdm
    go_enter Tryz.func5, Tryz.ntmps5
    go_wp2_with fail
    refine HA.out.mono ?_
    rintro e w1 ⟨rfl, f1⟩
    have F1 := Lib.hid f1
    clear f1 HA
    go_wp2_with fail
    go_ret
    exact ⟨rfl, F1.out⟩
end
end Go.Proofs.YtnndgpggjlhhpaaGreat
