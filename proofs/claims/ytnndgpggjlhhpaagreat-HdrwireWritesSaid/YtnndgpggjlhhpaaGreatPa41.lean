/- HwLawWrites -/
import Derived.Test.YtnndgpggjlhhpaaGreatPa1
import Derived.Test.YtnndgpggjlhhpaaGreatPa2
import Derived.Test.YtnndgpggjlhhpaaGreatPa3
import Derived.Test.YtnndgpggjlhhpaaGreatPa4
import Derived.Test.YtnndgpggjlhhpaaGreatPa5
import Derived.Test.YtnndgpggjlhhpaaGreatPa6
import Derived.Test.YtnndgpggjlhhpaaGreatPa7
import Derived.Test.YtnndgpggjlhhpaaGreatPa8
import Derived.Test.YtnndgpggjlhhpaaGreatPa9
import Derived.Test.YtnndgpggjlhhpaaGreatPa10
import Derived.Test.YtnndgpggjlhhpaaGreatPa11
import Derived.Test.YtnndgpggjlhhpaaGreatPa12
import Derived.Test.YtnndgpggjlhhpaaGreatPa13
import Derived.Test.YtnndgpggjlhhpaaGreatPa14
import Derived.Test.YtnndgpggjlhhpaaGreatPa15
import Derived.Test.YtnndgpggjlhhpaaGreatPa16
import Derived.Test.YtnndgpggjlhhpaaGreatPa17
import Derived.Test.YtnndgpggjlhhpaaGreatPa18
import Derived.Test.YtnndgpggjlhhpaaGreatPa19
import Derived.Test.YtnndgpggjlhhpaaGreatPa20
import Derived.Test.YtnndgpggjlhhpaaGreatPa21
import Derived.Test.YtnndgpggjlhhpaaGreatPa22
import Derived.Test.YtnndgpggjlhhpaaGreatPa23
import Derived.Test.YtnndgpggjlhhpaaGreatPa24
import Derived.Test.YtnndgpggjlhhpaaGreatPa25
import Derived.Test.YtnndgpggjlhhpaaGreatPa26
import Derived.Test.YtnndgpggjlhhpaaGreatPa27
import Derived.Test.YtnndgpggjlhhpaaGreatPa28
import Derived.Test.YtnndgpggjlhhpaaGreatPa29
import Derived.Test.YtnndgpggjlhhpaaGreatPa30
import Derived.Test.YtnndgpggjlhhpaaGreatPa31
import Derived.Test.YtnndgpggjlhhpaaGreatPa32
import Derived.Test.YtnndgpggjlhhpaaGreatPa33
import Derived.Test.YtnndgpggjlhhpaaGreatPa34
import Derived.Test.YtnndgpggjlhhpaaGreatPa35
import Derived.Test.YtnndgpggjlhhpaaGreatPa36
import Derived.Test.YtnndgpggjlhhpaaGreatPa37
import Derived.Test.YtnndgpggjlhhpaaGreatPa38
import Derived.Test.YtnndgpggjlhhpaaGreatPa40
import Derived.BigRegion
import Derived.RangeFuncNested
import Derived.RangeFuncBound
import Derived.RangeFuncCalls
import Derived.RangeFuncLeaves
import Derived.Shelf.Abstract
import Derived.Shelf.RegionOpen
import Derived.WalkKit
import Derived.OwnWalkIn
import Derived.TacticsInMore
import Derived.LoopNIn
import Derived.LoopIn
import Derived.Sort.BigQuietIn
import Derived.Lib.Repeat
import Derived.StillTailTactics
import Derived.Laws.BitsAllLaws
import Derived.Laws.BytesArg
import Derived.Lib.SlBytesConst
import Derived.Maps.AppendAt
import Derived.Laws.AppendOwnNone
import Derived.WalkSpells
import Derived.WalkLawsBesides
import Derived.Deep.QuietTactic
import Derived.BigQuiet
import Derived.RegionTactic
import Derived.Deep.AppendLies
import Derived.Deep.RegionLaw
import Derived.Laws.ResultCell
import Derived.Laws.EntriesVeiled
import Derived.Lib.Hide
import Derived.Test.YtnndgpggjlhhpaaGreatRows
import Derived.Maps.RangeWalk
import Derived.Deep.RegionHeld3
import Derived.Deep.CutBlock
import Derived.Deep.DeepCutAuto
import Derived.Deep.CutRange
import Derived.Lib.BitFns
import Derived.Shelf.Small.Bits
import Derived.Shelf.Strconv.Itoa0
import Derived.Shelf.Bits.Mul64
import Derived.Laws.Externs
import Derived.Shelf.Spec.BitsCarry
import Derived.Shelf.SlSortCmp.WholeK
import Derived.Shelf.Strings.Repeat
import Derived.Lib.AppendZerosOnto
import Derived.Lib.SliceRun
import Derived.Lib.Walk
import Derived.Laws.MakeOwn
import Derived.Laws.OwnMore
import Derived.IntWalk
import Derived.Lib.MakeNoZero
import Derived.Laws.CopyOwn
import Derived.Laws.Tables
import Derived.Defers
import Derived.Recover
import Derived.DeepKeys4
import Derived.WideKeyPair
import Derived.MapKept
import Derived.ChangeMaps
import Derived.Laws.Cover3
import Derived.Stop.BytesEq
/- The law on what is written. -/
namespace Go.Proofs.YtnndgpggjlhhpaaGreat
open Go.RowKit Go.ChangeMaps

/-- what a recorded histogram is, for a law -/
theorem recs19_is {L H D : Nat} {gr : Bool} (d1 : 1 ≤ D) (d5 : D ≤ 5) (l0 : 0 < L) (lh : 2 * L ≤ H) (hh : H < 9223372036854775808) (hs : unt L + mag D ≤ 62) (vs : List Int) (ns : List Nat) (hv : ∀ v ∈ vs, -9223372036854775808 ≤ v ∧ v ≤ 9223372036854775807) {m : Nat} (hm : vs.length = m) :
    ∃ M : Hm, recs19 (Hm.new L H D gr) vs ns (min m 40) = M ∧ M.Good ∧ Own M L H D gr ∧ M.l.length ≤ 40 := by
  obtain ⟨h1, h2, h3⟩ := recs19_own (gr := gr) d1 d5 l0 lh hh hs vs ns (fun v h => (hv v h).2) (min m 40) (by omega)
  exact ⟨_, rfl, h1, h2, by omega⟩
theorem plain_len40 {M : Hm} (hl : M.l.length ≤ 40) : (plainB M).length ≤ 850 := by
  rw [plainB_len]
  have h1 := encs_le (nums M.l)
  have h2 := (nums_len M.l).2
  omega
/-- a row of bytes that a call left, told as numbers -/
theorem RowNew.sli {w w' : World} {q : Option Addr} {n d : Nat} {l : List Nat} (h : RowNew w w' (.slice q n d) l) (hn : l.length = n) : SlI w' .u8 q l ∧ (q = none → d = 0) ∧ n ≤ d ∧ d ≤ maxLen := by
  obtain ⟨p, c, e, h0, h1, h2⟩ := slForm h.own
  simp only [Value.slice.injEq] at e
  obtain ⟨rfl, -, rfl⟩ := e
  have hs := h.own
  rw [hn] at hs
  exact ⟨SlI.ofOwns hs, h0, by omega, h2⟩
theorem reach_lt {M : Hm} (hg : M.Good) : M.reach < 9223372036854775808 := by
  unfold Hm.reach
  split
  · have := hg.hh; omega
  · exact top_lt _ _ _
theorem plain_head (M : Hm) : plainB M = enc 4 478450451 ++ (plainB M).drop 4 := by
  have h : plainB M = enc 4 478450451 ++ (enc 4 (encs (nums M.l)).length ++ (enc 4 0 ++ (enc 4 M.D ++ (enc 6 M.L ++ (enc 6 M.reach ++ enc 6 4607182418800017408)))) ++ encs (nums M.l)) := by rw [plainB, headB, List.append_assoc]
  have h2 : (plainB M).drop 4 = (enc 4 (encs (nums M.l)).length ++ (enc 4 0 ++ (enc 4 M.D ++ (enc 6 M.L ++ (enc 6 M.reach ++ enc 6 4607182418800017408)))) ++ encs (nums M.l)) := by
    rw [h, List.drop_left' (enc4_len _)]
  rw [h2]
  exact h
/-- the text of a row -/
theorem RowNew.txt {w w' : World} {q : Option Addr} {n d : Nat} {l : List Nat} (h : RowNew w w' (.slice q n d) l) (hn : l.length = n) {W : World} (f : Fr S0 w' W) : (convert 31 9 (.slice q n d)).run Tryz.prog W = .ok (.string (strB l)) W := by
  have := conv_sl ((h.sli hn).1.fr0 f) n d (by omega)
  rwa [List.take_of_length_le (by omega)] at this
section
variable (a d y : Nat) (gr : Bool) (p : Option Addr) (m c : Nat) (vs : List Int) (q : Option Addr) (k c2 : Nat) (ns : List Nat) (w : World)
set_option maxRecDepth 100000 in
set_option maxHeartbeats 4000000 in
theorem law_writes (hm : vs.length = m) (hz : ZI w p vs) (hvb : ∀ v ∈ vs, -9223372036854775808 ≤ v ∧ v ≤ 9223372036854775807) (hk : ns.length = k) (hq : SlI w .u32 q ns) (hnb : ∀ n ∈ ns, n < 4294967296) :
    Calls Tryz.prog 3 #[.int .u64 (a : Nat), .int .u8 (d : Nat), .int .u64 (y : Nat), .bool gr, .slice p m c, .slice q k c2] w fun e w' => e = .returned (.bool true) ∧ Fr S0 w w' := by
  have HA := Lib.hid (alive19_any w)
  obtain ⟨L, H, D, ⟨l0, lh, hh⟩, ⟨d1, d5⟩, hs, hsh⟩ := wshape_any a d y
  have HSH := Lib.hid hsh
  have HR := Lib.hid (fun W (f : Fr S0 w W) => recorded19_any L H D gr p m c vs q k c2 ns W d1 d5 l0 lh hh hs hm (hz.fr0 f) hvb hk (hq.fr0 f) hnb)
  obtain ⟨M, eM, hg, ho, hl⟩ := recs19_is (gr := gr) d1 d5 l0 lh hh hs vs ns hvb hm
  rw [eM] at HR
  have HRW := Lib.hid (fun W (pp : Option Addr) (cc nn : Nat) (hp : PrI W pp M.l) (hn : M.l.length = nn) => show Calls Tryz.prog 11 #[.int .i64 (L : Nat), .int .i64 (M.reach : Nat), .int .i64 (D : Nat), .slice pp nn cc] W fun e w' => OneNew W w' e (plainB M) from by
    have h := rwrite19_any M.L M.reach M.D pp nn cc M.l W hp hn hg.upw hg.klt2 (by omega) (by have := ho.l; omega) (reach_lt hg) (by have := ho.d; omega) (by have := plain_len40 hl; rw [plainB_len] at this; omega)
    rw [ho.l, ho.d] at h
    rw [plainB, ho.l, ho.d]
    exact h)
  have HPL := Lib.hid (And.intro (plain_len40 hl) (plainB_256 M))
  clear hsh l0 lh hh hm hz hvb hk hq hnb eM hs d1 d5 ho
  go_enter Tryz.func3, Tryz.ntmps3
  go_wp2_with fail
  refine HA.out.mono ?_
  rintro e w1 ⟨rfl, f1⟩
  have F1 := Lib.hid f1
  clear f1 HA
  go_wp2_with fail
  refine (HSH.out _).mono ?_
  rintro e w2 ⟨rfl, f2⟩
  have F2 := Lib.hid (F1.out.trans0 f2)
  clear f2 F1 HSH
  go_wp2_with fail
  have FB : Hid (Fr S0 w (w2.alloc (.cells #[.int .i64 (L : Nat), .int .i64 (H : Nat), .int .i64 (D : Nat)] 27))) := Lib.hid (F2.out.trans0 (Fr.alloc _ _ _))
  have HBX := Lib.hid (box3a w2 (.int .i64 (L : Nat)) (.int .i64 (H : Nat)) (.int .i64 (D : Nat)) 27)
  refine (HR.out _ FB.out).mono ?_
  rintro e w3 ⟨x, h, rfl, s3, -, -, f3⟩
  have F3 := Lib.hid (FB.out.trans0 f3)
  have HX := Lib.hid s3
  have HC := Lib.hid (fun W (f : Fr S0 w3 W) => And.intro ((f3.trans0 f).cell HBX.out.1 fun h => h) (And.intro ((f3.trans0 f).cell HBX.out.2.1 fun h => h) ((f3.trans0 f).cell HBX.out.2.2 fun h => h)))
  obtain ⟨k0, k1, k2⟩ := HC.out _ (Fr.refl _ _)
  clear s3 f3 F2 HR FB HBX
  go_wp2_with fail
  have HLL := Lib.hid hl
  have HRE := Lib.hid (fun W (f : Fr S0 w3 W) => xreach_any x h M W (HX.out.fr0 f))
  have HPR := Lib.hid (fun W (f : Fr S0 w3 W) => xpairs_any x h M W (HX.out.fr0 f) (by have := HLL.out; omega))
  have HWR := Lib.hid (fun W (f : Fr S0 w3 W) => write_any x h M W (HX.out.fr0 f) (by have := HLL.out; omega))
  have HPK := Lib.hid (fun W (f : Fr S0 w3 W) => pack19_any x h M W (HX.out.fr0 f) (by have := HLL.out; omega))
  have HSZ := Lib.hid (fun W (f : Fr S0 w3 W) => size_any x h M W (HX.out.fr0 f) (by have := HLL.out; omega))
  have HHD := Lib.hid (plain_head M)
  obtain ⟨R, eR⟩ : ∃ R, M.reach = R := ⟨_, rfl⟩
  rw [eR] at HRE HRW
  obtain ⟨P, eP⟩ : ∃ P, plainB M = P := ⟨_, rfl⟩
  rw [eP] at HRW HPL HWR HPK HSZ HHD
  clear hl hg eR eP
  go_region_held3 (fun w' => w'.cell? ⟨w2.heap.size, 0, none⟩ = some (.int .i64 (L : Nat)) ∧ w'.cell? ⟨w2.heap.size, 1, none⟩ = some (.int .i64 (H : Nat)) ∧ w'.cell? ⟨w2.heap.size, 2, none⟩ = some (.int .i64 (D : Nat)))
    (first
      | exact HC.out _ R3.out
      | exact HC.out _ R2.out
      | exact HC.out _ R1.out
      | exact HC.out _ (Fr.drew S0 w3)
      | exact HC.out _ (Fr.refl S0 w3)
      | fail)
    (first
      | (go_at_call 12; ((with_reducible refine (HRE.out _ (Fr.drew S0 w3)).mono ?_); rintro _ u1 ⟨rfl, f⟩; have R1 := Lib.hid ((Fr.drew S0 w3).trans0 f); clear f))
      | (go_at_call 13; ((with_reducible refine (HPR.out _ R1.out).mono ?_); rintro _ u2 ⟨pp, cc, nn, rfl, see⟩; have R2 := Lib.hid (R1.out.trans0 see.fr); have HSEE := Lib.hid (And.intro see.pri see.len); clear see))
      | (go_at_call 11; ((with_reducible refine (HRW.out _ _ _ _ HSEE.out.1 HSEE.out.2).mono ?_); rintro _ u3 ⟨qw, dw, rfl, fw, rw3⟩; have R3 := Lib.hid (R2.out.trans0 fw); have HRB := Lib.hid rw3; clear fw rw3))
      | fail)
  clear HRE HPR HRW HSEE R1 R2 HC
  have k0 := True.intro
  have k1 := True.intro
  have k2 := True.intro
  go_wp2_with fail
  refine (HWR.out _ R3.out).mono ?_
  rintro _ u4 ⟨qb, db, rfl, rb, f4⟩
  have R4 := Lib.hid (R3.out.trans0 f4)
  have F4 := Lib.hid f4
  have HB := Lib.hid rb
  clear rb f4 HWR
  go_wp2_with fail
  refine (HPK.out _ R4.out).mono ?_
  rintro _ u5 ⟨qc, dc, rfl, rc, f5⟩
  have R5 := Lib.hid (R4.out.trans0 f5)
  have F5 := Lib.hid f5
  have HCC := Lib.hid rc
  clear rc f5 HPK
  go_wp2_with fail
  refine (write_nil _).mono ?_
  rintro _ u6 ⟨rfl, rfl⟩
  go_wp2_with fail
  refine (pack19_nil _).mono ?_
  rintro _ u7 ⟨rfl, rfl⟩
  have FW5 := Lib.hid (F4.out.trans0 F5.out)
  have HT := Lib.hid (fun W (f : Fr S0 u7 W) => And.intro (HB.out.txt rfl (F5.out.trans0 f)) (And.intro (HRB.out.txt rfl (FW5.out.trans0 f)) (HCC.out.txt rfl f)))
  have HRP := Lib.hid (fun W (f : Fr S0 u7 W) => rpack19_any qw P.length dw P W rfl ((HRB.out.sli rfl).1.fr0 (FW5.out.trans0 f)) HPL.out.2 (HRB.out.sli rfl).2.1 (HRB.out.sli rfl).2.2.1 (by have := HPL.out.1; omega))
  have HKB := Lib.hid (fun W (f : Fr S0 u7 W) => show Calls Tryz.prog 18 #[.slice qb P.length db] W fun e w' => e = .returned (.int .i64 1) ∧ Fr S0 W w' from hkind_any 478450451 (.inl rfl) (P.drop 4) qb P.length db P W HHD.out rfl ((HB.out.sli rfl).1.fr0 (F5.out.trans0 f)) HPL.out.2)
  have HKC := Lib.hid (fun W (f : Fr S0 u7 W) => show Calls Tryz.prog 18 #[.slice qc (packB P).length dc] W fun e w' => e = .returned (.int .i64 2) ∧ Fr S0 W w' from hkind_any 478450452 (.inr rfl) _ qc (packB P).length dc (packB P) W (by unfold packB; rw [List.append_assoc]) rfl ((HCC.out.sli rfl).1.fr0 f) (packB_256 P HPL.out.2))
  have HSX := Lib.hid (fun W (f : Fr S0 u7 W) => HSZ.out W (R5.out.trans0 f))
  have R7 := Lib.hid (F3.out.trans0 R5.out)
  go_wp2_with fail
  clear HSZ R5 R4 FW5 F4 F5 HB HRB HCC HHD HPL HLL HX F3 R3 k0 k1 k2
  refine wp_region_noPanic ?_
  refine wp_region_held_drew (S := fun w' => Fr S0 u7 w' ∧ (convert 31 9 (.slice qb P.length db)).run Tryz.prog w' = .ok (.string (strB P)) w' ∧ (convert 31 9 (.slice qw P.length dw)).run Tryz.prog w' = .ok (.string (strB P)) w' ∧ (convert 31 9 (.slice qc (packB P).length dc)).run Tryz.prog w' = .ok (.string (strB (packB P))) w') (by kernel_rfl) ⟨Fr.drew S0 u7, HT.out _ (Fr.drew S0 u7)⟩ (fun hHeld => ?_)
  refine wpAnyH_take (i := 0) (oi := Oper.mk (some 64) _ _ _ _ _) (v := ?_) rfl (by as_aux_lemma => kernel_rfl) (by as_aux_lemma => kernel_rfl) (by as_aux_lemma => kernel_rfl) (fun _ _ _ h => h) (Or.inl ⟨by rfl, ?_⟩) (by assumption) ?_
  rotate_left
  · (intro w hSw; obtain ⟨hf, h1, h2, h3⟩ := hSw; go_simp <;> with_reducible rfl)
  simp only [Act.put, List.setIfInBounds_toArray, List.set_cons_zero, List.set_cons_succ]
  refine wpAnyH_take (i := 1) (oi := Oper.mk (some 65) _ _ _ _ _) (v := ?_) rfl (by as_aux_lemma => kernel_rfl) (by as_aux_lemma => kernel_rfl) (by as_aux_lemma => kernel_rfl) (fun _ _ _ h => h) (Or.inl ⟨by rfl, ?_⟩) (by assumption) ?_
  rotate_left
  · (intro w hSw; obtain ⟨hf, h1, h2, h3⟩ := hSw; go_simp <;> with_reducible rfl)
  simp only [Act.put, List.setIfInBounds_toArray, List.set_cons_zero, List.set_cons_succ]
  refine wpAnyH_take (i := 2) (oi := Oper.mk (some 66) _ _ _ _ _) (v := ?_) rfl (by as_aux_lemma => kernel_rfl) (by as_aux_lemma => kernel_rfl) (by as_aux_lemma => kernel_rfl) (fun _ _ _ h => h) (Or.inl ⟨by rfl, ?_⟩) (by assumption) ?_
  rotate_left
  · (intro w hSw; obtain ⟨hf, h1, h2, h3⟩ := hSw; go_simp <;> with_reducible rfl)
  simp only [Act.put, List.setIfInBounds_toArray, List.set_cons_zero, List.set_cons_succ]
  refine wpAnyH_take (i := 3) (oi := Oper.mk (some 67) _ _ _ _ _) (v := ?_) rfl (by as_aux_lemma => kernel_rfl) (by as_aux_lemma => kernel_rfl) (by as_aux_lemma => kernel_rfl) (fun _ _ _ h => h) (Or.inl ⟨by rfl, ?_⟩) (by assumption) ?_
  rotate_left
  · (intro w hSw; obtain ⟨hf, h1, h2, h3⟩ := hSw; go_simp <;> with_reducible rfl)
  simp only [Act.put, List.setIfInBounds_toArray, List.set_cons_zero, List.set_cons_succ]
  refine wpAnyH_take (i := 4) (oi := Oper.mk (some 68) _ _ _ _ _) (v := ?_) rfl (by as_aux_lemma => kernel_rfl) (by as_aux_lemma => kernel_rfl) (by as_aux_lemma => kernel_rfl) (fun _ _ _ h => h) (Or.inl ⟨by rfl, ?_⟩) (by assumption) ?_
  rotate_left
  · (intro w hSw; obtain ⟨hf, h1, h2, h3⟩ := hSw; go_simp <;> with_reducible rfl)
  simp only [Act.put, List.setIfInBounds_toArray, List.set_cons_zero, List.set_cons_succ]
  refine wpAnyH_take (i := 5) (oi := Oper.mk (some 69) _ _ _ _ _) (v := ?_) rfl (by as_aux_lemma => kernel_rfl) (by as_aux_lemma => kernel_rfl) (by as_aux_lemma => kernel_rfl) (fun _ _ _ h => h) (Or.inl ⟨by rfl, ?_⟩) (by assumption) ?_
  rotate_left
  · (intro w hSw; obtain ⟨hf, h1, h2, h3⟩ := hSw; go_simp <;> with_reducible rfl)
  simp only [Act.put, List.setIfInBounds_toArray, List.set_cons_zero, List.set_cons_succ]
  refine wpAnyH_take (i := 6) (oi := Oper.mk (some 70) _ _ _ _ _) (v := ?_) rfl (by as_aux_lemma => kernel_rfl) (by as_aux_lemma => kernel_rfl) (by as_aux_lemma => kernel_rfl) (fun _ _ _ h => h) (Or.inl ⟨by rfl, ?_⟩) (by assumption) ?_
  rotate_left
  · (intro w hSw; obtain ⟨hf, h1, h2, h3⟩ := hSw; go_simp <;> with_reducible rfl)
  simp only [Act.put, List.setIfInBounds_toArray, List.set_cons_zero, List.set_cons_succ]
  refine wpAnyH_take (i := 7) (oi := Oper.mk (some 71) _ _ _ _ _) (v := ?_) rfl (by as_aux_lemma => kernel_rfl) (by as_aux_lemma => kernel_rfl) (by as_aux_lemma => kernel_rfl) (fun _ _ _ h => h) (Or.inl ⟨by rfl, ?_⟩) (by assumption) ?_
  rotate_left
  · (intro w hSw; obtain ⟨hf, h1, h2, h3⟩ := hSw; go_simp <;> with_reducible rfl)
  simp only [Act.put, List.setIfInBounds_toArray, List.set_cons_zero, List.set_cons_succ]
  refine wpAnyH_take (i := 8) (oi := Oper.mk (some 72) _ _ _ _ _) (v := ?_) rfl (by as_aux_lemma => kernel_rfl) (by as_aux_lemma => kernel_rfl) (by as_aux_lemma => kernel_rfl) (fun _ _ _ h => h) (Or.inl ⟨by rfl, ?_⟩) (by assumption) ?_
  rotate_left
  · (intro w hSw; obtain ⟨hf, h1, h2, h3⟩ := hSw; go_simp <;> with_reducible rfl)
  simp only [Act.put, List.setIfInBounds_toArray, List.set_cons_zero, List.set_cons_succ]
  refine wpAnyH_take (i := 9) (oi := Oper.mk (some 73) _ _ _ _ _) (v := ?_) rfl (by as_aux_lemma => kernel_rfl) (by as_aux_lemma => kernel_rfl) (by as_aux_lemma => kernel_rfl) (fun _ _ _ h => h) (Or.inl ⟨by rfl, ?_⟩) (by assumption) ?_
  rotate_left
  · (intro w hSw; obtain ⟨hf, h1, h2, h3⟩ := hSw; go_simp <;> with_reducible rfl)
  simp only [Act.put, List.setIfInBounds_toArray, List.set_cons_zero, List.set_cons_succ]
  refine wpAnyH_take (i := 10) (oi := Oper.mk (some 74) _ _ _ _ _) (v := ?_) rfl (by as_aux_lemma => kernel_rfl) (by as_aux_lemma => kernel_rfl) (by as_aux_lemma => kernel_rfl) (fun _ _ _ h => h) (Or.inl ⟨by rfl, ?_⟩) (by assumption) ?_
  rotate_left
  · (intro w hSw; obtain ⟨hf, h1, h2, h3⟩ := hSw; go_simp <;> with_reducible rfl)
  simp only [Act.put, List.setIfInBounds_toArray, List.set_cons_zero, List.set_cons_succ]
  refine wpAnyH_take (i := 11) (oi := Oper.mk (some 75) _ _ _ _ _) (v := ?_) rfl (by as_aux_lemma => kernel_rfl) (by as_aux_lemma => kernel_rfl) (by as_aux_lemma => kernel_rfl) (fun _ _ _ h => h) (Or.inl ⟨by rfl, ?_⟩) (by assumption) ?_
  rotate_left
  · (intro w hSw; obtain ⟨hf, h1, h2, h3⟩ := hSw; go_simp <;> with_reducible rfl)
  simp only [Act.put, List.setIfInBounds_toArray, List.set_cons_zero, List.set_cons_succ]
  refine wpAnyH_take (i := 12) (oi := Oper.mk (some 76) _ _ _ _ _) (v := ?_) rfl (by as_aux_lemma => kernel_rfl) (by as_aux_lemma => kernel_rfl) (by as_aux_lemma => kernel_rfl) (fun _ _ _ h => h) (Or.inl ⟨by rfl, ?_⟩) (by assumption) ?_
  rotate_left
  · (intro w hSw; obtain ⟨hf, h1, h2, h3⟩ := hSw; go_simp <;> with_reducible rfl)
  simp only [Act.put, List.setIfInBounds_toArray, List.set_cons_zero, List.set_cons_succ]
  refine wpAnyH_take (i := 13) (oi := Oper.mk (some 77) _ _ _ _ _) (v := ?_) rfl (by as_aux_lemma => kernel_rfl) (by as_aux_lemma => kernel_rfl) (by as_aux_lemma => kernel_rfl) (fun _ _ _ h => h) (Or.inl ⟨by rfl, ?_⟩) (by assumption) ?_
  rotate_left
  · (intro w hSw; obtain ⟨hf, h1, h2, h3⟩ := hSw; go_simp <;> with_reducible rfl)
  simp only [Act.put, List.setIfInBounds_toArray, List.set_cons_zero, List.set_cons_succ]
  refine wpAnyH_take (i := 14) (oi := Oper.mk (some 78) _ _ _ _ _) (v := ?_) rfl (by as_aux_lemma => kernel_rfl) (by as_aux_lemma => kernel_rfl) (by as_aux_lemma => kernel_rfl) (fun _ _ _ h => h) (Or.inl ⟨by rfl, ?_⟩) (by assumption) ?_
  rotate_left
  · (intro w hSw; obtain ⟨hf, h1, h2, h3⟩ := hSw; go_simp <;> with_reducible rfl)
  simp only [Act.put, List.setIfInBounds_toArray, List.set_cons_zero, List.set_cons_succ]
  refine wpAnyH_take (i := 15) (oi := Oper.mk (some 79) _ _ _ _ _) (v := ?_) rfl (by as_aux_lemma => kernel_rfl) (by as_aux_lemma => kernel_rfl) (by as_aux_lemma => kernel_rfl) (fun _ _ _ h => h) (Or.inl ⟨by rfl, ?_⟩) (by assumption) ?_
  rotate_left
  · (intro w hSw; obtain ⟨hf, h1, h2, h3⟩ := hSw; go_simp <;> with_reducible rfl)
  simp only [Act.put, List.setIfInBounds_toArray, List.set_cons_zero, List.set_cons_succ]
  refine wpAnyH_take (i := 16) (oi := Oper.mk (some 80) _ _ _ _ _) (v := ?_) rfl (by as_aux_lemma => kernel_rfl) (by as_aux_lemma => kernel_rfl) (by as_aux_lemma => kernel_rfl) (fun _ _ _ h => h) (Or.inl ⟨by rfl, ?_⟩) (by assumption) ?_
  rotate_left
  · (intro w hSw; obtain ⟨hf, h1, h2, h3⟩ := hSw; go_simp <;> with_reducible rfl)
  simp only [Act.put, List.setIfInBounds_toArray, List.set_cons_zero, List.set_cons_succ]
  refine wpAnyH_ready (rs := [17]) (by kernel_rfl) (by simp) (AllReadyH.cons (o := Oper.mk (some 81) _ _ _ _ _) rfl (fun K hK => ?_) AllReadyH.nil)
  go_simp
  go_at_call 16
  refine (HRP.out _ hHeld.1).mono ?_
  rintro _ v1 ⟨qr, dr, rfl, f1, rr⟩
  have tr := rr.txt rfl (Fr.refl S0 v1)
  have S1 := Lib.hid (hHeld.1.trans0 f1)
  refine hK.out _ _ ⟨S1.out, HT.out _ S1.out⟩ (fun hHeld7 => ?_)
  clear hK K f1 rr hHeld
  try simp only [Act.put, List.setIfInBounds_toArray, List.set_cons_zero, List.set_cons_succ]
  refine wpAnyH_ready (rs := [18]) (by kernel_rfl) (by simp) (AllReadyH.cons (o := Oper.mk (some 82) _ _ _ _ _) rfl (fun K hK => ?_) AllReadyH.nil)
  go_simp
  refine hK.out _ _ hHeld7 (fun hHeld8 => ?_)
  clear hK K hHeld7 tr
  try simp only [Act.put, List.setIfInBounds_toArray, List.set_cons_zero, List.set_cons_succ]
  refine held_of_any _ _ _ _ hHeld8 ?_
  clear hHeld8 S1
  refine anyS_take (i := 19) (oi := Oper.mk (some 83) _ _ _ _ _) (v := ?_) rfl (by as_aux_lemma => kernel_rfl) (by as_aux_lemma => kernel_rfl) (by as_aux_lemma => kernel_rfl) (fun _ _ _ h => h) (Or.inl ⟨by rfl, ?_⟩) ?_
  rotate_left
  · (intro w hSw; obtain ⟨hf, h1, h2, h3⟩ := hSw; go_simp <;> with_reducible rfl)
  simp only [Act.put, List.setIfInBounds_toArray, List.set_cons_zero, List.set_cons_succ]
  refine anyS_take (i := 20) (oi := Oper.mk (some 84) _ _ _ _ _) (v := ?_) rfl (by as_aux_lemma => kernel_rfl) (by as_aux_lemma => kernel_rfl) (by as_aux_lemma => kernel_rfl) (fun _ _ _ h => h) (Or.inl ⟨by rfl, ?_⟩) ?_
  rotate_left
  · (intro w hSw; obtain ⟨hf, h1, h2, h3⟩ := hSw; go_simp <;> with_reducible rfl)
  simp only [Act.put, List.setIfInBounds_toArray, List.set_cons_zero, List.set_cons_succ]
  refine anyS_take (i := 21) (oi := Oper.mk (some 85) _ _ _ _ _) (v := ?_) rfl (by as_aux_lemma => kernel_rfl) (by as_aux_lemma => kernel_rfl) (by as_aux_lemma => kernel_rfl) (fun _ _ _ h => h) (Or.inl ⟨by rfl, ?_⟩) ?_
  rotate_left
  · (intro w hSw; obtain ⟨hf, h1, h2, h3⟩ := hSw; go_simp <;> with_reducible rfl)
  simp only [Act.put, List.setIfInBounds_toArray, List.set_cons_zero, List.set_cons_succ]
  refine anyS_take (i := 22) (oi := Oper.mk (some 86) _ _ _ _ _) (v := ?_) rfl (by as_aux_lemma => kernel_rfl) (by as_aux_lemma => kernel_rfl) (by as_aux_lemma => kernel_rfl) (fun _ _ _ h => h) (Or.inl ⟨by rfl, ?_⟩) ?_
  rotate_left
  · (intro w hSw; obtain ⟨hf, h1, h2, h3⟩ := hSw; go_simp <;> with_reducible rfl)
  simp only [Act.put, List.setIfInBounds_toArray, List.set_cons_zero, List.set_cons_succ]
  refine anyS_call 17 #[.pointer (some ⟨x, 0, none⟩)] (i := 23) (oi := Oper.mk (some 87) _ _ _ _ _) (v := .int .i64 (P.length : Nat)) rfl (by as_aux_lemma => kernel_rfl) (by as_aux_lemma => kernel_rfl) (by as_aux_lemma => kernel_rfl) (fun _ _ _ h => h) (by rfl) (fun w => ?_) (fun w hSw => ?_) ?_
  · first | rfl | (go_simp; done) | (go_simp; rfl)
  · exact (HSX.out w hSw.1).mono fun e w2 he => ⟨he.1, hSw.1.trans0 he.2, HT.out _ (hSw.1.trans0 he.2)⟩
  simp only [Act.put, List.setIfInBounds_toArray, List.set_cons_zero, List.set_cons_succ]
  refine anyS_take (i := 24) (oi := Oper.mk (some 88) _ _ _ _ _) (v := ?_) rfl (by as_aux_lemma => kernel_rfl) (by as_aux_lemma => kernel_rfl) (by as_aux_lemma => kernel_rfl) (fun _ _ _ h => h) (Or.inl ⟨by rfl, ?_⟩) ?_
  rotate_left
  · (intro w hSw; obtain ⟨hf, h1, h2, h3⟩ := hSw; go_simp <;> with_reducible rfl)
  simp only [Act.put, List.setIfInBounds_toArray, List.set_cons_zero, List.set_cons_succ]
  refine anyS_take (i := 25) (oi := Oper.mk (some 89) _ _ _ _ _) (v := ?_) rfl (by as_aux_lemma => kernel_rfl) (by as_aux_lemma => kernel_rfl) (by as_aux_lemma => kernel_rfl) (fun _ _ _ h => h) (Or.inl ⟨by rfl, ?_⟩) ?_
  rotate_left
  · (intro w hSw; obtain ⟨hf, h1, h2, h3⟩ := hSw; go_simp <;> with_reducible rfl)
  simp only [Act.put, List.setIfInBounds_toArray, List.set_cons_zero, List.set_cons_succ]
  refine anyS_take (i := 26) (oi := Oper.mk (some 90) _ _ _ _ _) (v := ?_) rfl (by as_aux_lemma => kernel_rfl) (by as_aux_lemma => kernel_rfl) (by as_aux_lemma => kernel_rfl) (fun _ _ _ h => h) (Or.inl ⟨by rfl, ?_⟩) ?_
  rotate_left
  · (intro w hSw; obtain ⟨hf, h1, h2, h3⟩ := hSw; go_simp <;> with_reducible rfl)
  simp only [Act.put, List.setIfInBounds_toArray, List.set_cons_zero, List.set_cons_succ]
  refine anyS_take (i := 27) (oi := Oper.mk (some 91) _ _ _ _ _) (v := ?_) rfl (by as_aux_lemma => kernel_rfl) (by as_aux_lemma => kernel_rfl) (by as_aux_lemma => kernel_rfl) (fun _ _ _ h => h) (Or.inl ⟨by rfl, ?_⟩) ?_
  rotate_left
  · (intro w hSw; obtain ⟨hf, h1, h2, h3⟩ := hSw; go_simp <;> with_reducible rfl)
  simp only [Act.put, List.setIfInBounds_toArray, List.set_cons_zero, List.set_cons_succ]
  refine anyS_take (i := 28) (oi := Oper.mk (some 92) _ _ _ _ _) (v := ?_) rfl (by as_aux_lemma => kernel_rfl) (by as_aux_lemma => kernel_rfl) (by as_aux_lemma => kernel_rfl) (fun _ _ _ h => h) (Or.inl ⟨by rfl, ?_⟩) ?_
  rotate_left
  · (intro w hSw; obtain ⟨hf, h1, h2, h3⟩ := hSw; go_simp <;> with_reducible rfl)
  simp only [Act.put, List.setIfInBounds_toArray, List.set_cons_zero, List.set_cons_succ]
  refine anyS_call 17 #[.pointer none] (i := 29) (oi := Oper.mk (some 93) _ _ _ _ _) (v := .int .i64 0) rfl (by as_aux_lemma => kernel_rfl) (by as_aux_lemma => kernel_rfl) (by as_aux_lemma => kernel_rfl) (fun _ _ _ h => h) (by rfl) (fun w => ?_) (fun w hSw => ?_) ?_
  · first | rfl | (go_simp; done) | (go_simp; rfl)
  · exact (size_nil w).mono fun e w2 he => ⟨he.1, by rw [he.2]; exact hSw⟩
  simp only [Act.put, List.setIfInBounds_toArray, List.set_cons_zero, List.set_cons_succ]
  refine anyS_take (i := 30) (oi := Oper.mk (some 94) _ _ _ _ _) (v := ?_) rfl (by as_aux_lemma => kernel_rfl) (by as_aux_lemma => kernel_rfl) (by as_aux_lemma => kernel_rfl) (fun _ _ _ h => h) (Or.inl ⟨by rfl, ?_⟩) ?_
  rotate_left
  · (intro w hSw; obtain ⟨hf, h1, h2, h3⟩ := hSw; go_simp <;> with_reducible rfl)
  simp only [Act.put, List.setIfInBounds_toArray, List.set_cons_zero, List.set_cons_succ]
  refine anyS_take (i := 31) (oi := Oper.mk (some 95) _ _ _ _ _) (v := ?_) rfl (by as_aux_lemma => kernel_rfl) (by as_aux_lemma => kernel_rfl) (by as_aux_lemma => kernel_rfl) (fun _ _ _ h => h) (Or.inl ⟨by rfl, ?_⟩) ?_
  rotate_left
  · (intro w hSw; obtain ⟨hf, h1, h2, h3⟩ := hSw; go_simp <;> with_reducible rfl)
  simp only [Act.put, List.setIfInBounds_toArray, List.set_cons_zero, List.set_cons_succ]
  refine anyS_take (i := 32) (oi := Oper.mk (some 96) _ _ _ _ _) (v := ?_) rfl (by as_aux_lemma => kernel_rfl) (by as_aux_lemma => kernel_rfl) (by as_aux_lemma => kernel_rfl) (fun _ _ _ h => h) (Or.inl ⟨by rfl, ?_⟩) ?_
  rotate_left
  · (intro w hSw; obtain ⟨hf, h1, h2, h3⟩ := hSw; go_simp <;> with_reducible rfl)
  simp only [Act.put, List.setIfInBounds_toArray, List.set_cons_zero, List.set_cons_succ]
  refine anyS_take (i := 33) (oi := Oper.mk (some 97) _ _ _ _ _) (v := ?_) rfl (by as_aux_lemma => kernel_rfl) (by as_aux_lemma => kernel_rfl) (by as_aux_lemma => kernel_rfl) (fun _ _ _ h => h) (Or.inl ⟨by rfl, ?_⟩) ?_
  rotate_left
  · (intro w hSw; obtain ⟨hf, h1, h2, h3⟩ := hSw; go_simp <;> with_reducible rfl)
  simp only [Act.put, List.setIfInBounds_toArray, List.set_cons_zero, List.set_cons_succ]
  refine anyS_call 18 #[.slice qb P.length db] (i := 34) (oi := Oper.mk (some 98) _ _ _ _ _) (v := .int .i64 1) rfl (by as_aux_lemma => kernel_rfl) (by as_aux_lemma => kernel_rfl) (by as_aux_lemma => kernel_rfl) (fun _ _ _ h => h) (by rfl) (fun w => ?_) (fun w hSw => ?_) ?_
  · first | rfl | (go_simp; done) | (go_simp; rfl)
  · exact (HKB.out w hSw.1).mono fun e w2 he => ⟨he.1, hSw.1.trans0 he.2, HT.out _ (hSw.1.trans0 he.2)⟩
  simp only [Act.put, List.setIfInBounds_toArray, List.set_cons_zero, List.set_cons_succ]
  refine anyS_take (i := 35) (oi := Oper.mk (some 99) _ _ _ _ _) (v := ?_) rfl (by as_aux_lemma => kernel_rfl) (by as_aux_lemma => kernel_rfl) (by as_aux_lemma => kernel_rfl) (fun _ _ _ h => h) (Or.inl ⟨by rfl, ?_⟩) ?_
  rotate_left
  · (intro w hSw; obtain ⟨hf, h1, h2, h3⟩ := hSw; go_simp <;> with_reducible rfl)
  simp only [Act.put, List.setIfInBounds_toArray, List.set_cons_zero, List.set_cons_succ]
  refine anyS_take (i := 36) (oi := Oper.mk (some 100) _ _ _ _ _) (v := ?_) rfl (by as_aux_lemma => kernel_rfl) (by as_aux_lemma => kernel_rfl) (by as_aux_lemma => kernel_rfl) (fun _ _ _ h => h) (Or.inl ⟨by rfl, ?_⟩) ?_
  rotate_left
  · (intro w hSw; obtain ⟨hf, h1, h2, h3⟩ := hSw; go_simp <;> with_reducible rfl)
  simp only [Act.put, List.setIfInBounds_toArray, List.set_cons_zero, List.set_cons_succ]
  refine anyS_take (i := 37) (oi := Oper.mk (some 101) _ _ _ _ _) (v := ?_) rfl (by as_aux_lemma => kernel_rfl) (by as_aux_lemma => kernel_rfl) (by as_aux_lemma => kernel_rfl) (fun _ _ _ h => h) (Or.inl ⟨by rfl, ?_⟩) ?_
  rotate_left
  · (intro w hSw; obtain ⟨hf, h1, h2, h3⟩ := hSw; go_simp <;> with_reducible rfl)
  simp only [Act.put, List.setIfInBounds_toArray, List.set_cons_zero, List.set_cons_succ]
  refine anyS_take (i := 38) (oi := Oper.mk (some 102) _ _ _ _ _) (v := ?_) rfl (by as_aux_lemma => kernel_rfl) (by as_aux_lemma => kernel_rfl) (by as_aux_lemma => kernel_rfl) (fun _ _ _ h => h) (Or.inl ⟨by rfl, ?_⟩) ?_
  rotate_left
  · (intro w hSw; obtain ⟨hf, h1, h2, h3⟩ := hSw; go_simp <;> with_reducible rfl)
  simp only [Act.put, List.setIfInBounds_toArray, List.set_cons_zero, List.set_cons_succ]
  refine anyS_call 18 #[.slice qc (packB P).length dc] (i := 39) (oi := Oper.mk (some 103) _ _ _ _ _) (v := .int .i64 2) rfl (by as_aux_lemma => kernel_rfl) (by as_aux_lemma => kernel_rfl) (by as_aux_lemma => kernel_rfl) (fun _ _ _ h => h) (by rfl) (fun w => ?_) (fun w hSw => ?_) ?_
  · first | rfl | (go_simp; done) | (go_simp; rfl)
  · exact (HKC.out w hSw.1).mono fun e w2 he => ⟨he.1, hSw.1.trans0 he.2, HT.out _ (hSw.1.trans0 he.2)⟩
  simp only [Act.put, List.setIfInBounds_toArray, List.set_cons_zero, List.set_cons_succ]
  refine anyS_take (i := 40) (oi := Oper.mk (some 104) _ _ _ _ _) (v := ?_) rfl (by as_aux_lemma => kernel_rfl) (by as_aux_lemma => kernel_rfl) (by as_aux_lemma => kernel_rfl) (fun _ _ _ h => h) (Or.inl ⟨by rfl, ?_⟩) ?_
  rotate_left
  · (intro w hSw; obtain ⟨hf, h1, h2, h3⟩ := hSw; go_simp <;> with_reducible rfl)
  simp only [Act.put, List.setIfInBounds_toArray, List.set_cons_zero, List.set_cons_succ]
  refine anyS_take (i := 41) (oi := Oper.mk (some 105) _ _ _ _ _) (v := ?_) rfl (by as_aux_lemma => kernel_rfl) (by as_aux_lemma => kernel_rfl) (by as_aux_lemma => kernel_rfl) (fun _ _ _ h => h) (Or.inl ⟨by rfl, ?_⟩) ?_
  rotate_left
  · (intro w hSw; obtain ⟨hf, h1, h2, h3⟩ := hSw; go_simp <;> with_reducible rfl)
  simp only [Act.put, List.setIfInBounds_toArray, List.set_cons_zero, List.set_cons_succ]
  refine anyS_take (i := 42) (oi := Oper.mk (some 106) _ _ _ _ _) (v := ?_) rfl (by as_aux_lemma => kernel_rfl) (by as_aux_lemma => kernel_rfl) (by as_aux_lemma => kernel_rfl) (fun _ _ _ h => h) (Or.inl ⟨by rfl, ?_⟩) ?_
  rotate_left
  · (intro w hSw; obtain ⟨hf, h1, h2, h3⟩ := hSw; go_simp <;> with_reducible rfl)
  simp only [Act.put, List.setIfInBounds_toArray, List.set_cons_zero, List.set_cons_succ]
  refine anyS_take (i := 43) (oi := Oper.mk (some 107) _ _ _ _ _) (v := ?_) rfl (by as_aux_lemma => kernel_rfl) (by as_aux_lemma => kernel_rfl) (by as_aux_lemma => kernel_rfl) (fun _ _ _ h => h) (Or.inl ⟨by rfl, ?_⟩) ?_
  rotate_left
  · (intro w hSw; obtain ⟨hf, h1, h2, h3⟩ := hSw; go_simp <;> with_reducible rfl)
  simp only [Act.put, List.setIfInBounds_toArray, List.set_cons_zero, List.set_cons_succ]
  refine anyS_take (i := 44) (oi := Oper.mk (some 108) _ _ _ _ _) (v := ?_) rfl (by as_aux_lemma => kernel_rfl) (by as_aux_lemma => kernel_rfl) (by as_aux_lemma => kernel_rfl) (fun _ _ _ h => h) (Or.inl ⟨by rfl, ?_⟩) ?_
  rotate_left
  · (intro w hSw; obtain ⟨hf, h1, h2, h3⟩ := hSw; go_simp <;> with_reducible rfl)
  simp only [Act.put, List.setIfInBounds_toArray, List.set_cons_zero, List.set_cons_succ]
  refine anyS_take (i := 45) (oi := Oper.mk (some 109) _ _ _ _ _) (v := ?_) rfl (by as_aux_lemma => kernel_rfl) (by as_aux_lemma => kernel_rfl) (by as_aux_lemma => kernel_rfl) (fun _ _ _ h => h) (Or.inl ⟨by rfl, ?_⟩) ?_
  rotate_left
  · (intro w hSw; obtain ⟨hf, h1, h2, h3⟩ := hSw; go_simp <;> with_reducible rfl)
  simp only [Act.put, List.setIfInBounds_toArray, List.set_cons_zero, List.set_cons_succ]
  refine anyS_take (i := 46) (oi := Oper.mk (some 110) _ _ _ _ _) (v := ?_) rfl (by as_aux_lemma => kernel_rfl) (by as_aux_lemma => kernel_rfl) (by as_aux_lemma => kernel_rfl) (fun _ _ _ h => h) (Or.inl ⟨by rfl, ?_⟩) ?_
  rotate_left
  · (intro w hSw; obtain ⟨hf, h1, h2, h3⟩ := hSw; go_simp <;> with_reducible rfl)
  simp only [Act.put, List.setIfInBounds_toArray, List.set_cons_zero, List.set_cons_succ]
  refine anyS_take (i := 47) (oi := Oper.mk (some 111) _ _ _ _ _) (v := ?_) rfl (by as_aux_lemma => kernel_rfl) (by as_aux_lemma => kernel_rfl) (by as_aux_lemma => kernel_rfl) (fun _ _ _ h => h) (Or.inl ⟨by rfl, ?_⟩) ?_
  rotate_left
  · (intro w hSw; obtain ⟨hf, h1, h2, h3⟩ := hSw; go_simp <;> with_reducible rfl)
  simp only [Act.put, List.setIfInBounds_toArray, List.set_cons_zero, List.set_cons_succ]
  refine anyS_take (i := 48) (oi := Oper.mk (some 112) _ _ _ _ _) (v := ?_) rfl (by as_aux_lemma => kernel_rfl) (by as_aux_lemma => kernel_rfl) (by as_aux_lemma => kernel_rfl) (fun _ _ _ h => h) (Or.inl ⟨by rfl, ?_⟩) ?_
  rotate_left
  · (intro w hSw; obtain ⟨hf, h1, h2, h3⟩ := hSw; go_simp <;> with_reducible rfl)
  simp only [Act.put, List.setIfInBounds_toArray, List.set_cons_zero, List.set_cons_succ]
  refine anyS_take (i := 49) (oi := Oper.mk (some 113) _ _ _ _ _) (v := ?_) rfl (by as_aux_lemma => kernel_rfl) (by as_aux_lemma => kernel_rfl) (by as_aux_lemma => kernel_rfl) (fun _ _ _ h => h) (Or.inl ⟨by rfl, ?_⟩) ?_
  rotate_left
  · (intro w hSw; obtain ⟨hf, h1, h2, h3⟩ := hSw; go_simp <;> with_reducible rfl)
  simp only [Act.put, List.setIfInBounds_toArray, List.set_cons_zero, List.set_cons_succ]
  refine anyS_take (i := 50) (oi := Oper.mk (some 12) _ _ _ _ _) (v := ?_) rfl (by as_aux_lemma => kernel_rfl) (by as_aux_lemma => kernel_rfl) (by as_aux_lemma => kernel_rfl) (fun _ _ _ h => h) (Or.inl ⟨by rfl, ?_⟩) ?_
  rotate_left
  · (intro w hSw; obtain ⟨hf, h1, h2, h3⟩ := hSw; go_simp <;> with_reducible rfl)
  simp only [Act.put, List.setIfInBounds_toArray, List.set_cons_zero, List.set_cons_succ]
  refine anyS_done (by as_aux_lemma => kernel_rfl) (fun w' hSw => ?_) _
  have FZ := Lib.hid (R7.out.trans0 hSw.1)
  clear hSw
  refine NoPanic.normal ?_
  go_wp2_with fail
  go_ret
  exact ⟨rfl, FZ.out⟩
end
end Go.Proofs.YtnndgpggjlhhpaaGreat
