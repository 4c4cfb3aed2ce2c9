/- HwLawReads, HwLawSpoilt -/
import Derived.Test.YtnndgpggjlhhpaaGreatPb1
import Derived.Test.YtnndgpggjlhhpaaGreatPb2
import Derived.Test.YtnndgpggjlhhpaaGreatPb3
import Derived.Test.YtnndgpggjlhhpaaGreatPb4
import Derived.Test.YtnndgpggjlhhpaaGreatPb5
import Derived.Test.YtnndgpggjlhhpaaGreatPb6
import Derived.Test.YtnndgpggjlhhpaaGreatPb7
import Derived.Test.YtnndgpggjlhhpaaGreatPb8
import Derived.Test.YtnndgpggjlhhpaaGreatPb9
import Derived.Test.YtnndgpggjlhhpaaGreatPb10
import Derived.Test.YtnndgpggjlhhpaaGreatPb11
import Derived.Test.YtnndgpggjlhhpaaGreatPb12
import Derived.Test.YtnndgpggjlhhpaaGreatPb13
import Derived.Test.YtnndgpggjlhhpaaGreatPb14
import Derived.Test.YtnndgpggjlhhpaaGreatPb15
import Derived.Test.YtnndgpggjlhhpaaGreatPb16
import Derived.Test.YtnndgpggjlhhpaaGreatPb17
import Derived.Test.YtnndgpggjlhhpaaGreatPb18
import Derived.Test.YtnndgpggjlhhpaaGreatPb19
import Derived.Test.YtnndgpggjlhhpaaGreatPb20
import Derived.Test.YtnndgpggjlhhpaaGreatPb21
import Derived.Test.YtnndgpggjlhhpaaGreatPb22
import Derived.Test.YtnndgpggjlhhpaaGreatPb23
import Derived.Test.YtnndgpggjlhhpaaGreatPb24
import Derived.Test.YtnndgpggjlhhpaaGreatPb25
import Derived.Test.YtnndgpggjlhhpaaGreatPb26
import Derived.Test.YtnndgpggjlhhpaaGreatPb27
import Derived.Test.YtnndgpggjlhhpaaGreatPb28
import Derived.Test.YtnndgpggjlhhpaaGreatPb29
import Derived.Test.YtnndgpggjlhhpaaGreatPb30
import Derived.Test.YtnndgpggjlhhpaaGreatPb31
import Derived.Test.YtnndgpggjlhhpaaGreatPb32
import Derived.Test.YtnndgpggjlhhpaaGreatPb33
import Derived.Test.YtnndgpggjlhhpaaGreatPb34
import Derived.Test.YtnndgpggjlhhpaaGreatPb35
import Derived.Test.YtnndgpggjlhhpaaGreatPb36
import Derived.Test.YtnndgpggjlhhpaaGreatPb37
import Derived.Test.YtnndgpggjlhhpaaGreatPb38
import Derived.Test.YtnndgpggjlhhpaaGreatPb39
import Derived.Test.YtnndgpggjlhhpaaGreatPb40
import Derived.Test.YtnndgpggjlhhpaaGreatPb42
import Derived.Test.YtnndgpggjlhhpaaGreatPb43
import Derived.BigRegion
import Derived.RangeFuncNested
import Derived.RangeFuncBound
import Derived.RangeFuncCalls
import Derived.RangeFuncLeaves
import Derived.Shelf.Abstract
import Derived.Shelf.RegionOpen
import Derived.WalkKit
import Derived.OwnWalkIn
import Derived.TacticsInMore
import Derived.LoopNIn
import Derived.LoopIn
import Derived.Sort.BigQuietIn
import Derived.Lib.Repeat
import Derived.StillTailTactics
import Derived.Laws.BitsAllLaws
import Derived.Laws.BytesArg
import Derived.Lib.SlBytesConst
import Derived.Maps.AppendAt
import Derived.Laws.AppendOwnNone
import Derived.WalkSpells
import Derived.WalkLawsBesides
import Derived.Deep.QuietTactic
import Derived.BigQuiet
import Derived.RegionTactic
import Derived.Deep.AppendLies
import Derived.Deep.RegionLaw
import Derived.Laws.ResultCell
import Derived.Laws.EntriesVeiled
import Derived.Lib.Hide
import Derived.Test.YtnndgpggjlhhpaaGreatRows
import Derived.Maps.RangeWalk
import Derived.Deep.RegionHeld3
import Derived.Deep.CutBlock
import Derived.Deep.DeepCutAuto
import Derived.Deep.CutRange
import Derived.Lib.BitFns
import Derived.Shelf.Small.Bits
import Derived.Shelf.Strconv.Itoa0
import Derived.Shelf.Bits.Mul64
import Derived.Laws.Externs
import Derived.Shelf.Spec.BitsCarry
import Derived.Shelf.SlSortCmp.WholeK
import Derived.Shelf.Strings.Repeat
import Derived.Lib.AppendZerosOnto
import Derived.Lib.SliceRun
import Derived.Lib.Walk
import Derived.Laws.MakeOwn
import Derived.Laws.OwnMore
import Derived.IntWalk
import Derived.Lib.MakeNoZero
import Derived.Laws.CopyOwn
import Derived.Laws.Tables
import Derived.Defers
import Derived.Recover
import Derived.DeepKeys4
import Derived.WideKeyPair
import Derived.MapKept
import Derived.ChangeMaps
import Derived.Laws.Cover3
import Derived.Stop.BytesEq
/- The law on what is read. -/
namespace Go.Proofs.YtnndgpggjlhhpaaGreat
open Go.RowKit Go.ChangeMaps

/-- opening what is packed -/
theorem open_packed {T : List Nat} (t8 : ∀ x ∈ T, x < 256) (hT : T.length ≤ 40000) {q : Option Addr} {n d : Nat} {w W : World} (hn : (packB T).length = n) (h : RowNew w W (.slice q n d) (packB T)) (W2 : World) (f2 : Fr S0 W W2) :
    Calls Tryz.prog 20 #[.slice q n d] W2 fun e w' => TdEnds (fun M => Is19 M T) W2 w' e := by
  obtain ⟨s, h0, h1, h2⟩ := h.sli hn
  exact hopen_any _ q n d W2 fun W3 f => ofPacked_pack T t8 hT q n d W3 hn ((s.fr0 f2).fr0 f) h0 h1 h2
section
variable (p : Option Addr) (n d : Nat) (l : List Nat) (w : World)
end
end Go.Proofs.YtnndgpggjlhhpaaGreat

/- The law on spoilt forms. -/
namespace Go.Proofs.YtnndgpggjlhhpaaGreat
open Go.RowKit Go.ChangeMaps

section
variable (a d : Nat) (p : Option Addr) (m c : Nat) (vs : List Int) (q : Option Addr) (k c2 : Nat) (ns : List Nat) (at0 : Int) (bt : Nat) (cut : Int) (w : World)
set_option maxRecDepth 100000 in
set_option maxHeartbeats 4000000 in
theorem law_spoilt (hm : vs.length = m) (hz : ZI w p vs) (hvb : ∀ v ∈ vs, -9223372036854775808 ≤ v ∧ v ≤ 9223372036854775807) (hk : ns.length = k) (hq : SlI w .u32 q ns) (hnb : ∀ n ∈ ns, n < 4294967296) (hbt : bt < 256) :
    Calls Tryz.prog 6 #[.int .u64 (a : Nat), .int .u8 (d : Nat), .slice p m c, .slice q k c2, .int .i64 at0, .int .u8 (bt : Nat), .int .i64 cut] w fun e w' => e = .returned (.bool true) ∧ Fr S0 w w' := by
  have HA := Lib.hid (alive19_any w)
  obtain ⟨L, H, D, ⟨l0, lh, hh⟩, ⟨d1, d5⟩, hs, hsh⟩ := wshape_any a d 5000
  have HSH := Lib.hid hsh
  have HR := Lib.hid (fun W (f : Fr S0 w W) => recorded19_any L H D true p m c vs q k c2 ns W d1 d5 l0 lh hh hs hm (hz.fr0 f) hvb hk (hq.fr0 f) hnb)
  obtain ⟨M, eM, hg, ho, hl⟩ := recs19_is (gr := true) d1 d5 l0 lh hh hs vs ns hvb hm
  rw [eM] at HR
  have HPL := Lib.hid (And.intro (plain_len40 hl) (plainB_256 M))
  have HPN : Hid (40 ≤ (plainB M).length) := Lib.hid (by rw [plainB_len]; omega)
  have HLL := Lib.hid hl
  clear hsh l0 lh hh hm hz hvb hk hq hnb eM hs d1 d5 ho
  go_enter Tryz.func6, Tryz.ntmps6
  go_wp2_with fail
  refine HA.out.mono ?_
  rintro e w1 ⟨rfl, f1⟩
  have F1 := Lib.hid f1
  clear f1 HA
  go_wp2_with fail
  refine (HSH.out _).mono ?_
  rintro e w2 ⟨rfl, f2⟩
  have F2 := Lib.hid (F1.out.trans0 f2)
  clear f2 F1 HSH
  go_wp2_with fail
  refine (HR.out _ F2.out).mono ?_
  rintro e w3 ⟨x, h, rfl, s3, -, -, f3⟩
  have F3 := Lib.hid (F2.out.trans0 f3)
  have HWR := Lib.hid (fun W (f : Fr S0 w3 W) => write_any x h M W (s3.fr0 f) (by have := HLL.out; omega))
  obtain ⟨P, eP⟩ : ∃ P, plainB M = P := ⟨_, rfl⟩
  rw [eP] at HPL HWR HPN
  clear s3 f3 F2 HR hl hg eP
  go_wp2_with fail
  refine (HWR.out _ (Fr.refl S0 w3)).mono ?_
  rintro _ w4 ⟨qb, db, rfl, rb, f4⟩
  have F4 := Lib.hid f4
  have HB := Lib.hid rb
  clear rb f4 HWR
  obtain ⟨PN, hPN⟩ : ∃ n, P.length = n := ⟨_, rfl⟩
  rw [hPN] at HB HPL HPN ⊢
  have HLN := Lib.hid hPN
  clear hPN
  have hPb : PN ≤ 850 := HPL.out.1
  go_upto_region 7 with fail
  go_cut [43] (fun v wx => v = .bool (decide (0 ≤ at0 ∧ at0 < (PN : Int))) ∧ wx = w4)
  case first =>
    go_wp2_with fail
    all_goals go_meet
    · exact ⟨by simp_all, rfl⟩
    · exact ⟨by rw [decide_eq_false (by omega)], rfl⟩
  case rest =>
    obtain ⟨rfl, rfl⟩ := hcut
    obtain ⟨g, rfl, -, hd1, hd2⟩ := own_some (by have h := HB.out.own; rw [HLN.out] at h; exact h) (by have := HPN.out; omega)
    go_upto_if 43 with fail
    go_cut [16] (fun vb wx => vb = .slice (some ⟨g, 0, none⟩) PN db ∧ Hid (∃ Q : List Nat, wx.ownsRow 0 5 1 (.slice (some ⟨g, 0, none⟩) PN db) PN (u8s Q) ∧ Q.length = PN ∧ (∀ x ∈ Q, x < 256) ∧ Fr S0 w3 wx))
    case first =>
      by_cases hat : 0 ≤ at0 ∧ at0 < (PN : Int)
      · rw [decide_eq_true hat]
        obtain ⟨K, rfl⟩ : ∃ K : Nat, at0 = K := ⟨at0.toNat, by omega⟩
        obtain ⟨-, hat2⟩ := hat
        have jK : K < PN := by omega
        obtain ⟨v, hv⟩ : ∃ v, P[K]'(by rw [HLN.out]; exact jK) = v := ⟨_, rfl⟩
        have hv8 : v < 256 := by rw [← hv]; exact HPL.out.2 _ (List.getElem_mem _)
        obtain ⟨X, hX⟩ : ∃ X, v ^^^ bt = X := ⟨_, rfl⟩
        have hx : bits .xor .u8 (v : Int) (bt : Int) = ((X : Nat) : Int) := by rw [← hX]; exact u8_xor_nat _ _ hv8 hbt
        have hX8 : X < 256 := by rw [← hX]; exact Nat.xor_lt_two_pow (n := 8) hv8 hbt
        have own := HB.out.own
        rw [HLN.out] at own
        have hc := (SlI.ofOwns own).cells K (by rw [HLN.out]; exact jK)
        rw [hv, Nat.zero_add] at hc
        have hfz : wc.frozen? ⟨g, K, none⟩ = false := by
          rcases own.2 with ⟨e, -⟩ | ⟨g', cap, cur, e, -, hb, -⟩
          · cases e
          · simp only [Value.slice.injEq, Option.some.injEq, Addr.mk.injEq] at e
            obtain ⟨⟨rfl, -⟩, -, rfl⟩ := e
            simp [World.frozen?, hb]
        obtain ⟨ho, hgr⟩ := own.stored K (.int .u8 (X : Nat))
        have HE := Lib.hid (show Hid (∃ Q : List Nat, (wc.setCell ⟨g, K, none⟩ (.int .u8 (X : Nat))).ownsRow 0 5 1 (.slice (some ⟨g, 0, none⟩) PN db) PN (u8s Q) ∧ Q.length = PN ∧ (∀ x ∈ Q, x < 256) ∧ Fr S0 w3 (wc.setCell ⟨g, K, none⟩ (.int .u8 (X : Nat)))) from Lib.hid ⟨P.set K X, by unfold u8s; rw [List.map_set]; exact ho, by rw [List.length_set, HLN.out], fun x hx => (List.mem_or_eq_of_mem_set hx).elim (HPL.out.2 x) (fun e => e ▸ hX8), F4.out.append hgr HB.out.fresh⟩)
        clear own ho hgr hv hX
        go_wp2_with fail
        go_meet
        exact ⟨rfl, HE.out⟩
      · rw [decide_eq_false hat]
        go_wp2_with fail
        go_meet
        exact ⟨rfl, Lib.hid ⟨P, by have h := HB.out.own; rw [HLN.out] at h; exact h, HLN.out, HPL.out.2, F4.out⟩⟩
    case rest =>
      obtain ⟨rfl, HQ⟩ := hcut
      clear F4 HB
      go_upto_region 9 with fail
      go_cut [60] (fun v wx => v = .bool (decide (0 ≤ cut ∧ cut < (PN : Int))) ∧ wx = wc)
      case first =>
        go_wp2_with fail
        all_goals go_meet
        · exact ⟨by simp_all, rfl⟩
        · exact ⟨by rw [decide_eq_false (by omega)], rfl⟩
      case rest =>
        obtain ⟨rfl, rfl⟩ := hcut
        go_upto_if 60 with fail
        go_cut [16] (fun vb wx => (∃ n : Nat, vb = .slice (some ⟨g, 0, none⟩) n db ∧ n ≤ PN) ∧ wx = wc)
        case first =>
          by_cases hcu : 0 ≤ cut ∧ cut < (PN : Int)
          · rw [decide_eq_true hcu]
            obtain ⟨C, rfl⟩ : ∃ C : Nat, cut = C := ⟨cut.toNat, by omega⟩
            obtain ⟨-, hcu2⟩ := hcu
            have hcd : (C : Int) ≤ (db : Int) := by omega
            go_wp2_with fail
            go_meet
            exact ⟨⟨C, rfl, by omega⟩, rfl⟩
          · rw [decide_eq_false hcu]
            go_wp2_with fail
            go_meet
            exact ⟨⟨PN, rfl, Nat.le_refl _⟩, rfl⟩
        case rest =>
          obtain ⟨⟨n, rfl, hn⟩, rfl⟩ := hcut
          obtain ⟨Q, hown, hQl, hQ8, hQf⟩ := HQ.out
          obtain ⟨T, hT⟩ : ∃ T, Q.take n = T := ⟨_, rfl⟩
          have hTl : T.length = n := by rw [← hT, List.length_take]; omega
          have hT8 : ∀ x ∈ T, x < 256 := by rw [← hT]; exact fun x hx => hQ8 x (List.mem_of_mem_take hx)
          have hTs : SlI wc .u8 (some ⟨g, 0, none⟩) T := by rw [← hT]; exact (SlI.ofOwns hown).take n
          have HTS := Lib.hid hTs
          have HTL := Lib.hid hTl
          have FW := Lib.hid (F3.out.trans0 hQf)
          have hPb0 := hPb
          have HRD := Lib.hid (hread_any (some ⟨g, 0, none⟩) n db T wc hTl hTs hT8 (fun h => by cases h) (by omega) hd2 (by omega))
          clear hPb hown hQl hQ8 hQf hT hTl hT8 hTs HQ HPN HPL HLN F3 hd1 HLL
          go_wp2_with fail
          refine HRD.out.mono ?_
          rintro e w5 ⟨f5, ⟨M', gy, hy, rfl, hx2, hi2, -, -⟩ | ⟨hno, rfl⟩⟩
          · have HY := Lib.hid hx2
            have HI := Lib.hid hi2
            have F5 := Lib.hid f5
            clear hx2 hi2 f5 HRD
            have HSH := Lib.hid (xshape_any gy hy M' w5 HY.out)
            go_wp2_with fail
            refine HSH.out.mono ?_
            rintro e w6 ⟨rfl, f6⟩
            have F6 := Lib.hid f6
            clear f6 HSH
            have HT := Lib.hid (fun W (f : Fr S0 w6 W) => (by have h := conv_sl (HTS.out.fr0 ((F5.out.trans0 F6.out).trans0 f)) n db (by rw [HTL.out]; exact Nat.le_refl _); rwa [List.take_of_length_le (by rw [HTL.out]; exact Nat.le_refl _)] at h : (convert 31 9 (.slice (some ⟨g, 0, none⟩) n db)).run Tryz.prog W = .ok (.string (strB T)) W))
            have HBX := box3a w6 (.int .i64 (M'.L : Nat)) (.int .i64 (M'.H : Nat)) (.int .i64 (M'.D : Nat)) 27
            have FB : Fr S0 w6 (w6.alloc (.cells #[.int .i64 (M'.L : Nat), .int .i64 (M'.H : Nat), .int .i64 (M'.D : Nat)] 27)) := Fr.alloc _ _ _
            have HPL := HI.out.pairs
            rw [HTL.out] at HPL
            have HNB := Lib.hid (And.intro hPb0 hn)
            have HYY := Lib.hid (fun W (f : Fr S0 w6 W) => HY.out.fr0 (F6.out.trans0 f))
            go_wp2_with fail
            generalize w6.alloc (.cells #[.int .i64 (M'.L : Nat), .int .i64 (M'.H : Nat), .int .i64 (M'.D : Nat)] 27) = WB at HBX FB ⊢
            obtain ⟨X, hX⟩ : ∃ X, w6.heap.size = X := ⟨_, rfl⟩
            rw [hX] at HBX ⊢
            have HFB := Lib.hid FB
            have HC := Lib.hid (fun W (f : Fr S0 WB W) => And.intro (f.cell HBX.1 fun h => h) (And.intro (f.cell HBX.2.1 fun h => h) (And.intro (f.cell HBX.2.2 fun h => h) (HT.out W (FB.trans0 f)))))
            have HPY := Lib.hid (fun W (f : Fr S0 WB W) => xpairs_any gy hy M' W (HYY.out W (HFB.out.trans0 f)) (by have := HNB.out; omega))
            have HRW := Lib.hid (fun W (pp : Option Addr) (cc nn : Nat) (hp : PrI W pp M'.l) (hn : M'.l.length = nn) => show Calls Tryz.prog 11 #[.int .i64 (M'.L : Nat), .int .i64 (M'.H : Nat), .int .i64 (M'.D : Nat), .slice pp nn cc] W fun e w' => OneNew W w' e T from by
              have hg := HI.out.good
              have h := rwrite19_any M'.L M'.H M'.D pp nn cc M'.l W hp hn hg.upw hg.klt2 (by have := HNB.out; omega) (by have := hg.lh; have := hg.hh; omega) hg.hh (by have := hg.d; omega) (by have := HI.out.len; rw [HTL.out] at this; have := HNB.out; omega)
              rwa [← HI.out.split] at h)
            have FWB : Hid (Fr S0 w WB) := Lib.hid ((FW.out.trans0 (F5.out.trans0 F6.out)).trans0 FB)
            obtain ⟨L', eL⟩ : ∃ L, M'.L = L := ⟨_, rfl⟩
            obtain ⟨R', eR⟩ : ∃ R, M'.H = R := ⟨_, rfl⟩
            obtain ⟨D', eD⟩ : ∃ D, M'.D = D := ⟨_, rfl⟩
            rw [eL, eR, eD] at HC HRW
            clear HBX FB HPL HYY HY HI HT eL eR eD hX HFB F5 F6 HTS HTL FW hn hPb0 HNB
            refine wp_region_noPanic ?_
            refine wp_region_held_drew (S := fun w' => Fr S0 WB w' ∧ w'.cell? ⟨X, 0, none⟩ = some (.int .i64 (L' : Nat)) ∧ w'.cell? ⟨X, 1, none⟩ = some (.int .i64 (R' : Nat)) ∧ w'.cell? ⟨X, 2, none⟩ = some (.int .i64 (D' : Nat)) ∧ (convert 31 9 (.slice (some ⟨g, 0, none⟩) n db)).run Tryz.prog w' = .ok (.string (strB T)) w') (by kernel_rfl) ⟨Fr.drew S0 WB, HC.out _ (Fr.drew S0 WB)⟩ (fun hHeld0 => ?_)
            refine wpAnyH_take (i := 0) (oi := Oper.mk (some 79) _ _ _ _ _) (v := ?_) rfl (by as_aux_lemma => kernel_rfl) (by as_aux_lemma => kernel_rfl) (by as_aux_lemma => kernel_rfl) (fun _ _ _ h => h) (Or.inl ⟨by rfl, ?_⟩) (by assumption) ?_
            rotate_left
            · (intro w hSw; obtain ⟨hf, h0, h1, h2, h3⟩ := hSw; go_simp <;> with_reducible rfl)
            simp only [Act.put, List.setIfInBounds_toArray, List.set_cons_zero, List.set_cons_succ]
            refine wpAnyH_take (i := 1) (oi := Oper.mk (some 80) _ _ _ _ _) (v := ?_) rfl (by as_aux_lemma => kernel_rfl) (by as_aux_lemma => kernel_rfl) (by as_aux_lemma => kernel_rfl) (fun _ _ _ h => h) (Or.inl ⟨by rfl, ?_⟩) (by assumption) ?_
            rotate_left
            · (intro w hSw; obtain ⟨hf, h0, h1, h2, h3⟩ := hSw; go_simp <;> with_reducible rfl)
            simp only [Act.put, List.setIfInBounds_toArray, List.set_cons_zero, List.set_cons_succ]
            refine wpAnyH_take (i := 2) (oi := Oper.mk (some 81) _ _ _ _ _) (v := ?_) rfl (by as_aux_lemma => kernel_rfl) (by as_aux_lemma => kernel_rfl) (by as_aux_lemma => kernel_rfl) (fun _ _ _ h => h) (Or.inl ⟨by rfl, ?_⟩) (by assumption) ?_
            rotate_left
            · (intro w hSw; obtain ⟨hf, h0, h1, h2, h3⟩ := hSw; go_simp <;> with_reducible rfl)
            simp only [Act.put, List.setIfInBounds_toArray, List.set_cons_zero, List.set_cons_succ]
            refine wpAnyH_take (i := 3) (oi := Oper.mk (some 82) _ _ _ _ _) (v := ?_) rfl (by as_aux_lemma => kernel_rfl) (by as_aux_lemma => kernel_rfl) (by as_aux_lemma => kernel_rfl) (fun _ _ _ h => h) (Or.inl ⟨by rfl, ?_⟩) (by assumption) ?_
            rotate_left
            · (intro w hSw; obtain ⟨hf, h0, h1, h2, h3⟩ := hSw; go_simp <;> with_reducible rfl)
            simp only [Act.put, List.setIfInBounds_toArray, List.set_cons_zero, List.set_cons_succ]
            refine wpAnyH_take (i := 4) (oi := Oper.mk (some 83) _ _ _ _ _) (v := ?_) rfl (by as_aux_lemma => kernel_rfl) (by as_aux_lemma => kernel_rfl) (by as_aux_lemma => kernel_rfl) (fun _ _ _ h => h) (Or.inl ⟨by rfl, ?_⟩) (by assumption) ?_
            rotate_left
            · (intro w hSw; obtain ⟨hf, h0, h1, h2, h3⟩ := hSw; go_simp <;> with_reducible rfl)
            simp only [Act.put, List.setIfInBounds_toArray, List.set_cons_zero, List.set_cons_succ]
            refine wpAnyH_take (i := 5) (oi := Oper.mk (some 84) _ _ _ _ _) (v := ?_) rfl (by as_aux_lemma => kernel_rfl) (by as_aux_lemma => kernel_rfl) (by as_aux_lemma => kernel_rfl) (fun _ _ _ h => h) (Or.inl ⟨by rfl, ?_⟩) (by assumption) ?_
            rotate_left
            · (intro w hSw; obtain ⟨hf, h0, h1, h2, h3⟩ := hSw; go_simp <;> with_reducible rfl)
            simp only [Act.put, List.setIfInBounds_toArray, List.set_cons_zero, List.set_cons_succ]
            refine wpAnyH_take (i := 6) (oi := Oper.mk (some 85) _ _ _ _ _) (v := ?_) rfl (by as_aux_lemma => kernel_rfl) (by as_aux_lemma => kernel_rfl) (by as_aux_lemma => kernel_rfl) (fun _ _ _ h => h) (Or.inl ⟨by rfl, ?_⟩) (by assumption) ?_
            rotate_left
            · (intro w hSw; obtain ⟨hf, h0, h1, h2, h3⟩ := hSw; go_simp <;> with_reducible rfl)
            simp only [Act.put, List.setIfInBounds_toArray, List.set_cons_zero, List.set_cons_succ]
            refine wpAnyH_take (i := 10) (oi := Oper.mk (some 89) _ _ _ _ _) (v := ?_) rfl (by as_aux_lemma => kernel_rfl) (by as_aux_lemma => kernel_rfl) (by as_aux_lemma => kernel_rfl) (fun _ _ _ h => h) (Or.inl ⟨by rfl, ?_⟩) (by assumption) ?_
            rotate_left
            · (intro w hSw; obtain ⟨hf, h0, h1, h2, h3⟩ := hSw; go_simp <;> with_reducible rfl)
            simp only [Act.put, List.setIfInBounds_toArray, List.set_cons_zero, List.set_cons_succ]
            refine wpAnyH_take (i := 11) (oi := Oper.mk (some 90) _ _ _ _ _) (v := ?_) rfl (by as_aux_lemma => kernel_rfl) (by as_aux_lemma => kernel_rfl) (by as_aux_lemma => kernel_rfl) (fun _ _ _ h => h) (Or.inl ⟨by rfl, ?_⟩) (by assumption) ?_
            rotate_left
            · (intro w hSw; obtain ⟨hf, h0, h1, h2, h3⟩ := hSw; go_simp <;> with_reducible rfl)
            simp only [Act.put, List.setIfInBounds_toArray, List.set_cons_zero, List.set_cons_succ]
            refine wpAnyH_ready (rs := [7]) (by kernel_rfl) (by simp) (AllReadyH.cons (o := Oper.mk (some 86) _ _ _ _ _) rfl (fun K hK => ?_) AllReadyH.nil)
            go_simp
            go_at_call 13
            refine (HPY.out _ hHeld0.1).mono ?_
            rintro _ v7 ⟨pa, ca, na, rfl, see⟩
            have HSEE := Lib.hid (And.intro see.pri see.len)
            refine hK.out _ _ ⟨hHeld0.1.trans0 see.fr, HC.out _ (hHeld0.1.trans0 see.fr)⟩ (fun hHeld3 => ?_)
            clear hK K hHeld0 see
            try simp only [Act.put, List.setIfInBounds_toArray, List.set_cons_zero, List.set_cons_succ]
            refine wpAnyH_ready (rs := [8]) (by kernel_rfl) (by simp) (AllReadyH.cons (o := Oper.mk (some 87) _ _ _ _ _) rfl (fun K hK => ?_) AllReadyH.nil)
            go_simp
            go_at_call 11
            refine (HRW.out _ _ _ _ HSEE.out.1 HSEE.out.2).mono ?_
            rintro _ v8 ⟨qw, dw, rfl, f, rw3⟩
            have tw := rw3.txt rfl (Fr.refl S0 v8)
            refine hK.out _ _ ⟨hHeld3.1.trans0 f, HC.out _ (hHeld3.1.trans0 f)⟩ (fun hHeld4 => ?_)
            clear hK K hHeld3 f rw3 HSEE
            try simp only [Act.put, List.setIfInBounds_toArray, List.set_cons_zero, List.set_cons_succ]
            refine wpAnyH_ready (rs := [9]) (by kernel_rfl) (by simp) (AllReadyH.cons (o := Oper.mk (some 88) _ _ _ _ _) rfl (fun K hK => ?_) AllReadyH.nil)
            go_simp
            refine hK.out _ _ hHeld4 (fun hHeld5 => ?_)
            clear hK K  hHeld4 tw
            try simp only [Act.put, List.setIfInBounds_toArray, List.set_cons_zero, List.set_cons_succ]
            refine wpAnyH_take (i := 12) (oi := Oper.mk (some 91) _ _ _ _ _) (v := ?_) rfl (by as_aux_lemma => kernel_rfl) (by as_aux_lemma => kernel_rfl) (by as_aux_lemma => kernel_rfl) (fun _ _ _ h => h) (Or.inl ⟨by rfl, ?_⟩) (by assumption) ?_
            rotate_left
            · (intro w hSw; obtain ⟨hf, h0, h1, h2, h3⟩ := hSw; go_simp <;> with_reducible rfl)
            simp only [Act.put, List.setIfInBounds_toArray, List.set_cons_zero, List.set_cons_succ]
            refine wpAnyH_take (i := 13) (oi := Oper.mk (some 14) _ _ _ _ _) (v := ?_) rfl (by as_aux_lemma => kernel_rfl) (by as_aux_lemma => kernel_rfl) (by as_aux_lemma => kernel_rfl) (fun _ _ _ h => h) (Or.inl ⟨by rfl, ?_⟩) (by assumption) ?_
            rotate_left
            · (intro w hSw; obtain ⟨hf, h0, h1, h2, h3⟩ := hSw; go_simp <;> with_reducible rfl)
            simp only [Act.put, List.setIfInBounds_toArray, List.set_cons_zero, List.set_cons_succ]
            have FZ := Lib.hid (FWB.out.trans0 hHeld5.1)
            clear hHeld5
            refine wpAnyH_done (by kernel_rfl) ?_ _
            refine NoPanic.normal ?_
            go_wp2_with fail
            go_ret
            exact ⟨rfl, FZ.out⟩
          · have F5 := Lib.hid (FW.out.trans0 f5)
            clear f5 hno HRD
            go_wp2_with fail
            go_ret
            exact ⟨rfl, F5.out⟩
end
end Go.Proofs.YtnndgpggjlhhpaaGreat
