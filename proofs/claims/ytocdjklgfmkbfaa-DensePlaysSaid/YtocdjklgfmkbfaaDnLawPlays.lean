/- Whatever is counted, taken, dropped and cleared. -/
import Derived.Test.YtocdjklgfmkbfaaDnPlay
import Derived.Deep.CutBlock
import Derived.Deep.DeepCutAuto
import Derived.Deep.CutRange
import Derived.Deep.RegionHeld3
namespace Go.Proofs.Ytocdjklgfmkbfaa
open Go.RowKit

/-- what is done: kind, whom, key, count -/
abbrev It := Nat × Bool × Int × Nat
/-- a slice of these that is read -/
structure OpI (w : World) (p : Option Addr) (l : List It) : Prop where
  len : l.length ≤ maxLen
  cel : l ≠ [] → ∃ b off, p = some ⟨b, off, none⟩ ∧ ∀ i, (h : i < l.length) → w.cell? ⟨b, off + i * 4, none⟩ = some (.int .u8 (l[i].1 : Nat)) ∧ w.cell? ⟨b, off + i * 4 + 1, none⟩ = some (.bool l[i].2.1) ∧
    w.cell? ⟨b, off + i * 4 + 2, none⟩ = some (.int .i64 l[i].2.2.1) ∧ w.cell? ⟨b, off + i * 4 + 3, none⟩ = some (.int .u64 (l[i].2.2.2 : Nat))
theorem OpI.at {w : World} {p : Option Addr} {l : List It} (h : OpI w p l) (i : Nat) (hi : i < l.length) : ∃ b off, p = some ⟨b, off, none⟩ ∧ ∀ W, Fr S0 w W → W.cell? ⟨b, off + i * 4, none⟩ = some (.int .u8 (l[i].1 : Nat)) ∧ W.cell? ⟨b, off + i * 4 + 1, none⟩ = some (.bool l[i].2.1) ∧
    W.cell? ⟨b, off + i * 4 + 2, none⟩ = some (.int .i64 l[i].2.2.1) ∧ W.cell? ⟨b, off + i * 4 + 3, none⟩ = some (.int .u64 (l[i].2.2.2 : Nat)) :=
  let ⟨b, off, hp, hc⟩ := h.cel (by intro e; simp [e] at hi); ⟨b, off, hp, fun _ f => ⟨f.cell (hc i hi).1 (fun h => h), f.cell (hc i hi).2.1 (fun h => h), f.cell (hc i hi).2.2.1 (fun h => h), f.cell (hc i hi).2.2.2 (fun h => h)⟩⟩

/-- a store was turned, and what was read behind it -/
def Turned2 (w w' : World) (g h : Nat) (l : List Pr) : Prop := ∃ W1 W2, Fr S0 w W1 ∧ Turned W1 W2 g h h l ∧ Fr S0 W2 w'
theorem info_prs : (Try.prog.info? 39).map (fun i => (i.zero, i.size, i.bytes)) = some (some (.slice none 0 0), 1, 24) := by kernel_rfl
theorem make_two (w : World) : (Instr.makeSlice 34 (.int .i64 2) (.int .i64 2)).run Try.prog w = .ok (.slice (some ⟨w.heap.size, 0, none⟩) 2 2) (w.alloc (.cells #[.slice none 0 0, .slice none 0 0] 39)) := by
  obtain ⟨i, hi, hz, hs, hb⟩ := info_parts info_prs
  have := run_make w 34 39 i _ Try.underlying34 hi hz .i64 .i64 2 2 (by omega) (by omega) (by rw [hb]; omega) (by omega)
  have e2 : Int.toNat 2 = 2 := by decide
  have e3 : madeCells (Value.slice none 0 0).cells (2 * 1) = #[.slice none 0 0, .slice none 0 0] := by
    apply Array.toList_inj.1
    rw [show (Value.slice none 0 0).cells = #[.slice none 0 0] from rfl, toList_madeCells_one]
    rfl
  rw [this, hs, e2, e3]
theorem Pl.new {w w1 : World} (f : Fr S0 w w1) : Side w ((((w1.alloc (.cells #[.int .i64 0, .int .i64 0, .int .i64 0, .slice none 0 0, .int .i64 0, .int .u64 0] 32)).alloc (.cells #[.int .i64 0, .int .i64 0, .int .i64 0, .slice none 0 0, .int .i64 0, .int .u64 0] 32)).alloc
      (.cells #[.pointer (some ⟨w1.heap.size, 0, none⟩), .pointer (some ⟨w1.heap.size + 1, 0, none⟩)] 24)).alloc (.cells #[.slice none 0 0, .slice none 0 0] 39))
    (w1.heap.size + 1 + 1) (w1.heap.size + 1 + 1 + 1) 0 1 w1.heap.size (w1.heap.size + 1) [] [] [] [] := by
  have hs := f.size
  have e1 := heap_alloc_new w1 (.cells #[.int .i64 0, .int .i64 0, .int .i64 0, .slice none 0 0, .int .i64 0, .int .u64 0] 32)
  generalize hW1 : w1.alloc (.cells #[.int .i64 0, .int .i64 0, .int .i64 0, .slice none 0 0, .int .i64 0, .int .u64 0] 32) = W1 at e1
  have z1 : W1.heap.size = w1.heap.size + 1 := by rw [← hW1, size_alloc]
  have f1 : Fr S0 w1 W1 := by rw [← hW1]; exact Fr.alloc _ _ _
  have e2 := heap_alloc_new W1 (.cells #[.int .i64 0, .int .i64 0, .int .i64 0, .slice none 0 0, .int .i64 0, .int .u64 0] 32)
  generalize hW2 : W1.alloc (.cells #[.int .i64 0, .int .i64 0, .int .i64 0, .slice none 0 0, .int .i64 0, .int .u64 0] 32) = W2 at e2
  have z2 : W2.heap.size = W1.heap.size + 1 := by rw [← hW2, size_alloc]
  have f2 : Fr S0 W1 W2 := by rw [← hW2]; exact Fr.alloc _ _ _
  have e3 := heap_alloc_new W2 (.cells #[.pointer (some ⟨w1.heap.size, 0, none⟩), .pointer (some ⟨w1.heap.size + 1, 0, none⟩)] 24)
  generalize hW3 : W2.alloc (.cells #[.pointer (some ⟨w1.heap.size, 0, none⟩), .pointer (some ⟨w1.heap.size + 1, 0, none⟩)] 24) = W3 at e3
  have z3 : W3.heap.size = W2.heap.size + 1 := by rw [← hW3, size_alloc]
  have f3 : Fr S0 W2 W3 := by rw [← hW3]; exact Fr.alloc _ _ _
  have e4 := heap_alloc_new W3 (.cells #[.slice none 0 0, .slice none 0 0] 39)
  generalize hW4 : W3.alloc (.cells #[.slice none 0 0, .slice none 0 0] 39) = W4 at e4
  have z4 : W4.heap.size = W3.heap.size + 1 := by rw [← hW4, size_alloc]
  have f4 : Fr S0 W3 W4 := by rw [← hW4]; exact Fr.alloc _ _ _
  have k1 := ((f2.trans0 f3).trans0 f4).row e1 (fun h => h)
  have k2 := (f3.trans0 f4).row e2 (fun h => h)
  have k3 := f4.row e3 (fun h => h)
  rw [z1] at k2
  rw [z2, z1] at k3
  rw [z3, z2, z1] at e4
  refine ⟨fun y => if y = w1.heap.size then 0 else if y = w1.heap.size + 1 then 1 else if y = w1.heap.size + 1 + 1 then 3 else 4, 0, 1, w1.heap.size, w1.heap.size + 1, none, 0, 0, none, 0, 0,
    by decide, by decide, by decide, ⟨StIs.zero _ ⟨k1⟩, hs, hs, by omega, if_pos rfl, if_pos rfl⟩, ⟨StIs.zero _ ⟨k2⟩, by omega, by omega, by omega, ?_, ?_⟩, ⟨PrI.nil _ _, fun _ h => by cases h⟩, ⟨PrI.nil _ _, fun _ h => by cases h⟩, rfl, rfl, ?_, ?_, by omega, by omega, by decide, ⟨_, k3, rfl, rfl⟩, ⟨_, e4, rfl, rfl⟩, (((f.trans0 f1).trans0 f2).trans0 f3).trans0 f4⟩
  · exact (if_neg (by omega)).trans (if_pos rfl)
  · exact (if_neg (by omega)).trans (if_pos rfl)
  · exact (if_neg (by omega)).trans ((if_neg (by omega)).trans (if_pos rfl))
  · exact (if_neg (by omega)).trans ((if_neg (by omega)).trans (if_neg (by omega)))

set_option maxRecDepth 100000 in
set_option maxHeartbeats 4000000 in
theorem law_plays (p : Option Addr) (c m : Nat) (l : List It) (w : World) (hm : l.length = m) (h : OpI w p l) (h64 : ∀ x ∈ l, x.1 < 256 ∧ x.2.2.2 < 18446744073709551616) :
    Calls Try.prog 3 #[.slice p m c] w fun e w' => e = .returned (.bool true) ∧ Fr S0 w w' := by
  have hw := start w
  have H := Lib.hid h
  have H64 := Lib.hid h64
  have HM := Lib.hid hm
  have hlen := h.len
  rw [hm] at hlen
  unfold maxLen at hlen
  clear h h64 hm
  go_enter Try.func3, Try.ntmps3
  go_wp2_with fail
  refine hw _ ?_
  intro w1 f1
  clear hw
  have hmk := make_two
  have P0 := Lib.hid (Pl.new f1)
  clear f1
  go_wp2_with fail
  clear hmk
  obtain ⟨g1, hg1⟩ : ∃ g, w1.heap.size = g := ⟨_, rfl⟩
  obtain ⟨g2, hg2⟩ : ∃ g, g1 + 1 = g := ⟨_, rfl⟩
  obtain ⟨gs, hgs⟩ : ∃ g, g2 + 1 = g := ⟨_, rfl⟩
  obtain ⟨gw, hgw⟩ : ∃ g, gs + 1 = g := ⟨_, rfl⟩
  rw [hg1, hg2, hgs, hgw] at P0 ⊢
  clear hg1 hg2 hgs hgw
  generalize (((w1.alloc (.cells #[.int .i64 0, .int .i64 0, .int .i64 0, .slice none 0 0, .int .i64 0, .int .u64 0] 32)).alloc (.cells #[.int .i64 0, .int .i64 0, .int .i64 0, .slice none 0 0, .int .i64 0, .int .u64 0] 32)).alloc
      (.cells #[.pointer (some ⟨g1, 0, none⟩), .pointer (some ⟨g2, 0, none⟩)] 24)).alloc (.cells #[.slice none 0 0, .slice none 0 0] 39) = w2 at P0 ⊢
  go_loopw [5, 6, 7, 8, 9, 10, 11, 12, 13] (fun x _ _ _ _ _ _ _ _ wr => ∃ (k : Nat) (l1 l2 : List Pr), k ≤ m ∧ k ≤ 60 ∧ x = .int .i64 k ∧ Hid (Side w wr gs gw 0 1 g1 g2 l1 l2 l1 l2)) (fun x _ _ _ _ _ _ _ _ _ => m - (intOf x).toNat)
  case atStart => exact ⟨0, [], [], by omega, by omega, rfl, P0⟩
  case round =>
    clear P0
    obtain ⟨k, l1, l2, hk, hk60, rfl, hd⟩ := hrel
    by_cases hkm : (k : Int) < (m : Int)
    · by_cases hk6 : (k : Int) < 60
      · have hkl : k < l.length := by rw [HM.out]; omega
        have hb64 := H64.out _ (List.getElem_mem hkl)
        obtain ⟨bb, oo, rfl, hcells⟩ := H.out.at k hkl
        have HC := Lib.hid hcells
        obtain ⟨⟨kd, who, ky, n⟩, ht⟩ : ∃ t, l[k] = t := ⟨_, rfl⟩
        rw [ht] at HC hb64
        simp only at HC hb64
        clear ht hkl hcells
        obtain ⟨a, b, gA, gB, sA, sB, hw1, hw0, hab, hsd, hback⟩ : ∃ (a b gA gB : Nat) (sA sB : List Pr), (who = true → a = 1) ∧ (who = false → a = 0) ∧ a + b = 1 ∧ Side w wr gs gw a b gA gB sA sB sA sB ∧
            ∀ W s', Side w W gs gw a b gA gB s' sB s' sB → ∃ l1' l2', Side w W gs gw 0 1 g1 g2 l1' l2' l1' l2' := by
          cases who with
          | true => exact ⟨1, 0, g2, g1, l2, l1, fun _ => rfl, (fun h => (by cases h)), rfl, hd.out.swap, fun W s' h => ⟨_, _, h.swap⟩⟩
          | false => exact ⟨0, 1, g1, g2, l1, l2, (fun h => (by cases h)), fun _ => rfl, rfl, hd.out, fun W s' h => ⟨_, _, h⟩⟩
        have HBACK := Lib.hid hback
        have HWHO := Lib.hid (And.intro hw1 hw0)
        have HSD := Lib.hid hsd
        obtain ⟨c0, c1, c2, c3⟩ := HC.out wr hsd.fr
        have ea : (1 : Int) - (a : Int) = (b : Int) := by omega
        have ha2 : (a : Int) < 2 := by omega
        have hb2 : (b : Int) < 2 := by omega
        obtain ⟨r, hr⟩ : ∃ r, kd % 7 = r := ⟨_, rfl⟩
        have er : (kd : Int) % 7 = (r : Int) := by omega
        have er2 : (kd : Int).tmod 7 = (r : Int) := by rw [Int.tmod_eq_emod_of_nonneg (by omega)]; omega
        have hr7 : r < 7 := by omega
        have hn64 := hb64.2
        clear hd hw1 hw0 hback hsd hr hb64 l1 l2
        go_upto_if 36 with fail
        go_cut [6] from 36 to 36 (fun x6 wx => x6 = .int .i64 (a : Int) ∧ wr = wx)
        case first =>
          cases who with
          | true =>
            obtain rfl : a = 1 := HWHO.out.1 rfl
            go_wp2_with fail
            go_meet
            exact ⟨rfl, rfl⟩
          | false =>
            obtain rfl : a = 0 := HWHO.out.2 rfl
            go_wp2_with fail
            go_meet
            exact ⟨rfl, rfl⟩
        case rest =>
          obtain ⟨rfl, rfl⟩ := hcut
          clear c1 HWHO
          go_upto_block 2 with fail
          obtain ⟨own, iA, iB, hA, hB, pA, nA, cA, pB, nB, cB, hP⟩ := HSD.out
          have HP := Lib.hid hP
          clear hP HSD
          go_cut [6, 7, 8, 9, 10, 11, 12, 13] from 22 to 171 (fun _ _ _ _ _ _ _ _ wx => ∃ s', Side w wx gs gw a b gA gB s' sB s' sB)
          case first =>
            clear HBACK
            go_upto_if 53 with fail
            go_cut [53] from 55 to 56 (fun x wx => ∃ z : Bool, x = .bool z ∧ Hid (z = decide (r < 3)) ∧ wr = wx)
            case first =>
              clear HP c0 c2 c3
              rcases (by omega : r = 0 ∨ r = 1 ∨ r = 2 ∨ r = 3 ∨ r = 4 ∨ r = 5 ∨ r = 6) with rfl | rfl | rfl | rfl | rfl | rfl | rfl
              all_goals
                go_wp2_with fail
                go_meet
                exact ⟨_, rfl, Lib.hid (by decide), rfl⟩
            case rest =>
              obtain ⟨z, rfl, hz, rfl⟩ := hcut
              by_cases hr3 : r < 3
              · obtain rfl : z = true := hz.out.trans (decide_eq_true hr3)
                clear hr3 hz
                obtain ⟨E, hE⟩ : ∃ E, addE sA ky n = E := ⟨_, rfl⟩
                obtain ⟨s', hs'⟩ : ∃ s', addL sA ky n = s' := ⟨_, rfl⟩
                have HADD := Lib.hid (fun W (f : Fr S0 wr W) => (HP.out.fr0 f).stA.add ky n E s' hn64 hE hs')
                have HRA : Hid (∀ W, PrI W pA sA → Calls Try.prog 9 #[.slice pA nA cA, .int .i64 ky, .int .u64 (n : Nat), .int .i64 8192] W fun e w' => ∃ v, e = .returned (.tuple #[v, .int .i64 (E : Nat)]) ∧ Got W w' pA v s') := Lib.hid fun W hp => by
                  have := radd_any pA nA cA n ky sA W hp HP.out.eA HP.out.stA.is.ok hn64
                  rwa [hE, hs'] at this
                have d0 := HP.out.csA
                clear hE hs'
                go_wp2_with fail
                go_still_tail 14, (by kernel_rfl)
                obtain ⟨V1, hV1, v1⟩ := drewFr wr
                change wpList _ _ _ _ _ wr.drew
                rw [hV1]
                have HA1 := Lib.hid (HADD.out V1 v1)
                have HP1 := Lib.hid (HP.out.fr0 v1)
                clear hV1 v1 HADD d0 c0 c2 c3
                go_wp2_with fail
                refine HA1.out.mono ?_
                rintro e V2 ⟨rfl, h2, t2⟩
                have HP2 := Lib.hid (HP1.out.turn t2)
                obtain ⟨-, -, c2, c3⟩ := HC.out V2 HP2.out.fr
                have d1 := HP2.out.cwA
                clear HA1 HP1 t2
                generalize hue own iA hA h2 = own2 at HP2
                go_upto_region 19 with fail
                go_cut [9, 10] from 72 to 89 (fun x9 x10 wx => x10 = .int .i64 (E : Int) ∧ Got V2 wx pA x9 s')
                case first =>
                  go_region_held3 (fun w' => w'.cell? ⟨gw, a, none⟩ = some (.slice pA nA cA) ∧ w'.cell? ⟨bb, oo + k * 4 + 2, none⟩ = some (.int .i64 ky) ∧ w'.cell? ⟨bb, oo + k * 4 + 3, none⟩ = some (.int .u64 (n : Int)))
                    (first
                      | (go_split_ands; exact ⟨by assumption, by assumption, by assumption⟩)
                      | (go_split_ands; exact ⟨f9.cell (by assumption) (fun h => h), f9.cell (by assumption) (fun h => h), f9.cell (by assumption) (fun h => h)⟩))
                    (first | (go_at_call 9; ((with_reducible refine (HRA.out _ (HP2.out.lA.pri.fr0 (Fr.drew _ _))).mono ?_); rintro e w5 ⟨v5, rfl, g5⟩; have f9 := g5.fr; have HG5 := Lib.hid (g5.from (Fr.drew S0 V2)); clear g5)))
                  all_goals
                    go_wp2_with fail
                    go_meet
                    exact ⟨rfl, HG5.out⟩
                case rest =>
                  obtain ⟨rfl, hgot⟩ := hcut
                  have HP3 := Lib.hid (HP2.out.dye hgot.fr)
                  obtain ⟨q', n', d', rfl, hn', hls⟩ := HP2.out.lA.got hgot
                  have HP4 := Lib.hid (HP3.out.set hls hn' (c := d'))
                  have d2 := HP3.out.cwA
                  have z2 := HP3.out.zwA a
                  clear hgot hn' hls HP2 HP3 c2 c3 d1 HRA
                  go_wp2_with fail
                  go_meet
                  exact ⟨s', HP4.out.side⟩
              obtain rfl : z = false := hz.out.trans (decide_eq_false hr3)
              clear hz
              rcases (by omega : r = 3 ∨ r = 4 ∨ r = 5 ∨ r = 6) with rfl | rfl | rfl | rfl
              · obtain ⟨E, hE⟩ : ∃ E, takeE sA sB = E := ⟨_, rfl⟩
                obtain ⟨s', hs'⟩ : ∃ s', takeL sA sB = s' := ⟨_, rfl⟩
                have HTK : Hid (∀ W, Fr S0 wr W → Calls Try.prog 10 #[.pointer (some ⟨gA, 0, none⟩), .pointer (some ⟨gB, 0, none⟩)] W fun e w' => e = .returned (.int .i64 (E : Nat)) ∧ ∃ h', Turned W w' gA hA h' s') := Lib.hid fun W f => by
                  have Q := HP.out.fr0 f
                  obtain ⟨e1, e2, e3, e4⟩ := Q.stA.apart Q.stB Q.ne
                  have := take_other gA hA gB hB sA sB W Q.stA.is Q.stB.is e1 e2 e3 e4
                  rwa [hE, hs'] at this
                have HRT : Hid (∀ W, PrI W pA sA → PrI W pB sB → Calls Try.prog 11 #[.slice pA nA cA, .slice pB nB cB, .int .i64 8192] W fun e w' => ∃ v, e = .returned (.tuple #[v, .int .i64 (E : Nat)]) ∧ Got W w' pA v s') := Lib.hid fun W hp hp2 => by
                  have := rtake_any pA pB nA nB cA cB sA sB W hp HP.out.eA HP.out.stA.is.ok hp2 HP.out.eB HP.out.stB.is.ok
                  rwa [hE, hs'] at this
                have d0 := HP.out.csA
                have d0' := HP.out.swap.csA
                clear hE hs'
                go_wp2_with fail
                go_still_tail 8, (by kernel_rfl)
                obtain ⟨V1, hV1, v1⟩ := drewFr wr
                change wpList _ _ _ _ _ wr.drew
                rw [hV1]
                have HA1 := Lib.hid (HTK.out V1 v1)
                have HP1 := Lib.hid (HP.out.fr0 v1)
                clear hV1 v1 HTK d0 d0' c0 c2 c3
                go_wp2_with fail
                refine HA1.out.mono ?_
                rintro e V2 ⟨rfl, h2, t2⟩
                have HP2 := Lib.hid (HP1.out.turn t2)
                have d1 := HP2.out.cwA
                have d1' := HP2.out.swap.cwA
                clear HA1 HP1 t2
                generalize hue own iA hA h2 = own2 at HP2
                go_upto_region 28 with fail
                go_cut [12, 13] from 117 to 128 (fun x12 x13 wx => x13 = .int .i64 (E : Int) ∧ Got V2 wx pA x12 s')
                case first =>
                  go_region_held3 (fun w' => w'.cell? ⟨gw, a, none⟩ = some (.slice pA nA cA) ∧ w'.cell? ⟨gw, b, none⟩ = some (.slice pB nB cB))
                    (first
                      | (go_split_ands; exact ⟨by assumption, by assumption⟩)
                      | (go_split_ands; exact ⟨f9.cell (by assumption) (fun h => h), f9.cell (by assumption) (fun h => h)⟩))
                    (first | (go_at_call 11; ((with_reducible refine (HRT.out _ (HP2.out.lA.pri.fr0 (Fr.drew _ _)) (HP2.out.lB.pri.fr0 (Fr.drew _ _))).mono ?_); rintro e w5 ⟨v5, rfl, g5⟩; have f9 := g5.fr; have HG5 := Lib.hid (g5.from (Fr.drew S0 V2)); clear g5)))
                  all_goals
                    go_wp2_with fail
                    go_meet
                    exact ⟨rfl, HG5.out⟩
                case rest =>
                  obtain ⟨rfl, hgot⟩ := hcut
                  have HP3 := Lib.hid (HP2.out.dye hgot.fr)
                  obtain ⟨q', n', d', rfl, hn', hls⟩ := HP2.out.lA.got hgot
                  have HP4 := Lib.hid (HP3.out.set hls hn' (c := d'))
                  have d2 := HP3.out.cwA
                  have z2 := HP3.out.zwA a
                  clear hgot hn' hls HP2 HP3 d1 d1' HRT
                  go_wp2_with fail
                  go_meet
                  exact ⟨s', HP4.out.side⟩
              · obtain ⟨E, hE⟩ : ∃ E, takeE sA sA = E := ⟨_, rfl⟩
                obtain ⟨s', hs'⟩ : ∃ s', takeL sA sA = s' := ⟨_, rfl⟩
                have HTK : Hid (∀ W, Fr S0 wr W → Calls Try.prog 10 #[.pointer (some ⟨gA, 0, none⟩), .pointer (some ⟨gA, 0, none⟩)] W fun e w' => e = .returned (.int .i64 (E : Nat)) ∧ ∃ h', Turned W w' gA hA h' s') := Lib.hid fun W f => by
                  have := take_self gA hA sA W (HP.out.fr0 f).stA.is
                  rwa [hE, hs'] at this
                have HRT : Hid (∀ W, PrI W pA sA → Calls Try.prog 11 #[.slice pA nA cA, .slice pA nA cA, .int .i64 8192] W fun e w' => ∃ v, e = .returned (.tuple #[v, .int .i64 (E : Nat)]) ∧ Got W w' pA v s') := Lib.hid fun W hp => by
                  have := rtake_any pA pA nA nA cA cA sA sA W hp HP.out.eA HP.out.stA.is.ok hp HP.out.eA HP.out.stA.is.ok
                  rwa [hE, hs'] at this
                have d0 := HP.out.csA
                clear hE hs'
                go_wp2_with fail
                go_still_tail 8, (by kernel_rfl)
                obtain ⟨V1, hV1, v1⟩ := drewFr wr
                change wpList _ _ _ _ _ wr.drew
                rw [hV1]
                have HA1 := Lib.hid (HTK.out V1 v1)
                have HP1 := Lib.hid (HP.out.fr0 v1)
                clear hV1 v1 HTK d0  c0 c2 c3
                go_wp2_with fail
                refine HA1.out.mono ?_
                rintro e V2 ⟨rfl, h2, t2⟩
                have HP2 := Lib.hid (HP1.out.turn t2)
                have d1 := HP2.out.cwA
                clear HA1 HP1 t2
                generalize hue own iA hA h2 = own2 at HP2
                go_upto_region 28 with fail
                go_cut [12, 13] from 117 to 128 (fun x12 x13 wx => x13 = .int .i64 (E : Int) ∧ Got V2 wx pA x12 s')
                case first =>
                  go_region_held3 (fun w' => w'.cell? ⟨gw, a, none⟩ = some (.slice pA nA cA) ∧ w'.cell? ⟨gw, a, none⟩ = some (.slice pA nA cA))
                    (first
                      | (go_split_ands; exact ⟨by assumption, by assumption⟩)
                      | (go_split_ands; exact ⟨f9.cell (by assumption) (fun h => h), f9.cell (by assumption) (fun h => h)⟩))
                    (first | (go_at_call 11; ((with_reducible refine (HRT.out _ (HP2.out.lA.pri.fr0 (Fr.drew _ _))).mono ?_); rintro e w5 ⟨v5, rfl, g5⟩; have f9 := g5.fr; have HG5 := Lib.hid (g5.from (Fr.drew S0 V2)); clear g5)))
                  all_goals
                    go_wp2_with fail
                    go_meet
                    exact ⟨rfl, HG5.out⟩
                case rest =>
                  obtain ⟨rfl, hgot⟩ := hcut
                  have HP3 := Lib.hid (HP2.out.dye hgot.fr)
                  obtain ⟨q', n', d', rfl, hn', hls⟩ := HP2.out.lA.got hgot
                  have HP4 := Lib.hid (HP3.out.set hls hn' (c := d'))
                  have d2 := HP3.out.cwA
                  have z2 := HP3.out.zwA a
                  clear hgot hn' hls HP2 HP3 d1  HRT
                  go_wp2_with fail
                  go_meet
                  exact ⟨s', HP4.out.side⟩
              · obtain ⟨V, hV⟩ : ∃ V, cnt sA ky = V := ⟨_, rfl⟩
                obtain ⟨s', hs'⟩ : ∃ s', lwout sA ky = s' := ⟨_, rfl⟩
                have HDR : Hid (∀ W, Fr S0 wr W → Calls Try.prog 12 #[.pointer (some ⟨gA, 0, none⟩), .int .i64 ky] W fun e w' => e = .returned (.int .u64 (V : Nat)) ∧ Turned W w' gA hA hA s') := Lib.hid fun W f => by
                  have := drop_any gA hA ky sA W (HP.out.fr0 f).stA.is
                  rwa [hV, hs'] at this
                have HCT : Hid (∀ W, PrI W pA sA → Calls Try.prog 13 #[.slice pA nA cA, .int .i64 ky] W fun e w' => e = .returned (.int .u64 (V : Nat)) ∧ Fr S0 W w') := Lib.hid fun W hp => by
                  have := rcount_any pA nA cA ky sA W hp HP.out.eA
                  rwa [hV] at this
                have HWO : Hid (∀ W, PrI W pA sA → Calls Try.prog 14 #[.slice pA nA cA, .int .i64 ky] W fun e w' => ∃ v, e = .returned v ∧ Got W w' pA v s') := Lib.hid fun W hp => by
                  have h1 := HP.out.stA.is.ok
                  have h2 := h1.len
                  have h3 := (h1.wout ky).len
                  refine (rwithout_any pA nA cA ky sA W hp HP.out.eA (by have := HP.out.eA; omega)).mono fun e w' he => ?_
                  obtain ⟨v, N, e1, ha⟩ := he
                  rw [hs'] at ha h3
                  exact ⟨v, e1, ha.got pA (by omega) (Fr.refl _ _)⟩
                have d0 := HP.out.csA
                have d1 := HP.out.cwA
                clear hV hs'
                go_upto_region 33 with fail
                go_cut [158] from 138 to 157 (fun x wx => x = .bool false ∧ Turned2 wr wx gA hA s')
                case first =>
                  go_region_held3 (fun w' => w'.cell? ⟨gs, a, none⟩ = some (.pointer (some ⟨gA, 0, none⟩)) ∧ w'.cell? ⟨gw, a, none⟩ = some (.slice pA nA cA) ∧ w'.cell? ⟨bb, oo + k * 4 + 2, none⟩ = some (.int .i64 ky))
                    (first
                      | (go_split_ands; exact ⟨by assumption, by assumption, by assumption⟩)
                      | (go_split_ands; exact ⟨f9.cell (by assumption) (fun h => h), f9.cell (by assumption) (fun h => h), f9.cell (by assumption) (fun h => h)⟩)
                      | exact ⟨HP3.out.csA, HP3.out.cwA, (HC.out _ HP3.out.fr).2.2.1⟩)
                    (first
                      | (go_at_call 12; ((with_reducible refine (HDR.out _ (Fr.drew _ _)).mono ?_); rintro _ w3 ⟨rfl, t3⟩; have HT3 := Lib.hid t3; have HP3 := Lib.hid ((HP.out.fr0 (Fr.drew S0 wr)).turn t3); clear t3))
                      | (go_at_call 13; ((with_reducible refine (HCT.out _ HP3.out.lA.pri).mono ?_); rintro _ w4 ⟨rfl, f9⟩; have HF9 := Lib.hid f9)))
                  all_goals
                    go_wp2_with fail
                    go_meet
                    exact ⟨by simp, _, _, Fr.drew _ _, HT3.out, HF9.out⟩
                case rest =>
                  obtain ⟨rfl, W1, W2, fx, tx, fy⟩ := hcut
                  have HP3 := Lib.hid (((HP.out.fr0 fx).turn tx).fr0 fy)
                  clear fx tx fy d0 d1 HDR HCT c0 c2 c3
                  generalize hue own iA hA hA = own2 at HP3
                  obtain ⟨-, -, c2, -⟩ := HC.out _ HP3.out.fr
                  have d1 := HP3.out.cwA
                  go_upto_region 35 with fail
                  go_region_law (go_simp; go_at_call 14; refine (HWO.out _ (HP3.out.lA.pri.fr0 (Fr.drew _ _))).mono ?_; rintro e w5 ⟨v5, rfl, g5⟩; have HP5 := Lib.hid ((HP3.out.fr0 (Fr.drew S0 _)).dye g5.fr); obtain ⟨q', n', d', rfl, hn', hls⟩ := (HP3.out.lA.fr0 (Fr.drew S0 _)).got g5; have HP6 := Lib.hid (HP5.out.set hls hn' (c := d')); have d5 := HP5.out.cwA; have z5 := HP5.out.zwA a; clear g5 hls hn'; dsimp only)
                  all_goals
                    go_wp2_with fail
                    go_meet
                    exact ⟨s', HP6.out.side⟩
              · have HCL := Lib.hid (clear_any gA hA sA wr HP.out.stA.is)
                have d0 := HP.out.csA
                go_wp2_with fail
                refine HCL.out.mono ?_
                rintro e V2 ⟨rfl, t2⟩
                have HP2 := Lib.hid (HP.out.turn t2)
                clear HCL t2 d0 c0 c2 c3
                generalize hue own iA hA hA = own2 at HP2
                have d2 := HP2.out.cwA
                have z2 := HP2.out.zwA a
                have HP4 := Lib.hid (HP2.out.set (Ls.nil _ _ _) rfl (c := 0))
                clear HP2
                go_wp2_with fail
                go_meet
                exact ⟨[], HP4.out.side⟩
          case rest =>
            obtain ⟨s', hside⟩ := hcut
            obtain ⟨l1', l2', hside⟩ := HBACK.out _ s' hside
            have HSI := Lib.hid hside
            obtain ⟨own3, iA3, iB3, hA3, hB3, pA3, nA3, cA3, pB3, nB3, cB3, hP3⟩ := hside
            have HP3 := Lib.hid hP3
            obtain ⟨-, -, c2, -⟩ := HC.out _ hP3.fr
            have x0 := hP3.csA
            have x1 := hP3.swap.csA
            have y0 := hP3.cwA
            have y1 := hP3.swap.cwA
            have HS1 := Lib.hid (fun W (f : Fr S0 wc W) => same_any g1 hA3 nA3 cA3 pA3 ky l1' W (HP3.out.stA.is.fr0 f) (HP3.out.lA.pri.fr0 f) HP3.out.eA)
            have HS2 := Lib.hid (fun W (f : Fr S0 wc W) => same_any g2 hB3 nB3 cB3 pB3 ky l2' W (HP3.out.stB.is.fr0 f) (HP3.out.lB.pri.fr0 f) HP3.out.eB)
            clear hP3 HBACK HP c0 c3
            go_upto_region 36 with fail
            go_cut [199] from 172 to 198 (fun x wx => x = .bool false ∧ Fr S0 wc wx)
            case first =>
              go_region_held3 (fun w' => w'.cell? ⟨gs, 0, none⟩ = some (.pointer (some ⟨g1, 0, none⟩)) ∧ w'.cell? ⟨gs, 1, none⟩ = some (.pointer (some ⟨g2, 0, none⟩)) ∧ w'.cell? ⟨gw, 0, none⟩ = some (.slice pA3 nA3 cA3) ∧ w'.cell? ⟨gw, 1, none⟩ = some (.slice pB3 nB3 cB3) ∧ w'.cell? ⟨bb, oo + k * 4 + 2, none⟩ = some (.int .i64 ky))
                (first
                  | (go_split_ands; exact ⟨by assumption, by assumption, by assumption, by assumption, by assumption⟩)
                  | (go_split_ands; exact ⟨f9.cell (by assumption) (fun h => h), f9.cell (by assumption) (fun h => h), f9.cell (by assumption) (fun h => h), f9.cell (by assumption) (fun h => h), f9.cell (by assumption) (fun h => h)⟩))
                (first
                  | (go_at_call 16; ((with_reducible refine (HS1.out _ (Fr.drew _ _)).mono ?_); rintro _ w3 ⟨rfl, f9⟩; have HF3 := Lib.hid ((Fr.drew S0 wc).trans0 f9)))
                  | (go_at_call 16; ((with_reducible refine (HS2.out _ HF3.out).mono ?_); rintro _ w4 ⟨rfl, f9⟩; have HF4 := Lib.hid (HF3.out.trans0 f9))))
              all_goals
                go_wp2_with fail
                go_meet
                exact ⟨rfl, HF4.out⟩
            case rest =>
              obtain ⟨rfl, fz⟩ := hcut
              have HSZ := Lib.hid (HSI.out.fr0 fz)
              clear fz HSI HP3 HS1 HS2 x0 x1 y0 y1 c2
              go_wp2_with fail
              go_roundw
              case rel => exact ⟨k + 1, l1', l2', by omega, by omega, by go_num, HSZ⟩
              case measure => simp [intOf]; omega
      · have hk6' : decide ((k : Int) < 60) = false := decide_eq_false hk6
        obtain ⟨own3, iA3, iB3, hA3, hB3, pA3, nA3, cA3, pB3, nB3, cB3, hP3⟩ := hd.out
        have x0 := hP3.csA
        have HF := Lib.hid hP3.fr
        have HTN := Lib.hid (fun W => take_nil g1 W)
        clear hP3 hd
        go_wp2_with fail
        refine (HTN.out _).mono ?_
        rintro e w4 ⟨rfl, f4⟩
        clear HTN
        go_wp2_with fail
        go_ret
        exact ⟨rfl, HF.out.trans0 f4⟩
    · obtain ⟨own3, iA3, iB3, hA3, hB3, pA3, nA3, cA3, pB3, nB3, cB3, hP3⟩ := hd.out
      have x0 := hP3.csA
      have HF := Lib.hid hP3.fr
      have HTN := Lib.hid (fun W => take_nil g1 W)
      clear hP3 hd
      go_wp2_with fail
      refine (HTN.out _).mono ?_
      rintro e w4 ⟨rfl, f4⟩
      clear HTN
      go_wp2_with fail
      go_ret
      exact ⟨rfl, HF.out.trans0 f4⟩
end Go.Proofs.Ytocdjklgfmkbfaa
