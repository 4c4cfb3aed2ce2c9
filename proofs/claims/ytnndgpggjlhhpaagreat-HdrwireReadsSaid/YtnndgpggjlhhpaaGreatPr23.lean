/- InfTwo -/
import Derived.Test.YtnndgpggjlhhpaaGreatPr1
import Derived.Test.YtnndgpggjlhhpaaGreatPr2
import Derived.Test.YtnndgpggjlhhpaaGreatPr15
import Derived.Test.YtnndgpggjlhhpaaGreatPr20
import Derived.Test.YtnndgpggjlhhpaaGreatPr22
import Derived.Laws.Tables
import Derived.Defers
import Derived.Recover
import Derived.StillTailTactics
import Derived.BigRegion
import Derived.Deep.RegionHeld3
import Derived.Laws.MakeOwn
import Derived.Laws.OwnMore
import Derived.IntWalk
import Derived.Lib.MakeNoZero
import Derived.Laws.CopyOwn
import Derived.WalkKit
import Derived.WalkSpells
import Derived.WalkLawsBesides
import Derived.Deep.QuietTactic
import Derived.BigQuiet
import Derived.RegionTactic
import Derived.Deep.AppendLies
import Derived.Deep.RegionLaw
import Derived.Laws.ResultCell
import Derived.Laws.EntriesVeiled
import Derived.Lib.Hide
import Derived.Test.YtnndgpggjlhhpaaGreatRows
import Derived.Laws.BytesArg
import Derived.Lib.SlBytesConst
import Derived.Maps.AppendAt
import Derived.Laws.AppendOwnNone
set_option maxRecDepth 100000
set_option maxHeartbeats 8000000
namespace Go.Proofs.YtnndgpggjlhhpaaGreat
open Go.RowKit
def zero19 : Array Value := #[.int .u8 0, .int .u8 0, .int .u8 0, .int .u8 0, .int .u8 0, .int .u8 0, .int .u8 0, .int .u8 0, .int .u8 0, .int .u8 0, .int .u8 0, .int .u8 0, .int .u8 0, .int .u8 0, .int .u8 0, .int .u8 0, .int .u8 0, .int .u8 0, .int .u8 0]
def zord : Array Value := #[.int .i64 0, .int .i64 0, .int .i64 0, .int .i64 0, .int .i64 0, .int .i64 0, .int .i64 0, .int .i64 0, .int .i64 0, .int .i64 0, .int .i64 0, .int .i64 0, .int .i64 0, .int .i64 0, .int .i64 0, .int .i64 0, .int .i64 0, .int .i64 0, .int .i64 0]
def ordC : Array Value := #[.int .i64 16, .int .i64 17, .int .i64 18, .int .i64 0, .int .i64 8, .int .i64 7, .int .i64 9, .int .i64 6, .int .i64 10, .int .i64 5, .int .i64 11, .int .i64 4, .int .i64 12, .int .i64 3, .int .i64 13, .int .i64 2, .int .i64 14, .int .i64 1, .int .i64 15]
theorem ordC_eq : ordC.toList = order.map fun (x : Nat) => Value.int .i64 (x : Int) := rfl
theorem zero19_eq : zero19 = (u8s (List.replicate 19 0)).toArray := rfl
theorem built_ord : Program.built Tryz.prog 293 [(0, .int .i64 16), (1, .int .i64 17), (2, .int .i64 18), (3, .int .i64 0), (4, .int .i64 8), (5, .int .i64 7), (6, .int .i64 9), (7, .int .i64 6), (8, .int .i64 10), (9, .int .i64 5), (10, .int .i64 11), (11, .int .i64 4), (12, .int .i64 12), (13, .int .i64 3), (14, .int .i64 13), (15, .int .i64 2), (16, .int .i64 14), (17, .int .i64 1), (18, .int .i64 15)] = some ordC := by kernel_rfl
def partsOrd : Array (Nat × Operand) := #[(0, .const (.int .i64 16)), (1, .const (.int .i64 17)), (2, .const (.int .i64 18)), (3, .const (.int .i64 0)), (4, .const (.int .i64 8)), (5, .const (.int .i64 7)), (6, .const (.int .i64 9)), (7, .const (.int .i64 6)), (8, .const (.int .i64 10)), (9, .const (.int .i64 5)), (10, .const (.int .i64 11)), (11, .const (.int .i64 4)), (12, .const (.int .i64 12)), (13, .const (.int .i64 3)), (14, .const (.int .i64 13)), (15, .const (.int .i64 2)), (16, .const (.int .i64 14)), (17, .const (.int .i64 1)), (18, .const (.int .i64 15))]
theorem build_ord {ops : Array Oper} {rest : List Oper} {o : Oper} {a : Act} {w : World} {Q : Exit → Act → World → Prop} (hg : o.guard = none) (ho : o.op = .build 293 partsOrd)
    (h : wpList Tryz.prog ops Q rest (a.put o.dst (.agg ordC)) w) : wpList Tryz.prog ops Q (o :: rest) a w := by
  have e : Program.built Tryz.prog 293 (partsOrd.map fun (i, x) => (i, a.eval x)).toList = some ordC := by
    rw [Array.toList_map]
    exact built_ord
  exact wpList_build hg _ _ ho (by rw [e]; rfl) (by rw [e]; exact h)
theorem slice_ord (m : Nat) (hm : m ≤ 19) (g : Nat) (w : World) : (Instr.sliceAt 293 (.pointer (some ⟨g, 0, none⟩)) none (some (.int .i64 (m : Nat))) none).run Tryz.prog w = .ok (.slice (some ⟨g, 0, none⟩) m 19) w := by
  have hal : Tryz.prog.arrayLen 293 = 19 := by kernel_rfl
  rw [run_sliceAt_array_h w 293 ⟨g, 0, none⟩ (by kernel_rfl) .i64 (m : Nat) (by omega) (by rw [hal]; omega)]
  have hsz : (sizeOf (Tryz.prog.elem 293)).run Tryz.prog w = .ok 1 w := by kernel_rfl
  rw [hal, hsz]
  show Result.ok (slicedAt ⟨g, 0, none⟩ 0 (m : Int).toNat 19 1) w = _
  have hadd : (⟨g, 0, none⟩ : Addr).add 0 = ⟨g, 0, none⟩ := by unfold Addr.add; simp
  simp [slicedAt, hadd]
theorem slice_l (g : Nat) (w : World) : (Instr.sliceAt 294 (.pointer (some ⟨g, 0, none⟩)) none none none).run Tryz.prog w = .ok (.slice (some ⟨g, 0, none⟩) 19 19) w := by
  have hal : Tryz.prog.arrayLen 294 = 19 := by kernel_rfl
  rw [run_sliceAt_array_all w 294 ⟨g, 0, none⟩ (by kernel_rfl)]
  have hsz : (sizeOf (Tryz.prog.elem 294)).run Tryz.prog w = .ok 1 w := by kernel_rfl
  rw [hal, hsz]
  show Result.ok (slicedAt ⟨g, 0, none⟩ 0 19 19 1) w = _
  have hadd : (⟨g, 0, none⟩ : Addr).add 0 = ⟨g, 0, none⟩ := by unfold Addr.add; simp
  simp [slicedAt, hadd]
theorem order_lt (j : Nat) (h : j < order.length) : order[j] < 19 := by
  have key : ∀ x ∈ order, x < 19 := by decide
  exact key _ (List.getElem_mem h)
theorem ordC_at (j : Nat) (h : j < order.length) : ordC[j]? = some (.int .i64 (order[j] : Nat)) := by
  rw [← Array.getElem?_toList, ordC_eq, List.getElem?_map, List.getElem?_eq_getElem h]; rfl
theorem order_drop (many j : Nat) (hm : many ≤ 19) (h : j < many) : (order.take many).drop j = order[j]'(by simp [order]; omega) :: (order.take many).drop (j + 1) := by
  have hl : j < (order.take many).length := by rw [List.length_take]; simp [order]; omega
  rw [List.drop_eq_getElem_cons hl, List.getElem_take]
theorem u8s_set (l : List Nat) (s n : Nat) : (u8s l).toArray.setIfInBounds s (.int .u8 (n : Nat)) = (u8s (l.set s n)).toArray := by
  apply Array.ext'
  simp [u8s, List.map_set]
def CodeEnds (x : Res (List Nat)) (w : World) (gr : Nat) (r : Option Nat) (b : List Nat) (e : Ending) (w' : World) : Prop :=
  match x with
  | .ok cl j => ∃ A B gc, e = .returned (.pointer (some ⟨gc, 0, none⟩)) ∧ RdTo w w' gr r b j ∧ SetIs w' A B gc cl ∧ w.heap.size ≤ A ∧ B ≤ w'.heap.size ∧ cl.length = 19
  | .no m => e = .panicked (chn m) ∧ Fr (· = gr) w w'
theorem CodeEnds.of {x y : Res (List Nat)} {w : World} {gr : Nat} {r : Option Nat} {b : List Nat} {e : Ending} {w' : World} (h : x = y) (k : CodeEnds y w gr r b e w') : CodeEnds x w gr r b e w' := by rw [h]; exact k
section
variable {g gr : Nat} {r t : Option Nat} {b : List Nat} {k lim : Nat} {T : List Nat} {L S : Value}
theorem code_any (many : Nat) (w : World) (h : StIs w g gr r t b k lim T L S) (hm : many ≤ 19) :
    Calls Tryz.prog 244 #[.pointer (some ⟨g, 0, none⟩), .int .i64 (many : Nat)] w (CodeEnds (rCode b many k) w gr r b) := by
  have hz1 : ∀ w, (zeroValue 293).run Tryz.prog w = .ok (.agg zord) w := fun w => by kernel_rfl
  have hz2 : ∀ w, (zeroValue 294).run Tryz.prog w = .ok (.agg zero19) w := fun w => by kernel_rfl
  have hsl1 := fun g w => slice_ord many hm g w
  have hsl2 := slice_l
  have HOA := Lib.hid ordC_at
  have HZ0 := Lib.hid zero19_eq
  have H := Lib.hid h
  have hgr := h.rd.lt
  clear h
  obtain ⟨OC, hOC⟩ : ∃ X, ordC = X := ⟨_, rfl⟩
  obtain ⟨ZO, hZO⟩ : ∃ X, zord = X := ⟨_, rfl⟩
  obtain ⟨Z9, hZ9⟩ : ∃ X, zero19 = X := ⟨_, rfl⟩
  have hi1 : (Tryz.prog.info? 293).map (·.size) = some OC.size := by rw [← hOC]; kernel_rfl
  have hs1 : ZO.size = OC.size := by rw [← hOC, ← hZO]; rfl
  have ho1 : OC.all (·.oneCell') = true := by rw [← hOC]; simp [ordC, Value.oneCell']
  rw [hZO] at hz1
  rw [hZ9] at hz2 HZ0
  rw [hOC] at HOA
  have HI := Lib.hid hi1
  have HS := Lib.hid hs1
  have HO := Lib.hid ho1
  clear hi1 hs1 ho1 hZO hZ9
  go_enter Tryz.func244, Tryz.ntmps244
  go_wp2_with (first
    | ((with_reducible show wpList _ _ _ (Oper.mk (some 10) _ _ _ _ _ :: _) _ _); refine build_ord rfl rfl ?_; rw [hOC])
    | ((with_reducible show wpList _ _ _ (Oper.mk none _ _ _ _ _ :: _) _ _); refine store_new 293 (.tmp 5) (.tmp 10) rfl rfl rfl (by rfl) HI.out HS.out HO.out ?_)
    | fail)
  have f0 : Fr S0 w ((w.alloc (.cells OC 293)).alloc (.cells Z9 294)) := (Fr.alloc S0 w _).trans0 (Fr.alloc _ _ _)
  have b1 := (Fr.alloc S0 (w.alloc (.cells OC 293)) (.cells Z9 294)).row (heap_alloc_new w (.cells OC 293)) (fun h => h)
  have b2 := heap_alloc_new (w.alloc (.cells OC 293)) (.cells Z9 294)
  rw [size_alloc] at b2
  generalize (w.alloc (.cells OC 293)).alloc (.cells Z9 294) = W0 at f0 b1 b2 ⊢
  obtain ⟨G, hG⟩ : ∃ G, w.heap.size = G := ⟨_, rfl⟩
  rw [hG] at b1 b2 hgr ⊢
  rw [HZ0.out] at b2
  have HF0 := Lib.hid f0
  have HB1 := Lib.hid b1
  have HB2 := Lib.hid b2
  have HG := Lib.hid hG
  clear f0 b1 b2 hz1 hz2 HI HS HO HZ0 hG hsl1 hOC
  go_loopw [8, 14] (fun _ i wr => ∃ j k1 l1, j ≤ many ∧ i = .int .i64 (j : Nat) ∧ StIs wr g gr r t b k1 lim T L S ∧ Fr (· = gr) w wr ∧ wr.heap[G]? = some (.cells OC 293 (0, 0)) ∧ wr.heap[G + 1]? = some (.cells (u8s l1).toArray 294 (0, 0)) ∧ l1.length = 19 ∧ (∀ x ∈ l1, x ≤ 7) ∧ rShort b (order.take many) (List.replicate 19 0) k = rShort b ((order.take many).drop j) l1 k1) (fun _ i _ => many - (intOf i).toNat)
  case atStart => exact ⟨0, k, _, by omega, rfl, H.out.fr0 HF0.out, HF0.out.mono (fun _ _ h => h.elim), HB1.out, HB2.out, by simp, by simp, rfl⟩
  case round =>
    obtain ⟨j, k1, l1, hj, rfl, hst, hfr, hb1, hb2, hlen, h7, heq⟩ := hrel
    have HST := Lib.hid hst
    have HFR := Lib.hid hfr
    have HB1 := Lib.hid hb1
    have HB2 := Lib.hid hb2
    have HLEN := Lib.hid hlen
    have H7 := Lib.hid h7
    have HEQ := Lib.hid heq
    clear hst hfr hlen h7 heq
    by_cases hjm : j < many
    · have hjo : j < order.length := by simp [order]; omega
      have hs19 := order_lt j hjo
      have HDR := Lib.hid (order_drop many j hm hjm)
      have hcell : wr.cell? ⟨G, j, none⟩ = some (.int .i64 (order[j] : Nat)) := by rw [cell_of_row _ _ _ _ _ _ hb1]; exact HOA.out j hjo
      have HG3 : Hid (Calls Tryz.prog 197 #[.pointer (some ⟨g, 0, none⟩), .int .i64 3] wr (RdEnds (rGrp b 3 k1) wr gr r b)) := Lib.hid (group_any 3 wr HST.out (by decide))
      obtain ⟨s, hs⟩ : ∃ s, order[j] = s := ⟨_, rfl⟩
      rw [hs] at hs19 HDR hcell
      have q1 : (0 : Int) ≤ (s : Int) := by omega
      have q2 : (s : Int) < 19 := by omega
      clear hs hjo hb1 hb2
      go_wp2_with fail
      refine HG3.out.mono ?_
      intro e w2 h2
      rcases rd_cases h2 with ⟨n, k2, hx, rfl, t2⟩ | ⟨m, hx, rfl, f2⟩
      · have hn : n < 8 := (rGrp_lt hx).1
        have hmod : (n : Int) % 256 = (n : Int) := by omega
        have K : Hid (rShort b (order.take many) (List.replicate 19 0) k = rShort b ((order.take many).drop (j + 1)) (l1.set s n) k2) := Lib.hid (by rw [HEQ.out, HDR.out, rShort, hx, Res.then_ok])
        have HST2 := Lib.hid (HST.out.read t2)
        have HFR2 : Hid (Fr (· = gr) w w2) := Lib.hid (HFR.out.trans t2.2 (fun _ _ h => h))
        have bb1 := t2.2.row HB1.out (by omega)
        have bb2 := t2.2.row HB2.out (by omega)
        have HC1 := Lib.hid bb1
        have HC2 := Lib.hid bb2
        have hfz : w2.frozen? ⟨G + 1, s, none⟩ = false := by simp [World.frozen?, bb2]
        obtain ⟨old, hold⟩ : ∃ v, w2.cell? ⟨G + 1, s, none⟩ = some v := by
          rw [cell_of_row _ _ _ _ _ _ bb2]
          have hl : s < (u8s l1).toArray.size := by simp [u8s, HLEN.out]; omega
          exact ⟨_, Array.getElem?_eq_getElem hl⟩
        clear bb1 bb2 hx h2 t2 HG3
        go_wp2_with fail
        have FS : Fr (· = G + 1) w2 (w2.setCell ⟨G + 1, s, none⟩ (.int .u8 (n : Nat))) := Fr.setCell _ _ _ _ rfl
        have HD2 : Hid ((w2.setCell ⟨G + 1, s, none⟩ (.int .u8 (n : Nat))).heap[G + 1]? = some (.cells (u8s (l1.set s n)).toArray 294 (0, 0))) := Lib.hid (by rw [heap_setCell_same w2 (G + 1) s _ _ _ HC2.out, u8s_set])
        have HD1 := Lib.hid (FS.row HC1.out (by omega))
        have HST3 : Hid (StIs (w2.setCell ⟨G + 1, s, none⟩ (.int .u8 (n : Nat))) g gr r t b k2 lim T L S) := Lib.hid (by
          have a1 := H.out.lt
          have a2 := H.out.rd.lt
          have hg := HG.out
          exact HST2.out.fr FS (by omega) (by omega) (fun q hq => by have := H.out.rd.rlt q hq; omega) (fun q hq => by have := H.out.tlt q hq; omega))
        have HF3 : Hid (Fr (· = gr) w (w2.setCell ⟨G + 1, s, none⟩ (.int .u8 (n : Nat)))) := Lib.hid (HFR2.out.trans FS (fun q hq e => by have := HG.out; omega))
        clear FS hfz hold
        go_roundw
        case rel =>
          refine ⟨j + 1, k2, l1.set s n, by omega, by go_num, HST3.out, HF3.out, HD1.out, HD2.out, by rw [List.length_set, HLEN.out], ?_, K.out⟩
          intro x hx
          rcases List.mem_or_eq_of_mem_set hx with h | h
          · exact H7.out x h
          · omega
        case measure => simp [intOf]; omega
      · have K : Hid (rCode b many k = .no m) := Lib.hid (by unfold rCode; rw [HEQ.out, HDR.out, rShort, hx]; rfl)
        have HFF : Hid (Fr (· = gr) w w2) := Lib.hid (HFR.out.trans f2 (fun _ _ h => h))
        clear hx h2 f2 HG3
        go_wp2_with fail
        exact ⟨rfl, CodeEnds.of K.out ⟨rfl, HFF.out⟩⟩
    · obtain rfl : j = many := by omega
      have KE : Hid (rShort b (order.take j) (List.replicate 19 0) k = .ok l1 k1) := Lib.hid (by rw [HEQ.out, List.drop_eq_nil_of_le (by rw [List.length_take]; omega)]; rfl)
      have H15 : Hid (∀ x ∈ l1, x ≤ 15) := Lib.hid (fun x hx => by have := H7.out x hx; omega)
      have hsl : SlI wr .u8 (some ⟨G + 1, 0, none⟩) l1 := SlI.ofBlock hb2 (by simp [u8s]) (by rw [HLEN.out]; decide)
      clear hb1 hb2 hjm
      by_cases hok : okl l1
      · have HM := make_ok (some ⟨G + 1, 0, none⟩) 19 l1 wr hsl (fun h => by cases h) (by rw [HLEN.out]; decide) H15.out hok
        rw [HLEN.out] at HM
        have HMK := Lib.hid HM
        have KF : Hid (ful l1 → rCode b j k = .ok l1 k1) := Lib.hid (fun q => by unfold rCode; rw [KE.out, Res.then_ok, rIf_yes (decide_eq_true q), Res.then_ok])
        have KN : Hid (¬ ful l1 → rCode b j k = .no 62) := Lib.hid (fun q => by unfold rCode; rw [KE.out, Res.then_ok, rIf_no (decide_eq_false q)]; rfl)
        clear HM hsl hok
        go_wp2_with fail
        refine HMK.out.mono ?_
        rintro e w2 ⟨gc, rfl, ⟨f2, s2⟩, hgc⟩
        have HS2 := Lib.hid s2
        have HF2 := Lib.hid f2
        have HGS := Lib.hid (gotSet_yes (.pointer (some ⟨gc, 0, none⟩)) w2)
        obtain ⟨pl, cl, cb, cc, ob, oc, hrow, -⟩ := s2.ex
        have hfu := full_any gc w2 hrow (by rw [HLEN.out]; decide)
        clear f2 s2 hrow HMK
        by_cases hful : ful l1
        · rw [decide_eq_true hful] at hfu
          have HFU := Lib.hid hfu
          have K := Lib.hid (KF.out hful)
          clear hfu hful KF KN
          go_wp2_with fail
          refine HGS.out.mono ?_
          rintro e w' ⟨rfl, rfl⟩
          go_wp2_with fail
          refine HFU.out.mono ?_
          rintro e w3 ⟨rfl, f3⟩
          have HD := Lib.hid (demand_yes 62 w3)
          have HEND : Hid (CodeEnds (.ok l1 k1) w gr r b (.returned (.pointer (some ⟨gc, 0, none⟩))) w3) := Lib.hid (by
            refine ⟨wr.heap.size, w2.heap.size, gc, rfl, ⟨HST.out.rd.fr0 (HF2.out.trans0 f3), (HFR.out.trans0 HF2.out).trans0 f3⟩, HS2.out.fr0 f3, HFR.out.size, f3.size, HLEN.out⟩)
          clear f3 HFU HGS
          go_wp2_with fail
          refine HD.out.mono ?_
          rintro e w' ⟨rfl, rfl⟩
          go_wp2_with fail
          go_ret
          exact CodeEnds.of K.out HEND.out
        · rw [decide_eq_false hful] at hfu
          have HFU := Lib.hid hfu
          have K := Lib.hid (KN.out hful)
          clear hfu hful KF KN
          go_wp2_with fail
          refine HGS.out.mono ?_
          rintro e w' ⟨rfl, rfl⟩
          go_wp2_with fail
          refine HFU.out.mono ?_
          rintro e w3 ⟨rfl, f3⟩
          have HD := Lib.hid (demand_no 62 w3)
          have HEND : Hid (Fr (· = gr) w w3) := Lib.hid ((HFR.out.trans0 HF2.out).trans0 f3)
          clear f3 HFU HGS
          go_wp2_with fail
          refine HD.out.mono ?_
          rintro e w' ⟨rfl, rfl⟩
          go_wp2_with fail
          exact ⟨rfl, CodeEnds.of K.out ⟨rfl, HEND.out⟩⟩
      · have HM := make_no (some ⟨G + 1, 0, none⟩) 19 l1 wr hsl (fun h => by cases h) (by rw [HLEN.out]; decide) H15.out hok
        rw [HLEN.out] at HM
        have HMK := Lib.hid HM
        have K : Hid (rCode b j k = .no 62) := Lib.hid (by unfold rCode; rw [KE.out, Res.then_ok, rIf_no (decide_eq_false (fun q => hok (.inl q)))]; rfl)
        clear HM hsl hok
        go_wp2_with fail
        refine HMK.out.mono ?_
        rintro e w2 ⟨rfl, f2⟩
        have HGS := Lib.hid (gotSet_no (.pointer none) 62 (by decide) w2)
        have HFF : Hid (Fr (· = gr) w w2) := Lib.hid (HFR.out.trans0 f2)
        clear f2 HMK
        go_wp2_with fail
        refine HGS.out.mono ?_
        rintro e w' ⟨rfl, rfl⟩
        go_wp2_with fail
        exact ⟨rfl, CodeEnds.of K.out ⟨rfl, HFF.out⟩⟩
end
end Go.Proofs.YtnndgpggjlhhpaaGreat
namespace Go.Proofs.YtnndgpggjlhhpaaGreat
open Go.RowKit
section
variable {g gr : Nat} {r t : Option Nat} {b : List Nat} {k lim : Nat} {T : List Nat} {L S : Value}
theorem described_any (w : World) (h : StIs w g gr r t b k lim T L S) (hx : FixIs w g gr t L S) :
    Calls Tryz.prog 215 #[.pointer (some ⟨g, 0, none⟩)] w (BlkEnds ((rCodes b k).then fun c k1 => rSyms b lim c.1 c.2 T k1) w g gr r t b lim) := by
  have H := Lib.hid h
  have HX := Lib.hid hx
  obtain ⟨RES, hRES⟩ : ∃ X, ((rCodes b k).then fun c k1 => rSyms b lim c.1 c.2 T k1) = X := ⟨_, rfl⟩
  have HE : Hid (∀ y, (((rGrp b 5 k).then fun n1 k1 => (rGrp b 5 k1).then fun n2 k2 => (rGrp b 4 k2).then fun n3 k3 =>
  (rIf (decide (257 + n1 ≤ 286 ∧ 1 + n2 ≤ 30)) 62 k3).then fun _ k3 =>
  (rCode b (4 + n3) k3).then fun cl k4 =>
  (rLens b cl (257 + n1 + (1 + n2)) [] k4).then fun l k5 =>
  (rIf (decide (l.getD 256 0 ≠ 0 ∧ okl (l.take (257 + n1)) ∧ okl (l.drop (257 + n1)))) 62 k5).then fun _ k5 =>
  .ok (l.take (257 + n1), l.drop (257 + n1)) k5).then fun c k1 => rSyms b lim c.1 c.2 T k1) = y → RES = y) := Lib.hid (fun y hy => by rw [← hRES]; exact hy)
  rw [hRES]
  have HG1 : Hid (Calls Tryz.prog 197 #[.pointer (some ⟨g, 0, none⟩), .int .i64 5] w (RdEnds (rGrp b 5 k) w gr r b)) := Lib.hid (group_any 5 w h (by decide))
  clear h hx hRES
  go_enter Tryz.func215, Tryz.ntmps215
  go_wp2_with fail
  refine HG1.out.mono ?_
  intro e w1 h1
  rcases rd_cases h1 with ⟨n1, k1, hx, rfl, t1⟩ | ⟨m, hx, rfl, f1⟩
  rotate_left
  · have K := Lib.hid (HE.out (.no m) (by rw [hx]; rfl))
    clear hx h1 HE
    go_wp2_with fail
    exact ⟨rfl, BlkEnds.of K.out ⟨rfl, frSt f1⟩⟩
  have HE1 := Lib.hid (fun y hy => HE.out y (by rw [hx, Res.then_ok]; exact hy))
  have hn1 : n1 < 32 := (rGrp_lt hx).1
  have H1 := Lib.hid (H.out.read t1)
  have HF1 := Lib.hid t1.2
  have HG1 : Hid (Calls Tryz.prog 197 #[.pointer (some ⟨g, 0, none⟩), .int .i64 5] w1 (RdEnds (rGrp b 5 k1) w1 gr r b)) := Lib.hid (group_any 5 w1 H1.out (by decide))
  clear hx h1 t1 HE
  go_wp2_with fail
  refine HG1.out.mono ?_
  intro e w2 h2
  rcases rd_cases h2 with ⟨n2, k2, hx, rfl, t2⟩ | ⟨m, hx, rfl, f2⟩
  rotate_left
  · have K := Lib.hid (HE1.out (.no m) (by rw [hx]; rfl))
    have HFF : Hid (Fr (· = gr) w w2) := Lib.hid (HF1.out.trans f2 (fun _ _ h => h))
    clear hx h2 HE1
    go_wp2_with fail
    exact ⟨rfl, BlkEnds.of K.out ⟨rfl, frSt HFF.out⟩⟩
  have HE2 := Lib.hid (fun y hy => HE1.out y (by rw [hx, Res.then_ok]; exact hy))
  have hn2 : n2 < 32 := (rGrp_lt hx).1
  have H2 := Lib.hid (H1.out.read t2)
  have HF2 : Hid (Fr (· = gr) w w2) := Lib.hid (HF1.out.trans t2.2 (fun _ _ h => h))
  have HG1 : Hid (Calls Tryz.prog 197 #[.pointer (some ⟨g, 0, none⟩), .int .i64 4] w2 (RdEnds (rGrp b 4 k2) w2 gr r b)) := Lib.hid (group_any 4 w2 H2.out (by decide))
  clear hx h2 t2 HE1 H1 HF1
  go_wp2_with fail
  refine HG1.out.mono ?_
  intro e w3 h3
  rcases rd_cases h3 with ⟨n3, k3, hx, rfl, t3⟩ | ⟨m, hx, rfl, f3⟩
  rotate_left
  · have K := Lib.hid (HE2.out (.no m) (by rw [hx]; rfl))
    have HFF : Hid (Fr (· = gr) w w3) := Lib.hid (HF2.out.trans f3 (fun _ _ h => h))
    clear hx h3 HE2
    go_wp2_with fail
    exact ⟨rfl, BlkEnds.of K.out ⟨rfl, frSt HFF.out⟩⟩
  have HE3 := Lib.hid (fun y hy => HE2.out y (by rw [hx, Res.then_ok]; exact hy))
  have hn3 : n3 < 16 := (rGrp_lt hx).1
  have H3 := Lib.hid (H2.out.read t3)
  have HF3 : Hid (Fr (· = gr) w w3) := Lib.hid (HF2.out.trans t3.2 (fun _ _ h => h))
  clear hx h3 t3 HE2 H2 HF2
  obtain ⟨N1, hN1⟩ : ∃ N1, 257 + n1 = N1 := ⟨_, rfl⟩
  obtain ⟨N2, hN2⟩ : ∃ N2, 1 + n2 = N2 := ⟨_, rfl⟩
  obtain ⟨N3, hN3⟩ : ∃ N3, 4 + n3 = N3 := ⟨_, rfl⟩
  rw [hN1, hN2, hN3] at HE3
  have i1 : (257 : Int) + (n1 : Int) = (N1 : Int) := by omega
  have i2 : (1 : Int) + (n2 : Int) = (N2 : Int) := by omega
  have i3 : (4 : Int) + (n3 : Int) = (N3 : Int) := by omega
  by_cases hc : N1 ≤ 286 ∧ N2 ≤ 30
  rotate_left
  · have K := Lib.hid (HE3.out (.no 62) (by rw [rIf_no (decide_eq_false hc)]; rfl))
    have HD := Lib.hid (demand_no 62 w3)
    clear HE3 hN1 hN2 hN3
    by_cases hc1 : N1 ≤ 286
    · have e1 : decide ((N1 : Int) ≤ 286) = true := decide_eq_true (by omega)
      have e2 : decide ((N2 : Int) ≤ 30) = false := decide_eq_false (by omega)
      clear hc hc1
      go_wp2_with fail
      refine HD.out.mono ?_
      rintro e w' ⟨rfl, rfl⟩
      go_wp2_with fail
      exact ⟨rfl, BlkEnds.of K.out ⟨rfl, frSt HF3.out⟩⟩
    · have e1 : decide ((N1 : Int) ≤ 286) = false := decide_eq_false (by omega)
      clear hc hc1
      go_wp2_with fail
      refine HD.out.mono ?_
      rintro e w' ⟨rfl, rfl⟩
      go_wp2_with fail
      exact ⟨rfl, BlkEnds.of K.out ⟨rfl, frSt HF3.out⟩⟩
  have HE4 := Lib.hid (fun y hy => HE3.out y (by rw [rIf_yes (decide_eq_true hc), Res.then_ok]; exact hy))
  have HD := Lib.hid (demand_yes 62 w3)
  have e1 : decide ((N1 : Int) ≤ 286) = true := decide_eq_true (by omega)
  have e2 : decide ((N2 : Int) ≤ 30) = true := decide_eq_true (by omega)
  have HC := Lib.hid (code_any N3 w3 H3.out (by omega))
  have HN : Hid (257 ≤ N1 ∧ 1 ≤ N2 ∧ N1 ≤ 286 ∧ N2 ≤ 30) := Lib.hid (by omega)
  clear HE3 hN1 hN2 hN3
  go_wp2_with fail
  refine HD.out.mono ?_
  rintro e w' ⟨rfl, rfl⟩
  clear i1 i2 i3 e1 e2 HD
  go_wp2_with fail
  refine HC.out.mono ?_
  intro e w4 h4
  cases hx : rCode b N3 k3 with
  | no m =>
    rw [hx] at h4
    obtain ⟨rfl, f4⟩ := h4
    have K := Lib.hid (HE4.out (.no m) (by rw [hx]; rfl))
    have HFF : Hid (Fr (· = gr) w w4) := Lib.hid (HF3.out.trans f4 (fun _ _ h => h))
    clear hx f4 HE4 HC
    go_wp2_with fail
    exact ⟨rfl, BlkEnds.of K.out ⟨rfl, frSt HFF.out⟩⟩
  | ok cl k4 =>
  rw [hx] at h4
  obtain ⟨A, B, gc, rfl, t4, s4, hA, hB, h19⟩ := h4
  have HE5 := Lib.hid (fun y hy => HE4.out y (by rw [hx, Res.then_ok]; exact hy))
  have H4 := Lib.hid (H3.out.read t4)
  have HF4 : Hid (Fr (· = gr) w w4) := Lib.hid (HF3.out.trans t4.2 (fun _ _ h => h))
  obtain ⟨M, hM⟩ : ∃ M, N1 + N2 = M := ⟨_, rfl⟩
  have HMM := Lib.hid hM
  have iM : (N1 : Int) + (N2 : Int) = (M : Int) := by omega
  have HL := Lib.hid (lengths_any A B gc M cl w4 H4.out s4 hB (.inl (Nat.lt_of_lt_of_le H3.out.rd.lt hA)) (by omega) (by have := HN.out; omega))
  rw [hM] at HE5
  clear hx t4 s4 hA hB h19 HC HE4 H3 HF3 hM
  go_wp2_with fail
  refine HL.out.mono ?_
  intro e w5 h5
  cases hx : rLens b cl M [] k4 with
  | no m =>
    rw [hx] at h5
    obtain ⟨rfl, f5⟩ := h5
    have K := Lib.hid (HE5.out (.no m) (by rw [hx]; rfl))
    have HFF : Hid (Fr (· = gr) w w5) := Lib.hid (HF4.out.trans f5 (fun _ _ h => h))
    clear hx f5 HE5 HL
    go_wp2_with fail
    exact ⟨rfl, BlkEnds.of K.out ⟨rfl, frSt HFF.out⟩⟩
  | ok l k5 =>
  rw [hx] at h5
  obtain ⟨v, rfl, t5, own, hfv, h15, hlen⟩ := h5
  have HE6 := Lib.hid (fun y hy => HE5.out y (by rw [hx, Res.then_ok]; exact hy))
  have H5 := Lib.hid (H4.out.read t5)
  have HF5 : Hid (Fr (· = gr) w w5) := Lib.hid (HF4.out.trans t5.2 (fun _ _ h => h))
  obtain ⟨p, c, rfl, -, hlc, hcm⟩ := slForm own
  have HO := Lib.hid (SlI.ofOwns own)
  have H15 := Lib.hid h15
  have HLEN := Lib.hid hlen
  obtain ⟨bb, oo, hpe, hcl⟩ := HO.out.at 256 (by have := HN.out; have := HMM.out; omega)
  have HGET : Hid (l.getD 256 0 = l[256]'(by have := HN.out; have := HMM.out; omega)) := Lib.hid (getD_at _ _ _)
  obtain ⟨x, hxx⟩ : ∃ x, l[256]'(by have := HN.out; have := HMM.out; omega) = x := ⟨_, rfl⟩
  rw [hxx] at hcl HGET
  rw [HGET.out] at HE6
  rw [hlen] at hlc ⊢
  subst hpe
  have j0 : (256 : Int) < (M : Int) := by have := HN.out; have := HMM.out; omega
  clear hx t5 hfv h15 hlen HL HE5 H4 HF4 own hxx iM
  by_cases hx0 : x = 0
  · have hgt : decide (0 < x) = false := decide_eq_false (by omega)
    have K := Lib.hid (HE6.out (.no 62) (by rw [rIf_no (decide_eq_false (fun q => q.1 hx0))]; rfl))
    have HD := Lib.hid (demand_no 62 w5)
    clear HE6 hx0
    go_wp2_with fail
    refine HD.out.mono ?_
    rintro e w' ⟨rfl, rfl⟩
    go_wp2_with fail
    exact ⟨rfl, BlkEnds.of K.out ⟨rfl, frSt HF5.out⟩⟩
  have hgt : decide (0 < x) = true := decide_eq_true (by omega)
  have HD := Lib.hid (demand_yes 62 w5)
  go_wp2_with fail
  refine HD.out.mono ?_
  rintro e w' ⟨rfl, rfl⟩
  clear HD hgt hcl
  go_wp2_with fail
  have hAL : (l.take N1).length = N1 := by rw [List.length_take, HLEN.out]; have := HN.out; have := HMM.out; omega
  have hBL : (l.drop N1).length = M - N1 := by rw [List.length_drop, HLEN.out]
  have HSA := Lib.hid (HO.out.take N1)
  have HSB := Lib.hid (HO.out.drop N1)
  have HA15 : Hid (∀ x ∈ l.take N1, x ≤ 15) := Lib.hid (fun y hy => H15.out y (List.mem_of_mem_take hy))
  have HB15 : Hid (∀ x ∈ l.drop N1, x ≤ 15) := Lib.hid (fun y hy => H15.out y (List.mem_of_mem_drop hy))
  obtain ⟨LA, hLA⟩ : ∃ X, l.take N1 = X := ⟨_, rfl⟩
  obtain ⟨LB, hLB⟩ : ∃ X, l.drop N1 = X := ⟨_, rfl⟩
  rw [hLA] at hAL HSA HA15 HE6
  rw [hLB] at hBL HSB HB15 HE6
  have HAL := Lib.hid hAL
  have HBL := Lib.hid hBL
  have m1 : (N1 : Int) ≤ (M : Int) := by have := HMM.out; omega
  have m2 : (N1 : Int) ≤ (c : Int) := by have := HMM.out; omega
  have m3 : ¬ c = N1 := by have := HMM.out; have := HN.out; omega
  have m4 : (0 : Int) ≤ (N1 : Int) := by omega
  have m5 : (M : Int) ≤ (c : Int) := by omega
  have HX0 := Lib.hid hx0
  have HGY := Lib.hid gotSet_yes
  clear hAL hBL hLA hLB HGET hx0 HO H15 hlc
  by_cases okA : okl LA
  · have HM1 : Hid (∀ W, Fr S0 w5 W → Calls Tryz.prog 202 #[.slice (some ⟨bb, oo, none⟩) N1 c] W fun e w' => ∃ g, e = .returned (.tuple #[.pointer (some ⟨g, 0, none⟩), .int .i64 0]) ∧ Fr S0 w5 w' ∧ SetIs w' w5.heap.size w'.heap.size g LA) := Lib.hid (fun W f => by
      have q := make_ok (some ⟨bb, oo, none⟩) c LA W (HSA.out.fr0 f) (fun h => by cases h) (by rw [HAL.out]; have := HN.out; omega) HA15.out okA
      rw [HAL.out] at q
      refine q.mono ?_
      rintro e w' ⟨gl, h1, ⟨h2, h3⟩, -⟩
      exact ⟨gl, h1, f.trans0 h2, h3.mono f.size (Nat.le_refl _)⟩)
    by_cases okB : okl LB
    · have HM2 : Hid (∀ W, Fr S0 w5 W → Calls Tryz.prog 202 #[.slice (some ⟨bb, oo + N1, none⟩) (M - N1) (c - N1)] W fun e w' => ∃ g, e = .returned (.tuple #[.pointer (some ⟨g, 0, none⟩), .int .i64 0]) ∧ Fr S0 W w' ∧ SetIs w' w5.heap.size w'.heap.size g LB) := Lib.hid (fun W f => by
        have q := make_ok (some ⟨bb, oo + N1, none⟩) (c - N1) LB W (HSB.out.fr0 f) (fun h => by cases h) (by rw [HBL.out]; have := HN.out; have := HMM.out; omega) HB15.out okB
        rw [HBL.out] at q
        refine q.mono ?_
        rintro e w' ⟨gl, h1, ⟨h2, h3⟩, -⟩
        exact ⟨gl, h1, h2, h3.mono f.size (Nat.le_refl _)⟩)
      have HR := Lib.hid (HE6.out _ (by rw [rIf_yes (decide_eq_true ⟨HX0.out, okA, okB⟩), Res.then_ok, Res.then_ok]))
      have HSY : Hid (∀ W gl gs, Fr S0 w5 W → SetIs W w5.heap.size W.heap.size gl LA → SetIs W w5.heap.size W.heap.size gs LB → Calls Tryz.prog 242 #[.pointer (some ⟨g, 0, none⟩), .pointer (some ⟨gl, 0, none⟩), .pointer (some ⟨gs, 0, none⟩)] W (BlkEnds RES w g gr r t b lim)) := Lib.hid (fun W gl gs f s1 s2 => by
        rw [HR.out]
        have aw := H5.out.away (w1 := W) (Nat.le_refl w5.heap.size) (Nat.le_refl _)
        refine (symbols_any _ _ _ _ gl gs LA LB W (H5.out.fr0 f) s1 s2 aw aw).mono fun e w' q => ?_
        exact q.blk ((HX.out.to (frSt HF5.out) (.inl rfl)).to (f.mono fun _ _ h => h.elim) (.inl rfl)) ((frSt HF5.out).trans0 f) (.inl rfl))
      clear HE6 okA okB HSA HSB HA15 HB15 HX H5 HF5 HR
      cases hres : RES with
      | ok T1 k1 =>
        have HSY2 : Hid (∀ W gl gs, Fr S0 w5 W → SetIs W w5.heap.size W.heap.size gl LA → SetIs W w5.heap.size W.heap.size gs LB → Calls Tryz.prog 242 #[.pointer (some ⟨g, 0, none⟩), .pointer (some ⟨gl, 0, none⟩), .pointer (some ⟨gs, 0, none⟩)] W (fun e w' => e = .returned (.tuple #[]) ∧ BlkTo w w' g gr r t b k1 lim T1)) := Lib.hid (fun W gl gs f s1 s2 => by
          have q := HSY.out W gl gs f s1 s2
          rw [hres] at q
          exact q)
        clear hres HSY
        go_region_law (first
          | (go_simp; go_at_call 202; (with_reducible refine (HM1.out _ (Fr.drew _ _)).mono ?_); rintro e wa ⟨gl, rfl, fa, sa⟩; have FA := Lib.hid fa; have SA := Lib.hid sa; clear fa sa)
          | (go_simp; go_at_call 202; (with_reducible refine (HM2.out _ FA.out).mono ?_); rintro e wb ⟨gs, rfl, fb, sb⟩; have FB := Lib.hid (FA.out.trans0 fb); have SB := Lib.hid sb; have SA2 := Lib.hid ((SA.out.fr0 fb).mono (Nat.le_refl _) fb.size); clear fb sb)
          | (go_simp; go_at_call 241; (with_reducible refine (HGY.out _ _).mono ?_); rintro e w' ⟨rfl, rfl⟩)
          | (go_simp; go_at_call 242; (with_reducible refine (HSY2.out _ _ _ FB.out SA2.out SB.out).mono ?_); rintro e wc ⟨rfl, tc⟩; have TC := Lib.hid tc; clear tc))
        all_goals (
          go_wp2_with fail
          go_end0
          exact ⟨rfl, TC.out⟩)
      | no m =>
        have HSY2 : Hid (∀ W gl gs, Fr S0 w5 W → SetIs W w5.heap.size W.heap.size gl LA → SetIs W w5.heap.size W.heap.size gs LB → Calls Tryz.prog 242 #[.pointer (some ⟨g, 0, none⟩), .pointer (some ⟨gl, 0, none⟩), .pointer (some ⟨gs, 0, none⟩)] W (fun e w' => (e = .returned (.tuple #[]) ∧ False) ∨ (e = .panicked (chn m) ∧ Fr (StB g gr t) w w'))) := Lib.hid (fun W gl gs f s1 s2 => by
          have q := HSY.out W gl gs f s1 s2
          rw [hres] at q
          exact q.mono fun e w' q => .inr q)
        clear hres HSY
        go_region_law (first
          | (go_simp; go_at_call 202; (with_reducible refine (HM1.out _ (Fr.drew _ _)).mono ?_); rintro e wa ⟨gl, rfl, fa, sa⟩; have FA := Lib.hid fa; have SA := Lib.hid sa; clear fa sa)
          | (go_simp; go_at_call 202; (with_reducible refine (HM2.out _ FA.out).mono ?_); rintro e wb ⟨gs, rfl, fb, sb⟩; have FB := Lib.hid (FA.out.trans0 fb); have SB := Lib.hid sb; have SA2 := Lib.hid ((SA.out.fr0 fb).mono (Nat.le_refl _) fb.size); clear fb sb)
          | (go_simp; go_at_call 241; (with_reducible refine (HGY.out _ _).mono ?_); rintro e w' ⟨rfl, rfl⟩)
          | (go_simp; go_at_call 242; (with_reducible refine (HSY2.out _ _ _ FB.out SA2.out SB.out).mono ?_); rintro e wc (⟨rfl, hF⟩ | ⟨rfl, fc⟩); have HBAD := Lib.hid hF; clear hF; rotate_left; exact ⟨rfl, rfl, fc⟩))
        all_goals exact HBAD.out.elim
    · have HM2 : Hid (∀ W, Fr S0 w5 W → Calls Tryz.prog 202 #[.slice (some ⟨bb, oo + N1, none⟩) (M - N1) (c - N1)] W fun e w' => e = .returned (.tuple #[.pointer none, .int .i64 62]) ∧ Fr S0 w5 w') := Lib.hid (fun W f => by
        have q := make_no (some ⟨bb, oo + N1, none⟩) (c - N1) LB W (HSB.out.fr0 f) (fun h => by cases h) (by rw [HBL.out]; have := HN.out; have := HMM.out; omega) HB15.out okB
        rw [HBL.out] at q
        exact q.mono fun e w' q => ⟨q.1, f.trans0 q.2⟩)
      have HR := Lib.hid (HE6.out (.no 62) (by rw [rIf_no (decide_eq_false (fun q => okB q.2.2))]; rfl))
      have HGN : Hid (∀ W, Fr S0 w5 W → Calls Tryz.prog 241 #[.pointer none, .int .i64 62] W (fun e w' => (e = .returned (.pointer none) ∧ False) ∨ (e = .panicked (chn 62) ∧ Fr (StB g gr t) w w'))) := Lib.hid (fun W f =>
        (gotSet_no (.pointer none) 62 (by decide) W).mono fun e w' q => .inr ⟨q.1, q.2 ▸ ((frSt HF5.out).trans0 f)⟩)
      have HSN : Hid (False → ∀ args W, Calls Tryz.prog 242 args W (fun e w' => e = .returned (.tuple #[]) ∧ W = w')) := Lib.hid (fun h args W => h.elim)
      clear HE6 okA okB HSA HSB HA15 HB15 HX H5 HF5
      go_region_law (first
        | (go_simp; go_at_call 202; (with_reducible refine (HM1.out _ (Fr.drew _ _)).mono ?_); rintro e wa ⟨gl, rfl, fa, sa⟩; have FA := Lib.hid fa; clear fa sa)
        | (go_simp; go_at_call 202; (with_reducible refine (HM2.out _ FA.out).mono ?_); rintro e wb ⟨rfl, fb⟩; have FB := Lib.hid fb; clear fb)
        | (go_simp; go_at_call 241; (with_reducible refine (HGY.out _ _).mono ?_); rintro e w' ⟨rfl, rfl⟩)
        | (go_simp; go_at_call 241; (with_reducible refine (HGN.out _ FB.out).mono ?_); rintro e wc (⟨rfl, hF⟩ | ⟨rfl, fc⟩); have HBAD := Lib.hid hF; clear hF; rotate_left; exact ⟨rfl, BlkEnds.of HR.out ⟨rfl, fc⟩⟩)
        | (go_simp; go_at_call 242; (with_reducible refine (HSN.out HBAD.out _ _).mono ?_); rintro e w' ⟨rfl, rfl⟩))
      all_goals exact HBAD.out.elim
  · have HM1 : Hid (∀ W, Fr S0 w5 W → Calls Tryz.prog 202 #[.slice (some ⟨bb, oo, none⟩) N1 c] W fun e w' => e = .returned (.tuple #[.pointer none, .int .i64 62]) ∧ Fr S0 w5 w') := Lib.hid (fun W f => by
      have q := make_no (some ⟨bb, oo, none⟩) c LA W (HSA.out.fr0 f) (fun h => by cases h) (by rw [HAL.out]; have := HN.out; omega) HA15.out okA
      rw [HAL.out] at q
      exact q.mono fun e w' q => ⟨q.1, f.trans0 q.2⟩)
    have HR := Lib.hid (HE6.out (.no 62) (by rw [rIf_no (decide_eq_false (fun q => okA q.2.1))]; rfl))
    have HGN : Hid (∀ W, Fr S0 w5 W → Calls Tryz.prog 241 #[.pointer none, .int .i64 62] W (fun e w' => (e = .returned (.pointer none) ∧ False) ∨ (e = .panicked (chn 62) ∧ Fr (StB g gr t) w w'))) := Lib.hid (fun W f =>
      (gotSet_no (.pointer none) 62 (by decide) W).mono fun e w' q => .inr ⟨q.1, q.2 ▸ ((frSt HF5.out).trans0 f)⟩)
    have HSN : Hid (False → ∀ args W, Calls Tryz.prog 242 args W (fun e w' => e = .returned (.tuple #[]) ∧ W = w')) := Lib.hid (fun h args W => h.elim)
    have HMN : Hid (False → ∀ args W, Calls Tryz.prog 202 args W (fun e w' => e = .returned (.tuple #[.pointer none, .int .i64 0]) ∧ W = w')) := Lib.hid (fun h args W => h.elim)
    clear HE6 okA HSA HSB HA15 HB15 HX H5 HF5
    go_region_law (first
      | (go_simp; go_at_call 202; (with_reducible refine (HM1.out _ (Fr.drew _ _)).mono ?_); rintro e wa ⟨rfl, fa⟩; have FA := Lib.hid fa; clear fa)
      | (go_simp; go_at_call 241; (with_reducible refine (HGN.out _ FA.out).mono ?_); rintro e wc (⟨rfl, hF⟩ | ⟨rfl, fc⟩); have HBAD := Lib.hid hF; clear hF; rotate_left; exact ⟨rfl, BlkEnds.of HR.out ⟨rfl, fc⟩⟩)
      | (go_simp; go_at_call 202; (with_reducible refine (HMN.out HBAD.out _ _).mono ?_); rintro e w' ⟨rfl, rfl⟩)
      | (go_simp; go_at_call 241; (with_reducible refine (HGY.out _ _).mono ?_); rintro e w' ⟨rfl, rfl⟩)
      | (go_simp; go_at_call 242; (with_reducible refine (HSN.out HBAD.out _ _).mono ?_); rintro e w' ⟨rfl, rfl⟩))
    all_goals exact HBAD.out.elim
end
end Go.Proofs.YtnndgpggjlhhpaaGreat
namespace Go.Proofs.YtnndgpggjlhhpaaGreat
open Go.RowKit
def fv (n : Nat) : Value := .func (.func n) #[] #[]
def kindsC : Array Value := #[fv 213, fv 214, fv 215, fv 216]
theorem kinds_any (w : World) : Calls Tryz.prog 198 #[] w fun e w' => e = .returned (.agg kindsC) ∧ Fr S0 w w' := by
  go_enter Tryz.func198, Tryz.ntmps198
  go_wp2_with fail
  exact bodyPost_ret (results_cell_row Tryz.results198 _ _ w.heap.size 250 kindsC (0, 0) _ rfl (heap_alloc_new w _) Tryz.underlying250 rfl (by kernel_rfl)) rfl ⟨rfl, Fr.alloc _ _ _⟩
theorem none_any (v : Value) (w : World) : Calls Tryz.prog 216 #[v] w fun e w' => e = .panicked (chn 60) ∧ w = w' := by
  have HD := Lib.hid (demand_no 60 w)
  go_enter Tryz.func216, Tryz.ntmps216
  go_wp2_with fail
  refine HD.out.mono ?_
  rintro e w' ⟨rfl, rfl⟩
  go_wp2_with fail
  exact ⟨rfl, rfl, rfl⟩
def BlockEnds (x : Res (Bool × List Nat)) (w : World) (g gr : Nat) (r t : Option Nat) (b : List Nat) (lim : Nat) (e : Ending) (w' : World) : Prop :=
  match x with
  | .ok lt k => e = .returned (.bool lt.1) ∧ BlkTo w w' g gr r t b k lim lt.2
  | .no m => e = .panicked (chn m) ∧ Fr (StB g gr t) w w'
theorem BlockEnds.of {x y : Res (Bool × List Nat)} {w w' : World} {g gr : Nat} {r t : Option Nat} {b : List Nat} {lim : Nat} {e : Ending} (h : x = y) (q : BlockEnds y w g gr r t b lim e w') : BlockEnds x w g gr r t b lim e w' := by rw [h]; exact q
section
variable {g gr : Nat} {r t : Option Nat} {b : List Nat} {k lim : Nat} {T : List Nat} {L S : Value}
def kindF : Nat → Nat
  | 0 => 213
  | 1 => 214
  | 2 => 215
  | _ => 216
theorem kind_any (n : Nat) (hn : n < 4) (w : World) (h : StIs w g gr r t b k lim T L S) (hx : FixIs w g gr t L S) :
    Calls Tryz.prog (kindF n) #[.pointer (some ⟨g, 0, none⟩)] w (BlkEnds (rKind b lim T n k) w g gr r t b lim) := by
  match n, hn with
  | 0, _ =>
    exact (stored_any w h).mono fun e w' q => BlkEnds.of (by unfold rKind; rw [if_pos rfl]) (q.blk hx (Fr.refl _ _) (.inl rfl))
  | 1, _ =>
    exact (fixed_block w h hx).mono fun e w' q => BlkEnds.of (by unfold rKind; rw [if_neg (by decide), if_pos rfl]) q
  | 2, _ =>
    exact (described_any w h hx).mono fun e w' q => BlkEnds.of (by unfold rKind; rw [if_neg (by decide), if_neg (by decide), if_pos rfl]) q
  | 3, _ =>
    exact (none_any _ w).mono fun e w' q => BlkEnds.of (y := .no 60) (by unfold rKind; rw [if_neg (by decide), if_neg (by decide), if_neg (by decide)]) ⟨q.1, q.2 ▸ Fr.refl _ _⟩
theorem index0 (w : World) : (Instr.index 250 (.agg kindsC) (.int .i64 0)).run Tryz.prog w = .ok (fv 213) w := by kernel_rfl
theorem index1 (w : World) : (Instr.index 250 (.agg kindsC) (.int .i64 1)).run Tryz.prog w = .ok (fv 214) w := by kernel_rfl
theorem index2 (w : World) : (Instr.index 250 (.agg kindsC) (.int .i64 2)).run Tryz.prog w = .ok (fv 215) w := by kernel_rfl
theorem index3 (w : World) : (Instr.index 250 (.agg kindsC) (.int .i64 3)).run Tryz.prog w = .ok (fv 216) w := by kernel_rfl
theorem enter0 (v : Value) (w : World) : (callFunc 213 #[v]).run Tryz.prog w = .ok (.enter 213 #[v]) w := by kernel_rfl
theorem enter1 (v : Value) (w : World) : (callFunc 214 #[v]).run Tryz.prog w = .ok (.enter 214 #[v]) w := by kernel_rfl
theorem enter2 (v : Value) (w : World) : (callFunc 215 #[v]).run Tryz.prog w = .ok (.enter 215 #[v]) w := by kernel_rfl
theorem enter3 (v : Value) (w : World) : (callFunc 216 #[v]).run Tryz.prog w = .ok (.enter 216 #[v]) w := by kernel_rfl
theorem index_kinds (n : Nat) (hn : n < 4) (w : World) : (Instr.index 250 (.agg kindsC) (.int .i64 (n : Nat))).run Tryz.prog w = .ok (fv (kindF n)) w := by
  match n, hn with
  | 0, _ => exact index0 w
  | 1, _ => exact index1 w
  | 2, _ => exact index2 w
  | 3, _ => exact index3 w
theorem enter_kinds (n : Nat) (hn : n < 4) (v : Value) (w : World) : (callFunc (kindF n) #[v]).run Tryz.prog w = .ok (.enter (kindF n) #[v]) w := by
  match n, hn with
  | 0, _ => exact enter0 v w
  | 1, _ => exact enter1 v w
  | 2, _ => exact enter2 v w
  | 3, _ => exact enter3 v w
theorem block_any (w : World) (h : StIs w g gr r t b k lim T L S) (hx : FixIs w g gr t L S) :
    Calls Tryz.prog 174 #[.pointer (some ⟨g, 0, none⟩)] w (BlockEnds (rBlock b lim T k) w g gr r t b lim) := by
  have H := Lib.hid h
  have HX := Lib.hid hx
  obtain ⟨RES, hRES⟩ : ∃ X, rBlock b lim T k = X := ⟨_, rfl⟩
  have HE : Hid (∀ y, ((rGrp b 1 k).then fun last k1 => (rGrp b 2 k1).then fun kind k2 => (rKind b lim T kind k2).then fun T1 k3 => .ok (decide (last = 1), T1) k3) = y → RES = y) := Lib.hid (fun y hy => by rw [← hRES]; exact hy)
  rw [hRES]
  have HG1 : Hid (Calls Tryz.prog 197 #[.pointer (some ⟨g, 0, none⟩), .int .i64 1] w (RdEnds (rGrp b 1 k) w gr r b)) := Lib.hid (group_any 1 w h (by decide))
  clear h hx hRES
  go_enter Tryz.func174, Tryz.ntmps174
  go_wp2_with fail
  refine HG1.out.mono ?_
  intro e w1 h1
  rcases rd_cases h1 with ⟨n1, k1, hx, rfl, t1⟩ | ⟨m, hx, rfl, f1⟩
  rotate_left
  · have K := Lib.hid (HE.out (.no m) (by rw [hx]; rfl))
    clear hx h1 HE
    go_wp2_with fail
    exact ⟨rfl, BlockEnds.of K.out ⟨rfl, frSt f1⟩⟩
  have HE1 := Lib.hid (fun y hy => HE.out y (by rw [hx, Res.then_ok]; exact hy))
  have H1 := Lib.hid (H.out.read t1)
  have HF1 := Lib.hid t1.2
  have HKI := Lib.hid (kinds_any w1)
  have EB : Hid (((n1 : Int) == 1) = decide (n1 = 1)) := Lib.hid (by rw [Bool.eq_iff_iff, beq_iff_eq, decide_eq_true_iff]; omega)
  clear hx h1 t1 HE
  obtain ⟨LB, hLB⟩ : ∃ X, decide (n1 = 1) = X := ⟨_, rfl⟩
  have eb := EB.out
  rw [hLB] at eb HE1
  clear EB
  go_wp2_with fail
  refine HKI.out.mono ?_
  rintro e w2 ⟨rfl, f2⟩
  have H2 := Lib.hid (H1.out.fr0 f2)
  have HF2 : Hid (Fr (· = gr) w w2) := Lib.hid (HF1.out.trans0 f2)
  have HG1 : Hid (Calls Tryz.prog 197 #[.pointer (some ⟨g, 0, none⟩), .int .i64 2] w2 (RdEnds (rGrp b 2 k1) w2 gr r b)) := Lib.hid (group_any 2 w2 H2.out (by decide))
  clear f2 HKI eb H1 HF1 hLB
  go_wp2_with fail
  refine HG1.out.mono ?_
  intro e w3 h3
  rcases rd_cases h3 with ⟨n2, k2, hx, rfl, t3⟩ | ⟨m, hx, rfl, f3⟩
  rotate_left
  · have K := Lib.hid (HE1.out (.no m) (by rw [hx]; rfl))
    have HFF : Hid (Fr (· = gr) w w3) := Lib.hid (HF2.out.trans f3 (fun _ _ h => h))
    clear hx h3 HE1
    go_wp2_with fail
    exact ⟨rfl, BlockEnds.of K.out ⟨rfl, frSt HFF.out⟩⟩
  have HE2 := Lib.hid (fun y hy => HE1.out y (by rw [hx, Res.then_ok]; exact hy))
  have hn2 : n2 < 4 := (rGrp_lt hx).1
  have H3 := Lib.hid (H2.out.read t3)
  have HF3 : Hid (Fr (· = gr) w w3) := Lib.hid (HF2.out.trans t3.2 (fun _ _ h => h))
  have HI := index_kinds n2 hn2
  have HEN := enter_kinds n2 hn2 (.pointer (some ⟨g, 0, none⟩)) w3
  have HK := Lib.hid ((kind_any n2 hn2 w3 H3.out (HX.out.to (frSt HF3.out) (.inl rfl))))
  obtain ⟨KC, hKC⟩ : ∃ X, kindsC = X := ⟨_, rfl⟩
  obtain ⟨KF, hKF⟩ : ∃ X, kindF n2 = X := ⟨_, rfl⟩
  rw [hKC, hKF] at HI
  rw [hKF] at HEN
  rw [hKF] at HK
  rw [hKC]
  unfold fv at HI
  clear hx h3 t3 HE1 H2 HF2 hKC hKF
  go_wp2_with fail
  refine HK.out.mono ?_
  intro e w4 h4
  cases hx : rKind b lim T n2 k2 with
  | no m =>
    rw [hx] at h4
    obtain ⟨rfl, f4⟩ := h4
    have K := Lib.hid (HE2.out (.no m) (by rw [hx]; rfl))
    have HFF : Hid (Fr (StB g gr t) w w4) := Lib.hid ((frSt HF3.out).trans f4 (fun _ _ h => h))
    clear hx f4 HE2 HK
    go_wp2_with fail
    exact ⟨rfl, BlockEnds.of K.out ⟨rfl, HFF.out⟩⟩
  | ok T1 k3 =>
    rw [hx] at h4
    obtain ⟨rfl, t', L', S', a1, a2, a3, a4⟩ := h4
    have K := Lib.hid (HE2.out _ (by rw [hx, Res.then_ok]))
    have HTO : Hid (BlkTo w w4 g gr r t b k3 lim T1) := Lib.hid (by
      refine ⟨t', L', S', a1, a2, (frSt HF3.out).trans a3 (fun _ _ h => h), ?_⟩
      rcases a4 with a4 | a4
      · exact .inl a4
      · exact .inr fun j hj => Nat.le_trans HF3.out.size (a4 j hj))
    clear hx a1 a2 a3 a4 HE2 HK
    go_wp2_with fail
    go_ret
    exact BlockEnds.of K.out ⟨rfl, HTO.out⟩
end
end Go.Proofs.YtnndgpggjlhhpaaGreat
namespace Go.Proofs.YtnndgpggjlhhpaaGreat
open Go.RowKit
theorem catch_idle (p q s : Addr) (w : World) :
    CallsD Tryz.prog 172 #[.pointer (some p), .pointer (some q), .pointer (some s)] .returning w fun e u' w' => e = .returned (.tuple #[]) ∧ u' = .returning ∧ w' = w := by
  have hnn : ∀ w, (binOp .eql 20 .nilIface .nilIface).run Tryz.prog w = .ok (.bool true) w := fun w => by kernel_rfl
  refine callsD_of_wpS Tryz.func172 rfl fun c₀ cs hu => ?_
  apply wpS_seq
  apply wpS_region
  simp [wpOpsS, go_sem, recoverD, hu, Tryz.ntmps172, Exit.thenS]
  refine wpS_of_wp ?_
  have et : (#[Value.pointer (some p), Value.pointer (some q), Value.pointer (some s)] ++ (Array.replicate 11 undef).setIfInBounds 3 Value.nilIface) = #[Value.pointer (some p), Value.pointer (some q), Value.pointer (some s), undef, undef, undef, .nilIface, undef, undef, undef, undef, undef, undef, undef] := rfl
  rw [et]
  go_wp2_with fail
  exact ⟨rfl, .returning, by cases c₀; simp_all, .tuple #[], by simp [results, Tryz.results172], rfl, rfl, rfl⟩
theorem catch_given (p q s : Nat) (m : Nat) (V : Value) (N E : Int) (w : World) (hp : w.heap[p]? = some (.cells #[V] 31 (0, 0))) (hq : w.heap[q]? = some (.cells #[.int .i64 N] 3 (0, 0))) (hs : w.heap[s]? = some (.cells #[.int .i64 E] 36 (0, 0)))
    (pq : p ≠ q) (ps : p ≠ s) (qs : q ≠ s) :
    CallsD Tryz.prog 172 #[.pointer (some ⟨p, 0, none⟩), .pointer (some ⟨q, 0, none⟩), .pointer (some ⟨s, 0, none⟩)] (.panicking (chn m)) w fun e u' w' => e = .returned (.tuple #[]) ∧ settle u' = .returning ∧
      Fr (fun j => j = p ∨ j = q ∨ j = s) w w' ∧ w'.heap[p]? = some (.cells #[.slice none 0 0] 31 (0, 0)) ∧ w'.heap[q]? = some (.cells #[.int .i64 0] 3 (0, 0)) ∧ w'.heap[s]? = some (.cells #[.int .i64 (m : Nat)] 36 (0, 0)) := by
  have hnn : ∀ (v : Value) w, (binOp .eql 20 (.iface 222 v) .nilIface).run Tryz.prog w = .ok (.bool false) w := fun v w => by kernel_rfl
  have hta : ∀ (v : Value) w, (Instr.typeAssert (.iface 222 v) 20 222 true).run Tryz.prog w = .ok (.tuple #[v, .bool true]) w := fun v w => by kernel_rfl
  unfold chn
  refine callsD_of_wpS Tryz.func172 rfl fun c₀ cs hu => ?_
  apply wpS_seq
  apply wpS_region
  simp [wpOpsS, go_sem, recoverD, hu, Tryz.ntmps172, Exit.thenS]
  refine wpS_of_wp ?_
  have et : ∀ v : Value, (#[Value.pointer (some ⟨p, 0, none⟩), Value.pointer (some ⟨q, 0, none⟩), Value.pointer (some ⟨s, 0, none⟩)] ++ (Array.replicate 11 undef).setIfInBounds 3 v) = #[Value.pointer (some ⟨p, 0, none⟩), Value.pointer (some ⟨q, 0, none⟩), Value.pointer (some ⟨s, 0, none⟩), undef, undef, undef, v, undef, undef, undef, undef, undef, undef, undef] := fun _ => rfl
  rw [et]
  have hc1 : w.cell? ⟨p, 0, none⟩ = some V := by simp [World.cell?, hp]
  have hc2 : w.cell? ⟨q, 0, none⟩ = some (.int .i64 N) := by simp [World.cell?, hq]
  have hc3 : w.cell? ⟨s, 0, none⟩ = some (.int .i64 E) := by simp [World.cell?, hs]
  have hz1 : w.frozen? ⟨p, 0, none⟩ = false := by simp [World.frozen?, hp]
  have hz2 : w.frozen? ⟨q, 0, none⟩ = false := by simp [World.frozen?, hq]
  have hz3 : w.frozen? ⟨s, 0, none⟩ = false := by simp [World.frozen?, hs]
  have HU := Lib.hid hu
  clear hu
  go_wp2_with fail
  have fa := Fr.alloc S0 w (.cells #[.int .i64 (m : Nat)] 222)
  have b0 := heap_alloc_new w (.cells #[.int .i64 (m : Nat)] 222)
  have bp := fa.row hp (fun h => h)
  have bq := fa.row hq (fun h => h)
  have bs := fa.row hs (fun h => h)
  have np : p ≠ w.heap.size := Nat.ne_of_lt (Array.getElem?_eq_some_iff.1 hp).1
  have nq : q ≠ w.heap.size := Nat.ne_of_lt (Array.getElem?_eq_some_iff.1 hq).1
  have ns : s ≠ w.heap.size := Nat.ne_of_lt (Array.getElem?_eq_some_iff.1 hs).1
  have FA := Lib.hid fa
  generalize w.alloc (.cells #[.int .i64 (m : Nat)] 222) = W at b0 bp bq bs FA ⊢
  generalize w.heap.size = n at b0 np nq ns ⊢
  have BP := Lib.hid bp
  have BQ := Lib.hid bq
  have BS := Lib.hid bs
  clear hc1 hc2 hc3 hz1 hz2 hz3 hp hq hs fa
  have hc0 : W.cell? ⟨n, 0, none⟩ = some (.int .i64 (m : Nat)) := by simp [World.cell?, b0]
  have hc1 : W.cell? ⟨p, 0, none⟩ = some V := by simp [World.cell?, bp]
  have hc2 : W.cell? ⟨q, 0, none⟩ = some (.int .i64 N) := by simp [World.cell?, bq]
  have hc3 : W.cell? ⟨s, 0, none⟩ = some (.int .i64 E) := by simp [World.cell?, bs]
  have hz1 : W.frozen? ⟨p, 0, none⟩ = false := by simp [World.frozen?, bp]
  have hz2 : W.frozen? ⟨q, 0, none⟩ = false := by simp [World.frozen?, bq]
  have hz3 : W.frozen? ⟨s, 0, none⟩ = false := by simp [World.frozen?, bs]
  clear b0 bp bq bs hta hnn et
  go_region
  have f1 : Fr (fun j => j = p ∨ j = q ∨ j = s) W (W.setCell ⟨p, 0, none⟩ (.slice none 0 0)) := Fr.setCell _ _ _ _ (.inl rfl)
  have f2 : Fr (fun j => j = p ∨ j = q ∨ j = s) _ ((W.setCell ⟨p, 0, none⟩ (.slice none 0 0)).setCell ⟨q, 0, none⟩ (.int .i64 0)) := Fr.setCell _ _ _ _ (.inr (.inl rfl))
  have f3 : Fr (fun j => j = p ∨ j = q ∨ j = s) _ (((W.setCell ⟨p, 0, none⟩ (.slice none 0 0)).setCell ⟨q, 0, none⟩ (.int .i64 0)).setCell ⟨s, 0, none⟩ (.int .i64 (m : Nat))) := Fr.setCell _ _ _ _ (.inr (.inr rfl))
  have g1 : (W.setCell ⟨p, 0, none⟩ (.slice none 0 0)).heap[p]? = some (.cells #[.slice none 0 0] 31 (0, 0)) := heap_setCell_same W p 0 _ _ _ BP.out
  have g2 := (Fr.setCell (· = p) W ⟨p, 0, none⟩ (.slice none 0 0) rfl).row BQ.out (fun e => pq e.symm)
  have g3 := (Fr.setCell (· = p) W ⟨p, 0, none⟩ (.slice none 0 0) rfl).row BS.out (fun e => ps e.symm)
  generalize W.setCell ⟨p, 0, none⟩ (.slice none 0 0) = W1 at f1 f2 f3 g1 g2 g3 ⊢
  have k1 := (Fr.setCell (· = q) W1 ⟨q, 0, none⟩ (.int .i64 0) rfl).row g1 pq
  have k2 : (W1.setCell ⟨q, 0, none⟩ (.int .i64 0)).heap[q]? = some (.cells #[.int .i64 0] 3 (0, 0)) := heap_setCell_same W1 q 0 _ _ _ g2
  have k3 := (Fr.setCell (· = q) W1 ⟨q, 0, none⟩ (.int .i64 0) rfl).row g3 (fun e => qs e.symm)
  generalize W1.setCell ⟨q, 0, none⟩ (.int .i64 0) = W2 at f2 f3 k1 k2 k3 ⊢
  have l1 := (Fr.setCell (· = s) W2 ⟨s, 0, none⟩ (.int .i64 (m : Nat)) rfl).row k1 ps
  have l2 := (Fr.setCell (· = s) W2 ⟨s, 0, none⟩ (.int .i64 (m : Nat)) rfl).row k2 qs
  have l3 : (W2.setCell ⟨s, 0, none⟩ (.int .i64 (m : Nat))).heap[s]? = some (.cells #[.int .i64 (m : Nat)] 36 (0, 0)) := heap_setCell_same W2 s 0 _ _ _ k3
  generalize W2.setCell ⟨s, 0, none⟩ (.int .i64 (m : Nat)) = W3 at f3 l1 l2 l3 ⊢
  have HFF : Hid (Fr (fun j => j = p ∨ j = q ∨ j = s) w W3.drew) := Lib.hid (((((FA.out.mono (fun _ _ h => h.elim)).trans f1 (fun _ _ h => h)).trans f2 (fun _ _ h => h)).trans f3 (fun _ _ h => h)).trans0 (Fr.drew _ _))
  have L1 := Lib.hid l1
  have L2 := Lib.hid l2
  have L3 := Lib.hid l3
  clear f1 f2 f3 g1 g2 g3 k1 k2 k3 l1 l2 l3 hc0 hc1 hc2 hc3 hz1 hz2 hz3 FA
  go_wp2_with fail
  exact ⟨rfl, .panicking [{ v := .iface 222 (.agg #[.int .i64 (m : Nat)]), recovered := true }], rfl, .tuple #[], by simp [results, Tryz.results172], rfl, rfl, HFF.out, L1.out, L2.out, L3.out⟩
end Go.Proofs.YtnndgpggjlhhpaaGreat
namespace Go.Proofs.YtnndgpggjlhhpaaGreat
theorem bits_take (b : List Nat) (n : Nat) : bts (b.take n) = (bts b).take (8 * n) := by
  induction b generalizing n with
  | nil => simp [bts]
  | cons x r ih =>
    cases n with
    | zero => simp [bts]
    | succ n =>
      have h := ih n
      unfold bts at h ⊢
      rw [List.take_succ_cons, List.flatMap_cons, List.flatMap_cons, h, List.take_append, grp_length, List.take_of_length_le (l := grp x 8) (by rw [grp_length]; omega), show 8 * (n + 1) - 8 = 8 * n by omega]
def Same (b b' : List Nat) (j : Nat) : Prop := ∃ n, j ≤ 8 * n ∧ n ≤ b.length ∧ n ≤ b'.length ∧ b'.take n = b.take n
theorem Same.mono {b b' : List Nat} {i j : Nat} (h : Same b b' j) (hi : i ≤ j) : Same b b' i := by
  obtain ⟨n, h1, h2, h3, h4⟩ := h
  exact ⟨n, by omega, h2, h3, h4⟩
theorem Same.le {b b' : List Nat} {j : Nat} (h : Same b b' j) : j ≤ 8 * b'.length := by
  obtain ⟨n, h1, h2, h3, h4⟩ := h
  omega
theorem Same.bits {b b' : List Nat} {j : Nat} (h : Same b b' j) : (bts b').take j = (bts b).take j := by
  obtain ⟨n, h1, h2, h3, h4⟩ := h
  have e := congrArg bts h4
  rw [bits_take, bits_take] at e
  have e2 := congrArg (List.take j) e
  rw [List.take_take, List.take_take, Nat.min_eq_left h1] at e2
  exact e2
theorem take_drop_of {A B : List Nat} {j : Nat} (h : A.take j = B.take j) {k c : Nat} (hc : k + c ≤ j) : (A.drop k).take c = (B.drop k).take c := by
  have e : A.take (k + c) = B.take (k + c) := by
    have e1 : (A.take j).take (k + c) = A.take (k + c) := by rw [List.take_take, Nat.min_eq_left hc]
    have e2 : (B.take j).take (k + c) = B.take (k + c) := by rw [List.take_take, Nat.min_eq_left hc]
    rw [← e1, ← e2, h]
  rw [List.take_drop, List.take_drop, e]
structure Loc {α : Type} (p : List Nat → Nat → Res α) : Prop where
  of : ∀ b k a j, p b k = .ok a j → k ≤ 8 * b.length → k ≤ j ∧ j ≤ 8 * b.length ∧ (∀ b', Same b b' j → p b' k = .ok a j) ∧ (∀ n, k ≤ 8 * n → 8 * n < j → p (b.take n) k = .no 20)
theorem same_take {b : List Nat} {j n : Nat} (h : j ≤ 8 * n) (hn : n ≤ b.length) : Same b (b.take n) j := ⟨n, h, hn, by rw [List.length_take]; omega, by rw [List.take_take, Nat.min_self]⟩
theorem zcut_len {b : List Nat} {n j : Nat} (h : 8 * n < j) (hj : j ≤ 8 * b.length) : (b.take n).length = n := by rw [List.length_take]; omega
theorem Loc.pure {α : Type} (a : α) : Loc (fun _ k => Res.ok a k) := ⟨fun b k a' j h hk => by
  simp only [Res.ok.injEq] at h
  obtain ⟨rfl, rfl⟩ := h
  exact ⟨Nat.le_refl _, hk, fun _ _ => rfl, fun n h1 h2 => by omega⟩⟩
theorem Loc.fail {α : Type} (e : Nat) : Loc (fun _ _ => (Res.no e : Res α)) := ⟨fun b k a j h => by cases h⟩
theorem Loc.rIf (c : Bool) (e : Nat) : Loc (fun _ k => rIf c e k) := ⟨fun b k a j h hk => by
  cases c with
  | false => rw [rIf_no rfl] at h; cases h
  | true =>
    rw [rIf_yes rfl] at h
    simp only [Res.ok.injEq] at h
    obtain ⟨-, rfl⟩ := h
    exact ⟨Nat.le_refl _, hk, fun _ _ => rIf_yes rfl, fun n h1 h2 => by omega⟩⟩
theorem Loc.then {α β : Type} {p : List Nat → Nat → Res α} {q : α → List Nat → Nat → Res β} (hp : Loc p) (hq : ∀ a, Loc (q a)) : Loc (fun b k => (p b k).then fun a j => q a b j) := ⟨fun b k c j h hk => by
  cases hx : p b k with
  | no e => rw [hx] at h; cases h
  | ok a i =>
    rw [hx, Res.then_ok] at h
    obtain ⟨p1, p2, p3, p4⟩ := hp.of b k a i hx hk
    obtain ⟨q1, q2, q3, q4⟩ := (hq a).of b i c j h p2
    refine ⟨by omega, q2, fun b' hs => ?_, fun n h1 h2 => ?_⟩
    · show (p b' k).then _ = _
      rw [p3 b' (hs.mono q1), Res.then_ok, q3 b' hs]
    · show (p (b.take n) k).then _ = _
      by_cases hn : 8 * n < i
      · rw [p4 n h1 hn]; rfl
      · rw [p3 (b.take n) (same_take (by omega) (by omega)), Res.then_ok, q4 n (by omega) h2]⟩
theorem Loc.ite {α : Type} {p q : List Nat → Nat → Res α} (c : Prop) [Decidable c] (hp : Loc p) (hq : Loc q) : Loc (fun b k => if c then p b k else q b k) := by
  by_cases h : c
  · simp only [if_pos h]; exact hp
  · simp only [if_neg h]; exact hq
theorem Loc.grp (c : Nat) : Loc (fun b k => rGrp b c k) := ⟨fun b k a j h hk => by
  have hj := (rGrp_lt h).2
  unfold rGrp at h
  split at h
  · rename_i hc
    simp only [Res.ok.injEq] at h
    obtain ⟨ha, -⟩ := h
    subst hj
    refine ⟨by omega, hc, fun b' hs => ?_, fun n h1 h2 => ?_⟩
    · rw [rGrp_yes hs.le]
      unfold bitsAt at ha ⊢
      rw [take_drop_of hs.bits (Nat.le_refl _), ha]
    · rw [rGrp_no (by rw [zcut_len h2 hc]; omega)]
  · cases h⟩
theorem hits_of {l A B : List Nat} {i m : Nat} (h : hits l A i) (hm : len l i ≤ m) (e : A.take m = B.take m) (hB : m ≤ B.length) : hits l B i := by
  obtain ⟨h1, h2, h3⟩ := h
  refine ⟨h1, by omega, ?_⟩
  have e1 : (A.take m).take (len l i) = A.take (len l i) := by rw [List.take_take, Nat.min_eq_left hm]
  have e2 : (B.take m).take (len l i) = B.take (len l i) := by rw [List.take_take, Nat.min_eq_left hm]
  rw [← e2, ← e, e1, h3]
theorem Loc.sym (l : List Nat) : Loc (fun b k => rSym b l k) := ⟨fun b k a j h hk => by
  obtain ⟨hh, rfl⟩ := rSym_in h
  have hl := hh.2.1
  rw [List.length_drop, bts_length] at hl
  refine ⟨by omega, by omega, fun b' hs => ?_, fun n h1 h2 => ?_⟩
  · refine rSym_hit (hits_of hh (Nat.le_refl _) (take_drop_of hs.bits (Nat.le_refl _)).symm ?_)
    have := hs.le
    rw [List.length_drop, bts_length]; omega
  · have hcut := zcut_len (b := b) h2 (by omega)
    have hb : Bit01 ((bts b).drop k) := (bts_bit b).sub fun _ hx => List.mem_of_mem_drop hx
    have hno : ∀ i, ¬ hits l ((bts (b.take n)).drop k) i := by
      intro i hi
      have hil := hi.2.1
      rw [List.length_drop, bts_length, hcut] at hil
      have hi' : hits l ((bts b).drop k) i := by
        refine hits_of hi (m := 8 * n - k) hil ?_ (by rw [List.length_drop, bts_length]; omega)
        rw [bits_take]
        exact take_drop_of (j := 8 * n) (by rw [List.take_take, Nat.min_self]) (by omega)
      have := hits_one hb hi' hh
      subst this
      omega
    rw [rSym_none hno, if_pos]
    rw [List.length_drop, bts_length, hcut]
    have := mx_len l a
    omega⟩
theorem Loc.congr {α : Type} {p q : List Nat → Nat → Res α} (h : Loc p) (e : ∀ b k, q b k = p b k) : Loc q := by
  have : q = p := funext fun b => funext fun k => e b k
  rw [this]; exact h
theorem Loc.align : Loc (fun _ k => Res.ok () (upN k)) := ⟨fun b k a j h hk => by
  simp only [Res.ok.injEq] at h
  obtain ⟨-, rfl⟩ := h
  refine ⟨by unfold upN; omega, upN_le hk, fun _ _ => rfl, fun n h1 h2 => ?_⟩
  unfold upN at h2
  omega⟩
def rText (b : List Nat) (n k : Nat) : Res (List Nat) := (rIf (decide (k + 8 * n ≤ 8 * b.length)) 20 k).then fun _ k => .ok ((b.drop (k / 8)).take n) (k + 8 * n)
theorem Loc.text (n : Nat) : Loc (fun b k => rText b n k) := ⟨fun b k a j h hk => by
  unfold rText at h
  by_cases hc : k + 8 * n ≤ 8 * b.length
  · rw [rIf_yes (decide_eq_true hc), Res.then_ok] at h
    simp only [Res.ok.injEq] at h
    obtain ⟨rfl, rfl⟩ := h
    refine ⟨by omega, hc, fun b' hs => ?_, fun m h1 h2 => ?_⟩
    · unfold rText
      rw [rIf_yes (decide_eq_true hs.le), Res.then_ok]
      obtain ⟨q, s1, s2, s3, s4⟩ := hs
      rw [take_drop_of (j := q) s4 (by omega)]
    · unfold rText
      rw [rIf_no (decide_eq_false (by rw [zcut_len h2 hc]; omega))]; rfl
  · rw [rIf_no (decide_eq_false hc)] at h; cases h⟩
theorem Loc.loop {σ : Type} {step : List Nat → σ → Nat → Res (Bool × σ)} {F : List Nat → σ → Nat → Res σ} (hs : ∀ s, Loc (fun b k => step b s k))
    (h1 : ∀ b s k e, step b s k = .no e → F b s k = .no e) (h2 : ∀ b s k s1 k1, step b s k = .ok (true, s1) k1 → F b s k = .ok s1 k1)
    (h3 : ∀ b s k s1 k1, step b s k = .ok (false, s1) k1 → F b s k = if k < k1 ∧ k1 ≤ 8 * b.length then F b s1 k1 else .no 0) : ∀ s, Loc (fun b k => F b s k) := by
  have key : ∀ (m : Nat) (b : List Nat) (s : σ) (k : Nat), 8 * b.length - k ≤ m → ∀ a j, F b s k = .ok a j → k ≤ 8 * b.length → k ≤ j ∧ j ≤ 8 * b.length ∧ (∀ b', Same b b' j → F b' s k = .ok a j) ∧ (∀ n, k ≤ 8 * n → 8 * n < j → F (b.take n) s k = .no 20) := by
    intro m
    induction m with
    | zero =>
      intro b s k hm a j h hk
      cases hx : step b s k with
      | no e => rw [h1 _ _ _ _ hx] at h; cases h
      | ok lt k1 =>
        obtain ⟨last, s1⟩ := lt
        obtain ⟨p1, p2, p3, p4⟩ := (hs s).of b k _ k1 hx hk
        cases last with
        | true =>
          rw [h2 _ _ _ _ _ hx] at h
          simp only [Res.ok.injEq] at h
          obtain ⟨rfl, rfl⟩ := h
          exact ⟨p1, p2, fun b' hb => h2 _ _ _ _ _ (p3 b' hb), fun n q1 q2 => h1 _ _ _ _ (p4 n q1 q2)⟩
        | false =>
          rw [h3 _ _ _ _ _ hx, if_neg (by omega)] at h
          cases h
    | succ m ih =>
      intro b s k hm a j h hk
      cases hx : step b s k with
      | no e => rw [h1 _ _ _ _ hx] at h; cases h
      | ok lt k1 =>
        obtain ⟨last, s1⟩ := lt
        obtain ⟨p1, p2, p3, p4⟩ := (hs s).of b k _ k1 hx hk
        cases last with
        | true =>
          rw [h2 _ _ _ _ _ hx] at h
          simp only [Res.ok.injEq] at h
          obtain ⟨rfl, rfl⟩ := h
          exact ⟨p1, p2, fun b' hb => h2 _ _ _ _ _ (p3 b' hb), fun n q1 q2 => h1 _ _ _ _ (p4 n q1 q2)⟩
        | false =>
          rw [h3 _ _ _ _ _ hx] at h
          by_cases hc : k < k1 ∧ k1 ≤ 8 * b.length
          · rw [if_pos hc] at h
            obtain ⟨r1, r2, r3, r4⟩ := ih b s1 k1 (by omega) a j h p2
            refine ⟨by omega, r2, fun b' hb => ?_, fun n q1 q2 => ?_⟩
            · rw [h3 _ _ _ _ _ (p3 b' (hb.mono r1)), if_pos ⟨hc.1, (hb.mono r1).le⟩]
              exact r3 b' hb
            · by_cases hn : 8 * n < k1
              · exact h1 _ _ _ _ (p4 n q1 hn)
              · have sm : Same b (b.take n) k1 := same_take (by omega) (by omega)
                rw [h3 _ _ _ _ _ (p3 _ sm), if_pos ⟨hc.1, sm.le⟩]
                exact r4 n (by omega) q2
          · rw [if_neg hc] at h; cases h
  exact fun s => ⟨fun b k a j h hk => key _ b s k (Nat.le_refl _) a j h hk⟩
theorem Loc.short : ∀ (syms l : List Nat), Loc (fun b k => rShort b syms l k)
  | [], l => Loc.pure l
  | s :: r, l => (Loc.grp 3).then fun x => Loc.short r (l.set s x)
theorem Loc.code (many : Nat) : Loc (fun b k => rCode b many k) :=
  (Loc.short (order.take many) (List.replicate 19 0)).then fun cl => (Loc.rIf (decide (ful cl)) 62).then fun _ => Loc.pure cl
theorem Loc.run (cl l : List Nat) : Loc (fun b k => rRun b cl l k) :=
  (Loc.sym cl).then fun _ => Loc.ite _ ((Loc.rIf _ 62).then fun _ => (Loc.grp 2).then fun _ => Loc.pure _)
    (Loc.ite _ ((Loc.grp 3).then fun _ => Loc.pure _) (Loc.ite _ ((Loc.grp 7).then fun _ => Loc.pure _) (Loc.pure _)))
theorem Loc.lens (cl : List Nat) (many : Nat) : ∀ (d : Nat) (l : List Nat), many - l.length ≤ d → Loc (fun b k => rLens b cl many l k) := by
  intro d
  induction d with
  | zero =>
    intro l hd
    refine (Loc.pure l).congr fun b k => ?_
    rw [rLens, dif_pos (by omega)]
  | succ d ih =>
    intro l hd
    by_cases hm : many ≤ l.length
    · refine (Loc.pure l).congr fun b k => ?_
      rw [rLens, dif_pos hm]
    · refine ((Loc.run cl l).then (q := fun xt b k => if many < l.length + xt.2 + 1 then .no 62 else rLens b cl many (l ++ List.replicate (xt.2 + 1) xt.1) k) fun xt => Loc.ite _ (Loc.fail 62) (ih _ ?_)).congr fun b k => ?_
      · rw [List.length_append, List.length_replicate]; omega
      · rw [rLens, dif_neg hm]
        cases rRun b cl l k <;> rfl
theorem Loc.codes : Loc (fun b k => rCodes b k) :=
  (Loc.grp 5).then fun n1 => (Loc.grp 5).then fun n2 => (Loc.grp 4).then fun n3 => (Loc.rIf _ 62).then fun _ => (Loc.code (4 + n3)).then fun cl =>
    (Loc.lens cl (257 + n1 + (1 + n2)) _ [] (Nat.le_refl _)).then fun _ => (Loc.rIf _ 62).then fun _ => Loc.pure _
theorem Loc.back (lim : Nat) (spn T : List Nat) (s : Nat) : Loc (fun b k => rBack b lim spn T s k) :=
  (Loc.rIf _ 62).then fun _ => (Loc.grp _).then fun _ => (Loc.sym spn).then fun _ => (Loc.rIf _ 62).then fun _ => (Loc.grp _).then fun _ => (Loc.rIf _ 63).then fun _ => (Loc.rIf _ 64).then fun _ => Loc.pure _
theorem Loc.step (lim : Nat) (lit spn T : List Nat) : Loc (fun b k => rStep b lim lit spn T k) :=
  (Loc.sym lit).then fun s => Loc.ite _ ((Loc.rIf _ 64).then fun _ => Loc.pure _) (Loc.ite _ (Loc.pure _) ((Loc.back lim spn T s).then fun _ => Loc.pure _))
theorem Loc.syms (lim : Nat) (lit spn : List Nat) : ∀ T, Loc (fun b k => rSyms b lim lit spn T k) :=
  Loc.loop (step := fun b T k => rStep b lim lit spn T k) (fun T => Loc.step lim lit spn T) (fun b s k e h => by rw [rSyms, h]) (fun b s k s1 k1 h => by rw [rSyms, h]) (fun b s k s1 k1 h => by
    rw [rSyms, h]
    show (if _h : k < k1 ∧ k1 ≤ 8 * b.length then _ else _) = _
    split <;> rfl)
theorem Loc.stored (lim : Nat) (T : List Nat) : Loc (fun b k => rStored b lim T k) := by
  refine (Loc.align.then fun _ => (Loc.grp 16).then fun n => (Loc.grp 16).then fun m => (Loc.rIf (decide (n + m = 65535)) 61).then fun _ => (Loc.rIf (decide (T.length + n ≤ lim)) 64).then fun _ => (Loc.text n).then fun x => Loc.pure (T ++ x)).congr fun b k => ?_
  unfold rStored rText
  simp only [Res.then_ok]
  congr 1
  funext n k1
  congr 1
  funext m k2
  congr 1
  funext u k2
  congr 1
  funext u k2
  by_cases hc : k2 + 8 * n ≤ 8 * b.length
  · rw [rIf_yes (decide_eq_true hc)]; rfl
  · rw [rIf_no (decide_eq_false hc)]; rfl
theorem Loc.kind (lim : Nat) (T : List Nat) (n : Nat) : Loc (fun b k => rKind b lim T n k) :=
  Loc.ite _ (Loc.stored lim T) (Loc.ite _ (Loc.syms lim _ _ T) (Loc.ite _ (Loc.codes.then fun c => Loc.syms lim c.1 c.2 T) (Loc.fail 60)))
theorem Loc.block (lim : Nat) (T : List Nat) : Loc (fun b k => rBlock b lim T k) :=
  (Loc.grp 1).then fun _ => (Loc.grp 2).then fun n => (Loc.kind lim T n).then fun _ => Loc.pure _
theorem Loc.blocks (lim : Nat) : ∀ T, Loc (fun b k => rBlocks b lim T k) :=
  Loc.loop (step := fun b T k => rBlock b lim T k) (fun T => Loc.block lim T) (fun b s k e h => by rw [rBlocks, h]) (fun b s k s1 k1 h => by rw [rBlocks, h]) (fun b s k s1 k1 h => by
    rw [rBlocks, h]
    show (if _h : k < k1 ∧ k1 ≤ 8 * b.length then _ else _) = _
    split <;> rfl)
theorem block_up {b : List Nat} {lim : Nat} {T : List Nat} {k k1 : Nat} {lt : Bool × List Nat} (h : rBlock b lim T k = .ok lt k1) : k < k1 := by
  unfold rBlock at h
  cases h1 : rGrp b 1 k with
  | no e => rw [h1] at h; cases h
  | ok n j1 =>
    have e1 := (rGrp_lt h1).2
    rw [h1, Res.then_ok] at h
    cases h2 : rGrp b 2 j1 with
    | no e => rw [h2] at h; cases h
    | ok n2 j2 =>
      have e2 := (rGrp_lt h2).2
      have hj2 : j2 ≤ 8 * b.length := by
        have := (Loc.grp 2).of b j1 n2 j2 h2
        unfold rGrp at h2
        split at h2
        · rename_i hc; omega
        · cases h2
      rw [h2, Res.then_ok] at h
      cases h3 : rKind b lim T n2 j2 with
      | no e => rw [h3] at h; cases h
      | ok T1 j3 =>
        have := ((Loc.kind lim T n2).of b j2 T1 j3 h3 hj2).1
        rw [h3, Res.then_ok] at h
        simp only [Res.ok.injEq] at h
        omega
end Go.Proofs.YtnndgpggjlhhpaaGreat
namespace Go.Proofs.YtnndgpggjlhhpaaGreat
open Go.RowKit
theorem rBlocks_no {b : List Nat} {lim : Nat} {T : List Nat} {k e : Nat} (h : rBlock b lim T k = .no e) : rBlocks b lim T k = .no e := by
  rw [rBlocks, h]
theorem rBlocks_end {b : List Nat} {lim : Nat} {T T1 : List Nat} {k k1 : Nat} (h : rBlock b lim T k = .ok (true, T1) k1) : rBlocks b lim T k = .ok T1 k1 := by
  rw [rBlocks, h]
theorem rBlocks_go {b : List Nat} {lim : Nat} {T T1 : List Nat} {k k1 : Nat} (h : rBlock b lim T k = .ok (false, T1) k1) (h1 : k < k1) (h2 : k1 ≤ 8 * b.length) : rBlocks b lim T k = rBlocks b lim T1 k1 := by
  rw [rBlocks, h]
  show (if _h : k < k1 ∧ k1 ≤ 8 * b.length then rBlocks b lim T1 k1 else .no 0) = _
  rw [dif_pos ⟨h1, h2⟩]
def ReadEnds (x : Res (List Nat)) (w : World) (e : Ending) (w' : World) : Prop :=
  Fr S0 w w' ∧ match x with
  | .ok T k => ∃ v, e = .returned (.tuple #[v, .int .i64 (upN k / 8 : Nat), .int .i64 0]) ∧ RowNew w w' v T
  | .no m => e = .returned (.tuple #[.slice none 0 0, .int .i64 0, .int .i64 (m : Nat)])
theorem res3 {tmps : Array Value} {w : World} {p q s : Nat} {v : Value} {a e : Int} (h4 : tmps.getD 4 undef = .pointer (some ⟨p, 0, none⟩)) (h5 : tmps.getD 5 undef = .pointer (some ⟨q, 0, none⟩)) (h6 : tmps.getD 6 undef = .pointer (some ⟨s, 0, none⟩))
    (hp : w.heap[p]? = some (.cells #[v] 31 (0, 0))) (hq : w.heap[q]? = some (.cells #[.int .i64 a] 3 (0, 0))) (hs : w.heap[s]? = some (.cells #[.int .i64 e] 36 (0, 0))) :
    (results Tryz.f146 tmps).run Tryz.prog w = .ok (.tuple #[v, .int .i64 a, .int .i64 e]) w := by
  have c1 : w.cell? ⟨p, 0, none⟩ = some v := by simp [World.cell?, hp]
  have c2 : w.cell? ⟨q, 0, none⟩ = some (.int .i64 a) := by simp [World.cell?, hq]
  have c3 : w.cell? ⟨s, 0, none⟩ = some (.int .i64 e) := by simp [World.cell?, hs]
  have h4' : tmps[4]?.getD undef = .pointer (some ⟨p, 0, none⟩) := by simpa using h4
  have h5' : tmps[5]?.getD undef = .pointer (some ⟨q, 0, none⟩) := by simpa using h5
  have h6' : tmps[6]?.getD undef = .pointer (some ⟨s, 0, none⟩) := by simpa using h6
  simp [results, Tryz.results146, asAddr, h4', h5', h6', go_sem, c1, c2, c3]
theorem keep1 {w : World} {g k P : Nat} {x v : Value} (h : w.cell? ⟨g, k, none⟩ = some v) (hn : g ≠ P) : (w.setCell ⟨P, 0, none⟩ x).drew.cell? ⟨g, k, none⟩ = some v :=
  ((Fr.setCell (· = P) w ⟨P, 0, none⟩ x rfl).trans0 (Fr.drew _ _)).cell (a := ⟨g, k, none⟩) h hn
theorem keep0 {w : World} {g k P : Nat} {x v : Value} (h : w.cell? ⟨g, k, none⟩ = some v) (hn : g ≠ P) : (w.setCell ⟨P, 0, none⟩ x).cell? ⟨g, k, none⟩ = some v :=
  (Fr.setCell (· = P) w ⟨P, 0, none⟩ x rfl).cell (a := ⟨g, k, none⟩) h hn
theorem three (w : World) (o1 o2 o3 : Obj) : Fr S0 w (((w.alloc o1).alloc o2).alloc o3) ∧ (((w.alloc o1).alloc o2).alloc o3).heap[w.heap.size]? = some o1 ∧ (((w.alloc o1).alloc o2).alloc o3).heap[w.heap.size + 1]? = some o2 ∧ (((w.alloc o1).alloc o2).alloc o3).heap[w.heap.size + 1 + 1]? = some o3 ∧ (((w.alloc o1).alloc o2).alloc o3).heap.size = w.heap.size + 3 := by
  refine ⟨((Fr.alloc S0 w o1).trans0 (Fr.alloc S0 _ o2)).trans0 (Fr.alloc S0 _ o3), ?_, ?_, ?_, by simp⟩
  · exact (Fr.alloc S0 _ o3).row ((Fr.alloc S0 _ o2).row (heap_alloc_new w o1) (fun h => h)) (fun h => h)
  · have := heap_alloc_new (w.alloc o1) o2
    rw [size_alloc] at this
    exact (Fr.alloc S0 _ o3).row this (fun h => h)
  · have := heap_alloc_new ((w.alloc o1).alloc o2) o3
    rw [size_alloc, size_alloc] at this
    exact this
structure Three (w0 w : World) (g gr : Nat) (t : Option Nat) (v : Value) (a e : Int) : Prop where
  c1 : w.heap[w0.heap.size]? = some (.cells #[v] 31 (0, 0))
  c2 : w.heap[w0.heap.size + 1]? = some (.cells #[.int .i64 a] 3 (0, 0))
  c3 : w.heap[w0.heap.size + 1 + 1]? = some (.cells #[.int .i64 e] 36 (0, 0))
  fr : Fr S0 w0 w
  far : w0.heap.size + 3 ≤ g ∧ w0.heap.size + 3 ≤ gr ∧ ∀ j, t = some j → w0.heap.size + 3 ≤ j
theorem Three.out {w0 w w' : World} {g gr : Nat} {t : Option Nat} {v : Value} {a e : Int} (h : Three w0 w g gr t v a e) (f : Fr (StB g gr t) w w') : (∃ t', t' = t) ∧ w'.heap[w0.heap.size]? = some (.cells #[v] 31 (0, 0)) ∧ w'.heap[w0.heap.size + 1]? = some (.cells #[.int .i64 a] 3 (0, 0)) ∧ w'.heap[w0.heap.size + 1 + 1]? = some (.cells #[.int .i64 e] 36 (0, 0)) ∧ Fr S0 w0 w' := by
  have hk : ∀ k, k < w0.heap.size + 3 → ¬ StB g gr t k := by
    intro k hk hs
    have := h.far
    rcases hs with hs | hs | hs
    · omega
    · omega
    · have := this.2.2 k hs; omega
  exact ⟨⟨_, rfl⟩, f.row h.c1 (hk _ (by omega)), f.row h.c2 (hk _ (by omega)), f.row h.c3 (hk _ (by omega)), h.fr.trans f (fun j hj e => hk j (by omega) e)⟩
theorem Three.to {w0 w w' : World} {g gr : Nat} {t t' : Option Nat} {v : Value} {a e : Int} (h : Three w0 w g gr t v a e) (f : Fr (StB g gr t) w w') (ht : t' = t ∨ ∀ j, t' = some j → w.heap.size ≤ j) : Three w0 w' g gr t' v a e := by
  obtain ⟨-, h1, h2, h3, h4⟩ := h.out f
  refine ⟨h1, h2, h3, h4, h.far.1, h.far.2.1, fun j hj => ?_⟩
  rcases ht with ht | ht
  · exact h.far.2.2 j (ht ▸ hj)
  · have := ht j hj
    have := (Array.getElem?_eq_some_iff.1 h.c3).1
    omega
theorem read_ok (p : Option Addr) (d : Nat) (b : List Nat) (lim : Nat) (w : World) (hb : SlI w .u8 p b) (h8 : ∀ x ∈ b, x < 256) (hp : p = none → d = 0) (hL : b.length ≤ 140737488355328) (hl : lim ≤ 1048576) :
    Calls Tryz.prog 146 #[.slice p b.length d, .int .i64 (lim : Nat)] w (ReadEnds (infl b lim) w) := by
  have H3 := Lib.hid (three w (.cells #[.slice none 0 0] 31) (.cells #[.int .i64 0] 3) (.cells #[.int .i64 0] 36))
  have hmf : ∀ (fn : Fn) (first cap : Array Value) (w : World), (Instr.makeFunc fn first cap).run Tryz.prog w = .ok (.func fn first cap) w := fun _ _ _ _ => rfl
  have HB := Lib.hid (hb.fr0 H3.out.1)
  have H8 := Lib.hid h8
  have HP := Lib.hid hp
  have HL := Lib.hid hL
  have i1 : ¬ (lim : Int) < 0 := by omega
  have i2 : ¬ (lim : Int) > 1048576 := by omega
  clear hb h8 hp hL
  go_enter_defers Tryz.func146, Tryz.ntmps146
  go_wp2_with fail
  have HNW := Lib.hid (znew_any p d b _ HB.out H8.out HP.out HL.out)
  have HF3 := Lib.hid H3.out.1
  have HC1 := Lib.hid H3.out.2.1
  have HC2 := Lib.hid H3.out.2.2.1
  have HC3 := Lib.hid H3.out.2.2.2.1
  have HSZ := Lib.hid H3.out.2.2.2.2
  generalize ((w.alloc (.cells #[.slice none 0 0] 31)).alloc (.cells #[.int .i64 0] 3)).alloc (.cells #[.int .i64 0] 36) = W at HNW HF3 HC1 HC2 HC3 HSZ ⊢
  clear H3 HB i1 i2
  refine HNW.out.mono ?_
  rintro e w1 ⟨gr, r, rfl, hrd, hfr, hgr, hrr⟩
  have HST : Hid (StIs (w1.alloc (.cells #[.pointer (some ⟨gr, 0, none⟩), .int .i64 (lim : Nat), .slice none 0 0, .pointer none, .pointer none] 228)) w1.heap.size gr r none b 0 lim [] (.pointer none) (.pointer none)) := Lib.hid (by
    refine ⟨⟨none, 0, heap_alloc_new w1 _, World.ownsRow_nil _ _ _ _, rfl⟩, hrd.fr0 (Fr.alloc _ _ _), by simp, ⟨by simp, hl, HL.out⟩, ?_, ?_, by simp, by simp, by simp⟩
    · have := hrd.lt; omega
    · intro e
      have := hrd.rlt _ e
      omega)
  have HTH : Hid (Three w (w1.alloc (.cells #[.pointer (some ⟨gr, 0, none⟩), .int .i64 (lim : Nat), .slice none 0 0, .pointer none, .pointer none] 228)) w1.heap.size gr none (.slice none 0 0) 0 0) := Lib.hid (by
    have f2 : Fr S0 W (w1.alloc (.cells #[.pointer (some ⟨gr, 0, none⟩), .int .i64 (lim : Nat), .slice none 0 0, .pointer none, .pointer none] 228)) := hfr.trans0 (Fr.alloc _ _ _)
    have hz := HSZ.out
    have h1 := hfr.size
    exact ⟨f2.row HC1.out (fun h => h), f2.row HC2.out (fun h => h), f2.row HC3.out (fun h => h), HF3.out.trans0 f2, by omega, by omega, by simp⟩)
  clear hrd hfr hgr hrr HNW
  go_wp2_with fail
  generalize w1.alloc (.cells #[.pointer (some ⟨gr, 0, none⟩), .int .i64 (lim : Nat), .slice none 0 0, .pointer none, .pointer none] 228) = W1 at HST HTH ⊢
  generalize w1.heap.size = g at HST HTH ⊢
  obtain ⟨RES, hRES⟩ : ∃ X, infl b lim = X := ⟨_, rfl⟩
  have HE : Hid (rBlocks b lim [] 0 = RES) := Lib.hid hRES
  rw [hRES]
  clear hRES HC1 HC2 HC3 HF3 HSZ
  go_loopw [8] (fun l wr => ∃ k T t L S last, l = .bool last ∧ StIs wr g gr r t b k lim T L S ∧ FixIs wr g gr t L S ∧ Three w wr g gr t (.slice none 0 0) 0 0 ∧ (last = true → RES = .ok T k) ∧ (last = false → RES = rBlocks b lim T k)) (fun _ wr => 8 * b.length - atOf wr gr)
  case atStart => exact ⟨0, [], none, _, _, false, rfl, HST.out, .inl ⟨rfl, rfl⟩, HTH.out, (fun h => by cases h), (fun _ => HE.out.symm)⟩
  case round =>
    obtain ⟨k, T, t, L, S, last, rfl, hst, hfx, hth, hl1, hl2⟩ := hrel
    have HS1 := Lib.hid hst
    have HX1 := Lib.hid hfx
    have HT1 := Lib.hid hth
    cases last with
    | false =>
      have HR := Lib.hid (hl2 rfl)
      have HB := Lib.hid (block_any wr hst hfx)
      clear hl1 hl2 hst hfx hth
      go_wp2_with fail
      refine HB.out.mono ?_
      intro e w2 h2
      cases hx : rBlock b lim T k with
      | no m =>
        rw [hx] at h2
        obtain ⟨rfl, f2⟩ := h2
        have K : Hid (RES = .no m) := Lib.hid (by rw [HR.out]; exact rBlocks_no hx)
        obtain ⟨-, a1, a2, a3, a4⟩ := HT1.out.out f2
        have A1 := Lib.hid a1
        have A2 := Lib.hid a2
        have A3 := Lib.hid a3
        have A4 := Lib.hid a4
        clear hx f2 HB a1 a2 a3 a4
        go_wp2_with fail
        refine leaves_cons (f := 172) (args := #[.pointer (some ⟨w.heap.size, 0, none⟩), .pointer (some ⟨w.heap.size + 1, 0, none⟩), .pointer (some ⟨w.heap.size + 1 + 1, 0, none⟩)]) (by simp) (by simp [go_sem]) ?_
        refine (catch_given w.heap.size (w.heap.size + 1) (w.heap.size + 1 + 1) m _ _ _ w2 A1.out A2.out A3.out (by omega) (by omega) (by omega)).mono ?_
        rintro e u' w3 ⟨rfl, hset, f3, c1, c2, c3⟩
        show Leaves _ _ _ _ [] (settle u') w3
        rw [hset]
        refine ⟨_, res3 rfl rfl rfl c1 c2 c3, A4.out.trans f3 (fun j hj e => by omega), ?_⟩
        rw [K.out]
      | ok lt k2 =>
        obtain ⟨last, T2⟩ := lt
        rw [hx] at h2
        obtain ⟨rfl, t2, L2, S2, b1, b2, b3, b4⟩ := h2
        have HUP := Lib.hid (block_up hx)
        have HS2 := Lib.hid b1
        have HX2 := Lib.hid b2
        have HT2 := Lib.hid (HT1.out.to b3 b4)
        have KT : Hid (last = true → RES = .ok T2 k2) := Lib.hid (fun q => by subst q; rw [HR.out]; exact rBlocks_end hx)
        have KF : Hid (last = false → RES = rBlocks b lim T2 k2) := Lib.hid (fun q => by subst q; rw [HR.out]; exact rBlocks_go hx HUP.out b1.rd.inside)
        have HM : Hid (atOf w2 gr = k2 ∧ atOf wr gr = k ∧ k2 ≤ 8 * b.length) := Lib.hid ⟨b1.rd.atOf, HS1.out.rd.atOf, b1.rd.inside⟩
        clear hx b1 b2 b3 b4 HB
        go_wp2_with fail
        go_roundw
        case rel => exact ⟨k2, T2, t2, L2, S2, last, rfl, HS2.out, HX2.out, HT2.out, KT.out, KF.out⟩
        case measure => have := HM.out; have := HUP.out; show _ < _; omega
    | true =>
      have HR := Lib.hid (hl1 rfl)
      have c0 := hst.c0
      have HA := Lib.hid (ralign_any gr r b k wr hst.rd hst.few.2.2)
      clear hl1 hl2 hst hfx hth
      go_wp2_with fail
      refine HA.out.mono ?_
      rintro e w2 ⟨rfl, t2⟩
      have H2 := Lib.hid (HS1.out.read t2)
      have HT2 := Lib.hid (HT1.out.to (frSt t2.2) (.inl rfl))
      have HAT := Lib.hid (fun W (f : Fr S0 w2 W) => at_any gr r b (upN k) W (H2.out.rd.fr0 f))
      obtain ⟨pt, ct, -, e2, own, et⟩ := H2.out.c2
      have e0 := H2.out.c0
      have HU : Hid (upN k ≤ 8 * b.length ∧ upN k % 8 = 0) := Lib.hid ⟨H2.out.rd.inside, by unfold upN; omega⟩
      obtain ⟨U, hU⟩ : ∃ U, upN k = U := ⟨_, rfl⟩
      rw [hU] at HAT HU
      have HUU := Lib.hid hU
      have q1 : U ≤ 1125899906842624 := by have := HU.out.1; have := HL.out; omega
      obtain ⟨D, hD⟩ : ∃ D, U / 8 = D := ⟨_, rfl⟩
      have HD := Lib.hid hD
      have q2 : (U : Int) / 8 = (D : Int) := by omega
      have q3 : (U : Int).tdiv 8 = (D : Int) := by rw [Int.tdiv_eq_ediv_of_nonneg (by omega)]; exact q2
      obtain ⟨P0, hP0⟩ : ∃ P0, w.heap.size = P0 := ⟨_, rfl⟩
      have b1 := HT2.out.c1
      have b2 := HT2.out.c2
      have b3 := HT2.out.c3
      rw [hP0] at b1 b2 b3 ⊢
      have HP0 := Lib.hid hP0
      have d1 : w2.cell? ⟨P0, 0, none⟩ = some (.slice none 0 0) := by simp [World.cell?, b1]
      have d2 : w2.cell? ⟨P0 + 1, 0, none⟩ = some (.int .i64 0) := by simp [World.cell?, b2]
      have d3 : w2.cell? ⟨P0 + 1 + 1, 0, none⟩ = some (.int .i64 0) := by simp [World.cell?, b3]
      have z1 : w2.frozen? ⟨P0, 0, none⟩ = false := by simp [World.frozen?, b1]
      have z2 : w2.frozen? ⟨P0 + 1, 0, none⟩ = false := by simp [World.frozen?, b2]
      have z3 : w2.frozen? ⟨P0 + 1 + 1, 0, none⟩ = false := by simp [World.frozen?, b3]
      have B1 := Lib.hid b1
      have B2 := Lib.hid b2
      have B3 := Lib.hid b3
      have HOT := Lib.hid own
      obtain ⟨MT, hMT⟩ : ∃ M, T.length = M := ⟨_, rfl⟩
      rw [hMT] at e2
      have HMT := Lib.hid hMT
      have HOB : Hid (∀ j, Value.ownBlock (.slice pt T.length ct) = some j → P0 + 3 ≤ j) := Lib.hid (fun j hj => by
        have := HT2.out.far.2.2 j (by rw [← et]; exact hj)
        omega)
      clear c0 HA t2 own hU hD hP0 b1 b2 b3 hMT et
      go_wp2_with fail
      have q4 : IntKind.i64.wrap (D : Int) = (D : Int) := IntWalk.i64_in _ (by omega)
      have n1 : g ≠ P0 := by have := HT2.out.far.1; have := HP0.out; omega
      have n2 : g ≠ P0 + 1 := by have := HT2.out.far.1; have := HP0.out; omega
      have n3 : g ≠ P0 + 1 + 1 := by have := HT2.out.far.1; have := HP0.out; omega
      go_region_held3 (fun w' => w'.cell? ⟨g, 2, none⟩ = some (.slice pt MT ct) ∧ w'.cell? ⟨g, 0, none⟩ = some (.pointer (some ⟨gr, 0, none⟩)))
        (first | (with_reducible exact ⟨keep1 e2 n1, keep1 e0 n1⟩) | (with_reducible exact ⟨keep1 (keep0 e2 n1) n2, keep1 (keep0 e0 n1) n2⟩) | (with_reducible exact ⟨keep1 (keep0 (keep0 e2 n1) n2) n3, keep1 (keep0 (keep0 e0 n1) n2) n3⟩) | (go_split_ands; exact ⟨by assumption, by assumption⟩) | go_keep)
        (first
          | (go_at_call 176; refine (HAT.out _ (Fr.drew _ _)).mono ?_; rintro e w' ⟨rfl, rfl⟩))
      have f1 : Fr (fun j => j = P0 ∨ j = P0 + 1 ∨ j = P0 + 1 + 1) w2 (w2.setCell ⟨P0, 0, none⟩ (.slice pt MT ct)) := Fr.setCell _ _ _ _ (.inl rfl)
      have g1 : (w2.setCell ⟨P0, 0, none⟩ (.slice pt MT ct)).heap[P0]? = some (.cells #[.slice pt MT ct] 31 (0, 0)) := heap_setCell_same w2 P0 0 _ _ _ B1.out
      have g2 := (Fr.setCell (· = P0) w2 ⟨P0, 0, none⟩ (.slice pt MT ct) rfl).row B2.out (by omega)
      have g3 := (Fr.setCell (· = P0) w2 ⟨P0, 0, none⟩ (.slice pt MT ct) rfl).row B3.out (by omega)
      generalize w2.setCell ⟨P0, 0, none⟩ (.slice pt MT ct) = W4 at f1 g1 g2 g3 ⊢
      have f2 : Fr (fun j => j = P0 ∨ j = P0 + 1 ∨ j = P0 + 1 + 1) W4 (W4.setCell ⟨P0 + 1, 0, none⟩ (.int .i64 (D : Nat))) := Fr.setCell _ _ _ _ (.inr (.inl rfl))
      have k1 := (Fr.setCell (· = P0 + 1) W4 ⟨P0 + 1, 0, none⟩ (.int .i64 (D : Nat)) rfl).row g1 (by omega)
      have k2 : (W4.setCell ⟨P0 + 1, 0, none⟩ (.int .i64 (D : Nat))).heap[P0 + 1]? = some (.cells #[.int .i64 (D : Nat)] 3 (0, 0)) := heap_setCell_same W4 (P0 + 1) 0 _ _ _ g2
      have k3 := (Fr.setCell (· = P0 + 1) W4 ⟨P0 + 1, 0, none⟩ (.int .i64 (D : Nat)) rfl).row g3 (by omega)
      generalize W4.setCell ⟨P0 + 1, 0, none⟩ (.int .i64 (D : Nat)) = W5 at f2 k1 k2 k3 ⊢
      have f3 : Fr (fun j => j = P0 ∨ j = P0 + 1 ∨ j = P0 + 1 + 1) W5 (W5.setCell ⟨P0 + 1 + 1, 0, none⟩ (.int .i64 0)) := Fr.setCell _ _ _ _ (.inr (.inr rfl))
      have l1 := (Fr.setCell (· = P0 + 1 + 1) W5 ⟨P0 + 1 + 1, 0, none⟩ (.int .i64 0) rfl).row k1 (by omega)
      have l2 := (Fr.setCell (· = P0 + 1 + 1) W5 ⟨P0 + 1 + 1, 0, none⟩ (.int .i64 0) rfl).row k2 (by omega)
      have l3 : (W5.setCell ⟨P0 + 1 + 1, 0, none⟩ (.int .i64 0)).heap[P0 + 1 + 1]? = some (.cells #[.int .i64 0] 36 (0, 0)) := heap_setCell_same W5 (P0 + 1 + 1) 0 _ _ _ k3
      generalize W5.setCell ⟨P0 + 1 + 1, 0, none⟩ (.int .i64 0) = W6 at f3 l1 l2 l3 ⊢
      have ff : Fr (fun j => j = P0 ∨ j = P0 + 1 ∨ j = P0 + 1 + 1) w2 W6.drew := ((f1.trans f2 (fun _ _ h => h)).trans f3 (fun _ _ h => h)).trans0 (Fr.drew _ _)
      have hown := ff.owns HOT.out (fun j hj e => by have := HOB.out j hj; omega)
      have hfr : Fr S0 w W6.drew := HT2.out.fr.trans ff (fun j hj e => by have := HP0.out; omega)
      have l1' : W6.drew.heap[P0]? = some (.cells #[.slice pt MT ct] 31 (0, 0)) := l1
      have l2' : W6.drew.heap[P0 + 1]? = some (.cells #[.int .i64 (D : Nat)] 3 (0, 0)) := l2
      have l3' : W6.drew.heap[P0 + 1 + 1]? = some (.cells #[.int .i64 0] 36 (0, 0)) := l3
      generalize W6.drew = W7 at hown hfr l1' l2' l3' ⊢
      have HOW := Lib.hid hown
      have HFR := Lib.hid hfr
      have L1 := Lib.hid l1'
      have L2 := Lib.hid l2'
      have L3 := Lib.hid l3'
      clear f1 f2 f3 g1 g2 g3 k1 k2 k3 l1 l2 l3 ff hown hfr l1' l2' l3' d1 d2 d3 z1 z2 z3 e0 e2 q1 q2 q3 q4
      go_wp2_with fail
      refine leaves_cons (f := 172) (args := #[.pointer (some ⟨P0, 0, none⟩), .pointer (some ⟨P0 + 1, 0, none⟩), .pointer (some ⟨P0 + 1 + 1, 0, none⟩)]) (by simp) (by simp [go_sem]) ?_
      refine (catch_idle ⟨P0, 0, none⟩ ⟨P0 + 1, 0, none⟩ ⟨P0 + 1 + 1, 0, none⟩ W7).mono ?_
      rintro e u' w' ⟨rfl, rfl, rfl⟩
      refine ⟨_, res3 rfl rfl rfl L1.out L2.out L3.out, HFR.out, ?_⟩
      have hres : infl b lim = .ok T k := HE.out.trans HR.out
      rw [hres]
      exact ⟨.slice pt MT ct, by rw [HUU.out, HD.out], by have := HOW.out; rw [HMT.out] at this; rw [HMT.out]; exact this, fun j hj => by have := HOB.out j (by rw [HMT.out]; exact hj); have := HP0.out; omega⟩
end Go.Proofs.YtnndgpggjlhhpaaGreat
namespace Go.Proofs.YtnndgpggjlhhpaaGreat
open Go.RowKit
theorem bits_app (a b : List Nat) : bts (a ++ b) = bts a ++ bts b := by simp [bts, List.flatMap_append]
theorem bits_cons (x : Nat) (r : List Nat) : bts (x :: r) = grp x 8 ++ bts r := by simp [bts]
theorem drop_pre (pre s : List Nat) (k : Nat) : (bts (pre ++ s)).drop (8 * pre.length + k) = (bts s).drop k := by
  rw [bits_app, ← List.drop_drop, List.drop_left' (by rw [bts_length])]
theorem rGrp_pre {pre s : List Nat} {c k n j : Nat} (h : rGrp s c k = .ok n j) : rGrp (pre ++ s) c (8 * pre.length + k) = .ok n (8 * pre.length + j) := by
  have hj := (rGrp_lt h).2
  unfold rGrp at h ⊢
  split at h
  · rename_i hc
    simp only [Res.ok.injEq] at h
    rw [if_pos (by rw [List.length_append]; omega)]
    unfold bitsAt at h ⊢
    rw [drop_pre, h.1, hj]
    congr 1
    omega
  · cases h
theorem num_two (x y : Nat) (r : List Nat) (hx : x < 256) (hy : y < 256) : rGrp (x :: y :: r) 16 0 = .ok (x + 256 * y) 16 := by
  have hb : bitsAt (x :: y :: r) 0 16 = grp x 8 ++ grp y 8 := by
    unfold bitsAt
    rw [bits_cons, bits_cons, List.drop_zero, ← List.append_assoc, List.take_left' (by rw [List.length_append, grp_length, grp_length])]
  unfold rGrp
  rw [if_pos (by simp only [List.length_cons]; omega), hb, num_append, grp_length, num_grp, num_grp, Nat.mod_eq_of_lt (by omega), Nat.mod_eq_of_lt (by omega)]
theorem head1 (x : Nat) (r : List Nat) : rGrp (x :: r) 1 0 = .ok (x % 2) 1 := by
  have hb : bitsAt (x :: r) 0 1 = [x % 2] := by
    unfold bitsAt
    rw [bits_cons, List.drop_zero, List.take_append_of_le_length (by rw [grp_length]; decide)]
    rfl
  unfold rGrp
  rw [if_pos (by simp only [List.length_cons]; omega), hb, num_one]
theorem head2 (x : Nat) (r : List Nat) : rGrp (x :: r) 2 1 = .ok (x / 2 % 4) 3 := by
  have hb : bitsAt (x :: r) 1 2 = [x / 2 % 2, x / 2 / 2 % 2] := by
    unfold bitsAt
    rw [bits_cons, List.drop_append_of_le_length (by rw [grp_length]; decide), List.take_append_of_le_length (by rw [List.length_drop, grp_length]; decide)]
    rfl
  unfold rGrp
  rw [if_pos (by simp only [List.length_cons]; omega), hb]
  simp only [num]
  congr 1
  omega
theorem stored_block (pre l rest : List Nat) (lim : Nat) (T : List Nat) (x a b c d : Nat) (hx : x / 2 % 4 = 0) (ha : a < 256) (hb : b < 256) (hc : c < 256) (hd : d < 256) (hn : a + 256 * b = l.length) :
    rBlock (pre ++ (x :: a :: b :: c :: d :: (l ++ rest))) lim T (8 * pre.length) = if l.length + (c + 256 * d) = 65535 then (if T.length + l.length ≤ lim then .ok (decide (x % 2 = 1), T ++ l) (8 * (pre.length + 5 + l.length)) else .no 64) else .no 61 := by
  have h1 := rGrp_pre (pre := pre) (head1 x (a :: b :: c :: d :: (l ++ rest)))
  have h2 := rGrp_pre (pre := pre) (head2 x (a :: b :: c :: d :: (l ++ rest)))
  have h3 := rGrp_pre (pre := pre ++ [x]) (num_two a b (c :: d :: (l ++ rest)) ha hb)
  have h4 := rGrp_pre (pre := pre ++ [x, a, b]) (num_two c d (l ++ rest) hc hd)
  obtain ⟨B, hB⟩ : ∃ B, pre ++ (x :: a :: b :: c :: d :: (l ++ rest)) = B := ⟨_, rfl⟩
  have hdrop : (B.drop (pre.length + 5)).take l.length = l := by
    rw [← hB, show pre ++ (x :: a :: b :: c :: d :: (l ++ rest)) = (pre ++ [x, a, b, c, d]) ++ (l ++ rest) by simp, List.drop_left' (by simp), List.take_left' rfl]
  have hlen : B.length = pre.length + 5 + l.length + rest.length := by rw [← hB]; simp; omega
  rw [show pre ++ [x] ++ (a :: b :: c :: d :: (l ++ rest)) = pre ++ (x :: a :: b :: c :: d :: (l ++ rest)) by simp, hB] at h3
  rw [show pre ++ [x, a, b] ++ (c :: d :: (l ++ rest)) = pre ++ (x :: a :: b :: c :: d :: (l ++ rest)) by simp, hB] at h4
  rw [hB] at h1 h2 ⊢
  have hup : upN (8 * pre.length + 3) = 8 * (pre ++ [x]).length + 0 := by unfold upN; rw [List.length_append, List.length_singleton]; omega
  have e4 : 8 * (pre ++ [x]).length + 16 = 8 * (pre ++ [x, a, b]).length + 0 := by simp; omega
  have e5 : (8 * (pre ++ [x, a, b]).length + 16) / 8 = pre.length + 5 := by simp; omega
  unfold rBlock
  rw [← Nat.add_zero (8 * pre.length), h1, Res.then_ok, h2, Res.then_ok, hx]
  unfold rKind
  rw [if_pos rfl]
  unfold rStored
  rw [hup, h3, Res.then_ok, e4, h4, Res.then_ok, hn]
  by_cases q1 : l.length + (c + 256 * d) = 65535
  · rw [if_pos q1, rIf_yes (decide_eq_true q1), Res.then_ok]
    by_cases q2 : T.length + l.length ≤ lim
    · rw [if_pos q2, rIf_yes (decide_eq_true q2), Res.then_ok, rIf_yes (decide_eq_true (by simp; omega)), Res.then_ok, Res.then_ok, e5, hdrop]
      congr 1
      simp; omega
    · rw [if_neg q2, rIf_no (decide_eq_false q2)]; rfl
  · rw [if_neg q1, rIf_no (decide_eq_false q1)]; rfl
end Go.Proofs.YtnndgpggjlhhpaaGreat
namespace Go.Proofs.YtnndgpggjlhhpaaGreat
open Go.RowKit
end Go.Proofs.YtnndgpggjlhhpaaGreat
namespace Go.Proofs.YtnndgpggjlhhpaaGreat
open Go.RowKit
theorem base_next (s : Nat) (h : 257 ≤ s) (h2 : s < 284) : baseN (s + 1) = baseN s + 2 ^ baseC s := by
  have key : ∀ n : Fin 27, baseN (257 + n.val + 1) = baseN (257 + n.val) + 2 ^ baseC (257 + n.val) := by decide
  have := key ⟨s - 257, by omega⟩
  simpa [show 257 + (s - 257) = s by omega] using this
theorem far_next (s : Nat) (h2 : s < 29) : farN (s + 1) = farN s + 2 ^ farC s := by
  have key : ∀ n : Fin 29, farN (n.val + 1) = farN n.val + 2 ^ farC n.val := by decide
  exact key ⟨s, h2⟩
theorem base_c (s : Nat) (h : 257 ≤ s) (h2 : s < 285) : baseC s = if 265 ≤ s then (s - 261) / 4 else 0 := by
  have key : ∀ n : Fin 28, baseC (257 + n.val) = if 265 ≤ 257 + n.val then (257 + n.val - 261) / 4 else 0 := by decide
  have := key ⟨s - 257, by omega⟩
  simpa [show 257 + (s - 257) = s by omega] using this
theorem far_c (s : Nat) (h2 : s < 30) : farC s = if 4 ≤ s then (s - 2) / 2 else 0 := by
  have key : ∀ n : Fin 30, farC n.val = if 4 ≤ n.val then (n.val - 2) / 2 else 0 := by decide
  exact key ⟨s, h2⟩
theorem rbase_any (n : Nat) (w : World) (h : 257 ≤ n) (h2 : n ≤ 285) :
    Calls Tryz.prog 160 #[.int .i64 (n : Nat)] w fun e w' => e = .returned (.tuple #[.int .i64 (baseN n : Nat), .int .i64 (baseC n : Nat)]) ∧ w = w' := by
  have q2 : ¬ (n : Int) < 257 := by omega
  have q3 : ¬ (n : Int) > 285 := by omega
  by_cases h8 : n = 285
  · subst h8
    go_enter Tryz.func160, Tryz.ntmps160
    go_wp2_with fail
    go_ret2
    exact ⟨rfl, rfl⟩
  · have q4 : ((n : Int) == 285) = false := by rw [beq_eq_false_iff_ne]; omega
    have q5 : ¬ (n : Int) = 285 := by omega
    have hn : n < 285 := by omega
    clear h8 h2
    go_enter Tryz.func160, Tryz.ntmps160
    go_wp2_with fail
    go_loopw [4, 5, 6] (fun a s _ wr => ∃ j : Nat, 257 ≤ j ∧ j ≤ n ∧ s = .int .i64 j ∧ a = .int .i64 (baseN j : Nat) ∧ w = wr) (fun _ s _ _ => n - (intOf s).toNat)
    case atStart => exact ⟨257, by omega, by omega, rfl, rfl, rfl⟩
    case round =>
      obtain ⟨j, hj1, hj2, rfl, rfl, rfl⟩ := hrel
      have hbl := baseN_le j hj1 (by omega)
      have hc := base_c j hj1 (by omega)
      have HNX := Lib.hid (fun q => base_next j hj1 q)
      have hX : 2 ^ baseC j ≤ 32 := Nat.le_trans (Nat.pow_le_pow_right (n := 2) (by decide) hbl.2) (by decide)
      by_cases e : j = n
      · subst e
        obtain ⟨C, hC⟩ : ∃ C, baseC j = C := ⟨_, rfl⟩
        have HCC := Lib.hid hC
        rw [hC] at hc
        by_cases h5 : 265 ≤ j
        · have h5' : (j : Int) ≥ 265 := by omega
          rw [if_pos h5] at hc
          have i1 : ((j : Int) - 261) / 4 = (C : Int) := by omega
          clear hc hX hC
          go_wp2_with fail
          go_ret2
          exact ⟨by rw [HCC.out, ← i1]; rfl, rfl⟩
        · have h5' : ¬ (j : Int) ≥ 265 := by omega
          rw [if_neg h5] at hc
          subst hc
          clear hC hX
          go_wp2_with fail
          go_ret2
          exact ⟨by rw [HCC.out]; rfl, rfl⟩
      · have hne : ((j : Int) == (n : Int)) = false := by rw [beq_eq_false_iff_ne]; omega
        have hne2 : ¬ (j : Int) = (n : Int) := by omega
        have HN := Lib.hid (HNX.out (by omega))
        obtain ⟨C, hC⟩ : ∃ C, baseC j = C := ⟨_, rfl⟩
        rw [hC] at hc hX HN
        obtain ⟨X, hXX⟩ : ∃ X, 2 ^ C = X := ⟨_, rfl⟩
        rw [hXX] at hX HN
        have i2 : (2 : Int) ^ C = (X : Int) := by rw [← hXX]; simp
        by_cases h5 : 265 ≤ j
        · have h5' : (j : Int) ≥ 265 := by omega
          rw [if_pos h5] at hc
          have i1 : ((j : Int) - 261) / 4 = (C : Int) := by omega
          clear hc hC hXX
          go_wp2_with fail
          go_roundw
          case rel => exact ⟨j + 1, by omega, by omega, by go_num, by rw [HN.out]; go_num, by trivial⟩
          case measure => simp [intOf]; omega
        · have h5' : ¬ (j : Int) ≥ 265 := by omega
          rw [if_neg h5] at hc
          subst hc
          have hX1 : X = 1 := hXX.symm
          subst hX1
          go_wp2_with fail
          go_roundw
          case rel => exact ⟨j + 1, by omega, by omega, by go_num, by rw [HN.out]; go_num, by trivial⟩
          case measure => simp [intOf]; omega
theorem rfar_any (n : Nat) (w : World) (h2 : n ≤ 29) :
    Calls Tryz.prog 161 #[.int .i64 (n : Nat)] w fun e w' => e = .returned (.tuple #[.int .i64 (farN n : Nat), .int .i64 (farC n : Nat)]) ∧ w = w' := by
  have q2 : ¬ (n : Int) < 0 := by omega
  have q3 : ¬ (n : Int) > 29 := by omega
  go_enter Tryz.func161, Tryz.ntmps161
  go_wp2_with fail
  go_loopw [4, 5, 6] (fun a s _ wr => ∃ j : Nat, j ≤ n ∧ s = .int .i64 j ∧ a = .int .i64 (farN j : Nat) ∧ w = wr) (fun _ s _ _ => n - (intOf s).toNat)
  case atStart => exact ⟨0, by omega, rfl, rfl, rfl⟩
  case round =>
    obtain ⟨j, hj2, rfl, rfl, rfl⟩ := hrel
    have hbl := farN_le j (by omega)
    have hc := far_c j (by omega)
    have HNX := Lib.hid (fun q => far_next j q)
    have hX : 2 ^ farC j ≤ 8192 := Nat.le_trans (Nat.pow_le_pow_right (n := 2) (by decide) hbl.2) (by decide)
    by_cases e : j = n
    · subst e
      obtain ⟨C, hC⟩ : ∃ C, farC j = C := ⟨_, rfl⟩
      have HCC := Lib.hid hC
      rw [hC] at hc
      by_cases h5 : 4 ≤ j
      · have h5' : (j : Int) ≥ 4 := by omega
        rw [if_pos h5] at hc
        have i1 : ((j : Int) - 2) / 2 = (C : Int) := by omega
        clear hc hX hC
        go_wp2_with fail
        go_ret2
        exact ⟨by rw [HCC.out, ← i1]; rfl, rfl⟩
      · have h5' : ¬ (j : Int) ≥ 4 := by omega
        rw [if_neg h5] at hc
        subst hc
        clear hC hX
        go_wp2_with fail
        go_ret2
        exact ⟨by rw [HCC.out]; rfl, rfl⟩
    · have hne : ((j : Int) == (n : Int)) = false := by rw [beq_eq_false_iff_ne]; omega
      have hne2 : ¬ (j : Int) = (n : Int) := by omega
      have HN := Lib.hid (HNX.out (by omega))
      obtain ⟨C, hC⟩ : ∃ C, farC j = C := ⟨_, rfl⟩
      rw [hC] at hc hX HN
      obtain ⟨X, hXX⟩ : ∃ X, 2 ^ C = X := ⟨_, rfl⟩
      rw [hXX] at hX HN
      have i2 : (2 : Int) ^ C = (X : Int) := by rw [← hXX]; simp
      by_cases h5 : 4 ≤ j
      · have h5' : (j : Int) ≥ 4 := by omega
        rw [if_pos h5] at hc
        have i1 : ((j : Int) - 2) / 2 = (C : Int) := by omega
        clear hc hC hXX
        go_wp2_with fail
        go_roundw
        case rel => exact ⟨j + 1, by omega, by go_num, by rw [HN.out]; go_num, by trivial⟩
        case measure => simp [intOf]; omega
      · have h5' : ¬ (j : Int) ≥ 4 := by omega
        rw [if_neg h5] at hc
        subst hc
        have hX1 : X = 1 := hXX.symm
        subst hX1
        go_wp2_with fail
        go_roundw
        case rel => exact ⟨j + 1, by omega, by go_num, by rw [HN.out]; go_num, by trivial⟩
        case measure => simp [intOf]; omega
end Go.Proofs.YtnndgpggjlhhpaaGreat
namespace Go.Proofs.YtnndgpggjlhhpaaGreat
structure LimOK {α : Type} (len : α → Nat) (p : Nat → Res α) (t : Nat) : Prop where
  of : ∀ lim a j, p lim = .ok a j → t ≤ lim → t ≤ len a ∧ len a ≤ lim ∧ (∀ m, len a ≤ m → p m = .ok a j) ∧ (∀ m, t ≤ m → m < len a → p m = .no 64)
theorem LimOK.pure {α : Type} {len : α → Nat} {t : Nat} (a : α) (j : Nat) (h : len a = t) : LimOK len (fun _ => Res.ok a j) t := ⟨fun lim a' j' e hl => by
  simp only [Res.ok.injEq] at e
  obtain ⟨rfl, rfl⟩ := e
  exact ⟨by omega, by omega, fun _ _ => rfl, fun m h1 h2 => by omega⟩⟩
theorem LimOK.fail {α : Type} {len : α → Nat} {t e : Nat} : LimOK len (fun _ => (Res.no e : Res α)) t := ⟨fun lim a j h => by cases h⟩
theorem LimOK.then {α β : Type} {len : β → Nat} {t : Nat} {q : Res α} {r : α → Nat → Nat → Res β} (h : ∀ a j, LimOK len (r a j) t) : LimOK len (fun lim => q.then fun a j => r a j lim) t := by
  cases q with
  | no e => exact LimOK.fail
  | ok a j => exact h a j
theorem LimOK.ite {α : Type} {len : α → Nat} {t : Nat} {p q : Nat → Res α} (c : Prop) [Decidable c] (hp : LimOK len p t) (hq : LimOK len q t) : LimOK len (fun lim => if c then p lim else q lim) t := by
  by_cases h : c
  · simp only [if_pos h]; exact hp
  · simp only [if_neg h]; exact hq
theorem LimOK.post {α β : Type} {len : α → Nat} {len2 : β → Nat} {t : Nat} {p : Nat → Res α} (f : α → β) (hf : ∀ a, len2 (f a) = len a) (hp : LimOK len p t) : LimOK len2 (fun lim => (p lim).then fun a j => .ok (f a) j) t := ⟨fun lim b j e hl => by
  cases hx : p lim with
  | no m => rw [hx] at e; cases e
  | ok a i =>
    rw [hx, Res.then_ok] at e
    simp only [Res.ok.injEq] at e
    obtain ⟨rfl, rfl⟩ := e
    obtain ⟨h1, h2, h3, h4⟩ := hp.of lim a i hx hl
    rw [hf]
    exact ⟨h1, h2, fun m hm => by rw [h3 m hm, Res.then_ok], fun m q1 q2 => by rw [h4 m q1 q2]; rfl⟩⟩
theorem LimOK.lim {α : Type} {len : α → Nat} {t t1 k : Nat} {q : Nat → Res α} (hq : ∀ k a j, q k = .ok a j → len a = t1) (h : t ≤ t1) : LimOK len (fun lim => (rIf (decide (t1 ≤ lim)) 64 k).then fun _ k => q k) t := ⟨fun lim a j e hl => by
  by_cases hc : t1 ≤ lim
  · rw [rIf_yes (decide_eq_true hc), Res.then_ok] at e
    have := hq _ _ _ e
    refine ⟨by omega, by omega, fun m hm => ?_, fun m q1 q2 => ?_⟩
    · rw [rIf_yes (decide_eq_true (by omega)), Res.then_ok, e]
    · rw [rIf_no (decide_eq_false (by omega))]; rfl
  · rw [rIf_no (decide_eq_false hc)] at e; cases e⟩
theorem LimOK.loop {step F : Nat → List Nat → Nat → Res (Bool × List Nat)} {G : Nat → List Nat → Nat → Res (List Nat)} (N : Nat) (hF : F = step) (hs : ∀ T k, LimOK (fun x => x.2.length) (fun lim => step lim T k) T.length)
    (h1 : ∀ lim T k e, step lim T k = .no e → G lim T k = .no e) (h2 : ∀ lim T k T1 k1, step lim T k = .ok (true, T1) k1 → G lim T k = .ok T1 k1)
    (h3 : ∀ lim T k T1 k1, step lim T k = .ok (false, T1) k1 → G lim T k = if k < k1 ∧ k1 ≤ N then G lim T1 k1 else .no 0) : ∀ T k, LimOK List.length (fun lim => G lim T k) T.length := by
  subst hF
  have key : ∀ (m : Nat) (T : List Nat) (k : Nat), N - k ≤ m → ∀ lim a j, G lim T k = .ok a j → T.length ≤ lim → T.length ≤ a.length ∧ a.length ≤ lim ∧ (∀ m, a.length ≤ m → G m T k = .ok a j) ∧ (∀ m, T.length ≤ m → m < a.length → G m T k = .no 64) := by
    intro m
    induction m with
    | zero =>
      intro T k hm lim a j e hl
      cases hx : F lim T k with
      | no c => rw [h1 _ _ _ _ hx] at e; cases e
      | ok lt k1 =>
        obtain ⟨last, T1⟩ := lt
        obtain ⟨p1, p2, p3, p4⟩ := (hs T k).of lim _ k1 hx hl
        cases last with
        | true =>
          rw [h2 _ _ _ _ _ hx] at e
          simp only [Res.ok.injEq] at e
          obtain ⟨rfl, rfl⟩ := e
          exact ⟨p1, p2, fun m hm => h2 _ _ _ _ _ (p3 m hm), fun m q1 q2 => h1 _ _ _ _ (p4 m q1 q2)⟩
        | false =>
          rw [h3 _ _ _ _ _ hx, if_neg (by omega)] at e
          cases e
    | succ m ih =>
      intro T k hm lim a j e hl
      cases hx : F lim T k with
      | no c => rw [h1 _ _ _ _ hx] at e; cases e
      | ok lt k1 =>
        obtain ⟨last, T1⟩ := lt
        obtain ⟨p1, p2, p3, p4⟩ := (hs T k).of lim _ k1 hx hl
        cases last with
        | true =>
          rw [h2 _ _ _ _ _ hx] at e
          simp only [Res.ok.injEq] at e
          obtain ⟨rfl, rfl⟩ := e
          exact ⟨p1, p2, fun m hm => h2 _ _ _ _ _ (p3 m hm), fun m q1 q2 => h1 _ _ _ _ (p4 m q1 q2)⟩
        | false =>
          rw [h3 _ _ _ _ _ hx] at e
          by_cases hc : k < k1 ∧ k1 ≤ N
          · rw [if_pos hc] at e
            simp only at p1 p2 p3 p4
            obtain ⟨r1, r2, r3, r4⟩ := ih T1 k1 (by omega) lim a j e p2
            refine ⟨by omega, r2, fun m hm => ?_, fun m q1 q2 => ?_⟩
            · rw [h3 _ _ _ _ _ (p3 m (by omega)), if_pos hc]
              exact r3 m hm
            · by_cases hn : m < T1.length
              · exact h1 _ _ _ _ (p4 m q1 hn)
              · rw [h3 _ _ _ _ _ (p3 m (by omega)), if_pos hc]
                exact r4 m (by omega) q2
          · rw [if_neg hc] at e; cases e
  exact fun T k => ⟨fun lim a j e hl => key _ T k (Nat.le_refl _) lim a j e hl⟩
theorem LimOK.back (b spn T : List Nat) (s k : Nat) : LimOK List.length (fun lim => rBack b lim spn T s k) T.length :=
  LimOK.then fun _ _ => LimOK.then fun n _ => LimOK.then fun d _ => LimOK.then fun _ _ => LimOK.then fun f _ => LimOK.then fun _ _ =>
    LimOK.lim (t1 := T.length + (baseN s + n)) (q := fun k => .ok (again (farN d + f) (baseN s + n) T) k) (fun k a j e => by
      simp only [Res.ok.injEq] at e
      rw [← e.1, again_length]) (by omega)
theorem LimOK.step (b lit spn T : List Nat) (k : Nat) : LimOK (fun x : Bool × List Nat => x.2.length) (fun lim => rStep b lim lit spn T k) T.length :=
  LimOK.then fun s j => LimOK.ite _ (LimOK.lim (t1 := T.length + 1) (q := fun k => .ok (false, T ++ [s]) k) (fun k a j e => by
      simp only [Res.ok.injEq] at e
      rw [← e.1]
      simp) (by omega))
    (LimOK.ite _ (LimOK.pure _ _ rfl) (LimOK.post (fun T1 => (false, T1)) (fun _ => rfl) (LimOK.back b spn T s j)))
theorem LimOK.syms (b lit spn : List Nat) : ∀ T k, LimOK List.length (fun lim => rSyms b lim lit spn T k) T.length :=
  LimOK.loop (step := fun lim T k => rStep b lim lit spn T k) (8 * b.length) rfl (fun T k => LimOK.step b lit spn T k) (fun lim T k e h => by rw [rSyms, h]) (fun lim T k T1 k1 h => by rw [rSyms, h]) (fun lim T k T1 k1 h => by
    rw [rSyms, h]
    show (if _h : k < k1 ∧ k1 ≤ 8 * b.length then _ else _) = _
    split <;> rfl)
theorem LimOK.stored (b T : List Nat) (k : Nat) : LimOK List.length (fun lim => rStored b lim T k) T.length :=
  LimOK.then fun n _ => LimOK.then fun _ _ => LimOK.then fun _ _ => LimOK.lim (t1 := T.length + n) (q := fun k => (rIf (decide (k + 8 * n ≤ 8 * b.length)) 20 k).then fun _ k2 => .ok (T ++ (b.drop (k2 / 8)).take n) (k2 + 8 * n)) (fun k a j e => by
    by_cases hc : k + 8 * n ≤ 8 * b.length
    · rw [rIf_yes (decide_eq_true hc), Res.then_ok] at e
      simp only [Res.ok.injEq] at e
      rw [← e.1, List.length_append, List.length_take, List.length_drop]
      omega
    · rw [rIf_no (decide_eq_false hc)] at e; cases e) (by omega)
theorem LimOK.kind (b T : List Nat) (n k : Nat) : LimOK List.length (fun lim => rKind b lim T n k) T.length :=
  LimOK.ite _ (LimOK.stored b T k) (LimOK.ite _ (LimOK.syms b _ _ T k) (LimOK.ite _ (LimOK.then fun c j => LimOK.syms b c.1 c.2 T j) LimOK.fail))
theorem LimOK.block (b T : List Nat) (k : Nat) : LimOK (fun x : Bool × List Nat => x.2.length) (fun lim => rBlock b lim T k) T.length :=
  LimOK.then fun last _ => LimOK.then fun n j => LimOK.post (fun T1 => (decide (last = 1), T1)) (fun _ => rfl) (LimOK.kind b T n j)
theorem LimOK.blocks (b : List Nat) : ∀ T k, LimOK List.length (fun lim => rBlocks b lim T k) T.length :=
  LimOK.loop (step := fun lim T k => rBlock b lim T k) (8 * b.length) rfl (fun T k => LimOK.block b T k) (fun lim T k e h => by rw [rBlocks, h]) (fun lim T k T1 k1 h => by rw [rBlocks, h]) (fun lim T k T1 k1 h => by
    rw [rBlocks, h]
    show (if _h : k < k1 ∧ k1 ≤ 8 * b.length then _ else _) = _
    split <;> rfl)
theorem infl_lim {b T : List Nat} {lim k : Nat} (h : infl b lim = .ok T k) : T.length ≤ lim ∧ (∀ m, T.length ≤ m → infl b m = .ok T k) ∧ ∀ m, m < T.length → infl b m = .no 64 := by
  obtain ⟨-, h2, h3, h4⟩ := (LimOK.blocks b [] 0).of lim T k h (Nat.zero_le _)
  exact ⟨h2, h3, fun m hm => h4 m (Nat.zero_le _) hm⟩
theorem infl_behind {b T : List Nat} {lim k : Nat} (h : infl b lim = .ok T k) : k ≤ 8 * b.length ∧ (∀ x, infl (b.take (upN k / 8) ++ x) lim = .ok T k) ∧ ∀ n, n < upN k / 8 → infl (b.take n) lim = .no 20 := by
  obtain ⟨-, h2, h3, h4⟩ := (Loc.blocks lim []).of b 0 T k h (Nat.zero_le _)
  have hu : upN k / 8 ≤ b.length := by unfold upN; omega
  refine ⟨h2, fun x => h3 _ ⟨upN k / 8, by unfold upN; omega, hu, by rw [List.length_append, List.length_take]; omega, ?_⟩, fun n hn => h4 n (Nat.zero_le _) (by unfold upN at hn; omega)⟩
  rw [List.take_append_of_le_length (by rw [List.length_take]; omega), List.take_take, Nat.min_self]
end Go.Proofs.YtnndgpggjlhhpaaGreat
namespace Go.Proofs.YtnndgpggjlhhpaaGreat
structure Nz {α : Type} (p : List Nat → Nat → Res α) : Prop where
  loc : Loc p
  of : ∀ b k, k ≤ 8 * b.length → p b k ≠ .no 0
theorem Nz.pure {α : Type} (a : α) : Nz (fun _ k => Res.ok a k) := ⟨Loc.pure a, fun _ _ _ h => by cases h⟩
theorem Nz.fail {α : Type} (e : Nat) (he : e ≠ 0) : Nz (fun _ _ => (Res.no e : Res α)) := ⟨Loc.fail e, fun _ _ _ h => by injection h; omega⟩
theorem Nz.rIf (c : Bool) (e : Nat) (he : e ≠ 0) : Nz (fun _ k => rIf c e k) := ⟨Loc.rIf c e, fun b k _ h => by
  cases c with
  | false => rw [rIf_no rfl] at h; injection h; omega
  | true => rw [rIf_yes rfl] at h; cases h⟩
theorem Nz.then {α β : Type} {p : List Nat → Nat → Res α} {q : α → List Nat → Nat → Res β} (hp : Nz p) (hq : ∀ a, Nz (q a)) : Nz (fun b k => (p b k).then fun a j => q a b j) := ⟨hp.loc.then fun a => (hq a).loc, fun b k hk h => by
  cases hx : p b k with
  | no e =>
    have h' : (p b k).then (fun a j => q a b j) = .no 0 := h
    rw [hx] at h'
    injection h' with h'
    subst h'
    exact hp.of b k hk hx
  | ok a i =>
    have h' : (p b k).then (fun a j => q a b j) = .no 0 := h
    rw [hx, Res.then_ok] at h'
    exact (hq a).of b i (hp.loc.of b k a i hx hk).2.1 h'⟩
theorem Nz.ite {α : Type} {p q : List Nat → Nat → Res α} (c : Prop) [Decidable c] (hp : Nz p) (hq : Nz q) : Nz (fun b k => if c then p b k else q b k) := by
  by_cases h : c
  · simp only [if_pos h]; exact hp
  · simp only [if_neg h]; exact hq
theorem Nz.grp (c : Nat) : Nz (fun b k => rGrp b c k) := ⟨Loc.grp c, fun b k _ h => by
  unfold rGrp at h
  split at h
  · cases h
  · injection h with h; cases h⟩
theorem Nz.sym (l : List Nat) : Nz (fun b k => rSym b l k) := ⟨Loc.sym l, fun b k _ h => by
  unfold rSym at h
  split at h
  · cases h
  · split at h
    · injection h with h; cases h
    · injection h with h; cases h⟩
theorem Nz.congr {α : Type} {p q : List Nat → Nat → Res α} (h : Nz p) (e : ∀ b k, q b k = p b k) : Nz q := by
  have : q = p := funext fun b => funext fun k => e b k
  rw [this]; exact h
theorem Nz.align : Nz (fun _ k => Res.ok () (upN k)) := ⟨Loc.align, fun _ _ _ h => by cases h⟩
theorem Nz.text (n : Nat) : Nz (fun b k => rText b n k) := ⟨Loc.text n, fun b k _ h => by
  unfold rText at h
  by_cases hc : k + 8 * n ≤ 8 * b.length
  · rw [rIf_yes (decide_eq_true hc), Res.then_ok] at h; cases h
  · rw [rIf_no (decide_eq_false hc)] at h; injection h with h; cases h⟩
theorem Nz.loop {σ : Type} {step : List Nat → σ → Nat → Res (Bool × σ)} {F : List Nat → σ → Nat → Res σ} (hs : ∀ s, Nz (fun b k => step b s k)) (up : ∀ b s k s1 k1, step b s k = .ok (false, s1) k1 → k ≤ 8 * b.length → k < k1)
    (h1 : ∀ b s k e, step b s k = .no e → F b s k = .no e) (h2 : ∀ b s k s1 k1, step b s k = .ok (true, s1) k1 → F b s k = .ok s1 k1)
    (h3 : ∀ b s k s1 k1, step b s k = .ok (false, s1) k1 → F b s k = if k < k1 ∧ k1 ≤ 8 * b.length then F b s1 k1 else .no 0) : ∀ s, Nz (fun b k => F b s k) := by
  have key : ∀ (m : Nat) (b : List Nat) (s : σ) (k : Nat), 8 * b.length - k ≤ m → k ≤ 8 * b.length → F b s k ≠ .no 0 := by
    intro m
    induction m with
    | zero =>
      intro b s k hm hk h
      cases hx : step b s k with
      | no e =>
        rw [h1 _ _ _ _ hx] at h
        injection h with h
        subst h
        exact (hs s).of b k hk hx
      | ok lt k1 =>
        obtain ⟨last, s1⟩ := lt
        cases last with
        | true => rw [h2 _ _ _ _ _ hx] at h; cases h
        | false =>
          have := up _ _ _ _ _ hx hk
          have := ((hs s).loc.of b k _ k1 hx hk).2.1
          omega
    | succ m ih =>
      intro b s k hm hk h
      cases hx : step b s k with
      | no e =>
        rw [h1 _ _ _ _ hx] at h
        injection h with h
        subst h
        exact (hs s).of b k hk hx
      | ok lt k1 =>
        obtain ⟨last, s1⟩ := lt
        cases last with
        | true => rw [h2 _ _ _ _ _ hx] at h; cases h
        | false =>
          have q1 := up _ _ _ _ _ hx hk
          have q2 := ((hs s).loc.of b k _ k1 hx hk).2.1
          rw [h3 _ _ _ _ _ hx, if_pos ⟨q1, q2⟩] at h
          exact ih b s1 k1 (by omega) q2 h
  exact fun s => ⟨Loc.loop (fun s => (hs s).loc) h1 h2 h3 s, fun b k hk => key _ b s k (Nat.le_refl _) hk⟩
theorem Nz.short : ∀ (syms l : List Nat), Nz (fun b k => rShort b syms l k)
  | [], l => Nz.pure l
  | s :: r, l => (Nz.grp 3).then fun x => Nz.short r (l.set s x)
theorem Nz.code (many : Nat) : Nz (fun b k => rCode b many k) :=
  (Nz.short (order.take many) (List.replicate 19 0)).then fun cl => (Nz.rIf (decide (ful cl)) 62 (by decide)).then fun _ => Nz.pure cl
theorem Nz.run (cl l : List Nat) : Nz (fun b k => rRun b cl l k) :=
  (Nz.sym cl).then fun _ => Nz.ite _ ((Nz.rIf _ 62 (by decide)).then fun _ => (Nz.grp 2).then fun _ => Nz.pure _)
    (Nz.ite _ ((Nz.grp 3).then fun _ => Nz.pure _) (Nz.ite _ ((Nz.grp 7).then fun _ => Nz.pure _) (Nz.pure _)))
theorem Nz.lens (cl : List Nat) (many : Nat) : ∀ (d : Nat) (l : List Nat), many - l.length ≤ d → Nz (fun b k => rLens b cl many l k) := by
  intro d
  induction d with
  | zero =>
    intro l hd
    refine (Nz.pure l).congr fun b k => ?_
    rw [rLens, dif_pos (by omega)]
  | succ d ih =>
    intro l hd
    by_cases hm : many ≤ l.length
    · refine (Nz.pure l).congr fun b k => ?_
      rw [rLens, dif_pos hm]
    · refine ((Nz.run cl l).then (q := fun xt b k => if many < l.length + xt.2 + 1 then .no 62 else rLens b cl many (l ++ List.replicate (xt.2 + 1) xt.1) k) fun xt => Nz.ite _ (Nz.fail 62 (by decide)) (ih _ ?_)).congr fun b k => ?_
      · rw [List.length_append, List.length_replicate]; omega
      · rw [rLens, dif_neg hm]
        cases rRun b cl l k <;> rfl
theorem Nz.codes : Nz (fun b k => rCodes b k) :=
  (Nz.grp 5).then fun n1 => (Nz.grp 5).then fun n2 => (Nz.grp 4).then fun n3 => (Nz.rIf _ 62 (by decide)).then fun _ => (Nz.code (4 + n3)).then fun cl =>
    (Nz.lens cl (257 + n1 + (1 + n2)) _ [] (Nat.le_refl _)).then fun _ => (Nz.rIf _ 62 (by decide)).then fun _ => Nz.pure _
theorem Nz.back (lim : Nat) (spn T : List Nat) (s : Nat) : Nz (fun b k => rBack b lim spn T s k) :=
  (Nz.rIf _ 62 (by decide)).then fun _ => (Nz.grp _).then fun _ => (Nz.sym spn).then fun _ => (Nz.rIf _ 62 (by decide)).then fun _ => (Nz.grp _).then fun _ => (Nz.rIf _ 63 (by decide)).then fun _ => (Nz.rIf _ 64 (by decide)).then fun _ => Nz.pure _
theorem Nz.step (lim : Nat) (lit spn T : List Nat) : Nz (fun b k => rStep b lim lit spn T k) :=
  (Nz.sym lit).then fun s => Nz.ite _ ((Nz.rIf _ 64 (by decide)).then fun _ => Nz.pure _) (Nz.ite _ (Nz.pure _) ((Nz.back lim spn T s).then fun _ => Nz.pure _))
theorem step_up {b lit spn T : List Nat} {lim k k1 : Nat} {x : Bool × List Nat} (h : rStep b lim lit spn T k = .ok x k1) (hk : k ≤ 8 * b.length) : k < k1 := by
  unfold rStep at h
  cases h1 : rSym b lit k with
  | no e => rw [h1] at h; cases h
  | ok s j =>
    obtain ⟨hh, hj⟩ := rSym_in h1
    have hp := hh.1
    have hj2 := ((Loc.sym lit).of b k s j h1 hk).2.1
    rw [h1, Res.then_ok] at h
    have L : Loc (fun b k => if s < 256 then (rIf (decide (T.length + 1 ≤ lim)) 64 k).then fun _ k2 => .ok (false, T ++ [s]) k2
      else if s = 256 then .ok (true, T) k
      else (rBack b lim spn T s k).then fun T1 k2 => .ok (false, T1) k2) :=
      Loc.ite _ ((Loc.rIf _ 64).then fun _ => Loc.pure _) (Loc.ite _ (Loc.pure _) ((Loc.back lim spn T s).then fun _ => Loc.pure _))
    have := (L.of b j x k1 h hj2).1
    omega
theorem Nz.syms (lim : Nat) (lit spn : List Nat) : ∀ T, Nz (fun b k => rSyms b lim lit spn T k) :=
  Nz.loop (step := fun b T k => rStep b lim lit spn T k) (fun T => Nz.step lim lit spn T) (fun b T k s1 k1 h hk => step_up h hk) (fun b s k e h => by rw [rSyms, h]) (fun b s k s1 k1 h => by rw [rSyms, h]) (fun b s k s1 k1 h => by
    rw [rSyms, h]
    show (if _h : k < k1 ∧ k1 ≤ 8 * b.length then _ else _) = _
    split <;> rfl)
theorem Nz.stored (lim : Nat) (T : List Nat) : Nz (fun b k => rStored b lim T k) := by
  refine (Nz.align.then fun _ => (Nz.grp 16).then fun n => (Nz.grp 16).then fun m => (Nz.rIf (decide (n + m = 65535)) 61 (by decide)).then fun _ => (Nz.rIf (decide (T.length + n ≤ lim)) 64 (by decide)).then fun _ => (Nz.text n).then fun x => Nz.pure (T ++ x)).congr fun b k => ?_
  unfold rStored rText
  simp only [Res.then_ok]
  congr 1
  funext n k1
  congr 1
  funext m k2
  congr 1
  funext u k2
  congr 1
  funext u k2
  by_cases hc : k2 + 8 * n ≤ 8 * b.length
  · rw [rIf_yes (decide_eq_true hc)]; rfl
  · rw [rIf_no (decide_eq_false hc)]; rfl
theorem Nz.kind (lim : Nat) (T : List Nat) (n : Nat) : Nz (fun b k => rKind b lim T n k) :=
  Nz.ite _ (Nz.stored lim T) (Nz.ite _ (Nz.syms lim _ _ T) (Nz.ite _ (Nz.codes.then fun c => Nz.syms lim c.1 c.2 T) (Nz.fail 60 (by decide))))
theorem Nz.block (lim : Nat) (T : List Nat) : Nz (fun b k => rBlock b lim T k) :=
  (Nz.grp 1).then fun _ => (Nz.grp 2).then fun n => (Nz.kind lim T n).then fun _ => Nz.pure _
theorem Nz.blocks (lim : Nat) : ∀ T, Nz (fun b k => rBlocks b lim T k) :=
  Nz.loop (step := fun b T k => rBlock b lim T k) (fun T => Nz.block lim T) (fun b T k s1 k1 h _ => block_up h) (fun b s k e h => by rw [rBlocks, h]) (fun b s k s1 k1 h => by rw [rBlocks, h]) (fun b s k s1 k1 h => by
    rw [rBlocks, h]
    show (if _h : k < k1 ∧ k1 ≤ 8 * b.length then _ else _) = _
    split <;> rfl)
theorem infl_nz (b : List Nat) (lim m : Nat) (h : infl b lim = .no m) : m ≠ 0 := by
  intro hm
  subst hm
  exact (Nz.blocks lim []).of b 0 (Nat.zero_le _) h
end Go.Proofs.YtnndgpggjlhhpaaGreat
