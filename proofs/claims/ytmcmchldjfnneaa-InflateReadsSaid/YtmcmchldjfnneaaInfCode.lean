/- The code that lengths are written by. -/
import Derived.Test.YtmcmchldjfnneaaInfLens
import Derived.Laws.Tables
namespace Go.Proofs.Ytmcmchldjfnneaa
open Go.RowKit

def zero19 : Array Value := #[.int .u8 0, .int .u8 0, .int .u8 0, .int .u8 0, .int .u8 0, .int .u8 0, .int .u8 0, .int .u8 0, .int .u8 0, .int .u8 0, .int .u8 0, .int .u8 0, .int .u8 0, .int .u8 0, .int .u8 0, .int .u8 0, .int .u8 0, .int .u8 0, .int .u8 0]
def zord : Array Value := #[.int .i64 0, .int .i64 0, .int .i64 0, .int .i64 0, .int .i64 0, .int .i64 0, .int .i64 0, .int .i64 0, .int .i64 0, .int .i64 0, .int .i64 0, .int .i64 0, .int .i64 0, .int .i64 0, .int .i64 0, .int .i64 0, .int .i64 0, .int .i64 0, .int .i64 0]
def ordC : Array Value := #[.int .i64 16, .int .i64 17, .int .i64 18, .int .i64 0, .int .i64 8, .int .i64 7, .int .i64 9, .int .i64 6, .int .i64 10, .int .i64 5, .int .i64 11, .int .i64 4, .int .i64 12, .int .i64 3, .int .i64 13, .int .i64 2, .int .i64 14, .int .i64 1, .int .i64 15]
theorem ordC_eq : ordC.toList = order.map fun (x : Nat) => Value.int .i64 (x : Int) := rfl
theorem zero19_eq : zero19 = (u8s (List.replicate 19 0)).toArray := rfl
theorem built_ord : Program.built Try.prog 105 [(0, .int .i64 16), (1, .int .i64 17), (2, .int .i64 18), (3, .int .i64 0), (4, .int .i64 8), (5, .int .i64 7), (6, .int .i64 9), (7, .int .i64 6), (8, .int .i64 10), (9, .int .i64 5), (10, .int .i64 11), (11, .int .i64 4), (12, .int .i64 12), (13, .int .i64 3), (14, .int .i64 13), (15, .int .i64 2), (16, .int .i64 14), (17, .int .i64 1), (18, .int .i64 15)] = some ordC := by kernel_rfl
def partsOrd : Array (Nat × Operand) := #[(0, .const (.int .i64 16)), (1, .const (.int .i64 17)), (2, .const (.int .i64 18)), (3, .const (.int .i64 0)), (4, .const (.int .i64 8)), (5, .const (.int .i64 7)), (6, .const (.int .i64 9)), (7, .const (.int .i64 6)), (8, .const (.int .i64 10)), (9, .const (.int .i64 5)), (10, .const (.int .i64 11)), (11, .const (.int .i64 4)), (12, .const (.int .i64 12)), (13, .const (.int .i64 3)), (14, .const (.int .i64 13)), (15, .const (.int .i64 2)), (16, .const (.int .i64 14)), (17, .const (.int .i64 1)), (18, .const (.int .i64 15))]
set_option maxRecDepth 100000 in
theorem build_ord {ops : Array Oper} {rest : List Oper} {o : Oper} {a : Act} {w : World} {Q : Exit → Act → World → Prop} (hg : o.guard = none) (ho : o.op = .build 105 partsOrd)
    (h : wpList Try.prog ops Q rest (a.put o.dst (.agg ordC)) w) : wpList Try.prog ops Q (o :: rest) a w := by
  have e : Program.built Try.prog 105 (partsOrd.map fun (i, x) => (i, a.eval x)).toList = some ordC := by
    rw [Array.toList_map]
    exact built_ord
  exact wpList_build hg _ _ ho (by rw [e]; rfl) (by rw [e]; exact h)
theorem slice_ord (m : Nat) (hm : m ≤ 19) (g : Nat) (w : World) : (Instr.sliceAt 105 (.pointer (some ⟨g, 0, none⟩)) none (some (.int .i64 (m : Nat))) none).run Try.prog w = .ok (.slice (some ⟨g, 0, none⟩) m 19) w := by
  have hal : Try.prog.arrayLen 105 = 19 := by kernel_rfl
  rw [run_sliceAt_array_h w 105 ⟨g, 0, none⟩ (by kernel_rfl) .i64 (m : Nat) (by omega) (by rw [hal]; omega)]
  have hsz : (sizeOf (Try.prog.elem 105)).run Try.prog w = .ok 1 w := by kernel_rfl
  rw [hal, hsz]
  show Result.ok (slicedAt ⟨g, 0, none⟩ 0 (m : Int).toNat 19 1) w = _
  have hadd : (⟨g, 0, none⟩ : Addr).add 0 = ⟨g, 0, none⟩ := by unfold Addr.add; simp
  simp [slicedAt, hadd]
theorem slice_l (g : Nat) (w : World) : (Instr.sliceAt 106 (.pointer (some ⟨g, 0, none⟩)) none none none).run Try.prog w = .ok (.slice (some ⟨g, 0, none⟩) 19 19) w := by
  have hal : Try.prog.arrayLen 106 = 19 := by kernel_rfl
  rw [run_sliceAt_array_all w 106 ⟨g, 0, none⟩ (by kernel_rfl)]
  have hsz : (sizeOf (Try.prog.elem 106)).run Try.prog w = .ok 1 w := by kernel_rfl
  rw [hal, hsz]
  show Result.ok (slicedAt ⟨g, 0, none⟩ 0 19 19 1) w = _
  have hadd : (⟨g, 0, none⟩ : Addr).add 0 = ⟨g, 0, none⟩ := by unfold Addr.add; simp
  simp [slicedAt, hadd]
theorem order_lt (j : Nat) (h : j < order.length) : order[j] < 19 := by
  have key : ∀ x ∈ order, x < 19 := by decide
  exact key _ (List.getElem_mem h)
theorem ordC_at (j : Nat) (h : j < order.length) : ordC[j]? = some (.int .i64 (order[j] : Nat)) := by
  rw [← Array.getElem?_toList, ordC_eq, List.getElem?_map, List.getElem?_eq_getElem h]; rfl
theorem order_drop (many j : Nat) (hm : many ≤ 19) (h : j < many) : (order.take many).drop j = order[j]'(by simp [order]; omega) :: (order.take many).drop (j + 1) := by
  have hl : j < (order.take many).length := by rw [List.length_take]; simp [order]; omega
  rw [List.drop_eq_getElem_cons hl, List.getElem_take]
theorem u8s_set (l : List Nat) (s n : Nat) : (u8s l).toArray.setIfInBounds s (.int .u8 (n : Nat)) = (u8s (l.set s n)).toArray := by
  apply Array.ext'
  simp [u8s, List.map_set]
def CodeEnds (x : Res (List Nat)) (w : World) (gr : Nat) (r : Option Nat) (b : List Nat) (e : Ending) (w' : World) : Prop :=
  match x with
  | .ok cl j => ∃ A B gc, e = .returned (.pointer (some ⟨gc, 0, none⟩)) ∧ RdTo w w' gr r b j ∧ SetIs w' A B gc cl ∧ w.heap.size ≤ A ∧ B ≤ w'.heap.size ∧ cl.length = 19
  | .no m => e = .panicked (chn m) ∧ Fr (· = gr) w w'
theorem CodeEnds.of {x y : Res (List Nat)} {w : World} {gr : Nat} {r : Option Nat} {b : List Nat} {e : Ending} {w' : World} (h : x = y) (k : CodeEnds y w gr r b e w') : CodeEnds x w gr r b e w' := by rw [h]; exact k
section
variable {g gr : Nat} {r t : Option Nat} {b : List Nat} {k lim : Nat} {T : List Nat} {L S : Value}
set_option maxRecDepth 100000 in
set_option maxHeartbeats 400000 in
theorem code_any (many : Nat) (w : World) (h : StIs w g gr r t b k lim T L S) (hm : many ≤ 19) :
    Calls Try.prog 59 #[.pointer (some ⟨g, 0, none⟩), .int .i64 (many : Nat)] w (CodeEnds (rCode b many k) w gr r b) := by
  have hz1 : ∀ w, (zeroValue 105).run Try.prog w = .ok (.agg zord) w := fun w => by kernel_rfl
  have hz2 : ∀ w, (zeroValue 106).run Try.prog w = .ok (.agg zero19) w := fun w => by kernel_rfl
  have hsl1 := fun g w => slice_ord many hm g w
  have hsl2 := slice_l
  have HOA := Lib.hid ordC_at
  have HZ0 := Lib.hid zero19_eq
  have H := Lib.hid h
  have hgr := h.rd.lt
  clear h
  obtain ⟨OC, hOC⟩ : ∃ X, ordC = X := ⟨_, rfl⟩
  obtain ⟨ZO, hZO⟩ : ∃ X, zord = X := ⟨_, rfl⟩
  obtain ⟨Z9, hZ9⟩ : ∃ X, zero19 = X := ⟨_, rfl⟩
  have hi1 : (Try.prog.info? 105).map (·.size) = some OC.size := by rw [← hOC]; kernel_rfl
  have hs1 : ZO.size = OC.size := by rw [← hOC, ← hZO]; rfl
  have ho1 : OC.all (·.oneCell') = true := by rw [← hOC]; simp [ordC, Value.oneCell']
  rw [hZO] at hz1
  rw [hZ9] at hz2 HZ0
  rw [hOC] at HOA
  have HI := Lib.hid hi1
  have HS := Lib.hid hs1
  have HO := Lib.hid ho1
  clear hi1 hs1 ho1 hZO hZ9
  go_enter Try.func59, Try.ntmps59
  go_wp2_with (first
    | ((with_reducible show wpList _ _ _ (Oper.mk (some 10) _ _ _ _ _ :: _) _ _); refine build_ord rfl rfl ?_; rw [hOC])
    | ((with_reducible show wpList _ _ _ (Oper.mk none _ _ _ _ _ :: _) _ _); refine store_new 105 (.tmp 5) (.tmp 10) rfl rfl rfl (by rfl) HI.out HS.out HO.out ?_)
    | fail)
  have f0 : Fr S0 w ((w.alloc (.cells OC 105)).alloc (.cells Z9 106)) := (Fr.alloc S0 w _).trans0 (Fr.alloc _ _ _)
  have b1 := (Fr.alloc S0 (w.alloc (.cells OC 105)) (.cells Z9 106)).row (heap_alloc_new w (.cells OC 105)) (fun h => h)
  have b2 := heap_alloc_new (w.alloc (.cells OC 105)) (.cells Z9 106)
  rw [size_alloc] at b2
  generalize (w.alloc (.cells OC 105)).alloc (.cells Z9 106) = W0 at f0 b1 b2 ⊢
  obtain ⟨G, hG⟩ : ∃ G, w.heap.size = G := ⟨_, rfl⟩
  rw [hG] at b1 b2 hgr ⊢
  rw [HZ0.out] at b2
  have HF0 := Lib.hid f0
  have HB1 := Lib.hid b1
  have HB2 := Lib.hid b2
  have HG := Lib.hid hG
  clear f0 b1 b2 hz1 hz2 HI HS HO HZ0 hG hsl1 hOC
  go_loopw [8, 14] (fun _ i wr => ∃ j k1 l1, j ≤ many ∧ i = .int .i64 (j : Nat) ∧ StIs wr g gr r t b k1 lim T L S ∧ Fr (· = gr) w wr ∧ wr.heap[G]? = some (.cells OC 105 (0, 0)) ∧ wr.heap[G + 1]? = some (.cells (u8s l1).toArray 106 (0, 0)) ∧ l1.length = 19 ∧ (∀ x ∈ l1, x ≤ 7) ∧ rShort b (order.take many) (List.replicate 19 0) k = rShort b ((order.take many).drop j) l1 k1) (fun _ i _ => many - (intOf i).toNat)
  case atStart => exact ⟨0, k, _, by omega, rfl, H.out.fr0 HF0.out, HF0.out.mono (fun _ _ h => h.elim), HB1.out, HB2.out, by simp, by simp, rfl⟩
  case round =>
    obtain ⟨j, k1, l1, hj, rfl, hst, hfr, hb1, hb2, hlen, h7, heq⟩ := hrel
    have HST := Lib.hid hst
    have HFR := Lib.hid hfr
    have HB1 := Lib.hid hb1
    have HB2 := Lib.hid hb2
    have HLEN := Lib.hid hlen
    have H7 := Lib.hid h7
    have HEQ := Lib.hid heq
    clear hst hfr hlen h7 heq
    by_cases hjm : j < many
    · have hjo : j < order.length := by simp [order]; omega
      have hs19 := order_lt j hjo
      have HDR := Lib.hid (order_drop many j hm hjm)
      have hcell : wr.cell? ⟨G, j, none⟩ = some (.int .i64 (order[j] : Nat)) := by rw [cell_of_row _ _ _ _ _ _ hb1]; exact HOA.out j hjo
      have HG3 : Hid (Calls Try.prog 28 #[.pointer (some ⟨g, 0, none⟩), .int .i64 3] wr (RdEnds (rGrp b 3 k1) wr gr r b)) := Lib.hid (group_any 3 wr HST.out (by decide))
      obtain ⟨s, hs⟩ : ∃ s, order[j] = s := ⟨_, rfl⟩
      rw [hs] at hs19 HDR hcell
      have q1 : (0 : Int) ≤ (s : Int) := by omega
      have q2 : (s : Int) < 19 := by omega
      clear hs hjo hb1 hb2
      go_wp2_with fail
      refine HG3.out.mono ?_
      intro e w2 h2
      rcases rd_cases h2 with ⟨n, k2, hx, rfl, t2⟩ | ⟨m, hx, rfl, f2⟩
      · have hn : n < 8 := (rGrp_lt hx).1
        have hmod : (n : Int) % 256 = (n : Int) := by omega
        have K : Hid (rShort b (order.take many) (List.replicate 19 0) k = rShort b ((order.take many).drop (j + 1)) (l1.set s n) k2) := Lib.hid (by rw [HEQ.out, HDR.out, rShort, hx, Res.then_ok])
        have HST2 := Lib.hid (HST.out.read t2)
        have HFR2 : Hid (Fr (· = gr) w w2) := Lib.hid (HFR.out.trans t2.2 (fun _ _ h => h))
        have bb1 := t2.2.row HB1.out (by omega)
        have bb2 := t2.2.row HB2.out (by omega)
        have HC1 := Lib.hid bb1
        have HC2 := Lib.hid bb2
        have hfz : w2.frozen? ⟨G + 1, s, none⟩ = false := by simp [World.frozen?, bb2]
        obtain ⟨old, hold⟩ : ∃ v, w2.cell? ⟨G + 1, s, none⟩ = some v := by
          rw [cell_of_row _ _ _ _ _ _ bb2]
          have hl : s < (u8s l1).toArray.size := by simp [u8s, HLEN.out]; omega
          exact ⟨_, Array.getElem?_eq_getElem hl⟩
        clear bb1 bb2 hx h2 t2 HG3
        go_wp2_with fail
        have FS : Fr (· = G + 1) w2 (w2.setCell ⟨G + 1, s, none⟩ (.int .u8 (n : Nat))) := Fr.setCell _ _ _ _ rfl
        have HD2 : Hid ((w2.setCell ⟨G + 1, s, none⟩ (.int .u8 (n : Nat))).heap[G + 1]? = some (.cells (u8s (l1.set s n)).toArray 106 (0, 0))) := Lib.hid (by rw [heap_setCell_same w2 (G + 1) s _ _ _ HC2.out, u8s_set])
        have HD1 := Lib.hid (FS.row HC1.out (by omega))
        have HST3 : Hid (StIs (w2.setCell ⟨G + 1, s, none⟩ (.int .u8 (n : Nat))) g gr r t b k2 lim T L S) := Lib.hid (by
          have a1 := H.out.lt
          have a2 := H.out.rd.lt
          have hg := HG.out
          exact HST2.out.fr FS (by omega) (by omega) (fun q hq => by have := H.out.rd.rlt q hq; omega) (fun q hq => by have := H.out.tlt q hq; omega))
        have HF3 : Hid (Fr (· = gr) w (w2.setCell ⟨G + 1, s, none⟩ (.int .u8 (n : Nat)))) := Lib.hid (HFR2.out.trans FS (fun q hq e => by have := HG.out; omega))
        clear FS hfz hold
        go_roundw
        case rel =>
          refine ⟨j + 1, k2, l1.set s n, by omega, by go_num, HST3.out, HF3.out, HD1.out, HD2.out, by rw [List.length_set, HLEN.out], ?_, K.out⟩
          intro x hx
          rcases List.mem_or_eq_of_mem_set hx with h | h
          · exact H7.out x h
          · omega
        case measure => simp [intOf]; omega
      · have K : Hid (rCode b many k = .no m) := Lib.hid (by unfold rCode; rw [HEQ.out, HDR.out, rShort, hx]; rfl)
        have HFF : Hid (Fr (· = gr) w w2) := Lib.hid (HFR.out.trans f2 (fun _ _ h => h))
        clear hx h2 f2 HG3
        go_wp2_with fail
        exact ⟨rfl, CodeEnds.of K.out ⟨rfl, HFF.out⟩⟩
    · obtain rfl : j = many := by omega
      have KE : Hid (rShort b (order.take j) (List.replicate 19 0) k = .ok l1 k1) := Lib.hid (by rw [HEQ.out, List.drop_eq_nil_of_le (by rw [List.length_take]; omega)]; rfl)
      have H15 : Hid (∀ x ∈ l1, x ≤ 15) := Lib.hid (fun x hx => by have := H7.out x hx; omega)
      have hsl : SlI wr .u8 (some ⟨G + 1, 0, none⟩) l1 := SlI.ofBlock hb2 (by simp [u8s]) (by rw [HLEN.out]; decide)
      clear hb1 hb2 hjm
      by_cases hok : okl l1
      · have HM := make_ok (some ⟨G + 1, 0, none⟩) 19 l1 wr hsl (fun h => by cases h) (by rw [HLEN.out]; decide) H15.out hok
        rw [HLEN.out] at HM
        have HMK := Lib.hid HM
        have KF : Hid (ful l1 → rCode b j k = .ok l1 k1) := Lib.hid (fun q => by unfold rCode; rw [KE.out, Res.then_ok, rIf_yes (decide_eq_true q), Res.then_ok])
        have KN : Hid (¬ ful l1 → rCode b j k = .no 62) := Lib.hid (fun q => by unfold rCode; rw [KE.out, Res.then_ok, rIf_no (decide_eq_false q)]; rfl)
        clear HM hsl hok
        go_wp2_with fail
        refine HMK.out.mono ?_
        rintro e w2 ⟨gc, rfl, ⟨f2, s2⟩, hgc⟩
        have HS2 := Lib.hid s2
        have HF2 := Lib.hid f2
        have HGS := Lib.hid (gotSet_yes (.pointer (some ⟨gc, 0, none⟩)) w2)
        obtain ⟨pl, cl, cb, cc, ob, oc, hrow, -⟩ := s2.ex
        have hfu := full_any gc w2 hrow (by rw [HLEN.out]; decide)
        clear f2 s2 hrow HMK
        by_cases hful : ful l1
        · rw [decide_eq_true hful] at hfu
          have HFU := Lib.hid hfu
          have K := Lib.hid (KF.out hful)
          clear hfu hful KF KN
          go_wp2_with fail
          refine HGS.out.mono ?_
          rintro e w' ⟨rfl, rfl⟩
          go_wp2_with fail
          refine HFU.out.mono ?_
          rintro e w3 ⟨rfl, f3⟩
          have HD := Lib.hid (demand_yes 62 w3)
          have HEND : Hid (CodeEnds (.ok l1 k1) w gr r b (.returned (.pointer (some ⟨gc, 0, none⟩))) w3) := Lib.hid (by
            refine ⟨wr.heap.size, w2.heap.size, gc, rfl, ⟨HST.out.rd.fr0 (HF2.out.trans0 f3), (HFR.out.trans0 HF2.out).trans0 f3⟩, HS2.out.fr0 f3, HFR.out.size, f3.size, HLEN.out⟩)
          clear f3 HFU HGS
          go_wp2_with fail
          refine HD.out.mono ?_
          rintro e w' ⟨rfl, rfl⟩
          go_wp2_with fail
          go_ret
          exact CodeEnds.of K.out HEND.out
        · rw [decide_eq_false hful] at hfu
          have HFU := Lib.hid hfu
          have K := Lib.hid (KN.out hful)
          clear hfu hful KF KN
          go_wp2_with fail
          refine HGS.out.mono ?_
          rintro e w' ⟨rfl, rfl⟩
          go_wp2_with fail
          refine HFU.out.mono ?_
          rintro e w3 ⟨rfl, f3⟩
          have HD := Lib.hid (demand_no 62 w3)
          have HEND : Hid (Fr (· = gr) w w3) := Lib.hid ((HFR.out.trans0 HF2.out).trans0 f3)
          clear f3 HFU HGS
          go_wp2_with fail
          refine HD.out.mono ?_
          rintro e w' ⟨rfl, rfl⟩
          go_wp2_with fail
          exact ⟨rfl, CodeEnds.of K.out ⟨rfl, HEND.out⟩⟩
      · have HM := make_no (some ⟨G + 1, 0, none⟩) 19 l1 wr hsl (fun h => by cases h) (by rw [HLEN.out]; decide) H15.out hok
        rw [HLEN.out] at HM
        have HMK := Lib.hid HM
        have K : Hid (rCode b j k = .no 62) := Lib.hid (by unfold rCode; rw [KE.out, Res.then_ok, rIf_no (decide_eq_false (fun q => hok (.inl q)))]; rfl)
        clear HM hsl hok
        go_wp2_with fail
        refine HMK.out.mono ?_
        rintro e w2 ⟨rfl, f2⟩
        have HGS := Lib.hid (gotSet_no (.pointer none) 62 (by decide) w2)
        have HFF : Hid (Fr (· = gr) w w2) := Lib.hid (HFR.out.trans0 f2)
        clear f2 HMK
        go_wp2_with fail
        refine HGS.out.mono ?_
        rintro e w' ⟨rfl, rfl⟩
        go_wp2_with fail
        exact ⟨rfl, CodeEnds.of K.out ⟨rfl, HFF.out⟩⟩
end
end Go.Proofs.Ytmcmchldjfnneaa
