/- The law on means. -/
import Derived.Test.YtmaiahkkekkbbaaWdRefMean
namespace Go.Proofs.Ytmaiahkkekkbbaa
open Go.RowKit

theorem info_i64 : (Try.prog.info? 2).map (fun i => (i.zero, i.size, i.bytes)) = some (some (.int .i64 0), 1, 8) := by kernel_rfl
theorem eli64 : ElemOk Try.prog 56 2 (.int .i64 0) 1 8 := ⟨Try.underlying56, info_i64, rfl, by decide, by decide⟩
theorem info_tm : (Try.prog.info? 58).map (fun i => (i.zero, i.size, i.bytes)) = some (some (.agg #[.int .i64 0, .int .u64 0]), 2, 16) := by kernel_rfl
theorem elTm : ElemOk Try.prog 55 58 (.agg #[.int .i64 0, .int .u64 0]) 2 16 := ⟨Try.underlying55, info_tm, rfl, by decide, by decide⟩
def i64s (l : List Int) : List Value := l.map fun x => Value.int .i64 x
def tms (l : List Tm) : List Value := l.flatMap fun t => [.int .i64 t.1, .int .u64 (t.2 : Int)]
theorem tms_snoc (l : List Tm) (t : Tm) : tms (l ++ [t]) = tms l ++ [.int .i64 t.1, .int .u64 (t.2 : Int)] := by simp [tms]
theorem tms_len (l : List Tm) : (tms l).length = l.length * 2 := by
  induction l with
  | nil => rfl
  | cons t l ih => rw [show tms (t :: l) = [.int .i64 t.1, .int .u64 (t.2 : Int)] ++ tms l from rfl, List.length_append, ih, List.length_cons]; simp; omega
theorem tms_at : ∀ (l : List Tm) (i : Nat) (h : i < l.length), (tms l)[i * 2]? = some (.int .i64 l[i].1) ∧ (tms l)[i * 2 + 1]? = some (.int .u64 (l[i].2 : Int))
  | t :: l, 0, _ => by simp [tms]
  | t :: l, i + 1, h => by
    have := tms_at l i (by simpa using h)
    rw [show tms (t :: l) = [.int .i64 t.1, .int .u64 (t.2 : Int)] ++ tms l from rfl]
    rw [List.getElem?_append_right (by simp; omega), List.getElem?_append_right (by simp; omega)]
    simp only [List.length_cons, List.length_nil, List.getElem_cons_succ]
    rw [show (i + 1) * 2 - (0 + 1 + 1) = i * 2 by omega, show (i + 1) * 2 + 1 - (0 + 1 + 1) = i * 2 + 1 by omega]
    exact this
theorem TmI.ofOwns {w : World} {q : Option Addr} {n d : Nat} {l : List Tm} (h : w.ownsRow 0 58 2 (.slice q n d) n (tms l)) (hm : n ≤ maxLen) : TmI w q l := by
  have hlen : l.length * 2 = n * 2 := by have h1 := h.1; rw [tms_len] at h1; exact h1
  refine ⟨by omega, fun hl => ?_⟩
  rcases h.2 with ⟨hv, hn⟩ | ⟨g, cap, cur, hv, _⟩
  · exact absurd (List.eq_nil_of_length_eq_zero (by omega)) hl
  · simp only [Value.slice.injEq] at hv
    obtain ⟨rfl, -, rfl⟩ := hv
    refine ⟨g, 0, rfl, fun i hi => ?_⟩
    obtain ⟨h1, h2⟩ := tms_at l i hi
    rw [Nat.zero_add]
    exact ⟨(h.cellAt _ (by omega)).trans h1, (h.cellAt _ (by omega)).trans h2⟩
theorem ZsI.ofOwns {w : World} {q : Option Addr} {n d : Nat} {l : List Int} (h : w.ownsRow 0 2 1 (.slice q n d) n (i64s l)) (hm : n ≤ maxLen) : ZsI w q l := by
  have hlen : l.length = n := by have h1 := h.1; simpa [i64s] using h1
  refine ⟨by omega, fun hl => ?_⟩
  rcases h.2 with ⟨hv, hn⟩ | ⟨g, cap, cur, hv, _⟩
  · exact absurd (List.eq_nil_of_length_eq_zero (by omega)) hl
  · simp only [Value.slice.injEq] at hv
    obtain ⟨rfl, -, rfl⟩ := hv
    refine ⟨g, 0, rfl, fun i hi => ?_⟩
    rw [Nat.zero_add, h.cellAt _ (by omega)]
    simp [i64s, hi]

/-- rows of unlike things lie apart: what is appended to one leaves the other one as it is -/
theorem keep_row {w w1 : World} {o : Obj} {e e' : TypeId} {s s' n n' : Nat} {v v' : Value} {xs xs' : List Value} (h : w.ownsRow 0 e s v n xs) (h' : w.ownsRow 0 e' s' v' n' xs') (hne : e ≠ e') (g : (w.alloc o).grownBy w1 v.ownBlock) :
    w1.ownsRow 0 e' s' v' n' xs' := by
  refine (h'.alloc o).kept g ?_
  rcases h'.2 with ⟨rfl, -⟩ | ⟨b', cap', cur', rfl, -, hb', -⟩
  · exact .inl rfl
  · refine .inr fun hv => ?_
    rcases h.2 with ⟨rfl, -⟩ | ⟨b, cap, cur, rfl, -, hb, -⟩
    · simp [Value.ownBlock] at hv
    · simp only [Value.ownBlock, Option.some.injEq] at hv
      subst hv
      rw [hb'] at hb
      simp only [Option.some.injEq, Obj.cells.injEq] at hb
      exact hne hb.2.1.symm

theorem slFormN {w : World} {e : TypeId} {s : Nat} {v : Value} {n : Nat} {xs : List Value} (h : w.ownsRow 0 e s v n xs) : ∃ p c, v = .slice p n c := by
  rcases h.2 with ⟨h, h0⟩ | ⟨g, cap, cur, h, _⟩
  · exact ⟨none, 0, by rw [h, h0]⟩
  · exact ⟨_, _, h⟩
theorem one_tm (x : Int) (y : Nat) : ∀ u ∈ (#[Value.int .i64 x, Value.int .u64 (y : Int)]).toList, u.oneCell' = true := by
  intro u hu
  simp only [List.mem_cons, List.not_mem_nil, or_false] at hu
  rcases hu with rfl | rfl <;> rfl
theorem wts_rev (l : List Tm) : wts l.reverse = wts l := by simp [wts]
theorem lsm_rev (l : List Tm) : lsm l.reverse = lsm l := by simp [lsm]
theorem mean_ge (l : List Tm) (lo : Int) (h0 : -9223372036854775808 ≤ lo) (h : ∀ t ∈ l, lo ≤ t.1) (hw : 0 < wts l) : lo ≤ ((lsm l / wts l : Nat) : Int) - 9223372036854775808 := by
  rw [mean_from lo h0 l h hw]
  exact Int.le_add_of_nonneg_right (Int.natCast_nonneg _)
theorem lsm_hi (hi : Int) : ∀ l : List Tm, (∀ t ∈ l, t.1 ≤ hi) → lsm l ≤ lft hi * wts l
  | [], _ => by simp [lsm, wts]
  | t :: r, h => by
    have ih := lsm_hi hi r fun u hu => h u (List.mem_cons_of_mem _ hu)
    have ht := h t List.mem_cons_self
    have h2 := Nat.mul_le_mul_right t.2 (show lft t.1 ≤ lft hi by unfold lft; omega)
    have e1 : lsm (t :: r) = lft t.1 * t.2 + lsm r := by simp [lsm]
    have e2 : wts (t :: r) = t.2 + wts r := by simp [wts]
    rw [e1, e2, Nat.mul_add]; omega
theorem mean_le (l : List Tm) (hi : Int) (h0 : -9223372036854775808 ≤ hi) (h : ∀ t ∈ l, t.1 ≤ hi) : ((lsm l / wts l : Nat) : Int) - 9223372036854775808 ≤ hi := by
  have h1 := lsm_hi hi l h
  have h2 : lsm l / wts l ≤ lft hi := by
    refine Nat.div_le_of_le_mul ?_
    rw [Nat.mul_comm]; exact h1
  unfold lft at h2; omega

set_option maxRecDepth 100000 in
set_option maxHeartbeats 4000000 in
theorem law_means (p : Option Addr) (c m : Nat) (l : List Tm) (w : World) (hm : l.length = m) (h : TmI w p l) (hok : ∀ t ∈ l, TmOk t) :
    Calls Try.prog 8 #[.slice p m c] w fun e w' => e = .returned (.bool true) ∧ Fr S0 w w' := by
  have hw := start w
  have H := Lib.hid h
  have HOK := Lib.hid hok
  have HM := Lib.hid hm
  have hlen := h.len
  rw [hm] at hlen
  unfold maxLen at hlen
  clear h hok hm
  by_cases h100 : (100 : Int) < (m : Int)
  · go_enter Try.func8, Try.ntmps8
    go_wp2_with fail
    refine hw _ ?_
    intro w1 f1
    clear hw
    go_wp2_with fail
    go_ret
    exact ⟨rfl, f1⟩
  · have HR : Hid (∀ j : Nat, j < m → Room (j + 1)) := Lib.hid fun j h => Room.mk (by omega)
    have h100' : decide ((100 : Int) < (m : Int)) = false := decide_eq_false h100
    go_enter Try.func8, Try.ntmps8
    go_wp2_with fail
    refine hw _ ?_
    intro w1 f1
    clear hw
    have F1 := Lib.hid f1
    clear f1
    go_wp2_with fail
    go_loopw [3, 4, 5, 6] (fun v n b i wr => ∃ k : Nat, k ≤ m ∧ i = .int .i64 k ∧ wr.ownsRow 0 2 1 v k (i64s ((l.take k).map fun t => t.1)) ∧ wr.ownsRow 0 22 1 n k (u64s ((l.take k).map fun t => t.2)) ∧
      wr.ownsRow 0 58 2 b k (tms (l.reverse.take k)) ∧ Fr S0 w wr ∧ Fresh w v ∧ Fresh w n ∧ Fresh w b) (fun _ _ _ i _ => m - (intOf i).toNat)
    case atStart => exact ⟨0, by omega, rfl, World.ownsRow_nil _ _ _ _, World.ownsRow_nil _ _ _ _, World.ownsRow_nil _ _ _ _, F1.out, fresh_nil _ _, fresh_nil _ _, fresh_nil _ _⟩
    case round =>
      clear F1
      obtain ⟨k, hk, rfl, ov, on, ob, hfr, fv, fn, fb⟩ := hrel
      by_cases hkm : (k : Int) < (m : Int)
      · have hkl : k < l.length := by rw [HM.out]; omega
        have hki : m - 1 - k < l.length := by rw [HM.out]; omega
        obtain ⟨b, o, rfl, c1, c2⟩ := (H.out.fr0 hfr).at k hkl
        have HCB : Hid (∀ W, Fr S0 w W → W.cell? ⟨b, o + (m - 1 - k) * 2, none⟩ = some (.int .i64 (l[m - 1 - k]'hki).1) ∧ W.cell? ⟨b, o + (m - 1 - k) * 2 + 1, none⟩ = some (.int .u64 ((l[m - 1 - k]'hki).2 : Int))) := Lib.hid fun W f => by
          obtain ⟨b', o', hp, c3, c4⟩ := (H.out.fr0 f).at (m - 1 - k) hki
          simp only [Option.some.injEq, Addr.mk.injEq] at hp
          obtain ⟨rfl, rfl, -⟩ := hp
          exact ⟨c3, c4⟩
        have HCN : Hid (∀ W, Fr S0 w W → W.cell? ⟨b, o + k * 2 + 1, none⟩ = some (.int .u64 (l[k].2 : Int))) := Lib.hid fun W f => by
          obtain ⟨b', o', hp, c3, c4⟩ := (H.out.fr0 f).at k hkl
          simp only [Option.some.injEq, Addr.mk.injEq] at hp
          obtain ⟨rfl, rfl, -⟩ := hp
          exact c4
        have HSV : Hid (i64s ((l.take (k + 1)).map fun t => t.1) = i64s ((l.take k).map fun t => t.1) ++ [.int .i64 l[k].1]) := Lib.hid (by rw [List.take_succ_eq_append_getElem hkl, List.map_append]; unfold i64s; rw [List.map_append]; rfl)
        have HSN : Hid (u64s ((l.take (k + 1)).map fun t => t.2) = u64s ((l.take k).map fun t => t.2) ++ [.int .u64 (l[k].2 : Int)]) := Lib.hid (by rw [List.take_succ_eq_append_getElem hkl, List.map_append]; unfold u64s; rw [List.map_append]; rfl)
        have HSB : Hid (tms (l.reverse.take (k + 1)) = tms (l.reverse.take k) ++ [.int .i64 (l[m - 1 - k]'hki).1, .int .u64 ((l[m - 1 - k]'hki).2 : Int)]) := Lib.hid (by
          rw [List.take_succ_eq_append_getElem (by rw [List.length_reverse]; exact hkl), tms_snoc, List.getElem_reverse]
          simp only [HM.out])
        obtain ⟨V, hV⟩ : ∃ V, l[k].1 = V := ⟨_, rfl⟩
        obtain ⟨N, hN⟩ : ∃ N, l[k].2 = N := ⟨_, rfl⟩
        obtain ⟨V2, hV2⟩ : ∃ V, (l[m - 1 - k]'hki).1 = V := ⟨_, rfl⟩
        obtain ⟨N2, hN2⟩ : ∃ N, (l[m - 1 - k]'hki).2 = N := ⟨_, rfl⟩
        rw [hV] at c1 HSV
        rw [hN] at HSN HCN
        rw [hV2] at HSB HCB
        rw [hN2] at HSB HCB
        obtain ⟨i2, hi2⟩ : ∃ i, m - 1 - k = i := ⟨_, rfl⟩
        rw [hi2] at HCB
        have e2 : (m : Int) - 1 - (k : Int) = (i2 : Int) := by omega
        have hi2m : (i2 : Int) < (m : Int) := by omega
        obtain ⟨pv, cv, rfl, -, -, -⟩ := slForm ov
        obtain ⟨pn, cn, rfl, -, -, -⟩ := slForm on
        obtain ⟨pb, cb, rfl⟩ := slFormN ob
        have HRK := Lib.hid (HR.out k (by omega))
        clear hV hN hV2 hN2 hi2 c2
        go_wp2_with (first
          | ((with_reducible show wpList _ _ _ (Oper.mk (some 34) _ _ _ _ _ :: _) _ _); refine app_one eli64 (.tmp 27) (.tmp 33) rfl ov rfl rfl rfl rfl rfl one8 HRK.out ?_; intro g1 cap1 w3 ov1 hg1 hat1 hlt1; have f3 := (hfr.trans0 (Fr.alloc S0 wr _)).append hg1 fv; have v3 := fresh_app (n := k + 1) (c := cap1) hfr fv hat1; have on1 := keep_row ov on (by decide) hg1; have ob1 := keep_row ov ob (by decide) hg1; have cn := HCN.out _ f3; clear hg1 hat1 hlt1)
          | ((with_reducible show wpList _ _ _ (Oper.mk (some 42) _ _ _ _ _ :: _) _ _); refine app_one el64 (.tmp 35) (.tmp 41) rfl on1 rfl rfl rfl rfl rfl one8 HRK.out ?_; intro g2 cap2 w4 on2 hg2 hat2 hlt2; have f4 := (f3.trans0 (Fr.alloc S0 w3 _)).append hg2 fn; have v4 := fresh_app (n := k + 1) (c := cap2) f3 fn hat2; have ov2 := keep_row on1 ov1 (by decide) hg2; have ob2 := keep_row on1 ob1 (by decide) hg2; obtain ⟨cb1, cb2⟩ := HCB.out _ f4; clear hg2 hat2 hlt2)
          | ((with_reducible show wpList _ _ _ (Oper.mk (some 53) _ _ _ _ _ :: _) _ _); refine app_one elTm (.tmp 43) (.tmp 52) rfl ob2 rfl rfl rfl rfl rfl (one_tm V2 N2) HRK.out ?_; intro g3 cap3 w5 ob3 hg3 hat3 hlt3; have f5 := (f4.trans0 (Fr.alloc S0 w4 _)).append hg3 fb; have v5 := fresh_app (n := k + 1) (c := cap3) f4 fb hat3; have ov3 := keep_row ob2 ov2 (by decide) hg3; have on3 := keep_row ob2 on2 (by decide) hg3; clear hg3 hat3 hlt3))
        go_roundw
        case rel => exact ⟨k + 1, by omega, by go_num, by rw [HSV.out]; exact ov3, by rw [HSN.out]; exact on3, by rw [HSB.out]; exact ob3, f5, v3, v4, v5⟩
        case measure => simp [intOf]; omega
      · obtain rfl : k = m := by omega
        have et : l.take k = l := List.take_of_length_le (by rw [HM.out]; exact Nat.le_refl _)
        have er : l.reverse.take k = l.reverse := List.take_of_length_le (by rw [List.length_reverse, HM.out]; exact Nat.le_refl _)
        rw [et] at ov on
        rw [er] at ob
        obtain ⟨pv, cv, rfl, -, -, hcv⟩ := slForm ov
        obtain ⟨pn, cn, rfl, -, -, -⟩ := slForm on
        obtain ⟨pb, cb, rfl⟩ := slFormN ob
        have hkx : k ≤ maxLen := by unfold maxLen; omega
        have zv := ZsI.ofOwns ov hkx
        have sn : SlI wr .u64 pn (l.map fun t => t.2) := SlI.ofOwns on
        have tb := TmI.ofOwns ob hkx
        have HF := Lib.hid hfr
        have HZV := Lib.hid zv
        have HSN := Lib.hid sn
        have HTB := Lib.hid tb
        have m1 := fun W h => mean_any p c l W h HOK.out
        have m2 := fun W h => mean_any pb cb l.reverse W h (fun t ht => HOK.out t (List.mem_reverse.1 ht))
        rw [HM.out] at m1
        rw [List.length_reverse, HM.out] at m2
        have m3 := fun W h1 h2 => rmean_any pv pn cv cn k l W HM.out h1 h2 HOK.out
        clear et er ov on ob zv sn tb hfr fv fn fb hcv hkx hk
        by_cases hb : MeanNo l
        · have hb' : MeanNo l.reverse := by unfold MeanNo; rw [wts_rev]; exact hb
          have M1 := Lib.hid (fun W h => (m1 W h).mono fun e w' he => he.no hb)
          have M2 := Lib.hid (fun W h => (m2 W h).mono fun e w' he => he.no hb')
          have M3 : Hid (∀ W, ZsI W pv (l.map fun t => t.1) → SlI W .u64 pn (l.map fun t => t.2) → Calls Try.prog 28 #[.slice pv k cv, .slice pn k cn] W fun e w' => e = .returned (.tuple #[.int .i64 0, .bool false]) ∧ Fr S0 W w') :=
            Lib.hid fun W h1 h2 => (m3 W h1 h2).mono fun e w' he => by unfold RMeanEnds at he; rw [if_pos hb] at he; exact he
          clear m1 m2 m3 hb hb'
          go_wp2_with fail
          refine (M1.out _ (H.out.fr0 HF.out)).mono ?_
          rintro e w3 ⟨rfl, f3⟩
          go_wp2_with fail
          refine (M2.out _ (HTB.out.fr0 f3)).mono ?_
          rintro e w4 ⟨rfl, f4⟩
          go_wp2_with fail
          refine (M3.out _ (HZV.out.fr0 (f3.trans0 f4)) (HSN.out.fr0 (f3.trans0 f4))).mono ?_
          rintro e w5 ⟨rfl, f5⟩
          go_wp2_with fail
          go_ret
          exact ⟨rfl, ((HF.out.trans0 f3).trans0 f4).trans0 f5⟩
        · have hb' : ¬ MeanNo l.reverse := by unfold MeanNo; rw [wts_rev]; exact hb
          have HW0 : Hid (0 < wts l) := Lib.hid (by unfold MeanNo at hb; omega)
          have hk0 : 0 < k := by
            rcases Nat.eq_zero_or_pos k with e | e
            · exfalso
              have h1 := HW0.out
              rw [List.eq_nil_of_length_eq_zero (show l.length = 0 by rw [HM.out]; exact e)] at h1
              simp [wts] at h1
            · exact e
          have M1 := fun W h => (m1 W h).mono fun e w' he => he.yes hb
          have M2 := fun W h => (m2 W h).mono fun e w' he => he.yes hb'
          have M3 : ∀ W, ZsI W pv (l.map fun t => t.1) → SlI W .u64 pn (l.map fun t => t.2) → Calls Try.prog 28 #[.slice pv k cv, .slice pn k cn] W fun e w' => e = .returned (.tuple #[.int .i64 (((lsm l / wts l : Nat) : Int) - 9223372036854775808), .bool true]) ∧ Fr S0 W w' :=
            fun W h1 h2 => (m3 W h1 h2).mono fun e w' he => by unfold RMeanEnds at he; rw [if_neg hb] at he; exact he
          rw [wts_rev, lsm_rev] at M2
          obtain ⟨A, hA⟩ : ∃ A, ((lsm l / wts l : Nat) : Int) - 9223372036854775808 = A := ⟨_, rfl⟩
          rw [hA] at M1 M2 M3
          have HA := Lib.hid hA
          have HM1 := Lib.hid M1
          have HM2 := Lib.hid M2
          have HM3 := Lib.hid M3
          clear m1 m2 m3 hb hb' M1 M2 M3 hA
          go_wp2_with fail
          refine (HM1.out _ (H.out.fr0 HF.out)).mono ?_
          rintro e w3 ⟨rfl, f3⟩
          go_wp2_with fail
          refine (HM2.out _ (HTB.out.fr0 f3)).mono ?_
          rintro e w4 ⟨rfl, f4⟩
          go_wp2_with fail
          refine (HM3.out _ (HZV.out.fr0 (f3.trans0 f4)) (HSN.out.fr0 (f3.trans0 f4))).mono ?_
          rintro e w5 ⟨rfl, f5⟩
          have F5 := Lib.hid (((HF.out.trans0 f3).trans0 f4).trans0 f5)
          have HZ5 := Lib.hid (HZV.out.fr0 ((f3.trans0 f4).trans0 f5))
          clear f3 f4 f5
          have hl0 : 0 < l.length := by rw [HM.out]; exact hk0
          obtain ⟨b, o, rfl, hc⟩ := HZ5.out.at 0 (by rw [List.length_map]; exact hl0)
          rw [List.getElem_map, Nat.add_zero] at hc
          have hok0 := HOK.out _ (List.getElem_mem hl0)
          have b1 := hok0.lo
          have b2 := hok0.hi
          obtain ⟨V0, hV0⟩ : ∃ V, l[0].1 = V := ⟨_, rfl⟩
          rw [hV0] at hc b1 b2
          clear hV0 hok0
          go_wp2_with fail
          go_quiet (fail)
          go_wp2_with fail
          go_loopw [13, 14, 15] (fun lo hi i wr => ∃ (j : Nat) (L U : Int), j ≤ k ∧ i = .int .i64 j ∧ lo = .int .i64 L ∧ hi = .int .i64 U ∧ -9223372036854775808 ≤ L ∧ -9223372036854775808 ≤ U ∧ (∀ t ∈ l.take j, L ≤ t.1 ∧ t.1 ≤ U) ∧ wr = w5.drewN nq) (fun _ _ i _ => k - (intOf i).toNat)
          case atStart => exact ⟨0, V0, V0, by omega, rfl, rfl, rfl, b1, b1, by simp, rfl⟩
          case round =>
            obtain ⟨j, L, U, hj, rfl, rfl, rfl, hL, hU, hle, rfl⟩ := hrel
            clear hc b1 b2
            have HLE := Lib.hid hle
            have HLU := Lib.hid (And.intro hL hU)
            clear hle hL hU
            by_cases hjk : (j : Int) < (k : Int)
            · have hjl : j < l.length := by rw [HM.out]; omega
              obtain ⟨b', o', hp', hc⟩ := HZ5.out.at j (by rw [List.length_map]; exact hjl)
              simp only [Option.some.injEq, Addr.mk.injEq] at hp'
              obtain ⟨rfl, rfl, -⟩ := hp'
              rw [List.getElem_map] at hc
              have hokj := HOK.out _ (List.getElem_mem hjl)
              have g1 := hokj.lo
              obtain ⟨V, hV⟩ : ∃ V, l[j].1 = V := ⟨_, rfl⟩
              rw [hV] at hc g1
              have HG := Lib.hid g1
              have HNX : Hid (∀ t ∈ l.take (j + 1), min L V ≤ t.1 ∧ t.1 ≤ max U V) := Lib.hid fun t ht => by
                rw [List.take_succ_eq_append_getElem hjl, List.mem_append, List.mem_singleton] at ht
                rcases ht with ht | rfl
                · have := HLE.out t ht; omega
                · omega
              clear hV hokj g1
              go_wp2_with fail
              go_roundw
              case rel => exact ⟨j + 1, min L V, max U V, by omega, by go_num, rfl, rfl, by have := HLU.out; have := HG.out; omega, by have := HLU.out; omega, HNX.out, by trivial⟩
              case measure => simp [intOf]; omega
            · obtain rfl : j = k := by omega
              have HALL : ∀ t ∈ l, L ≤ t.1 ∧ t.1 ≤ U := fun t ht => HLE.out t (by rw [List.take_of_length_le (by rw [HM.out]; exact Nat.le_refl _)]; exact ht)
              have k1 := mean_ge l L HLU.out.1 (fun t ht => (HALL t ht).1) HW0.out
              have k2 := mean_le l U HLU.out.2 (fun t ht => (HALL t ht).2)
              rw [HA.out] at k1 k2
              clear HALL
              go_wp2_with fail
              go_ret
              exact ⟨rfl, F5.out.trans0 (Fr.drewN _ _ _)⟩
end Go.Proofs.Ytmaiahkkekkbbaa
