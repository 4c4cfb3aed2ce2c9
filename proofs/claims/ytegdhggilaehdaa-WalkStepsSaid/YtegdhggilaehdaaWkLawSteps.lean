/- The law on a range over a table. -/
import Derived.Test.YtegdhggilaehdaaWkAlive
import Derived.Test.YtegdhggilaehdaaWkRising
import Derived.Test.YtegdhggilaehdaaWkAsk
import Derived.Test.YtegdhggilaehdaaWkSteps
namespace Go.Proofs.Ytegdhggilaehdaa
open Go.RowKit Go.Shelf
attribute [local go_sem] Oper.semAt_some

theorem keepsFrom_fr {B : Nat} {W W' : World} (f : Fr S0 W W') : KeepsFrom B W W' := ⟨f.size, fun _ _ _ hk _ => f.row hk fun h => h⟩
theorem boxed_fr {W W' : World} {B : Nat} {t : TypeId} {v : Value} (h : Boxed W B t v) (f : Fr S0 W W') : Boxed W' B t v := f.row h fun h => h
theorem below_fr {n₀ : Nat} {W W' : World} (f : Fr S0 W W') (h : n₀ ≤ W.heap.size) : Below n₀ W W' := f.below.mono h
theorem boxed_below {n₀ : Nat} {W W' : World} {B : Nat} {t : TypeId} {v : Value} (h : Boxed W B t v) (b : Below n₀ W W') (hb : B < n₀) : Boxed W' B t v := (b.block B hb).trans h
theorem pri_below {n₀ : Nat} {W W' : World} {p : Option Addr} {l : List Pr} (h : PrI W p l) (b : Below n₀ W W') (hb : l ≠ [] → ∀ a, p = some a → a.block < n₀) : PrI W' p l :=
  ⟨h.len, fun hl => let ⟨bb, o, hp, hc⟩ := h.cel hl; ⟨bb, o, hp, fun i hi => ⟨(b.cell (p := ⟨bb, o + i * 2, none⟩) (hb hl ⟨bb, o, none⟩ hp)).trans (hc i hi).1, (b.cell (p := ⟨bb, o + i * 2 + 1, none⟩) (hb hl ⟨bb, o, none⟩ hp)).trans (hc i hi).2⟩⟩⟩
theorem stp_pre {L pre : List Pr} {x : Pr} (h : (pre ++ [x]) <+: stp L) (hs : Srt L) (hi : pre.length < L.length) : x = (L[pre.length].1, upt L L[pre.length].1) := by
  obtain ⟨t, ht⟩ := h
  have h1 := stp_at L pre.length hi
  have h2 : (stp L)[pre.length]? = some x := by rw [← ht]; simp
  rw [List.getElem?_eq_getElem (by rw [stp_len]; exact hi), h1] at h2
  rw [upt_at hs hi]
  exact (Option.some.inj h2).symm

set_option maxRecDepth 100000 in
set_option maxHeartbeats 4000000 in
theorem law_steps_in (n : Nat) (hn : 4 ≤ n) (p : Option Addr) (pn c : Nat) (l : List Pr) (st : Nat) (w : World) (h : PrI w p l) (hpn : l.length = pn) (h64 : ∀ x ∈ l, x.2 < 18446744073709551616) (hst : st < 256) :
    CallsIn Fence.wide n Try.prog 7 #[.slice p pn c, .int .u8 (st : Nat)] w fun e W' => e = .returned (.bool true) ∧ Below w.heap.size w W' := by
  have hn1 : 1 ≤ n := by omega
  have hn2 : 1 ≤ n - 1 - 1 := by omega
  have HA := Lib.hid (fun W => alive_any W)
  have HRI := Lib.hid (fun W (f : Fr S0 w W) => rising_any p pn c l W (h.fr0 f) hpn h64)
  have f0 : Fr S0 w ((w.alloc (.cells #[.int .u8 (st : Nat)] 5)).alloc (.cells #[.bool false] 4)) := (Fr.alloc _ _ _).trans0 (Fr.alloc _ _ _)
  have HF0 := Lib.hid f0
  have b3 := (Boxed.new w 5 (.int .u8 (st : Nat))).alloc (.cells #[.bool false] 4)
  have b4 := Boxed.new (w.alloc (.cells #[.int .u8 (st : Nat)] 5)) 4 (.bool false)
  rw [World.size_alloc] at b4
  have HB34 := Lib.hid (And.intro b3 b4)
  clear h hpn h64 f0 b3 b4
  refine callsIn_of_wp_marks Try.func7 rfl trivial ?_ rfl
  simp only [Try.ntmps7, List.size_toArray, List.length_cons, List.length_nil, Nat.reduceAdd, Nat.reduceSub, Array.replicate_succ, Array.replicate_zero, List.push_toArray, List.append_toArray, List.nil_append, List.cons_append]
  gi_wp2_with (refine ⟨trivial, ?_⟩; gi_at_call 8; refine (callsIn_wide.2 (HA.out _)).mono ?_; rintro e w1 ⟨rfl, f1⟩; have HF1 := Lib.hid f1; clear f1)
  refine ⟨trivial, ?_⟩
  refine (callsIn_wide.2 (HRI.out _ (HF0.out.trans0 HF1.out))).mono ?_
  rintro e w2 ⟨q, d, m, rfl, L, hr2⟩
  have HR2 := Lib.hid hr2
  have hm := hr2.small
  clear hr2 HRI HA
  have HB5 := Lib.hid (Boxed.new w2 22 (.slice q m d))
  have HN := Lib.hid (new_any q m d L (w2.alloc (.cells #[.slice q m d] 22)) (HR2.out.pri.fr0 (Fr.alloc _ _ _)) HR2.out.len (by omega) HR2.out.h64)
  gi_wp2
  refine ⟨trivial, ?_⟩
  refine (callsIn_wide.2 HN.out).mono ?_
  rintro e w3 ⟨f3, ⟨-, g, rfl, ht, -⟩ | ⟨hno, -⟩⟩
  case inr => exact absurd HR2.out.ok hno
  have HF3 := Lib.hid f3
  have HTB := Lib.hid ht
  clear f3 ht HN
  gi_wp2
  refine ⟨trivial, ?_⟩
  refine (callsIn_wide.2 (steps_any g _)).mono ?_
  rintro e w4 ⟨rfl, rfl⟩
  gi_wp2
  have F2 : Fr S0 ((w.alloc (.cells #[.int .u8 (st : Nat)] 5)).alloc (.cells #[.bool false] 4)) w2 := HF1.out.trans0 HR2.out.fr
  have F5 : Fr S0 (w2.alloc (.cells #[.slice q m d] 22)) ((w3.alloc (.cells #[.int .i64 0] 3)).alloc (.cells #[.pointer (some ⟨g, 0, none⟩)] 24)) := (HF3.out.trans0 (Fr.alloc _ _ _)).trans0 (Fr.alloc _ _ _)
  have F6 := (F2.trans0 (Fr.alloc S0 w2 (.cells #[.slice q m d] 22))).trans0 F5
  have s1 : w.heap.size + 1 < w2.heap.size := by have := F2.size; simp at this; omega
  have s2 : w2.heap.size < w3.heap.size := by have := HF3.out.size; simp at this; omega
  have b3 := boxed_fr HB34.out.1 F6
  have b4 := boxed_fr HB34.out.2 F6
  have b5 := boxed_fr HB5.out F5
  have b8 := (Boxed.new w3 3 (.int .i64 0)).alloc (.cells #[.pointer (some ⟨g, 0, none⟩)] 24)
  have bT := Boxed.new (w3.alloc (.cells #[.int .i64 0] 3)) 24 (.pointer (some ⟨g, 0, none⟩))
  rw [World.size_alloc] at bT
  have hB0 := (HF0.out.trans0 F6).below
  have F7 : Fr S0 w3 ((w3.alloc (.cells #[.int .i64 0] 3)).alloc (.cells #[.pointer (some ⟨g, 0, none⟩)] 24)) := (Fr.alloc _ _ _).trans0 (Fr.alloc _ _ _)
  have hsz : ((w3.alloc (.cells #[.int .i64 0] 3)).alloc (.cells #[.pointer (some ⟨g, 0, none⟩)] 24)).heap.size = w3.heap.size + 1 + 1 := by simp
  generalize (w3.alloc (.cells #[.int .i64 0] 3)).alloc (.cells #[.pointer (some ⟨g, 0, none⟩)] 24) = W0 at F5 F6 b3 b4 b5 b8 bT hB0 F7 hsz ⊢
  have hok := HTB.out.ok
  have hpr : PrI W0 q L := HR2.out.pri.fr0 ((Fr.alloc S0 w2 _).trans0 F5)
  have hql : L ≠ [] → ∀ a, q = some a → a.block < w3.heap.size := fun hl a ha => by have := HR2.out.pri.lt hl a ha; omega
  obtain ⟨tp, tn, tc, tb⟩ := HTB.out
  have htl : L ≠ [] → ∀ a, tp = some a → a.block < w3.heap.size := fun hl a ha => tb.pri.lt (fun h => hl (by have := stp_len L; rw [h] at this; exact List.eq_nil_of_length_eq_zero this.symm)) a ha
  have hlen : L.length = m := HR2.out.len
  have ht64 : ltot L < 18446744073709551616 := by have := hok.tot; omega
  have tb0 := tb.fr0 F7
  have HPR := Lib.hid hpr
  have HQL := Lib.hid hql
  have HOK := Lib.hid hok
  have HB3 := Lib.hid b3
  have HB4 := Lib.hid b4
  have HBX := Lib.hid b5
  have HB0 := Lib.hid hB0
  have HLEN := Lib.hid hlen
  have HT64 := Lib.hid ht64
  refine wpIn_rangeFunc_ownG (F := Fence.wide) rfl hn1 (gf := 41) (lb := #[.pointer (some ⟨w3.heap.size + 1, 0, none⟩)]) rfl trivial (enters_of Try.func41 (by kernel_rfl) rfl)
    (steps_stops Fence.wide (n - 1) trivial rfl (by omega) (w3.heap.size + 1) w3.heap.size g tn tc tp L W0 (by omega) (by omega) bT.cell tb0 htl) belowK_t (belowK_b (by omega)) (Below.refl _ _) (fun _ => rfl)
    (fun pre W => Boxed W w3.heap.size 3 (.int .i64 (pre.length : Nat)) ∧ Below w3.heap.size W0 W)
    (fun cc pre W => (cc = .ret ∧ ∃ bb, Boxed W (w.heap.size + 1) 4 (.bool bb) ∧ (bb = false → ¬ pre <+: stp L)) ∧ Below w.heap.size w W)
    (OwnFrom.and ((boxed_own _ _ _).from _) (ownFrom_below (Nat.le_of_lt (by omega)) (by omega)))
    (fun cc => OwnFrom.and (Own.from (fun s A B row hs hg hr => by obtain ⟨h1, bb, h2, h3⟩ := hs; exact ⟨h1, bb, boxed_own (β := Unit) _ _ (fun _ => .bool bb) () A B row h2 hg hr, h3⟩) _) (ownFrom_below (Nat.le_refl _) (by omega)))
    ⟨b8, Below.refl _ _⟩
    (fun x => { tmps := #[.slice p pn c, .int .u8 (st : Nat), undef, .pointer (some ⟨w.heap.size, 0, none⟩), .pointer (some ⟨w.heap.size + 1, 0, none⟩), .pointer (some ⟨w2.heap.size, 0, none⟩), .pointer (some ⟨g, 0, none⟩), .int .i64 0, .pointer (some ⟨w3.heap.size, 0, none⟩), .int .u64 (x.2 : Nat), .int .i64 x.1,
      .bool true, .bool false, .slice p pn c, .slice q m d, .tuple #[.pointer (some ⟨g, 0, none⟩), .int .i64 0], .slice q m d, .tuple #[.pointer (some ⟨g, 0, none⟩), .int .i64 0], .pointer (some ⟨g, 0, none⟩), .int .i64 0, .int .i64 0, .bool false, .bool false, .pointer (some ⟨g, 0, none⟩), .bool false, .bool false,
      .pointer (some ⟨g, 0, none⟩), .func (.func 41) #[] #[.pointer (some ⟨w3.heap.size + 1, 0, none⟩)], .int .u64 (x.2 : Nat), .int .i64 x.1, undef, undef, undef, undef, undef, undef, undef, undef, undef, undef, undef, undef, undef, undef, undef, undef, undef, undef, undef, undef, undef, undef, undef, undef, undef, undef, undef, undef, undef, undef], defers := [] }) ?assign ?body ?done ?stop
  case assign =>
    intro lp x W K hK
    gi_wp2
    exact hK
  case body =>
    rintro lp pre ⟨xk, xr⟩ W ⟨b1, hB⟩ hpl
    have HPRE : Hid ((pre ++ [(xk, xr)]) <+: stp L → xk = L[pre.length].1 ∧ xr = upt L L[pre.length].1) := Lib.hid fun h => by
      have := stp_pre h HOK.out.srt hpl
      exact ⟨congrArg Prod.fst this, congrArg Prod.snd this⟩
    have hpri := pri_below HPR.out hB HQL.out
    obtain ⟨b, o, hq, k0, -⟩ := hpri.at pre.length hpl
    have HRU : Hid (Calls Try.prog 21 #[.slice q m d, .int .i64 xk, .bool true] W fun e w' => e = .returned (.int .u64 (upt L xk : Nat)) ∧ Fr S0 W w') := Lib.hid (by
      have := rbelow_any q m d xk L W true hpri HLEN.out HT64.out
      rw [belB_t] at this
      exact this)
    have b3' := boxed_below HB3.out hB (by omega)
    have b4' := boxed_below HB4.out hB (by omega)
    have b5' := boxed_below HBX.out hB (by omega)
    have hxl : (pre ++ [(xk, xr)]).length = pre.length + 1 := by simp
    obtain ⟨wk, hwk⟩ : ∃ k, L[pre.length].1 = k := ⟨_, rfl⟩
    rw [hwk] at k0 HPRE
    obtain ⟨i, hi⟩ : ∃ i, pre.length = i := ⟨_, rfl⟩
    have hxl2 : (pre ++ [(xk, xr)]).length = i + 1 := by rw [hxl, hi]
    simp only [hi] at k0 b1
    have him : i < m := by rw [← hi, ← HLEN.out]; exact hpl
    have himI : (i : Int) < (m : Int) := by omega
    have dge : decide (m ≤ i) = false := decide_eq_false (by omega)
    have c8 := b1.cell
    have c5 := b5'.cell
    have c4 := b4'.cell
    have z4 := b4'.frozen
    have hBW : Below w.heap.size w W := HB0.out.trans (hB.mono (by omega))
    have HBW := Lib.hid hBW
    have HBB := Lib.hid hB
    have HX := Lib.hid hxl2
    have HB1 := Lib.hid b1
    have HB3' := Lib.hid b3'
    have HB4' := Lib.hid b4'
    have hWs : W0.heap.size ≤ W.heap.size := hB.size
    obtain rfl := hq
    clear hpri hB b1 b3' b4' b5' hxl hxl2 hwk hpl hBW hi him
    by_cases hk : xk = wk
    · have d1 : (xk != wk) = false := by rw [hk]; simp
      have HKK := Lib.hid hk
      obtain ⟨U, hU⟩ : ∃ U, upt L xk = U := ⟨_, rfl⟩
      have HU : Hid (upt L wk = U) := Lib.hid (by rw [← hk]; exact hU)
      rw [hU] at HRU
      clear hk hU
      by_cases hr : xr = U
      · have d2 : ((xr : Int) != (U : Int)) = false := by rw [hr]; simp
        obtain ⟨J, hJ⟩ : ∃ J, i + 1 = J := ⟨_, rfl⟩
        have eJ : (i : Int) + 1 = (J : Int) := by omega
        have HJJ := Lib.hid hJ
        clear hr hJ
        gi_wp2
        refine ⟨trivial, ?_⟩
        refine (CallsIn.inRound lp (callsIn_wide.2 HRU.out)).mono ?_
        rintro e W1 ⟨rfl, f1⟩
        have b8 := boxed_fr HB1.out f1
        have b4 := boxed_fr HB4'.out f1
        have b3 := (boxed_fr HB3'.out f1).other (show w.heap.size ≠ w3.heap.size by omega) (.int .i64 (J : Nat))
        have y8 := b8.cell
        have y8z := b8.frozen
        have b8' := b8.set (.int .i64 (J : Nat))
        have b4' := b4.other (show w.heap.size + 1 ≠ w3.heap.size by omega) (.int .i64 (J : Nat))
        have y8' := b8'.cell
        have y3' := b3.cell
        have y4' := b4'.cell
        have y4z := b4'.frozen
        have HF1' := Lib.hid f1
        have HB8' := Lib.hid b8'
        have HB4'' := Lib.hid b4'
        have hs1 := f1.size
        clear f1 b8 b4 b3 b8' b4' c8 c5 c4 z4 k0 HRU
        by_cases hJs : J = st
        · have dJ : ((J : Int) == (st : Int)) = true := by rw [hJs]; simp
          clear hJs
          gi_wp2
          exact ⟨(keepsFrom_fr HF1'.out).trans (((KeepsOthers.setCell _ _ _).trans (KeepsOthers.setCell _ _ _)).from _), ⟨rfl, true, HB4''.out.set _, fun h => by cases h⟩,
            ((HBW.out.trans (below_fr HF1'.out (by omega))).setCell (p := ⟨w3.heap.size, 0, none⟩) (show w.heap.size ≤ w3.heap.size by omega) _).setCell (p := ⟨w.heap.size + 1, 0, none⟩) (by simp) _⟩
        · have dJ : ((J : Int) == (st : Int)) = false := by rw [beq_eq_false_iff_ne]; omega
          clear hJs
          gi_wp2
          refine ⟨(keepsFrom_fr HF1'.out).trans ((KeepsOthers.setCell _ _ _).from _), (below_fr (n₀ := w3.heap.size) HF1'.out (by omega)).setCell (p := ⟨w3.heap.size, 0, none⟩) (Nat.le_refl _) _, ?_,
            (HBB.out.trans (below_fr HF1'.out (by omega))).setCell (p := ⟨w3.heap.size, 0, none⟩) (Nat.le_refl _) _⟩
          rw [HX.out, HJJ.out]
          exact HB8'.out
      · have d2 : ((xr : Int) != (U : Int)) = true := by rw [bne_iff_ne]; omega
        have HNO : Hid (¬ (pre ++ [(xk, xr)]) <+: stp L) := Lib.hid fun h => hr (by rw [← HU.out]; exact (HPRE.out h).2)
        clear hr
        gi_wp2
        refine ⟨trivial, ?_⟩
        refine (CallsIn.inRound lp (callsIn_wide.2 HRU.out)).mono ?_
        rintro e W1 ⟨rfl, f1⟩
        have b4 := boxed_fr HB4'.out f1
        have y4 := b4.cell
        have y4z := b4.frozen
        have HF1' := Lib.hid f1
        have HB4'' := Lib.hid b4
        have hs1 := f1.size
        clear f1 b4 c8 c5 c4 z4 k0 HRU
        gi_wp2
        exact ⟨(keepsFrom_fr HF1'.out).trans ((KeepsOthers.setCell _ _ _).from _), ⟨rfl, false, HB4''.out.set _, fun _ => HNO.out⟩,
          (HBW.out.trans (below_fr HF1'.out (by omega))).setCell (p := ⟨w.heap.size + 1, 0, none⟩) (by simp) _⟩
    · have d1 : (xk != wk) = true := by rw [bne_iff_ne]; exact hk
      have HNO : Hid (¬ (pre ++ [(xk, xr)]) <+: stp L) := Lib.hid fun h => hk (HPRE.out h).1
      clear hk HRU
      gi_wp2
      refine ⟨trivial, ?_⟩
      gi_wp2
      exact ⟨(KeepsOthers.setCell _ _ _).from _, ⟨rfl, false, HB4'.out.set _, fun _ => HNO.out⟩,
        HBW.out.setCell (p := ⟨w.heap.size + 1, 0, none⟩) (by simp) _⟩
  case done =>
    rintro D ys W hD rfl ⟨b1, hB⟩ hK
    rw [stp_len, hlen] at b1
    have b4' := boxed_below HB4.out hB (by omega)
    have b5' := boxed_below HBX.out hB (by omega)
    have c8 := b1.cell
    have c5 := b5'.cell
    have c4 := b4'.cell
    have z4 := b4'.frozen
    have hBW : Below w.heap.size w W := HB0.out.trans (hB.mono (by omega))
    have b4s := b4'.set (.bool true)
    gi_wp2
    have hK' := (KeepsOthers.setCell W ⟨w.heap.size + 1, 0, none⟩ (.bool true)).same D _ hK rfl
    refine ⟨by simp, .inl ⟨_, _, rfl, run_takeDeferred hK', ?_⟩⟩
    have hc5 := cell_kept b4s.cell (grownBy_putObj' _ D (.deferred none)) (fun r e => by cases e; exact ⟨_, hK', rfl⟩)
    refine ⟨.bool true, ?_, rfl, (hBW.setCell (p := ⟨w.heap.size + 1, 0, none⟩) (by simp) _).trans (belowK_b (w := w) (Nat.le_refl _) _ D _ _ (by omega) hK' rfl rfl)⟩
    simp [results, Try.f7, go_sem, hc5]
  case stop =>
    rintro D cc pre W hD hpre ⟨⟨rfl, bb, hb, hbb⟩, hB⟩ hK
    obtain rfl : bb = true := by
      cases bb with
      | true => rfl
      | false => exact absurd hpre (hbb rfl)
    gi_wp2
    refine ⟨by simp, .inl ⟨_, _, rfl, run_takeDeferred hK, ?_⟩⟩
    have hc5 := cell_kept hb.cell (grownBy_putObj' _ D (.deferred none)) (fun r e => by cases e; exact ⟨_, hK, rfl⟩)
    refine ⟨.bool true, ?_, rfl, hB.trans (belowK_b (w := w) (Nat.le_refl _) W D _ _ (by omega) hK rfl rfl)⟩
    simp [results, Try.f7, go_sem, hc5]
theorem law_steps (p : Option Addr) (n c : Nat) (l : List Pr) (st : Nat) (w : World) (h : PrI w p l) (hn : l.length = n) (h64 : ∀ x ∈ l, x.2 < 18446744073709551616) (hst : st < 256) :
    Calls Try.prog 7 #[.slice p n c, .int .u8 (st : Nat)] w fun e w' => e = .returned (.bool true) ∧ Fr S0 w w' :=
  (callsIn_wide.1 (law_steps_in 4 (Nat.le_refl _) p n c l st w h hn h64 hst)).mono fun _ _ he => ⟨he.1, Fr.ofBelow he.2⟩
end Go.Proofs.Ytegdhggilaehdaa
