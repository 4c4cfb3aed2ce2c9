/- The law on which histograms may be, and which may be taken together. -/
import Derived.Test.YthfcfmnaiopogaaHrReal
import Derived.Test.YthfcfmnaiopogaaHrAlive
import Derived.Test.YthfcfmnaiopogaaRegCalls
namespace Go.Proofs.Ythfcfmnaiopogaa
open Go.RowKit Go.ChangeMaps

/-- may it be, or not: of the code, and of the document -/
theorem made_any (lo hi d : Int) (hl : -9223372036854775808 ≤ lo ∧ lo ≤ 9223372036854775807) (hh : -9223372036854775808 ≤ hi ∧ hi ≤ 9223372036854775807) :
    ((∀ gr W, Calls Try.prog 5 #[.agg #[.int .i64 lo, .int .i64 hi, .int .i64 d], .bool gr] W fun e w' => e = .returned (.tuple #[.pointer none, .int .i64 1]) ∧ Fr S0 W w') ∧
      ∀ gr W, Calls Try.prog 6 #[.agg #[.int .i64 lo, .int .i64 hi, .int .i64 d], .bool gr] W fun e w' => e = .returned (.pointer none) ∧ Fr S0 W w') ∨
    ∃ l h D : Nat, lo = l ∧ hi = h ∧ d = D ∧
      (∀ gr W, Calls Try.prog 5 #[.agg #[.int .i64 (l : Nat), .int .i64 (h : Nat), .int .i64 (D : Nat)], .bool gr] W fun e w' => ∃ g hm, e = .returned (.tuple #[.pointer (some ⟨g, 0, none⟩), .int .i64 0]) ∧ HistIs w' g hm (Hm.new l h D gr) ∧ W.heap.size ≤ g ∧ W.heap.size ≤ hm ∧ Fr S0 W w') ∧
      ∀ gr W, Calls Try.prog 6 #[.agg #[.int .i64 (l : Nat), .int .i64 (h : Nat), .int .i64 (D : Nat)], .bool gr] W fun e w' => ∃ g, e = .returned (.pointer (some ⟨g, 0, none⟩)) ∧ RefIs w' g none 0 0 (Hm.new l h D gr) ∧ W.heap.size ≤ g ∧ Fr S0 W w' := by
  by_cases hm : May lo hi d
  · obtain ⟨⟨h1, h5⟩, h0, h2⟩ := id hm
    obtain ⟨l, rfl⟩ : ∃ l : Nat, lo = l := ⟨lo.toNat, by omega⟩
    obtain ⟨h, rfl⟩ : ∃ h : Nat, hi = h := ⟨hi.toNat, by omega⟩
    obtain ⟨D, rfl⟩ : ∃ D : Nat, d = D := ⟨d.toNat, by omega⟩
    by_cases hs : unt l + mag D ≤ 62
    · exact .inr ⟨l, h, D, rfl, rfl, rfl, fun gr W => xnew_yes l h D gr W (by omega) (by omega) (by omega) (by omega) (by omega) hs, fun gr W => hnew_yes l h D gr W (by omega) (by omega) (by omega) (by omega) (by omega) hs⟩
    · exact .inl ⟨fun gr W => xnew_big l h D gr W (by omega) (by omega) (by omega) (by omega) (by omega) (by omega), fun gr W => hnew_big l h D gr W (by omega) (by omega) (by omega) (by omega) (by omega) (by omega)⟩
  · exact .inl ⟨fun gr W => xnew_no lo hi d gr W hm hh, fun gr W => hnew_no lo hi d gr W hm hl hh.2⟩
theorem like_new {l h D l2 h2 D2 : Nat} {gr gr2 : Bool} : (Hm.new l h D gr).like (Hm.new l2 h2 D2 gr2) ↔ ((l = l2 ∧ h = h2 ∧ D = D2) ∧ gr = gr2) := by
  unfold Hm.like Hm.new
  constructor
  · rintro h; simp_all
  · rintro h; simp_all
theorem takeE_new {l h D l2 h2 D2 : Nat} {gr gr2 : Bool} : (Hm.new l h D gr).takeE (Hm.new l2 h2 D2 gr2) = if (l = l2 ∧ h = h2 ∧ D = D2) ∧ gr = gr2 then 0 else 3 := by
  unfold Hm.takeE
  by_cases hc : (l = l2 ∧ h = h2 ∧ D = D2) ∧ gr = gr2
  · rw [if_neg (fun hn => hn (like_new.2 hc)), if_pos hc]
    rfl
  · rw [if_pos (fun hn => hc (like_new.1 hn)), if_neg hc]
theorem take_new {l h D l2 h2 D2 : Nat} {gr gr2 : Bool} : (Hm.new l h D gr).take (Hm.new l2 h2 D2 gr2) = Hm.new l h D gr := by
  by_cases hc : (l = l2 ∧ h = h2 ∧ D = D2) ∧ gr = gr2
  · obtain ⟨⟨rfl, rfl, rfl⟩, rfl⟩ := hc
    unfold Hm.take
    rw [if_pos (by rw [takeE_new, if_pos ⟨⟨rfl, rfl, rfl⟩, rfl⟩])]
    simp [Hm.taken, Hm.new, lputs]
  · unfold Hm.take
    rw [takeE_new, if_neg hc, if_neg (by decide)]
theorem boxes (w : World) (a b c : Value) (t : TypeId) : (w.alloc (.cells #[a, b, c] t)).cell? ⟨w.heap.size, 0, none⟩ = some a ∧ (w.alloc (.cells #[a, b, c] t)).cell? ⟨w.heap.size, 1, none⟩ = some b ∧ (w.alloc (.cells #[a, b, c] t)).cell? ⟨w.heap.size, 2, none⟩ = some c := box3a w a b c t
theorem priNone {W : World} {l : List Pr} (h : l.length = 0) : PrI W none l := by
  rw [List.length_eq_zero_iff.1 h]
  exact PrI.nil _ _
/-- what stays between the calls at the end -/
def MkR (w : World) (gx hx gy hy r : Nat) (M G : Hm) (W : World) : Prop := (HistIs W gx hx M ∧ HistIs W gy hy G ∧ RefIs W r none 0 0 M) ∧ Fr S0 w W
def MkN (w : World) (b1 b2 gx hx gy hy r : Nat) : Prop := (w.heap.size ≤ gx ∧ w.heap.size ≤ hx) ∧ (gx ≠ gy ∧ gx ≠ hy ∧ hx ≠ gy ∧ hx ≠ hy) ∧ (gx ≠ r ∧ hx ≠ r) ∧ (gx ≠ b1 ∧ hx ≠ b1) ∧ gx ≠ b2 ∧ hx ≠ b2
theorem MkR.fr0 {w W W2 : World} {gx hx gy hy r : Nat} {M G : Hm} (s : MkR w gx hx gy hy r M G W) (f : Fr S0 W W2) : MkR w gx hx gy hy r M G W2 := ⟨⟨s.1.1.fr0 f, s.1.2.1.fr0 f, s.1.2.2.fr0 f⟩, s.2.trans0 f⟩
theorem MkR.turn {w W W2 : World} {b1 b2 gx hx gy hy r : Nat} {M G : Hm} (s : MkR w gx hx gy hy r M G W) (n : MkN w b1 b2 gx hx gy hy r) (h : HistIs W2 gx hx M) (f : Fr (fun k => k = gx ∨ k = hx) W W2) : MkR w gx hx gy hy r M G W2 := by
  obtain ⟨⟨n1, n2⟩, ⟨n3, n4, n5, n6⟩, ⟨n7, n8⟩, -⟩ := n
  exact ⟨⟨h, s.1.2.1.fr f (fun e => by rcases e with e | e <;> omega) (fun e => by rcases e with e | e <;> omega), ⟨f.row s.1.2.2.blk (fun e => by rcases e with e | e <;> omega), priNone s.1.2.2.len, s.1.2.2.len, (fun _ h => by cases h), s.1.2.2.good⟩⟩, s.2.trans f fun j hj e => by rcases e with e | e <;> omega⟩
def MkS (b1 b2 l h D l2 h2 D2 : Nat) (gr gr2 : Bool) (w : World) (gx hx gy hy r : Nat) (W : World) : Prop :=
  (W.cell? ⟨b1, 0, none⟩ = some (.int .i64 (l : Nat)) ∧ W.cell? ⟨b1, 1, none⟩ = some (.int .i64 (h : Nat)) ∧ W.cell? ⟨b1, 2, none⟩ = some (.int .i64 (D : Nat)) ∧ W.cell? ⟨b2, 0, none⟩ = some (.int .i64 (l2 : Nat)) ∧ W.cell? ⟨b2, 1, none⟩ = some (.int .i64 (h2 : Nat)) ∧ W.cell? ⟨b2, 2, none⟩ = some (.int .i64 (D2 : Nat))) ∧ MkR w gx hx gy hy r (Hm.new l h D gr) (Hm.new l2 h2 D2 gr2) W
section
variable {b1 b2 l h D l2 h2 D2 : Nat} {gr gr2 : Bool} {w : World} {gx hx gy hy r : Nat} {W W2 : World} (s : MkS b1 b2 l h D l2 h2 D2 gr gr2 w gx hx gy hy r W)
include s
theorem MkS.fr0 (f : Fr S0 W W2) : MkS b1 b2 l h D l2 h2 D2 gr gr2 w gx hx gy hy r W2 := by
  obtain ⟨⟨k0, k1, k2, m0, m1, m2⟩, hr⟩ := s
  exact ⟨⟨f.cell k0 (fun h => h), f.cell k1 (fun h => h), f.cell k2 (fun h => h), f.cell m0 (fun h => h), f.cell m1 (fun h => h), f.cell m2 (fun h => h)⟩, hr.fr0 f⟩
theorem MkS.same : Calls Try.prog 7 #[.pointer (some ⟨gx, 0, none⟩), .pointer (some ⟨r, 0, none⟩)] W fun e w' => e = .returned (.bool true) ∧ MkS b1 b2 l h D l2 h2 D2 gr gr2 w gx hx gy hy r w' :=
  (same_any readsX gx _ r none 0 0 _ W (.of s.2.1.1 (by simp [Hm.new])) s.2.1.2.2 (by decide)).mono fun _ _ he => ⟨he.1, s.fr0 he.2⟩
theorem MkS.take (n : MkN w b1 b2 gx hx gy hy r) : Calls Try.prog 8 #[.pointer (some ⟨gx, 0, none⟩), .pointer (some ⟨gy, 0, none⟩)] W fun e w' => e = .returned (.int .i64 ((Hm.new l h D gr).takeE (Hm.new l2 h2 D2 gr2) : Nat)) ∧ MkS b1 b2 l h D l2 h2 D2 gr gr2 w gx hx gy hy r w' := by
  refine (xtake_any gx hx gy hy _ _ W s.2.1.1 s.2.1.2.1 (by simp [Hm.new])).mono fun e w' he => ⟨he.1, ?_⟩
  obtain ⟨-, h1, f⟩ := he
  rw [take_new] at h1
  have n2 := n
  obtain ⟨-, -, -, ⟨n3, n4⟩, n5, n6⟩ := n2
  obtain ⟨⟨k0, k1, k2, m0, m1, m2⟩, hr⟩ := s
  exact ⟨⟨f.cell k0 (fun e => e.elim (fun e => n3 e.symm) (fun e => n4 e.symm)), f.cell k1 (fun e => e.elim (fun e => n3 e.symm) (fun e => n4 e.symm)), f.cell k2 (fun e => e.elim (fun e => n3 e.symm) (fun e => n4 e.symm)), f.cell m0 (fun e => e.elim (fun e => n5 e.symm) (fun e => n6 e.symm)), f.cell m1 (fun e => e.elim (fun e => n5 e.symm) (fun e => n6 e.symm)), f.cell m2 (fun e => e.elim (fun e => n5 e.symm) (fun e => n6 e.symm))⟩, hr.turn n h1 f⟩
end
section
variable (lo hi d lo2 hi2 d2 : Int) (gr gr2 : Bool) (w : World)
set_option maxRecDepth 100000 in
set_option maxHeartbeats 4000000 in
theorem law_makes (hl : -9223372036854775808 ≤ lo ∧ lo ≤ 9223372036854775807) (hh : -9223372036854775808 ≤ hi ∧ hi ≤ 9223372036854775807) (hl2 : -9223372036854775808 ≤ lo2 ∧ lo2 ≤ 9223372036854775807) (hh2 : -9223372036854775808 ≤ hi2 ∧ hi2 ≤ 9223372036854775807) :
    Calls Try.prog 3 #[.agg #[.int .i64 lo, .int .i64 hi, .int .i64 d], .agg #[.int .i64 lo2, .int .i64 hi2, .int .i64 d2], .bool gr, .bool gr2] w fun e w' => e = .returned (.bool true) ∧ Fr S0 w w' := by
  have HA := Lib.hid (alive_any)
  have HM1 := Lib.hid (made_any lo hi d hl hh)
  have HM2 := Lib.hid (made_any lo2 hi2 d2 hl2 hh2)
  have HB1 := boxes w (.int .i64 lo) (.int .i64 hi) (.int .i64 d) 23
  obtain ⟨W1, eW1⟩ : ∃ W, w.alloc (.cells #[.int .i64 lo, .int .i64 hi, .int .i64 d] 23) = W := ⟨_, rfl⟩
  obtain ⟨b1, eb1⟩ : ∃ b, w.heap.size = b := ⟨_, rfl⟩
  rw [eW1, eb1] at HB1
  have HB2 := boxes W1 (.int .i64 lo2) (.int .i64 hi2) (.int .i64 d2) 23
  have f1 : Fr S0 w W1 := eW1 ▸ Fr.alloc _ _ _
  have f2 := Fr.alloc S0 W1 (.cells #[.int .i64 lo2, .int .i64 hi2, .int .i64 d2] 23)
  obtain ⟨W2, eW2⟩ : ∃ W, W1.alloc (.cells #[.int .i64 lo2, .int .i64 hi2, .int .i64 d2] 23) = W := ⟨_, rfl⟩
  obtain ⟨b2, eb2⟩ : ∃ b, W1.heap.size = b := ⟨_, rfl⟩
  rw [eW2, eb2] at HB2
  rw [eW2] at f2
  have HC := Lib.hid (fun W (f : Fr S0 W2 W) => And.intro (f.cell (f2.cell HB1.1 (fun h => h)) (fun h => h)) (And.intro (f.cell (f2.cell HB1.2.1 (fun h => h)) (fun h => h)) (And.intro (f.cell (f2.cell HB1.2.2 (fun h => h)) (fun h => h)) (And.intro (f.cell HB2.1 (fun h => h)) (And.intro (f.cell HB2.2.1 (fun h => h)) (f.cell HB2.2.2 (fun h => h)))))))
  have HF := Lib.hid (f1.trans0 f2)
  have HW := Lib.hid (And.intro eb1 (And.intro eW1 (And.intro eb2 eW2)))
  have HLT : Hid (b1 < W2.heap.size ∧ b2 < W2.heap.size) := Lib.hid (by rw [← eW2, size_alloc, ← eb2, ← eW1, size_alloc, ← eb1]; omega)
  clear hl hh hl2 hh2 HB1 HB2 f1 f2 eW1 eW2 eb1 eb2
  go_enter Try.func3, Try.ntmps3
  go_wp2_with (first | rw [HW.out.1] | rw [HW.out.2.1] | rw [HW.out.2.2.1] | rw [HW.out.2.2.2])
  refine (HA.out _).mono ?_
  rintro e w3 ⟨rfl, f3⟩
  have F3 := Lib.hid f3
  obtain ⟨k0, k1, k2, m0, m1, m2⟩ := HC.out _ F3.out
  clear f3 HA
  rcases HM1.out with hx | ⟨l, h, D, rfl, rfl, rfl, hx⟩
  · have HX := Lib.hid hx
    clear hx HM1
    go_wp2_with fail
    refine (HX.out.1 _ _).mono ?_
    rintro e w4 ⟨rfl, f4⟩
    have F4 := Lib.hid (F3.out.trans0 f4)
    clear f4 k0 k1 k2 m0 m1 m2
    obtain ⟨k0, k1, k2, m0, m1, m2⟩ := HC.out _ F4.out
    rcases HM2.out with hy | ⟨l2, h2, D2, rfl, rfl, rfl, hy⟩
    · have HY := Lib.hid hy
      clear hy HM2
      go_wp2_with fail
      refine (HY.out.1 _ _).mono ?_
      rintro e w5 ⟨rfl, f5⟩
      have F5 := Lib.hid (F4.out.trans0 f5)
      clear f5 k0 k1 k2 m0 m1 m2
      obtain ⟨k0, k1, k2, m0, m1, m2⟩ := HC.out _ F5.out
      have HFIRST := Lib.hid True.intro
      go_upto_region 8 with fail
      go_region_law (first
        | (go_simp; go_at_call 6; (have hm1 := HFIRST.out); clear hm1 HFIRST; (with_reducible refine (HX.out.2 _ _).mono ?_); rintro _ w6 ⟨rfl, f6⟩; (have F6 : Hid (Fr S0 w5 w6) := Lib.hid (by first | exact f6 | exact (Fr.drew S0 w5).trans0 f6 | exact (Fr.drewN S0 w5 _).trans0 f6)); obtain ⟨p0, p1, p2, q0, q1, q2⟩ := HC.out _ (F5.out.trans0 F6.out); clear f6)
        | (go_simp; go_at_call 6; (with_reducible refine (HY.out.2 _ _).mono ?_); rintro _ w7 ⟨rfl, f7⟩; (have F7 : Hid (Fr S0 w6 w7) := Lib.hid (by first | exact f7 | exact (Fr.drew S0 w6).trans0 f7 | exact (Fr.drewN S0 w6 _).trans0 f7)); clear f7)
        | fail)
      all_goals
        go_wp2_with fail
        go_ret
        exact ⟨rfl, ((HF.out.trans0 F5.out).trans0 F6.out).trans0 (by first | exact F7.out | exact F7.out.trans0 (Fr.drew S0 _) | exact F7.out.trans0 (Fr.drewN S0 _ _))⟩
    · have HY := Lib.hid hy
      clear hy HM2
      go_wp2_with fail
      refine (HY.out.1 _ _).mono ?_
      rintro e w5 ⟨gy, hy, rfl, s5, z4, z5, f5⟩
      have SY := Lib.hid (And.intro s5 (And.intro z4 (And.intro z5 f5)))
      have F5 := Lib.hid (F4.out.trans0 f5)
      clear f5 k0 k1 k2 m0 m1 m2 s5 z4 z5
      obtain ⟨k0, k1, k2, m0, m1, m2⟩ := HC.out _ F5.out
      have HFIRST := Lib.hid True.intro
      go_upto_region 8 with fail
      go_region_law (first
        | (go_simp; go_at_call 6; (have hm1 := HFIRST.out); clear hm1 HFIRST; (with_reducible refine (HX.out.2 _ _).mono ?_); rintro _ w6 ⟨rfl, f6⟩; (have F6 : Hid (Fr S0 w5 w6) := Lib.hid (by first | exact f6 | exact (Fr.drew S0 w5).trans0 f6 | exact (Fr.drewN S0 w5 _).trans0 f6)); obtain ⟨p0, p1, p2, q0, q1, q2⟩ := HC.out _ (F5.out.trans0 F6.out); clear f6)
        | (go_simp; go_at_call 6; (with_reducible refine (HY.out.2 _ _).mono ?_); rintro _ w7 ⟨r2, rfl, s7, z7, f7⟩; have R2 := Lib.hid (And.intro s7 z7); clear s7 z7; (have F7 : Hid (Fr S0 w6 w7) := Lib.hid (by first | exact f7 | exact (Fr.drew S0 w6).trans0 f7 | exact (Fr.drewN S0 w6 _).trans0 f7)); clear f7)
        | fail)
      all_goals
        go_wp2_with fail
        go_ret
        exact ⟨rfl, ((HF.out.trans0 F5.out).trans0 F6.out).trans0 (by first | exact F7.out | exact F7.out.trans0 (Fr.drew S0 _) | exact F7.out.trans0 (Fr.drewN S0 _ _))⟩
  · have HX := Lib.hid hx
    clear hx HM1
    go_wp2_with fail
    refine (HX.out.1 _ _).mono ?_
    rintro e w4 ⟨gx, hx, rfl, s4, z4, z5, f4⟩
    have SX := Lib.hid (And.intro s4 (And.intro z4 (And.intro z5 f4)))
    have F4 := Lib.hid (F3.out.trans0 f4)
    clear f4 k0 k1 k2 m0 m1 m2 s4 z4 z5
    obtain ⟨k0, k1, k2, m0, m1, m2⟩ := HC.out _ F4.out
    rcases HM2.out with hy | ⟨l2, h2, D2, rfl, rfl, rfl, hy⟩
    · have HY := Lib.hid hy
      clear hy HM2
      go_wp2_with fail
      refine (HY.out.1 _ _).mono ?_
      rintro e w5 ⟨rfl, f5⟩
      have F5 := Lib.hid (F4.out.trans0 f5)
      clear f5 k0 k1 k2 m0 m1 m2
      obtain ⟨k0, k1, k2, m0, m1, m2⟩ := HC.out _ F5.out
      have HFIRST := Lib.hid True.intro
      go_upto_region 8 with fail
      go_region_law (first
        | (go_simp; go_at_call 6; (have hm1 := HFIRST.out); clear hm1 HFIRST; (with_reducible refine (HX.out.2 _ _).mono ?_); rintro _ w6 ⟨r1, rfl, s6, z6, f6⟩; have R1 := Lib.hid (And.intro s6 z6); clear s6 z6; (have F6 : Hid (Fr S0 w5 w6) := Lib.hid (by first | exact f6 | exact (Fr.drew S0 w5).trans0 f6 | exact (Fr.drewN S0 w5 _).trans0 f6)); obtain ⟨p0, p1, p2, q0, q1, q2⟩ := HC.out _ (F5.out.trans0 F6.out); clear f6)
        | (go_simp; go_at_call 6; (with_reducible refine (HY.out.2 _ _).mono ?_); rintro _ w7 ⟨rfl, f7⟩; (have F7 : Hid (Fr S0 w6 w7) := Lib.hid (by first | exact f7 | exact (Fr.drew S0 w6).trans0 f7 | exact (Fr.drewN S0 w6 _).trans0 f7)); clear f7)
        | fail)
      all_goals
        go_wp2_with fail
        go_ret
        exact ⟨rfl, ((HF.out.trans0 F5.out).trans0 F6.out).trans0 (by first | exact F7.out | exact F7.out.trans0 (Fr.drew S0 _) | exact F7.out.trans0 (Fr.drewN S0 _ _))⟩
    · have HY := Lib.hid hy
      clear hy HM2
      go_wp2_with fail
      refine (HY.out.1 _ _).mono ?_
      rintro e w5 ⟨gy, hy, rfl, s5, z4, z5, f5⟩
      have SY := Lib.hid (And.intro s5 (And.intro z4 (And.intro z5 f5)))
      have F5 := Lib.hid (F4.out.trans0 f5)
      clear f5 k0 k1 k2 m0 m1 m2 s5 z4 z5
      obtain ⟨k0, k1, k2, m0, m1, m2⟩ := HC.out _ F5.out
      have HFIRST := Lib.hid True.intro
      go_upto_region 8 with fail
      go_cut [13, 14] from 13 to 34 (fun x y wx => ∃ r1 r2, x = .pointer (some ⟨r1, 0, none⟩) ∧ y = .pointer (some ⟨r2, 0, none⟩) ∧ Hid (MkS b1 b2 l h D l2 h2 D2 gr gr2 W2 gx hx gy hy r1 wx ∧ MkN W2 b1 b2 gx hx gy hy r1))
      case first =>
        go_region_law (first
          | (go_simp; go_at_call 6; (have hm1 := HFIRST.out); clear hm1 HFIRST; (with_reducible refine (HX.out.2 _ _).mono ?_); rintro _ w6 ⟨r1, rfl, s6, z6, f6⟩; have R1 := Lib.hid (And.intro s6 z6); clear s6 z6; (have F6 : Hid (Fr S0 w5 w6) := Lib.hid (by first | exact f6 | exact (Fr.drew S0 w5).trans0 f6 | exact (Fr.drewN S0 w5 _).trans0 f6)); obtain ⟨p0, p1, p2, q0, q1, q2⟩ := HC.out _ (F5.out.trans0 F6.out); clear f6)
          | (go_simp; go_at_call 6; (with_reducible refine (HY.out.2 _ _).mono ?_); rintro _ w7 ⟨r2, rfl, s7, z7, f7⟩; have R2 := Lib.hid (And.intro s7 z7); clear s7 z7; (have F7 : Hid (Fr S0 w6 w7) := Lib.hid (by first | exact f7 | exact (Fr.drew S0 w6).trans0 f7 | exact (Fr.drewN S0 w6 _).trans0 f7)); clear f7)
          | fail)
        all_goals
          have HS : Hid (MkS b1 b2 l h D l2 h2 D2 gr gr2 W2 gx hx gy hy r1 w7) := Lib.hid ⟨HC.out _ ((F5.out.trans0 F6.out).trans0 F7.out), ⟨SX.out.1.fr0 ((SY.out.2.2.2.trans0 F6.out).trans0 F7.out), SY.out.1.fr0 (F6.out.trans0 F7.out), R1.out.1.fr0 F7.out⟩, (F5.out.trans0 F6.out).trans0 F7.out⟩
          have HN : Hid (MkN W2 b1 b2 gx hx gy hy r1) := Lib.hid (by
            have a1 := SX.out.1.lt
            have a2 := SX.out.1.mp.lt
            have a3 := SX.out.2.1
            have a4 := SX.out.2.2.1
            have a5 := SY.out.2.1
            have a6 := SY.out.2.2.1
            have a7 := R1.out.2
            have a8 := HLT.out
            have a9 := F3.out.size
            have b8 := SY.out.2.2.2.size
            simp only [World.drew] at a7
            refine ⟨⟨?_, ?_⟩, ⟨?_, ?_, ?_, ?_⟩, ⟨?_, ?_⟩, ⟨?_, ?_⟩, ?_, ?_⟩ <;> omega)
          go_wp2_with fail
          go_meet
          exact ⟨r1, r2, rfl, rfl, Lib.hid ⟨by first | exact HS.out | exact HS.out.fr0 (Fr.drew S0 _) | exact HS.out.fr0 (Fr.drewN S0 _ _), HN.out⟩⟩
      case rest =>
        obtain ⟨r1, r2, rfl, rfl, hcut2⟩ := hcut
        have HS := Lib.hid hcut2.out.1
        have HN := Lib.hid hcut2.out.2
        clear hcut2 HX HY SX SY HC k0 k1 k2 m0 m1 m2 HW HLT
        by_cases hL : l = l2
        · subst hL
          by_cases hH : h = h2
          · subst hH
            by_cases hD : D = D2
            · subst hD
              by_cases hG : gr = gr2
              · subst hG
                have TAKE := Lib.hid (fun W (s : MkS b1 b2 l h D l h D gr gr W2 gx hx gy hy r1 W) => by have h1 := s.take HN.out; rw [takeE_new, if_pos ⟨⟨rfl, rfl, rfl⟩, rfl⟩] at h1; exact h1)
                go_upto_region 24 with fail
                refine wp_region_held_drew (S := MkS b1 b2 l h D l h D gr gr W2 gx hx gy hy r1) (by as_aux_lemma => kernel_rfl) (by first | exact HS.out.fr0 (Fr.drew S0 _) | exact HS.out.fr0 ((Fr.drew S0 _).trans0 (Fr.drew S0 _)) | exact HS.out.fr0 ((Fr.drewN S0 _ _).trans0 (Fr.drew S0 _))) (fun hHeld => ?_)
                refine held_of_any _ _ _ _ hHeld ?_
                clear hHeld
                refine anyS_take (i := 0) (oi := Oper.mk (some 77) _ _ _ _ _) (v := ?_) rfl (by as_aux_lemma => kernel_rfl) (by as_aux_lemma => kernel_rfl) (by as_aux_lemma => kernel_rfl) (fun _ _ _ h => h) (Or.inl ⟨by rfl, ?_⟩) ?_
                rotate_left
                · (intro w hSw; obtain ⟨⟨k0, k1, k2, m0, m1, m2⟩, -⟩ := hSw; go_simp <;> with_reducible rfl)
                simp only [Act.put, List.setIfInBounds_toArray, List.set_cons_zero, List.set_cons_succ]
                refine anyS_take (i := 1) (oi := Oper.mk (some 78) _ _ _ _ _) (v := ?_) rfl (by as_aux_lemma => kernel_rfl) (by as_aux_lemma => kernel_rfl) (by as_aux_lemma => kernel_rfl) (fun _ _ _ h => h) (Or.inl ⟨by rfl, ?_⟩) ?_
                rotate_left
                · (intro w hSw; obtain ⟨⟨k0, k1, k2, m0, m1, m2⟩, -⟩ := hSw; go_simp <;> with_reducible rfl)
                simp only [Act.put, List.setIfInBounds_toArray, List.set_cons_zero, List.set_cons_succ]
                refine anyS_call 7 #[.pointer (some ⟨gx, 0, none⟩), .pointer (some ⟨r1, 0, none⟩)] (i := 2) (oi := Oper.mk (some 79) _ _ _ _ _) (v := .bool true) rfl (by as_aux_lemma => kernel_rfl) (by as_aux_lemma => kernel_rfl) (by as_aux_lemma => kernel_rfl) (fun _ _ _ h => h) (by rfl) (fun w => ?_) (fun w hSw => ?_) ?_
                · first | rfl | (go_simp; done) | (go_simp; rfl)
                · exact hSw.same
                simp only [Act.put, List.setIfInBounds_toArray, List.set_cons_zero, List.set_cons_succ]
                refine anyS_take (i := 3) (oi := Oper.mk (some 80) _ _ _ _ _) (v := ?_) rfl (by as_aux_lemma => kernel_rfl) (by as_aux_lemma => kernel_rfl) (by as_aux_lemma => kernel_rfl) (fun _ _ _ h => h) (Or.inl ⟨by rfl, ?_⟩) ?_
                rotate_left
                · (intro w hSw; obtain ⟨⟨k0, k1, k2, m0, m1, m2⟩, -⟩ := hSw; go_simp <;> with_reducible rfl)
                simp only [Act.put, List.setIfInBounds_toArray, List.set_cons_zero, List.set_cons_succ]
                refine anyS_take (i := 4) (oi := Oper.mk (some 81) _ _ _ _ _) (v := ?_) rfl (by as_aux_lemma => kernel_rfl) (by as_aux_lemma => kernel_rfl) (by as_aux_lemma => kernel_rfl) (fun _ _ _ h => h) (Or.inl ⟨by rfl, ?_⟩) ?_
                rotate_left
                · (intro w hSw; obtain ⟨⟨k0, k1, k2, m0, m1, m2⟩, -⟩ := hSw; go_simp <;> with_reducible rfl)
                simp only [Act.put, List.setIfInBounds_toArray, List.set_cons_zero, List.set_cons_succ]
                refine anyS_take (i := 5) (oi := Oper.mk (some 82) _ _ _ _ _) (v := ?_) rfl (by as_aux_lemma => kernel_rfl) (by as_aux_lemma => kernel_rfl) (by as_aux_lemma => kernel_rfl) (fun _ _ _ h => h) (Or.inl ⟨by rfl, ?_⟩) ?_
                rotate_left
                · (intro w hSw; obtain ⟨⟨k0, k1, k2, m0, m1, m2⟩, -⟩ := hSw; go_simp <;> with_reducible rfl)
                simp only [Act.put, List.setIfInBounds_toArray, List.set_cons_zero, List.set_cons_succ]
                refine anyS_call 8 #[.pointer (some ⟨gx, 0, none⟩), .pointer (some ⟨gy, 0, none⟩)] (i := 6) (oi := Oper.mk (some 83) _ _ _ _ _) (v := .int .i64 0) rfl (by as_aux_lemma => kernel_rfl) (by as_aux_lemma => kernel_rfl) (by as_aux_lemma => kernel_rfl) (fun _ _ _ h => h) (by rfl) (fun w => ?_) (fun w hSw => ?_) ?_
                · first | rfl | (go_simp; done) | (go_simp; rfl)
                · exact TAKE.out w hSw
                simp only [Act.put, List.setIfInBounds_toArray, List.set_cons_zero, List.set_cons_succ]
                refine anyS_take (i := 7) (oi := Oper.mk (some 84) _ _ _ _ _) (v := ?_) rfl (by as_aux_lemma => kernel_rfl) (by as_aux_lemma => kernel_rfl) (by as_aux_lemma => kernel_rfl) (fun _ _ _ h => h) (Or.inl ⟨by rfl, ?_⟩) ?_
                rotate_left
                · (intro w hSw; obtain ⟨⟨k0, k1, k2, m0, m1, m2⟩, -⟩ := hSw; go_simp <;> with_reducible rfl)
                simp only [Act.put, List.setIfInBounds_toArray, List.set_cons_zero, List.set_cons_succ]
                refine anyS_take (i := 8) (oi := Oper.mk (some 85) _ _ _ _ _) (v := ?_) rfl (by as_aux_lemma => kernel_rfl) (by as_aux_lemma => kernel_rfl) (by as_aux_lemma => kernel_rfl) (fun _ _ _ h => h) (Or.inl ⟨by rfl, ?_⟩) ?_
                rotate_left
                · (intro w hSw; obtain ⟨⟨k0, k1, k2, m0, m1, m2⟩, -⟩ := hSw; go_simp <;> with_reducible rfl)
                simp only [Act.put, List.setIfInBounds_toArray, List.set_cons_zero, List.set_cons_succ]
                refine anyS_take (i := 9) (oi := Oper.mk (some 86) _ _ _ _ _) (v := ?_) rfl (by as_aux_lemma => kernel_rfl) (by as_aux_lemma => kernel_rfl) (by as_aux_lemma => kernel_rfl) (fun _ _ _ h => h) (Or.inl ⟨by rfl, ?_⟩) ?_
                rotate_left
                · (intro w hSw; obtain ⟨⟨k0, k1, k2, m0, m1, m2⟩, -⟩ := hSw; go_simp <;> with_reducible rfl)
                simp only [Act.put, List.setIfInBounds_toArray, List.set_cons_zero, List.set_cons_succ]
                refine anyS_take (i := 10) (oi := Oper.mk (some 87) _ _ _ _ _) (v := ?_) rfl (by as_aux_lemma => kernel_rfl) (by as_aux_lemma => kernel_rfl) (by as_aux_lemma => kernel_rfl) (fun _ _ _ h => h) (Or.inl ⟨by rfl, ?_⟩) ?_
                rotate_left
                · (intro w hSw; obtain ⟨⟨k0, k1, k2, m0, m1, m2⟩, -⟩ := hSw; go_simp <;> with_reducible rfl)
                simp only [Act.put, List.setIfInBounds_toArray, List.set_cons_zero, List.set_cons_succ]
                refine anyS_take (i := 11) (oi := Oper.mk (some 88) _ _ _ _ _) (v := ?_) rfl (by as_aux_lemma => kernel_rfl) (by as_aux_lemma => kernel_rfl) (by as_aux_lemma => kernel_rfl) (fun _ _ _ h => h) (Or.inl ⟨by rfl, ?_⟩) ?_
                rotate_left
                · (intro w hSw; obtain ⟨⟨k0, k1, k2, m0, m1, m2⟩, -⟩ := hSw; go_simp <;> with_reducible rfl)
                simp only [Act.put, List.setIfInBounds_toArray, List.set_cons_zero, List.set_cons_succ]
                refine anyS_take (i := 12) (oi := Oper.mk (some 89) _ _ _ _ _) (v := ?_) rfl (by as_aux_lemma => kernel_rfl) (by as_aux_lemma => kernel_rfl) (by as_aux_lemma => kernel_rfl) (fun _ _ _ h => h) (Or.inl ⟨by rfl, ?_⟩) ?_
                rotate_left
                · (intro w hSw; obtain ⟨⟨k0, k1, k2, m0, m1, m2⟩, -⟩ := hSw; go_simp <;> with_reducible rfl)
                simp only [Act.put, List.setIfInBounds_toArray, List.set_cons_zero, List.set_cons_succ]
                refine anyS_take (i := 13) (oi := Oper.mk (some 90) _ _ _ _ _) (v := ?_) rfl (by as_aux_lemma => kernel_rfl) (by as_aux_lemma => kernel_rfl) (by as_aux_lemma => kernel_rfl) (fun _ _ _ h => h) (Or.inl ⟨by rfl, ?_⟩) ?_
                rotate_left
                · (intro w hSw; obtain ⟨⟨k0, k1, k2, m0, m1, m2⟩, -⟩ := hSw; go_simp <;> with_reducible rfl)
                simp only [Act.put, List.setIfInBounds_toArray, List.set_cons_zero, List.set_cons_succ]
                refine anyS_take (i := 14) (oi := Oper.mk (some 91) _ _ _ _ _) (v := ?_) rfl (by as_aux_lemma => kernel_rfl) (by as_aux_lemma => kernel_rfl) (by as_aux_lemma => kernel_rfl) (fun _ _ _ h => h) (Or.inl ⟨by rfl, ?_⟩) ?_
                rotate_left
                · (intro w hSw; obtain ⟨⟨k0, k1, k2, m0, m1, m2⟩, -⟩ := hSw; go_simp <;> with_reducible rfl)
                simp only [Act.put, List.setIfInBounds_toArray, List.set_cons_zero, List.set_cons_succ]
                refine anyS_take (i := 15) (oi := Oper.mk (some 92) _ _ _ _ _) (v := ?_) rfl (by as_aux_lemma => kernel_rfl) (by as_aux_lemma => kernel_rfl) (by as_aux_lemma => kernel_rfl) (fun _ _ _ h => h) (Or.inl ⟨by rfl, ?_⟩) ?_
                rotate_left
                · (intro w hSw; obtain ⟨⟨k0, k1, k2, m0, m1, m2⟩, -⟩ := hSw; go_simp <;> with_reducible rfl)
                simp only [Act.put, List.setIfInBounds_toArray, List.set_cons_zero, List.set_cons_succ]
                refine anyS_take (i := 16) (oi := Oper.mk (some 93) _ _ _ _ _) (v := ?_) rfl (by as_aux_lemma => kernel_rfl) (by as_aux_lemma => kernel_rfl) (by as_aux_lemma => kernel_rfl) (fun _ _ _ h => h) (Or.inl ⟨by rfl, ?_⟩) ?_
                rotate_left
                · (intro w hSw; obtain ⟨⟨k0, k1, k2, m0, m1, m2⟩, -⟩ := hSw; go_simp <;> with_reducible rfl)
                simp only [Act.put, List.setIfInBounds_toArray, List.set_cons_zero, List.set_cons_succ]
                refine anyS_take (i := 17) (oi := Oper.mk (some 94) _ _ _ _ _) (v := ?_) rfl (by as_aux_lemma => kernel_rfl) (by as_aux_lemma => kernel_rfl) (by as_aux_lemma => kernel_rfl) (fun _ _ _ h => h) (Or.inl ⟨by rfl, ?_⟩) ?_
                rotate_left
                · (intro w hSw; obtain ⟨⟨k0, k1, k2, m0, m1, m2⟩, -⟩ := hSw; go_simp <;> with_reducible rfl)
                simp only [Act.put, List.setIfInBounds_toArray, List.set_cons_zero, List.set_cons_succ]
                refine anyS_take (i := 18) (oi := Oper.mk (some 95) _ _ _ _ _) (v := ?_) rfl (by as_aux_lemma => kernel_rfl) (by as_aux_lemma => kernel_rfl) (by as_aux_lemma => kernel_rfl) (fun _ _ _ h => h) (Or.inl ⟨by rfl, ?_⟩) ?_
                rotate_left
                · (intro w hSw; obtain ⟨⟨k0, k1, k2, m0, m1, m2⟩, -⟩ := hSw; go_simp <;> with_reducible rfl)
                simp only [Act.put, List.setIfInBounds_toArray, List.set_cons_zero, List.set_cons_succ]
                refine anyS_take (i := 19) (oi := Oper.mk (some 96) _ _ _ _ _) (v := ?_) rfl (by as_aux_lemma => kernel_rfl) (by as_aux_lemma => kernel_rfl) (by as_aux_lemma => kernel_rfl) (fun _ _ _ h => h) (Or.inl ⟨by rfl, ?_⟩) ?_
                rotate_left
                · (intro w hSw; obtain ⟨⟨k0, k1, k2, m0, m1, m2⟩, -⟩ := hSw; go_simp <;> with_reducible rfl)
                simp only [Act.put, List.setIfInBounds_toArray, List.set_cons_zero, List.set_cons_succ]
                refine anyS_take (i := 20) (oi := Oper.mk (some 97) _ _ _ _ _) (v := ?_) rfl (by as_aux_lemma => kernel_rfl) (by as_aux_lemma => kernel_rfl) (by as_aux_lemma => kernel_rfl) (fun _ _ _ h => h) (Or.inl ⟨by rfl, ?_⟩) ?_
                rotate_left
                · (intro w hSw; obtain ⟨⟨k0, k1, k2, m0, m1, m2⟩, -⟩ := hSw; go_simp <;> with_reducible rfl)
                simp only [Act.put, List.setIfInBounds_toArray, List.set_cons_zero, List.set_cons_succ]
                refine anyS_call 7 #[.pointer (some ⟨gx, 0, none⟩), .pointer (some ⟨r1, 0, none⟩)] (i := 21) (oi := Oper.mk (some 98) _ _ _ _ _) (v := .bool true) rfl (by as_aux_lemma => kernel_rfl) (by as_aux_lemma => kernel_rfl) (by as_aux_lemma => kernel_rfl) (fun _ _ _ h => h) (by rfl) (fun w => ?_) (fun w hSw => ?_) ?_
                · first | rfl | (go_simp; done) | (go_simp; rfl)
                · exact hSw.same
                simp only [Act.put, List.setIfInBounds_toArray, List.set_cons_zero, List.set_cons_succ]
                refine anyS_take (i := 22) (oi := Oper.mk (some 99) _ _ _ _ _) (v := ?_) rfl (by as_aux_lemma => kernel_rfl) (by as_aux_lemma => kernel_rfl) (by as_aux_lemma => kernel_rfl) (fun _ _ _ h => h) (Or.inl ⟨by rfl, ?_⟩) ?_
                rotate_left
                · (intro w hSw; obtain ⟨⟨k0, k1, k2, m0, m1, m2⟩, -⟩ := hSw; go_simp <;> with_reducible rfl)
                simp only [Act.put, List.setIfInBounds_toArray, List.set_cons_zero, List.set_cons_succ]
                refine anyS_take (i := 23) (oi := Oper.mk (some 8) _ _ _ _ _) (v := ?_) rfl (by as_aux_lemma => kernel_rfl) (by as_aux_lemma => kernel_rfl) (by as_aux_lemma => kernel_rfl) (fun _ _ _ h => h) (Or.inl ⟨by rfl, ?_⟩) ?_
                rotate_left
                · (intro w hSw; obtain ⟨⟨k0, k1, k2, m0, m1, m2⟩, -⟩ := hSw; go_simp <;> with_reducible rfl)
                simp only [Act.put, List.setIfInBounds_toArray, List.set_cons_zero, List.set_cons_succ]
                refine anyS_done (by as_aux_lemma => kernel_rfl) (fun w hSw => ?_) _
                have FZ := Lib.hid hSw.2.2
                clear hSw
                go_wp2_with fail
                go_ret
                exact ⟨rfl, HF.out.trans0 FZ.out⟩
              · have hgn : (gr == gr2) = false := by simp [hG]
                have TAKE := Lib.hid (fun W (s : MkS b1 b2 l h D l h D gr gr2 W2 gx hx gy hy r1 W) => by have h1 := s.take HN.out; rw [takeE_new, if_neg (fun h => hG h.2)] at h1; exact h1)
                go_upto_region 24 with fail
                refine wp_region_held_drew (S := MkS b1 b2 l h D l h D gr gr2 W2 gx hx gy hy r1) (by as_aux_lemma => kernel_rfl) (by first | exact HS.out.fr0 (Fr.drew S0 _) | exact HS.out.fr0 ((Fr.drew S0 _).trans0 (Fr.drew S0 _)) | exact HS.out.fr0 ((Fr.drewN S0 _ _).trans0 (Fr.drew S0 _))) (fun hHeld => ?_)
                refine held_of_any _ _ _ _ hHeld ?_
                clear hHeld
                refine anyS_take (i := 0) (oi := Oper.mk (some 77) _ _ _ _ _) (v := ?_) rfl (by as_aux_lemma => kernel_rfl) (by as_aux_lemma => kernel_rfl) (by as_aux_lemma => kernel_rfl) (fun _ _ _ h => h) (Or.inl ⟨by rfl, ?_⟩) ?_
                rotate_left
                · (intro w hSw; obtain ⟨⟨k0, k1, k2, m0, m1, m2⟩, -⟩ := hSw; go_simp <;> with_reducible rfl)
                simp only [Act.put, List.setIfInBounds_toArray, List.set_cons_zero, List.set_cons_succ]
                refine anyS_take (i := 1) (oi := Oper.mk (some 78) _ _ _ _ _) (v := ?_) rfl (by as_aux_lemma => kernel_rfl) (by as_aux_lemma => kernel_rfl) (by as_aux_lemma => kernel_rfl) (fun _ _ _ h => h) (Or.inl ⟨by rfl, ?_⟩) ?_
                rotate_left
                · (intro w hSw; obtain ⟨⟨k0, k1, k2, m0, m1, m2⟩, -⟩ := hSw; go_simp <;> with_reducible rfl)
                simp only [Act.put, List.setIfInBounds_toArray, List.set_cons_zero, List.set_cons_succ]
                refine anyS_call 7 #[.pointer (some ⟨gx, 0, none⟩), .pointer (some ⟨r1, 0, none⟩)] (i := 2) (oi := Oper.mk (some 79) _ _ _ _ _) (v := .bool true) rfl (by as_aux_lemma => kernel_rfl) (by as_aux_lemma => kernel_rfl) (by as_aux_lemma => kernel_rfl) (fun _ _ _ h => h) (by rfl) (fun w => ?_) (fun w hSw => ?_) ?_
                · first | rfl | (go_simp; done) | (go_simp; rfl)
                · exact hSw.same
                simp only [Act.put, List.setIfInBounds_toArray, List.set_cons_zero, List.set_cons_succ]
                refine anyS_take (i := 3) (oi := Oper.mk (some 80) _ _ _ _ _) (v := ?_) rfl (by as_aux_lemma => kernel_rfl) (by as_aux_lemma => kernel_rfl) (by as_aux_lemma => kernel_rfl) (fun _ _ _ h => h) (Or.inl ⟨by rfl, ?_⟩) ?_
                rotate_left
                · (intro w hSw; obtain ⟨⟨k0, k1, k2, m0, m1, m2⟩, -⟩ := hSw; go_simp <;> with_reducible rfl)
                simp only [Act.put, List.setIfInBounds_toArray, List.set_cons_zero, List.set_cons_succ]
                refine anyS_take (i := 4) (oi := Oper.mk (some 81) _ _ _ _ _) (v := ?_) rfl (by as_aux_lemma => kernel_rfl) (by as_aux_lemma => kernel_rfl) (by as_aux_lemma => kernel_rfl) (fun _ _ _ h => h) (Or.inl ⟨by rfl, ?_⟩) ?_
                rotate_left
                · (intro w hSw; obtain ⟨⟨k0, k1, k2, m0, m1, m2⟩, -⟩ := hSw; go_simp <;> with_reducible rfl)
                simp only [Act.put, List.setIfInBounds_toArray, List.set_cons_zero, List.set_cons_succ]
                refine anyS_take (i := 5) (oi := Oper.mk (some 82) _ _ _ _ _) (v := ?_) rfl (by as_aux_lemma => kernel_rfl) (by as_aux_lemma => kernel_rfl) (by as_aux_lemma => kernel_rfl) (fun _ _ _ h => h) (Or.inl ⟨by rfl, ?_⟩) ?_
                rotate_left
                · (intro w hSw; obtain ⟨⟨k0, k1, k2, m0, m1, m2⟩, -⟩ := hSw; go_simp <;> with_reducible rfl)
                simp only [Act.put, List.setIfInBounds_toArray, List.set_cons_zero, List.set_cons_succ]
                refine anyS_call 8 #[.pointer (some ⟨gx, 0, none⟩), .pointer (some ⟨gy, 0, none⟩)] (i := 6) (oi := Oper.mk (some 83) _ _ _ _ _) (v := .int .i64 3) rfl (by as_aux_lemma => kernel_rfl) (by as_aux_lemma => kernel_rfl) (by as_aux_lemma => kernel_rfl) (fun _ _ _ h => h) (by rfl) (fun w => ?_) (fun w hSw => ?_) ?_
                · first | rfl | (go_simp; done) | (go_simp; rfl)
                · exact TAKE.out w hSw
                simp only [Act.put, List.setIfInBounds_toArray, List.set_cons_zero, List.set_cons_succ]
                refine anyS_take (i := 7) (oi := Oper.mk (some 84) _ _ _ _ _) (v := ?_) rfl (by as_aux_lemma => kernel_rfl) (by as_aux_lemma => kernel_rfl) (by as_aux_lemma => kernel_rfl) (fun _ _ _ h => h) (Or.inl ⟨by rfl, ?_⟩) ?_
                rotate_left
                · (intro w hSw; obtain ⟨⟨k0, k1, k2, m0, m1, m2⟩, -⟩ := hSw; go_simp <;> with_reducible rfl)
                simp only [Act.put, List.setIfInBounds_toArray, List.set_cons_zero, List.set_cons_succ]
                refine anyS_take (i := 8) (oi := Oper.mk (some 85) _ _ _ _ _) (v := ?_) rfl (by as_aux_lemma => kernel_rfl) (by as_aux_lemma => kernel_rfl) (by as_aux_lemma => kernel_rfl) (fun _ _ _ h => h) (Or.inl ⟨by rfl, ?_⟩) ?_
                rotate_left
                · (intro w hSw; obtain ⟨⟨k0, k1, k2, m0, m1, m2⟩, -⟩ := hSw; go_simp <;> with_reducible rfl)
                simp only [Act.put, List.setIfInBounds_toArray, List.set_cons_zero, List.set_cons_succ]
                refine anyS_take (i := 9) (oi := Oper.mk (some 86) _ _ _ _ _) (v := ?_) rfl (by as_aux_lemma => kernel_rfl) (by as_aux_lemma => kernel_rfl) (by as_aux_lemma => kernel_rfl) (fun _ _ _ h => h) (Or.inl ⟨by rfl, ?_⟩) ?_
                rotate_left
                · (intro w hSw; obtain ⟨⟨k0, k1, k2, m0, m1, m2⟩, -⟩ := hSw; go_simp <;> with_reducible rfl)
                simp only [Act.put, List.setIfInBounds_toArray, List.set_cons_zero, List.set_cons_succ]
                refine anyS_take (i := 10) (oi := Oper.mk (some 87) _ _ _ _ _) (v := ?_) rfl (by as_aux_lemma => kernel_rfl) (by as_aux_lemma => kernel_rfl) (by as_aux_lemma => kernel_rfl) (fun _ _ _ h => h) (Or.inl ⟨by rfl, ?_⟩) ?_
                rotate_left
                · (intro w hSw; obtain ⟨⟨k0, k1, k2, m0, m1, m2⟩, -⟩ := hSw; go_simp <;> with_reducible rfl)
                simp only [Act.put, List.setIfInBounds_toArray, List.set_cons_zero, List.set_cons_succ]
                refine anyS_take (i := 11) (oi := Oper.mk (some 88) _ _ _ _ _) (v := ?_) rfl (by as_aux_lemma => kernel_rfl) (by as_aux_lemma => kernel_rfl) (by as_aux_lemma => kernel_rfl) (fun _ _ _ h => h) (Or.inl ⟨by rfl, ?_⟩) ?_
                rotate_left
                · (intro w hSw; obtain ⟨⟨k0, k1, k2, m0, m1, m2⟩, -⟩ := hSw; go_simp <;> with_reducible rfl)
                simp only [Act.put, List.setIfInBounds_toArray, List.set_cons_zero, List.set_cons_succ]
                refine anyS_take (i := 12) (oi := Oper.mk (some 89) _ _ _ _ _) (v := ?_) rfl (by as_aux_lemma => kernel_rfl) (by as_aux_lemma => kernel_rfl) (by as_aux_lemma => kernel_rfl) (fun _ _ _ h => h) (Or.inl ⟨by rfl, ?_⟩) ?_
                rotate_left
                · (intro w hSw; obtain ⟨⟨k0, k1, k2, m0, m1, m2⟩, -⟩ := hSw; go_simp <;> with_reducible rfl)
                simp only [Act.put, List.setIfInBounds_toArray, List.set_cons_zero, List.set_cons_succ]
                refine anyS_take (i := 13) (oi := Oper.mk (some 90) _ _ _ _ _) (v := ?_) rfl (by as_aux_lemma => kernel_rfl) (by as_aux_lemma => kernel_rfl) (by as_aux_lemma => kernel_rfl) (fun _ _ _ h => h) (Or.inl ⟨by rfl, ?_⟩) ?_
                rotate_left
                · (intro w hSw; obtain ⟨⟨k0, k1, k2, m0, m1, m2⟩, -⟩ := hSw; go_simp <;> with_reducible rfl)
                simp only [Act.put, List.setIfInBounds_toArray, List.set_cons_zero, List.set_cons_succ]
                refine anyS_take (i := 14) (oi := Oper.mk (some 91) _ _ _ _ _) (v := ?_) rfl (by as_aux_lemma => kernel_rfl) (by as_aux_lemma => kernel_rfl) (by as_aux_lemma => kernel_rfl) (fun _ _ _ h => h) (Or.inl ⟨by rfl, ?_⟩) ?_
                rotate_left
                · (intro w hSw; obtain ⟨⟨k0, k1, k2, m0, m1, m2⟩, -⟩ := hSw; go_simp <;> with_reducible rfl)
                simp only [Act.put, List.setIfInBounds_toArray, List.set_cons_zero, List.set_cons_succ]
                refine anyS_take (i := 15) (oi := Oper.mk (some 92) _ _ _ _ _) (v := ?_) rfl (by as_aux_lemma => kernel_rfl) (by as_aux_lemma => kernel_rfl) (by as_aux_lemma => kernel_rfl) (fun _ _ _ h => h) (Or.inl ⟨by rfl, ?_⟩) ?_
                rotate_left
                · (intro w hSw; obtain ⟨⟨k0, k1, k2, m0, m1, m2⟩, -⟩ := hSw; go_simp <;> with_reducible rfl)
                simp only [Act.put, List.setIfInBounds_toArray, List.set_cons_zero, List.set_cons_succ]
                refine anyS_take (i := 16) (oi := Oper.mk (some 93) _ _ _ _ _) (v := ?_) rfl (by as_aux_lemma => kernel_rfl) (by as_aux_lemma => kernel_rfl) (by as_aux_lemma => kernel_rfl) (fun _ _ _ h => h) (Or.inl ⟨by rfl, ?_⟩) ?_
                rotate_left
                · (intro w hSw; obtain ⟨⟨k0, k1, k2, m0, m1, m2⟩, -⟩ := hSw; go_simp <;> with_reducible rfl)
                simp only [Act.put, List.setIfInBounds_toArray, List.set_cons_zero, List.set_cons_succ]
                refine anyS_take (i := 17) (oi := Oper.mk (some 94) _ _ _ _ _) (v := ?_) rfl (by as_aux_lemma => kernel_rfl) (by as_aux_lemma => kernel_rfl) (by as_aux_lemma => kernel_rfl) (fun _ _ _ h => h) (Or.inl ⟨by rfl, ?_⟩) ?_
                rotate_left
                · (intro w hSw; obtain ⟨⟨k0, k1, k2, m0, m1, m2⟩, -⟩ := hSw; go_simp <;> with_reducible rfl)
                simp only [Act.put, List.setIfInBounds_toArray, List.set_cons_zero, List.set_cons_succ]
                refine anyS_take (i := 18) (oi := Oper.mk (some 95) _ _ _ _ _) (v := ?_) rfl (by as_aux_lemma => kernel_rfl) (by as_aux_lemma => kernel_rfl) (by as_aux_lemma => kernel_rfl) (fun _ _ _ h => h) (Or.inl ⟨by rfl, ?_⟩) ?_
                rotate_left
                · (intro w hSw; obtain ⟨⟨k0, k1, k2, m0, m1, m2⟩, -⟩ := hSw; go_simp <;> with_reducible rfl)
                simp only [Act.put, List.setIfInBounds_toArray, List.set_cons_zero, List.set_cons_succ]
                refine anyS_take (i := 19) (oi := Oper.mk (some 96) _ _ _ _ _) (v := ?_) rfl (by as_aux_lemma => kernel_rfl) (by as_aux_lemma => kernel_rfl) (by as_aux_lemma => kernel_rfl) (fun _ _ _ h => h) (Or.inl ⟨by rfl, ?_⟩) ?_
                rotate_left
                · (intro w hSw; obtain ⟨⟨k0, k1, k2, m0, m1, m2⟩, -⟩ := hSw; go_simp <;> with_reducible rfl)
                simp only [Act.put, List.setIfInBounds_toArray, List.set_cons_zero, List.set_cons_succ]
                refine anyS_take (i := 20) (oi := Oper.mk (some 97) _ _ _ _ _) (v := ?_) rfl (by as_aux_lemma => kernel_rfl) (by as_aux_lemma => kernel_rfl) (by as_aux_lemma => kernel_rfl) (fun _ _ _ h => h) (Or.inl ⟨by rfl, ?_⟩) ?_
                rotate_left
                · (intro w hSw; obtain ⟨⟨k0, k1, k2, m0, m1, m2⟩, -⟩ := hSw; go_simp <;> with_reducible rfl)
                simp only [Act.put, List.setIfInBounds_toArray, List.set_cons_zero, List.set_cons_succ]
                refine anyS_call 7 #[.pointer (some ⟨gx, 0, none⟩), .pointer (some ⟨r1, 0, none⟩)] (i := 21) (oi := Oper.mk (some 98) _ _ _ _ _) (v := .bool true) rfl (by as_aux_lemma => kernel_rfl) (by as_aux_lemma => kernel_rfl) (by as_aux_lemma => kernel_rfl) (fun _ _ _ h => h) (by rfl) (fun w => ?_) (fun w hSw => ?_) ?_
                · first | rfl | (go_simp; done) | (go_simp; rfl)
                · exact hSw.same
                simp only [Act.put, List.setIfInBounds_toArray, List.set_cons_zero, List.set_cons_succ]
                refine anyS_take (i := 22) (oi := Oper.mk (some 99) _ _ _ _ _) (v := ?_) rfl (by as_aux_lemma => kernel_rfl) (by as_aux_lemma => kernel_rfl) (by as_aux_lemma => kernel_rfl) (fun _ _ _ h => h) (Or.inl ⟨by rfl, ?_⟩) ?_
                rotate_left
                · (intro w hSw; obtain ⟨⟨k0, k1, k2, m0, m1, m2⟩, -⟩ := hSw; go_simp <;> with_reducible rfl)
                simp only [Act.put, List.setIfInBounds_toArray, List.set_cons_zero, List.set_cons_succ]
                refine anyS_take (i := 23) (oi := Oper.mk (some 8) _ _ _ _ _) (v := ?_) rfl (by as_aux_lemma => kernel_rfl) (by as_aux_lemma => kernel_rfl) (by as_aux_lemma => kernel_rfl) (fun _ _ _ h => h) (Or.inl ⟨by rfl, ?_⟩) ?_
                rotate_left
                · (intro w hSw; obtain ⟨⟨k0, k1, k2, m0, m1, m2⟩, -⟩ := hSw; go_simp <;> with_reducible rfl)
                simp only [Act.put, List.setIfInBounds_toArray, List.set_cons_zero, List.set_cons_succ]
                refine anyS_done (by as_aux_lemma => kernel_rfl) (fun w hSw => ?_) _
                have FZ := Lib.hid hSw.2.2
                clear hSw
                go_wp2_with fail
                go_ret
                exact ⟨rfl, HF.out.trans0 FZ.out⟩
            · have hne : ((D : Int) == (D2 : Int)) = false := by rw [beq_eq_false_iff_ne]; omega
              have TAKE := Lib.hid (fun W (s : MkS b1 b2 l h D l h D2 gr gr2 W2 gx hx gy hy r1 W) => by have h1 := s.take HN.out; rw [takeE_new, if_neg (fun h => hD h.1.2.2)] at h1; exact h1)
              go_upto_region 24 with fail
              refine wp_region_held_drew (S := MkS b1 b2 l h D l h D2 gr gr2 W2 gx hx gy hy r1) (by as_aux_lemma => kernel_rfl) (by first | exact HS.out.fr0 (Fr.drew S0 _) | exact HS.out.fr0 ((Fr.drew S0 _).trans0 (Fr.drew S0 _)) | exact HS.out.fr0 ((Fr.drewN S0 _ _).trans0 (Fr.drew S0 _))) (fun hHeld => ?_)
              refine held_of_any _ _ _ _ hHeld ?_
              clear hHeld
              refine anyS_take (i := 0) (oi := Oper.mk (some 77) _ _ _ _ _) (v := ?_) rfl (by as_aux_lemma => kernel_rfl) (by as_aux_lemma => kernel_rfl) (by as_aux_lemma => kernel_rfl) (fun _ _ _ h => h) (Or.inl ⟨by rfl, ?_⟩) ?_
              rotate_left
              · (intro w hSw; obtain ⟨⟨k0, k1, k2, m0, m1, m2⟩, -⟩ := hSw; go_simp <;> with_reducible rfl)
              simp only [Act.put, List.setIfInBounds_toArray, List.set_cons_zero, List.set_cons_succ]
              refine anyS_take (i := 1) (oi := Oper.mk (some 78) _ _ _ _ _) (v := ?_) rfl (by as_aux_lemma => kernel_rfl) (by as_aux_lemma => kernel_rfl) (by as_aux_lemma => kernel_rfl) (fun _ _ _ h => h) (Or.inl ⟨by rfl, ?_⟩) ?_
              rotate_left
              · (intro w hSw; obtain ⟨⟨k0, k1, k2, m0, m1, m2⟩, -⟩ := hSw; go_simp <;> with_reducible rfl)
              simp only [Act.put, List.setIfInBounds_toArray, List.set_cons_zero, List.set_cons_succ]
              refine anyS_call 7 #[.pointer (some ⟨gx, 0, none⟩), .pointer (some ⟨r1, 0, none⟩)] (i := 2) (oi := Oper.mk (some 79) _ _ _ _ _) (v := .bool true) rfl (by as_aux_lemma => kernel_rfl) (by as_aux_lemma => kernel_rfl) (by as_aux_lemma => kernel_rfl) (fun _ _ _ h => h) (by rfl) (fun w => ?_) (fun w hSw => ?_) ?_
              · first | rfl | (go_simp; done) | (go_simp; rfl)
              · exact hSw.same
              simp only [Act.put, List.setIfInBounds_toArray, List.set_cons_zero, List.set_cons_succ]
              refine anyS_take (i := 3) (oi := Oper.mk (some 80) _ _ _ _ _) (v := ?_) rfl (by as_aux_lemma => kernel_rfl) (by as_aux_lemma => kernel_rfl) (by as_aux_lemma => kernel_rfl) (fun _ _ _ h => h) (Or.inl ⟨by rfl, ?_⟩) ?_
              rotate_left
              · (intro w hSw; obtain ⟨⟨k0, k1, k2, m0, m1, m2⟩, -⟩ := hSw; go_simp <;> with_reducible rfl)
              simp only [Act.put, List.setIfInBounds_toArray, List.set_cons_zero, List.set_cons_succ]
              refine anyS_take (i := 4) (oi := Oper.mk (some 81) _ _ _ _ _) (v := ?_) rfl (by as_aux_lemma => kernel_rfl) (by as_aux_lemma => kernel_rfl) (by as_aux_lemma => kernel_rfl) (fun _ _ _ h => h) (Or.inl ⟨by rfl, ?_⟩) ?_
              rotate_left
              · (intro w hSw; obtain ⟨⟨k0, k1, k2, m0, m1, m2⟩, -⟩ := hSw; go_simp <;> with_reducible rfl)
              simp only [Act.put, List.setIfInBounds_toArray, List.set_cons_zero, List.set_cons_succ]
              refine anyS_take (i := 5) (oi := Oper.mk (some 82) _ _ _ _ _) (v := ?_) rfl (by as_aux_lemma => kernel_rfl) (by as_aux_lemma => kernel_rfl) (by as_aux_lemma => kernel_rfl) (fun _ _ _ h => h) (Or.inl ⟨by rfl, ?_⟩) ?_
              rotate_left
              · (intro w hSw; obtain ⟨⟨k0, k1, k2, m0, m1, m2⟩, -⟩ := hSw; go_simp <;> with_reducible rfl)
              simp only [Act.put, List.setIfInBounds_toArray, List.set_cons_zero, List.set_cons_succ]
              refine anyS_call 8 #[.pointer (some ⟨gx, 0, none⟩), .pointer (some ⟨gy, 0, none⟩)] (i := 6) (oi := Oper.mk (some 83) _ _ _ _ _) (v := .int .i64 3) rfl (by as_aux_lemma => kernel_rfl) (by as_aux_lemma => kernel_rfl) (by as_aux_lemma => kernel_rfl) (fun _ _ _ h => h) (by rfl) (fun w => ?_) (fun w hSw => ?_) ?_
              · first | rfl | (go_simp; done) | (go_simp; rfl)
              · exact TAKE.out w hSw
              simp only [Act.put, List.setIfInBounds_toArray, List.set_cons_zero, List.set_cons_succ]
              refine anyS_take (i := 7) (oi := Oper.mk (some 84) _ _ _ _ _) (v := ?_) rfl (by as_aux_lemma => kernel_rfl) (by as_aux_lemma => kernel_rfl) (by as_aux_lemma => kernel_rfl) (fun _ _ _ h => h) (Or.inl ⟨by rfl, ?_⟩) ?_
              rotate_left
              · (intro w hSw; obtain ⟨⟨k0, k1, k2, m0, m1, m2⟩, -⟩ := hSw; go_simp <;> with_reducible rfl)
              simp only [Act.put, List.setIfInBounds_toArray, List.set_cons_zero, List.set_cons_succ]
              refine anyS_take (i := 8) (oi := Oper.mk (some 85) _ _ _ _ _) (v := ?_) rfl (by as_aux_lemma => kernel_rfl) (by as_aux_lemma => kernel_rfl) (by as_aux_lemma => kernel_rfl) (fun _ _ _ h => h) (Or.inl ⟨by rfl, ?_⟩) ?_
              rotate_left
              · (intro w hSw; obtain ⟨⟨k0, k1, k2, m0, m1, m2⟩, -⟩ := hSw; go_simp <;> with_reducible rfl)
              simp only [Act.put, List.setIfInBounds_toArray, List.set_cons_zero, List.set_cons_succ]
              refine anyS_take (i := 9) (oi := Oper.mk (some 86) _ _ _ _ _) (v := ?_) rfl (by as_aux_lemma => kernel_rfl) (by as_aux_lemma => kernel_rfl) (by as_aux_lemma => kernel_rfl) (fun _ _ _ h => h) (Or.inl ⟨by rfl, ?_⟩) ?_
              rotate_left
              · (intro w hSw; obtain ⟨⟨k0, k1, k2, m0, m1, m2⟩, -⟩ := hSw; go_simp <;> with_reducible rfl)
              simp only [Act.put, List.setIfInBounds_toArray, List.set_cons_zero, List.set_cons_succ]
              refine anyS_take (i := 10) (oi := Oper.mk (some 87) _ _ _ _ _) (v := ?_) rfl (by as_aux_lemma => kernel_rfl) (by as_aux_lemma => kernel_rfl) (by as_aux_lemma => kernel_rfl) (fun _ _ _ h => h) (Or.inl ⟨by rfl, ?_⟩) ?_
              rotate_left
              · (intro w hSw; obtain ⟨⟨k0, k1, k2, m0, m1, m2⟩, -⟩ := hSw; go_simp <;> with_reducible rfl)
              simp only [Act.put, List.setIfInBounds_toArray, List.set_cons_zero, List.set_cons_succ]
              refine anyS_take (i := 11) (oi := Oper.mk (some 88) _ _ _ _ _) (v := ?_) rfl (by as_aux_lemma => kernel_rfl) (by as_aux_lemma => kernel_rfl) (by as_aux_lemma => kernel_rfl) (fun _ _ _ h => h) (Or.inl ⟨by rfl, ?_⟩) ?_
              rotate_left
              · (intro w hSw; obtain ⟨⟨k0, k1, k2, m0, m1, m2⟩, -⟩ := hSw; go_simp <;> with_reducible rfl)
              simp only [Act.put, List.setIfInBounds_toArray, List.set_cons_zero, List.set_cons_succ]
              refine anyS_take (i := 12) (oi := Oper.mk (some 89) _ _ _ _ _) (v := undef) rfl (by as_aux_lemma => kernel_rfl) (by as_aux_lemma => kernel_rfl) (by as_aux_lemma => kernel_rfl) (fun _ _ _ h => h) (Or.inr ⟨by rfl, rfl⟩) ?_
              simp only [Act.put, List.setIfInBounds_toArray, List.set_cons_zero, List.set_cons_succ]
              refine anyS_take (i := 13) (oi := Oper.mk (some 90) _ _ _ _ _) (v := undef) rfl (by as_aux_lemma => kernel_rfl) (by as_aux_lemma => kernel_rfl) (by as_aux_lemma => kernel_rfl) (fun _ _ _ h => h) (Or.inr ⟨by rfl, rfl⟩) ?_
              simp only [Act.put, List.setIfInBounds_toArray, List.set_cons_zero, List.set_cons_succ]
              refine anyS_take (i := 14) (oi := Oper.mk (some 91) _ _ _ _ _) (v := undef) rfl (by as_aux_lemma => kernel_rfl) (by as_aux_lemma => kernel_rfl) (by as_aux_lemma => kernel_rfl) (fun _ _ _ h => h) (Or.inr ⟨by rfl, rfl⟩) ?_
              simp only [Act.put, List.setIfInBounds_toArray, List.set_cons_zero, List.set_cons_succ]
              refine anyS_take (i := 15) (oi := Oper.mk (some 92) _ _ _ _ _) (v := ?_) rfl (by as_aux_lemma => kernel_rfl) (by as_aux_lemma => kernel_rfl) (by as_aux_lemma => kernel_rfl) (fun _ _ _ h => h) (Or.inl ⟨by rfl, ?_⟩) ?_
              rotate_left
              · (intro w hSw; obtain ⟨⟨k0, k1, k2, m0, m1, m2⟩, -⟩ := hSw; go_simp <;> with_reducible rfl)
              simp only [Act.put, List.setIfInBounds_toArray, List.set_cons_zero, List.set_cons_succ]
              refine anyS_take (i := 16) (oi := Oper.mk (some 93) _ _ _ _ _) (v := ?_) rfl (by as_aux_lemma => kernel_rfl) (by as_aux_lemma => kernel_rfl) (by as_aux_lemma => kernel_rfl) (fun _ _ _ h => h) (Or.inl ⟨by rfl, ?_⟩) ?_
              rotate_left
              · (intro w hSw; obtain ⟨⟨k0, k1, k2, m0, m1, m2⟩, -⟩ := hSw; go_simp <;> with_reducible rfl)
              simp only [Act.put, List.setIfInBounds_toArray, List.set_cons_zero, List.set_cons_succ]
              refine anyS_take (i := 17) (oi := Oper.mk (some 94) _ _ _ _ _) (v := ?_) rfl (by as_aux_lemma => kernel_rfl) (by as_aux_lemma => kernel_rfl) (by as_aux_lemma => kernel_rfl) (fun _ _ _ h => h) (Or.inl ⟨by rfl, ?_⟩) ?_
              rotate_left
              · (intro w hSw; obtain ⟨⟨k0, k1, k2, m0, m1, m2⟩, -⟩ := hSw; go_simp <;> with_reducible rfl)
              simp only [Act.put, List.setIfInBounds_toArray, List.set_cons_zero, List.set_cons_succ]
              refine anyS_take (i := 18) (oi := Oper.mk (some 95) _ _ _ _ _) (v := ?_) rfl (by as_aux_lemma => kernel_rfl) (by as_aux_lemma => kernel_rfl) (by as_aux_lemma => kernel_rfl) (fun _ _ _ h => h) (Or.inl ⟨by rfl, ?_⟩) ?_
              rotate_left
              · (intro w hSw; obtain ⟨⟨k0, k1, k2, m0, m1, m2⟩, -⟩ := hSw; go_simp <;> with_reducible rfl)
              simp only [Act.put, List.setIfInBounds_toArray, List.set_cons_zero, List.set_cons_succ]
              refine anyS_take (i := 19) (oi := Oper.mk (some 96) _ _ _ _ _) (v := ?_) rfl (by as_aux_lemma => kernel_rfl) (by as_aux_lemma => kernel_rfl) (by as_aux_lemma => kernel_rfl) (fun _ _ _ h => h) (Or.inl ⟨by rfl, ?_⟩) ?_
              rotate_left
              · (intro w hSw; obtain ⟨⟨k0, k1, k2, m0, m1, m2⟩, -⟩ := hSw; go_simp <;> with_reducible rfl)
              simp only [Act.put, List.setIfInBounds_toArray, List.set_cons_zero, List.set_cons_succ]
              refine anyS_take (i := 20) (oi := Oper.mk (some 97) _ _ _ _ _) (v := ?_) rfl (by as_aux_lemma => kernel_rfl) (by as_aux_lemma => kernel_rfl) (by as_aux_lemma => kernel_rfl) (fun _ _ _ h => h) (Or.inl ⟨by rfl, ?_⟩) ?_
              rotate_left
              · (intro w hSw; obtain ⟨⟨k0, k1, k2, m0, m1, m2⟩, -⟩ := hSw; go_simp <;> with_reducible rfl)
              simp only [Act.put, List.setIfInBounds_toArray, List.set_cons_zero, List.set_cons_succ]
              refine anyS_call 7 #[.pointer (some ⟨gx, 0, none⟩), .pointer (some ⟨r1, 0, none⟩)] (i := 21) (oi := Oper.mk (some 98) _ _ _ _ _) (v := .bool true) rfl (by as_aux_lemma => kernel_rfl) (by as_aux_lemma => kernel_rfl) (by as_aux_lemma => kernel_rfl) (fun _ _ _ h => h) (by rfl) (fun w => ?_) (fun w hSw => ?_) ?_
              · first | rfl | (go_simp; done) | (go_simp; rfl)
              · exact hSw.same
              simp only [Act.put, List.setIfInBounds_toArray, List.set_cons_zero, List.set_cons_succ]
              refine anyS_take (i := 22) (oi := Oper.mk (some 99) _ _ _ _ _) (v := ?_) rfl (by as_aux_lemma => kernel_rfl) (by as_aux_lemma => kernel_rfl) (by as_aux_lemma => kernel_rfl) (fun _ _ _ h => h) (Or.inl ⟨by rfl, ?_⟩) ?_
              rotate_left
              · (intro w hSw; obtain ⟨⟨k0, k1, k2, m0, m1, m2⟩, -⟩ := hSw; go_simp <;> with_reducible rfl)
              simp only [Act.put, List.setIfInBounds_toArray, List.set_cons_zero, List.set_cons_succ]
              refine anyS_take (i := 23) (oi := Oper.mk (some 8) _ _ _ _ _) (v := ?_) rfl (by as_aux_lemma => kernel_rfl) (by as_aux_lemma => kernel_rfl) (by as_aux_lemma => kernel_rfl) (fun _ _ _ h => h) (Or.inl ⟨by rfl, ?_⟩) ?_
              rotate_left
              · (intro w hSw; obtain ⟨⟨k0, k1, k2, m0, m1, m2⟩, -⟩ := hSw; go_simp <;> with_reducible rfl)
              simp only [Act.put, List.setIfInBounds_toArray, List.set_cons_zero, List.set_cons_succ]
              refine anyS_done (by as_aux_lemma => kernel_rfl) (fun w hSw => ?_) _
              have FZ := Lib.hid hSw.2.2
              clear hSw
              go_wp2_with fail
              go_ret
              exact ⟨rfl, HF.out.trans0 FZ.out⟩
          · have hne : ((h : Int) == (h2 : Int)) = false := by rw [beq_eq_false_iff_ne]; omega
            have TAKE := Lib.hid (fun W (s : MkS b1 b2 l h D l h2 D2 gr gr2 W2 gx hx gy hy r1 W) => by have h1 := s.take HN.out; rw [takeE_new, if_neg (fun h => hH h.1.2.1)] at h1; exact h1)
            go_upto_region 24 with fail
            refine wp_region_held_drew (S := MkS b1 b2 l h D l h2 D2 gr gr2 W2 gx hx gy hy r1) (by as_aux_lemma => kernel_rfl) (by first | exact HS.out.fr0 (Fr.drew S0 _) | exact HS.out.fr0 ((Fr.drew S0 _).trans0 (Fr.drew S0 _)) | exact HS.out.fr0 ((Fr.drewN S0 _ _).trans0 (Fr.drew S0 _))) (fun hHeld => ?_)
            refine held_of_any _ _ _ _ hHeld ?_
            clear hHeld
            refine anyS_take (i := 0) (oi := Oper.mk (some 77) _ _ _ _ _) (v := ?_) rfl (by as_aux_lemma => kernel_rfl) (by as_aux_lemma => kernel_rfl) (by as_aux_lemma => kernel_rfl) (fun _ _ _ h => h) (Or.inl ⟨by rfl, ?_⟩) ?_
            rotate_left
            · (intro w hSw; obtain ⟨⟨k0, k1, k2, m0, m1, m2⟩, -⟩ := hSw; go_simp <;> with_reducible rfl)
            simp only [Act.put, List.setIfInBounds_toArray, List.set_cons_zero, List.set_cons_succ]
            refine anyS_take (i := 1) (oi := Oper.mk (some 78) _ _ _ _ _) (v := ?_) rfl (by as_aux_lemma => kernel_rfl) (by as_aux_lemma => kernel_rfl) (by as_aux_lemma => kernel_rfl) (fun _ _ _ h => h) (Or.inl ⟨by rfl, ?_⟩) ?_
            rotate_left
            · (intro w hSw; obtain ⟨⟨k0, k1, k2, m0, m1, m2⟩, -⟩ := hSw; go_simp <;> with_reducible rfl)
            simp only [Act.put, List.setIfInBounds_toArray, List.set_cons_zero, List.set_cons_succ]
            refine anyS_call 7 #[.pointer (some ⟨gx, 0, none⟩), .pointer (some ⟨r1, 0, none⟩)] (i := 2) (oi := Oper.mk (some 79) _ _ _ _ _) (v := .bool true) rfl (by as_aux_lemma => kernel_rfl) (by as_aux_lemma => kernel_rfl) (by as_aux_lemma => kernel_rfl) (fun _ _ _ h => h) (by rfl) (fun w => ?_) (fun w hSw => ?_) ?_
            · first | rfl | (go_simp; done) | (go_simp; rfl)
            · exact hSw.same
            simp only [Act.put, List.setIfInBounds_toArray, List.set_cons_zero, List.set_cons_succ]
            refine anyS_take (i := 3) (oi := Oper.mk (some 80) _ _ _ _ _) (v := ?_) rfl (by as_aux_lemma => kernel_rfl) (by as_aux_lemma => kernel_rfl) (by as_aux_lemma => kernel_rfl) (fun _ _ _ h => h) (Or.inl ⟨by rfl, ?_⟩) ?_
            rotate_left
            · (intro w hSw; obtain ⟨⟨k0, k1, k2, m0, m1, m2⟩, -⟩ := hSw; go_simp <;> with_reducible rfl)
            simp only [Act.put, List.setIfInBounds_toArray, List.set_cons_zero, List.set_cons_succ]
            refine anyS_take (i := 4) (oi := Oper.mk (some 81) _ _ _ _ _) (v := ?_) rfl (by as_aux_lemma => kernel_rfl) (by as_aux_lemma => kernel_rfl) (by as_aux_lemma => kernel_rfl) (fun _ _ _ h => h) (Or.inl ⟨by rfl, ?_⟩) ?_
            rotate_left
            · (intro w hSw; obtain ⟨⟨k0, k1, k2, m0, m1, m2⟩, -⟩ := hSw; go_simp <;> with_reducible rfl)
            simp only [Act.put, List.setIfInBounds_toArray, List.set_cons_zero, List.set_cons_succ]
            refine anyS_take (i := 5) (oi := Oper.mk (some 82) _ _ _ _ _) (v := ?_) rfl (by as_aux_lemma => kernel_rfl) (by as_aux_lemma => kernel_rfl) (by as_aux_lemma => kernel_rfl) (fun _ _ _ h => h) (Or.inl ⟨by rfl, ?_⟩) ?_
            rotate_left
            · (intro w hSw; obtain ⟨⟨k0, k1, k2, m0, m1, m2⟩, -⟩ := hSw; go_simp <;> with_reducible rfl)
            simp only [Act.put, List.setIfInBounds_toArray, List.set_cons_zero, List.set_cons_succ]
            refine anyS_call 8 #[.pointer (some ⟨gx, 0, none⟩), .pointer (some ⟨gy, 0, none⟩)] (i := 6) (oi := Oper.mk (some 83) _ _ _ _ _) (v := .int .i64 3) rfl (by as_aux_lemma => kernel_rfl) (by as_aux_lemma => kernel_rfl) (by as_aux_lemma => kernel_rfl) (fun _ _ _ h => h) (by rfl) (fun w => ?_) (fun w hSw => ?_) ?_
            · first | rfl | (go_simp; done) | (go_simp; rfl)
            · exact TAKE.out w hSw
            simp only [Act.put, List.setIfInBounds_toArray, List.set_cons_zero, List.set_cons_succ]
            refine anyS_take (i := 7) (oi := Oper.mk (some 84) _ _ _ _ _) (v := ?_) rfl (by as_aux_lemma => kernel_rfl) (by as_aux_lemma => kernel_rfl) (by as_aux_lemma => kernel_rfl) (fun _ _ _ h => h) (Or.inl ⟨by rfl, ?_⟩) ?_
            rotate_left
            · (intro w hSw; obtain ⟨⟨k0, k1, k2, m0, m1, m2⟩, -⟩ := hSw; go_simp <;> with_reducible rfl)
            simp only [Act.put, List.setIfInBounds_toArray, List.set_cons_zero, List.set_cons_succ]
            refine anyS_take (i := 8) (oi := Oper.mk (some 85) _ _ _ _ _) (v := ?_) rfl (by as_aux_lemma => kernel_rfl) (by as_aux_lemma => kernel_rfl) (by as_aux_lemma => kernel_rfl) (fun _ _ _ h => h) (Or.inl ⟨by rfl, ?_⟩) ?_
            rotate_left
            · (intro w hSw; obtain ⟨⟨k0, k1, k2, m0, m1, m2⟩, -⟩ := hSw; go_simp <;> with_reducible rfl)
            simp only [Act.put, List.setIfInBounds_toArray, List.set_cons_zero, List.set_cons_succ]
            refine anyS_take (i := 9) (oi := Oper.mk (some 86) _ _ _ _ _) (v := ?_) rfl (by as_aux_lemma => kernel_rfl) (by as_aux_lemma => kernel_rfl) (by as_aux_lemma => kernel_rfl) (fun _ _ _ h => h) (Or.inl ⟨by rfl, ?_⟩) ?_
            rotate_left
            · (intro w hSw; obtain ⟨⟨k0, k1, k2, m0, m1, m2⟩, -⟩ := hSw; go_simp <;> with_reducible rfl)
            simp only [Act.put, List.setIfInBounds_toArray, List.set_cons_zero, List.set_cons_succ]
            refine anyS_take (i := 10) (oi := Oper.mk (some 87) _ _ _ _ _) (v := ?_) rfl (by as_aux_lemma => kernel_rfl) (by as_aux_lemma => kernel_rfl) (by as_aux_lemma => kernel_rfl) (fun _ _ _ h => h) (Or.inl ⟨by rfl, ?_⟩) ?_
            rotate_left
            · (intro w hSw; obtain ⟨⟨k0, k1, k2, m0, m1, m2⟩, -⟩ := hSw; go_simp <;> with_reducible rfl)
            simp only [Act.put, List.setIfInBounds_toArray, List.set_cons_zero, List.set_cons_succ]
            refine anyS_take (i := 11) (oi := Oper.mk (some 88) _ _ _ _ _) (v := ?_) rfl (by as_aux_lemma => kernel_rfl) (by as_aux_lemma => kernel_rfl) (by as_aux_lemma => kernel_rfl) (fun _ _ _ h => h) (Or.inl ⟨by rfl, ?_⟩) ?_
            rotate_left
            · (intro w hSw; obtain ⟨⟨k0, k1, k2, m0, m1, m2⟩, -⟩ := hSw; go_simp <;> with_reducible rfl)
            simp only [Act.put, List.setIfInBounds_toArray, List.set_cons_zero, List.set_cons_succ]
            refine anyS_take (i := 12) (oi := Oper.mk (some 89) _ _ _ _ _) (v := undef) rfl (by as_aux_lemma => kernel_rfl) (by as_aux_lemma => kernel_rfl) (by as_aux_lemma => kernel_rfl) (fun _ _ _ h => h) (Or.inr ⟨by rfl, rfl⟩) ?_
            simp only [Act.put, List.setIfInBounds_toArray, List.set_cons_zero, List.set_cons_succ]
            refine anyS_take (i := 13) (oi := Oper.mk (some 90) _ _ _ _ _) (v := undef) rfl (by as_aux_lemma => kernel_rfl) (by as_aux_lemma => kernel_rfl) (by as_aux_lemma => kernel_rfl) (fun _ _ _ h => h) (Or.inr ⟨by rfl, rfl⟩) ?_
            simp only [Act.put, List.setIfInBounds_toArray, List.set_cons_zero, List.set_cons_succ]
            refine anyS_take (i := 14) (oi := Oper.mk (some 91) _ _ _ _ _) (v := undef) rfl (by as_aux_lemma => kernel_rfl) (by as_aux_lemma => kernel_rfl) (by as_aux_lemma => kernel_rfl) (fun _ _ _ h => h) (Or.inr ⟨by rfl, rfl⟩) ?_
            simp only [Act.put, List.setIfInBounds_toArray, List.set_cons_zero, List.set_cons_succ]
            refine anyS_take (i := 15) (oi := Oper.mk (some 92) _ _ _ _ _) (v := ?_) rfl (by as_aux_lemma => kernel_rfl) (by as_aux_lemma => kernel_rfl) (by as_aux_lemma => kernel_rfl) (fun _ _ _ h => h) (Or.inl ⟨by rfl, ?_⟩) ?_
            rotate_left
            · (intro w hSw; obtain ⟨⟨k0, k1, k2, m0, m1, m2⟩, -⟩ := hSw; go_simp <;> with_reducible rfl)
            simp only [Act.put, List.setIfInBounds_toArray, List.set_cons_zero, List.set_cons_succ]
            refine anyS_take (i := 16) (oi := Oper.mk (some 93) _ _ _ _ _) (v := ?_) rfl (by as_aux_lemma => kernel_rfl) (by as_aux_lemma => kernel_rfl) (by as_aux_lemma => kernel_rfl) (fun _ _ _ h => h) (Or.inl ⟨by rfl, ?_⟩) ?_
            rotate_left
            · (intro w hSw; obtain ⟨⟨k0, k1, k2, m0, m1, m2⟩, -⟩ := hSw; go_simp <;> with_reducible rfl)
            simp only [Act.put, List.setIfInBounds_toArray, List.set_cons_zero, List.set_cons_succ]
            refine anyS_take (i := 17) (oi := Oper.mk (some 94) _ _ _ _ _) (v := ?_) rfl (by as_aux_lemma => kernel_rfl) (by as_aux_lemma => kernel_rfl) (by as_aux_lemma => kernel_rfl) (fun _ _ _ h => h) (Or.inl ⟨by rfl, ?_⟩) ?_
            rotate_left
            · (intro w hSw; obtain ⟨⟨k0, k1, k2, m0, m1, m2⟩, -⟩ := hSw; go_simp <;> with_reducible rfl)
            simp only [Act.put, List.setIfInBounds_toArray, List.set_cons_zero, List.set_cons_succ]
            refine anyS_take (i := 18) (oi := Oper.mk (some 95) _ _ _ _ _) (v := ?_) rfl (by as_aux_lemma => kernel_rfl) (by as_aux_lemma => kernel_rfl) (by as_aux_lemma => kernel_rfl) (fun _ _ _ h => h) (Or.inl ⟨by rfl, ?_⟩) ?_
            rotate_left
            · (intro w hSw; obtain ⟨⟨k0, k1, k2, m0, m1, m2⟩, -⟩ := hSw; go_simp <;> with_reducible rfl)
            simp only [Act.put, List.setIfInBounds_toArray, List.set_cons_zero, List.set_cons_succ]
            refine anyS_take (i := 19) (oi := Oper.mk (some 96) _ _ _ _ _) (v := ?_) rfl (by as_aux_lemma => kernel_rfl) (by as_aux_lemma => kernel_rfl) (by as_aux_lemma => kernel_rfl) (fun _ _ _ h => h) (Or.inl ⟨by rfl, ?_⟩) ?_
            rotate_left
            · (intro w hSw; obtain ⟨⟨k0, k1, k2, m0, m1, m2⟩, -⟩ := hSw; go_simp <;> with_reducible rfl)
            simp only [Act.put, List.setIfInBounds_toArray, List.set_cons_zero, List.set_cons_succ]
            refine anyS_take (i := 20) (oi := Oper.mk (some 97) _ _ _ _ _) (v := ?_) rfl (by as_aux_lemma => kernel_rfl) (by as_aux_lemma => kernel_rfl) (by as_aux_lemma => kernel_rfl) (fun _ _ _ h => h) (Or.inl ⟨by rfl, ?_⟩) ?_
            rotate_left
            · (intro w hSw; obtain ⟨⟨k0, k1, k2, m0, m1, m2⟩, -⟩ := hSw; go_simp <;> with_reducible rfl)
            simp only [Act.put, List.setIfInBounds_toArray, List.set_cons_zero, List.set_cons_succ]
            refine anyS_call 7 #[.pointer (some ⟨gx, 0, none⟩), .pointer (some ⟨r1, 0, none⟩)] (i := 21) (oi := Oper.mk (some 98) _ _ _ _ _) (v := .bool true) rfl (by as_aux_lemma => kernel_rfl) (by as_aux_lemma => kernel_rfl) (by as_aux_lemma => kernel_rfl) (fun _ _ _ h => h) (by rfl) (fun w => ?_) (fun w hSw => ?_) ?_
            · first | rfl | (go_simp; done) | (go_simp; rfl)
            · exact hSw.same
            simp only [Act.put, List.setIfInBounds_toArray, List.set_cons_zero, List.set_cons_succ]
            refine anyS_take (i := 22) (oi := Oper.mk (some 99) _ _ _ _ _) (v := ?_) rfl (by as_aux_lemma => kernel_rfl) (by as_aux_lemma => kernel_rfl) (by as_aux_lemma => kernel_rfl) (fun _ _ _ h => h) (Or.inl ⟨by rfl, ?_⟩) ?_
            rotate_left
            · (intro w hSw; obtain ⟨⟨k0, k1, k2, m0, m1, m2⟩, -⟩ := hSw; go_simp <;> with_reducible rfl)
            simp only [Act.put, List.setIfInBounds_toArray, List.set_cons_zero, List.set_cons_succ]
            refine anyS_take (i := 23) (oi := Oper.mk (some 8) _ _ _ _ _) (v := ?_) rfl (by as_aux_lemma => kernel_rfl) (by as_aux_lemma => kernel_rfl) (by as_aux_lemma => kernel_rfl) (fun _ _ _ h => h) (Or.inl ⟨by rfl, ?_⟩) ?_
            rotate_left
            · (intro w hSw; obtain ⟨⟨k0, k1, k2, m0, m1, m2⟩, -⟩ := hSw; go_simp <;> with_reducible rfl)
            simp only [Act.put, List.setIfInBounds_toArray, List.set_cons_zero, List.set_cons_succ]
            refine anyS_done (by as_aux_lemma => kernel_rfl) (fun w hSw => ?_) _
            have FZ := Lib.hid hSw.2.2
            clear hSw
            go_wp2_with fail
            go_ret
            exact ⟨rfl, HF.out.trans0 FZ.out⟩
        · have hne : ((l : Int) == (l2 : Int)) = false := by rw [beq_eq_false_iff_ne]; omega
          have TAKE := Lib.hid (fun W (s : MkS b1 b2 l h D l2 h2 D2 gr gr2 W2 gx hx gy hy r1 W) => by have h1 := s.take HN.out; rw [takeE_new, if_neg (fun h => hL h.1.1)] at h1; exact h1)
          go_upto_region 24 with fail
          refine wp_region_held_drew (S := MkS b1 b2 l h D l2 h2 D2 gr gr2 W2 gx hx gy hy r1) (by as_aux_lemma => kernel_rfl) (by first | exact HS.out.fr0 (Fr.drew S0 _) | exact HS.out.fr0 ((Fr.drew S0 _).trans0 (Fr.drew S0 _)) | exact HS.out.fr0 ((Fr.drewN S0 _ _).trans0 (Fr.drew S0 _))) (fun hHeld => ?_)
          refine held_of_any _ _ _ _ hHeld ?_
          clear hHeld
          refine anyS_take (i := 0) (oi := Oper.mk (some 77) _ _ _ _ _) (v := ?_) rfl (by as_aux_lemma => kernel_rfl) (by as_aux_lemma => kernel_rfl) (by as_aux_lemma => kernel_rfl) (fun _ _ _ h => h) (Or.inl ⟨by rfl, ?_⟩) ?_
          rotate_left
          · (intro w hSw; obtain ⟨⟨k0, k1, k2, m0, m1, m2⟩, -⟩ := hSw; go_simp <;> with_reducible rfl)
          simp only [Act.put, List.setIfInBounds_toArray, List.set_cons_zero, List.set_cons_succ]
          refine anyS_take (i := 1) (oi := Oper.mk (some 78) _ _ _ _ _) (v := ?_) rfl (by as_aux_lemma => kernel_rfl) (by as_aux_lemma => kernel_rfl) (by as_aux_lemma => kernel_rfl) (fun _ _ _ h => h) (Or.inl ⟨by rfl, ?_⟩) ?_
          rotate_left
          · (intro w hSw; obtain ⟨⟨k0, k1, k2, m0, m1, m2⟩, -⟩ := hSw; go_simp <;> with_reducible rfl)
          simp only [Act.put, List.setIfInBounds_toArray, List.set_cons_zero, List.set_cons_succ]
          refine anyS_call 7 #[.pointer (some ⟨gx, 0, none⟩), .pointer (some ⟨r1, 0, none⟩)] (i := 2) (oi := Oper.mk (some 79) _ _ _ _ _) (v := .bool true) rfl (by as_aux_lemma => kernel_rfl) (by as_aux_lemma => kernel_rfl) (by as_aux_lemma => kernel_rfl) (fun _ _ _ h => h) (by rfl) (fun w => ?_) (fun w hSw => ?_) ?_
          · first | rfl | (go_simp; done) | (go_simp; rfl)
          · exact hSw.same
          simp only [Act.put, List.setIfInBounds_toArray, List.set_cons_zero, List.set_cons_succ]
          refine anyS_take (i := 3) (oi := Oper.mk (some 80) _ _ _ _ _) (v := ?_) rfl (by as_aux_lemma => kernel_rfl) (by as_aux_lemma => kernel_rfl) (by as_aux_lemma => kernel_rfl) (fun _ _ _ h => h) (Or.inl ⟨by rfl, ?_⟩) ?_
          rotate_left
          · (intro w hSw; obtain ⟨⟨k0, k1, k2, m0, m1, m2⟩, -⟩ := hSw; go_simp <;> with_reducible rfl)
          simp only [Act.put, List.setIfInBounds_toArray, List.set_cons_zero, List.set_cons_succ]
          refine anyS_take (i := 4) (oi := Oper.mk (some 81) _ _ _ _ _) (v := ?_) rfl (by as_aux_lemma => kernel_rfl) (by as_aux_lemma => kernel_rfl) (by as_aux_lemma => kernel_rfl) (fun _ _ _ h => h) (Or.inl ⟨by rfl, ?_⟩) ?_
          rotate_left
          · (intro w hSw; obtain ⟨⟨k0, k1, k2, m0, m1, m2⟩, -⟩ := hSw; go_simp <;> with_reducible rfl)
          simp only [Act.put, List.setIfInBounds_toArray, List.set_cons_zero, List.set_cons_succ]
          refine anyS_take (i := 5) (oi := Oper.mk (some 82) _ _ _ _ _) (v := ?_) rfl (by as_aux_lemma => kernel_rfl) (by as_aux_lemma => kernel_rfl) (by as_aux_lemma => kernel_rfl) (fun _ _ _ h => h) (Or.inl ⟨by rfl, ?_⟩) ?_
          rotate_left
          · (intro w hSw; obtain ⟨⟨k0, k1, k2, m0, m1, m2⟩, -⟩ := hSw; go_simp <;> with_reducible rfl)
          simp only [Act.put, List.setIfInBounds_toArray, List.set_cons_zero, List.set_cons_succ]
          refine anyS_call 8 #[.pointer (some ⟨gx, 0, none⟩), .pointer (some ⟨gy, 0, none⟩)] (i := 6) (oi := Oper.mk (some 83) _ _ _ _ _) (v := .int .i64 3) rfl (by as_aux_lemma => kernel_rfl) (by as_aux_lemma => kernel_rfl) (by as_aux_lemma => kernel_rfl) (fun _ _ _ h => h) (by rfl) (fun w => ?_) (fun w hSw => ?_) ?_
          · first | rfl | (go_simp; done) | (go_simp; rfl)
          · exact TAKE.out w hSw
          simp only [Act.put, List.setIfInBounds_toArray, List.set_cons_zero, List.set_cons_succ]
          refine anyS_take (i := 7) (oi := Oper.mk (some 84) _ _ _ _ _) (v := ?_) rfl (by as_aux_lemma => kernel_rfl) (by as_aux_lemma => kernel_rfl) (by as_aux_lemma => kernel_rfl) (fun _ _ _ h => h) (Or.inl ⟨by rfl, ?_⟩) ?_
          rotate_left
          · (intro w hSw; obtain ⟨⟨k0, k1, k2, m0, m1, m2⟩, -⟩ := hSw; go_simp <;> with_reducible rfl)
          simp only [Act.put, List.setIfInBounds_toArray, List.set_cons_zero, List.set_cons_succ]
          refine anyS_take (i := 8) (oi := Oper.mk (some 85) _ _ _ _ _) (v := ?_) rfl (by as_aux_lemma => kernel_rfl) (by as_aux_lemma => kernel_rfl) (by as_aux_lemma => kernel_rfl) (fun _ _ _ h => h) (Or.inl ⟨by rfl, ?_⟩) ?_
          rotate_left
          · (intro w hSw; obtain ⟨⟨k0, k1, k2, m0, m1, m2⟩, -⟩ := hSw; go_simp <;> with_reducible rfl)
          simp only [Act.put, List.setIfInBounds_toArray, List.set_cons_zero, List.set_cons_succ]
          refine anyS_take (i := 9) (oi := Oper.mk (some 86) _ _ _ _ _) (v := ?_) rfl (by as_aux_lemma => kernel_rfl) (by as_aux_lemma => kernel_rfl) (by as_aux_lemma => kernel_rfl) (fun _ _ _ h => h) (Or.inl ⟨by rfl, ?_⟩) ?_
          rotate_left
          · (intro w hSw; obtain ⟨⟨k0, k1, k2, m0, m1, m2⟩, -⟩ := hSw; go_simp <;> with_reducible rfl)
          simp only [Act.put, List.setIfInBounds_toArray, List.set_cons_zero, List.set_cons_succ]
          refine anyS_take (i := 10) (oi := Oper.mk (some 87) _ _ _ _ _) (v := ?_) rfl (by as_aux_lemma => kernel_rfl) (by as_aux_lemma => kernel_rfl) (by as_aux_lemma => kernel_rfl) (fun _ _ _ h => h) (Or.inl ⟨by rfl, ?_⟩) ?_
          rotate_left
          · (intro w hSw; obtain ⟨⟨k0, k1, k2, m0, m1, m2⟩, -⟩ := hSw; go_simp <;> with_reducible rfl)
          simp only [Act.put, List.setIfInBounds_toArray, List.set_cons_zero, List.set_cons_succ]
          refine anyS_take (i := 11) (oi := Oper.mk (some 88) _ _ _ _ _) (v := ?_) rfl (by as_aux_lemma => kernel_rfl) (by as_aux_lemma => kernel_rfl) (by as_aux_lemma => kernel_rfl) (fun _ _ _ h => h) (Or.inl ⟨by rfl, ?_⟩) ?_
          rotate_left
          · (intro w hSw; obtain ⟨⟨k0, k1, k2, m0, m1, m2⟩, -⟩ := hSw; go_simp <;> with_reducible rfl)
          simp only [Act.put, List.setIfInBounds_toArray, List.set_cons_zero, List.set_cons_succ]
          refine anyS_take (i := 12) (oi := Oper.mk (some 89) _ _ _ _ _) (v := undef) rfl (by as_aux_lemma => kernel_rfl) (by as_aux_lemma => kernel_rfl) (by as_aux_lemma => kernel_rfl) (fun _ _ _ h => h) (Or.inr ⟨by rfl, rfl⟩) ?_
          simp only [Act.put, List.setIfInBounds_toArray, List.set_cons_zero, List.set_cons_succ]
          refine anyS_take (i := 13) (oi := Oper.mk (some 90) _ _ _ _ _) (v := undef) rfl (by as_aux_lemma => kernel_rfl) (by as_aux_lemma => kernel_rfl) (by as_aux_lemma => kernel_rfl) (fun _ _ _ h => h) (Or.inr ⟨by rfl, rfl⟩) ?_
          simp only [Act.put, List.setIfInBounds_toArray, List.set_cons_zero, List.set_cons_succ]
          refine anyS_take (i := 14) (oi := Oper.mk (some 91) _ _ _ _ _) (v := undef) rfl (by as_aux_lemma => kernel_rfl) (by as_aux_lemma => kernel_rfl) (by as_aux_lemma => kernel_rfl) (fun _ _ _ h => h) (Or.inr ⟨by rfl, rfl⟩) ?_
          simp only [Act.put, List.setIfInBounds_toArray, List.set_cons_zero, List.set_cons_succ]
          refine anyS_take (i := 15) (oi := Oper.mk (some 92) _ _ _ _ _) (v := ?_) rfl (by as_aux_lemma => kernel_rfl) (by as_aux_lemma => kernel_rfl) (by as_aux_lemma => kernel_rfl) (fun _ _ _ h => h) (Or.inl ⟨by rfl, ?_⟩) ?_
          rotate_left
          · (intro w hSw; obtain ⟨⟨k0, k1, k2, m0, m1, m2⟩, -⟩ := hSw; go_simp <;> with_reducible rfl)
          simp only [Act.put, List.setIfInBounds_toArray, List.set_cons_zero, List.set_cons_succ]
          refine anyS_take (i := 16) (oi := Oper.mk (some 93) _ _ _ _ _) (v := ?_) rfl (by as_aux_lemma => kernel_rfl) (by as_aux_lemma => kernel_rfl) (by as_aux_lemma => kernel_rfl) (fun _ _ _ h => h) (Or.inl ⟨by rfl, ?_⟩) ?_
          rotate_left
          · (intro w hSw; obtain ⟨⟨k0, k1, k2, m0, m1, m2⟩, -⟩ := hSw; go_simp <;> with_reducible rfl)
          simp only [Act.put, List.setIfInBounds_toArray, List.set_cons_zero, List.set_cons_succ]
          refine anyS_take (i := 17) (oi := Oper.mk (some 94) _ _ _ _ _) (v := ?_) rfl (by as_aux_lemma => kernel_rfl) (by as_aux_lemma => kernel_rfl) (by as_aux_lemma => kernel_rfl) (fun _ _ _ h => h) (Or.inl ⟨by rfl, ?_⟩) ?_
          rotate_left
          · (intro w hSw; obtain ⟨⟨k0, k1, k2, m0, m1, m2⟩, -⟩ := hSw; go_simp <;> with_reducible rfl)
          simp only [Act.put, List.setIfInBounds_toArray, List.set_cons_zero, List.set_cons_succ]
          refine anyS_take (i := 18) (oi := Oper.mk (some 95) _ _ _ _ _) (v := ?_) rfl (by as_aux_lemma => kernel_rfl) (by as_aux_lemma => kernel_rfl) (by as_aux_lemma => kernel_rfl) (fun _ _ _ h => h) (Or.inl ⟨by rfl, ?_⟩) ?_
          rotate_left
          · (intro w hSw; obtain ⟨⟨k0, k1, k2, m0, m1, m2⟩, -⟩ := hSw; go_simp <;> with_reducible rfl)
          simp only [Act.put, List.setIfInBounds_toArray, List.set_cons_zero, List.set_cons_succ]
          refine anyS_take (i := 19) (oi := Oper.mk (some 96) _ _ _ _ _) (v := ?_) rfl (by as_aux_lemma => kernel_rfl) (by as_aux_lemma => kernel_rfl) (by as_aux_lemma => kernel_rfl) (fun _ _ _ h => h) (Or.inl ⟨by rfl, ?_⟩) ?_
          rotate_left
          · (intro w hSw; obtain ⟨⟨k0, k1, k2, m0, m1, m2⟩, -⟩ := hSw; go_simp <;> with_reducible rfl)
          simp only [Act.put, List.setIfInBounds_toArray, List.set_cons_zero, List.set_cons_succ]
          refine anyS_take (i := 20) (oi := Oper.mk (some 97) _ _ _ _ _) (v := ?_) rfl (by as_aux_lemma => kernel_rfl) (by as_aux_lemma => kernel_rfl) (by as_aux_lemma => kernel_rfl) (fun _ _ _ h => h) (Or.inl ⟨by rfl, ?_⟩) ?_
          rotate_left
          · (intro w hSw; obtain ⟨⟨k0, k1, k2, m0, m1, m2⟩, -⟩ := hSw; go_simp <;> with_reducible rfl)
          simp only [Act.put, List.setIfInBounds_toArray, List.set_cons_zero, List.set_cons_succ]
          refine anyS_call 7 #[.pointer (some ⟨gx, 0, none⟩), .pointer (some ⟨r1, 0, none⟩)] (i := 21) (oi := Oper.mk (some 98) _ _ _ _ _) (v := .bool true) rfl (by as_aux_lemma => kernel_rfl) (by as_aux_lemma => kernel_rfl) (by as_aux_lemma => kernel_rfl) (fun _ _ _ h => h) (by rfl) (fun w => ?_) (fun w hSw => ?_) ?_
          · first | rfl | (go_simp; done) | (go_simp; rfl)
          · exact hSw.same
          simp only [Act.put, List.setIfInBounds_toArray, List.set_cons_zero, List.set_cons_succ]
          refine anyS_take (i := 22) (oi := Oper.mk (some 99) _ _ _ _ _) (v := ?_) rfl (by as_aux_lemma => kernel_rfl) (by as_aux_lemma => kernel_rfl) (by as_aux_lemma => kernel_rfl) (fun _ _ _ h => h) (Or.inl ⟨by rfl, ?_⟩) ?_
          rotate_left
          · (intro w hSw; obtain ⟨⟨k0, k1, k2, m0, m1, m2⟩, -⟩ := hSw; go_simp <;> with_reducible rfl)
          simp only [Act.put, List.setIfInBounds_toArray, List.set_cons_zero, List.set_cons_succ]
          refine anyS_take (i := 23) (oi := Oper.mk (some 8) _ _ _ _ _) (v := ?_) rfl (by as_aux_lemma => kernel_rfl) (by as_aux_lemma => kernel_rfl) (by as_aux_lemma => kernel_rfl) (fun _ _ _ h => h) (Or.inl ⟨by rfl, ?_⟩) ?_
          rotate_left
          · (intro w hSw; obtain ⟨⟨k0, k1, k2, m0, m1, m2⟩, -⟩ := hSw; go_simp <;> with_reducible rfl)
          simp only [Act.put, List.setIfInBounds_toArray, List.set_cons_zero, List.set_cons_succ]
          refine anyS_done (by as_aux_lemma => kernel_rfl) (fun w hSw => ?_) _
          have FZ := Lib.hid hSw.2.2
          clear hSw
          go_wp2_with fail
          go_ret
          exact ⟨rfl, HF.out.trans0 FZ.out⟩
end
end Go.Proofs.Ythfcfmnaiopogaa
