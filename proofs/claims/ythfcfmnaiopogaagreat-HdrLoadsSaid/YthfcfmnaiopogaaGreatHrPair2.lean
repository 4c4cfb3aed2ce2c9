/- Two new histograms of the code's beside two of the document's. -/
import Derived.Test.YthfcfmnaiopogaaGreatHrPair
namespace Go.Proofs.YthfcfmnaiopogaaGreat
open Go.RowKit

section
variable {Is : World → Nat → (Nat → Prop) → Hm → Prop}
open Classical in
theorem quad_new {w W : World} {gs gw xA xB rA rB : Nat} {C0 C1 D0 D1 : Nat → Prop} {M : Hm} (h0 : Is W xA C0 M) (h1 : Is W xB C1 M) (k0 : IsR W rA D0 M) (k1 : IsR W rB D1 M)
    (bs : W.heap[gs]? = some (.cells #[.pointer (some ⟨xA, 0, none⟩), .pointer (some ⟨xB, 0, none⟩)] 37 (0, 0))) (bw : W.heap[gw]? = some (.cells #[.pointer (some ⟨rA, 0, none⟩), .pointer (some ⟨rB, 0, none⟩)] 38 (0, 0)))
    (c0 : ∀ y, C0 y → w.heap.size ≤ y ∧ ¬ C1 y ∧ ¬ D0 y ∧ ¬ D1 y ∧ y ≠ gs ∧ y ≠ gw) (c1 : ∀ y, C1 y → w.heap.size ≤ y ∧ ¬ D0 y ∧ ¬ D1 y ∧ y ≠ gs ∧ y ≠ gw) (d0 : ∀ y, D0 y → w.heap.size ≤ y ∧ ¬ D1 y ∧ y ≠ gs ∧ y ≠ gw) (d1 : ∀ y, D1 y → w.heap.size ≤ y ∧ y ≠ gs ∧ y ≠ gw)
    (hs : w.heap.size ≤ gs) (hw : w.heap.size ≤ gw) (hne : gs ≠ gw) (f : Fr S0 w W) : Quad Is w W gs gw 0 1 xA xB rA rB M M M M := by
  refine ⟨fun y => if C0 y then 0 else if C1 y then 1 else if D0 y then 2 else if D1 y then 3 else if y = gs then 4 else 5, 0, 1, by decide, by decide, by decide, by decide, ⟨C0, h0, fun y hy => ⟨(c0 y hy).1, if_pos hy⟩⟩, ⟨C1, h1, fun y hy => ⟨(c1 y hy).1, ?_⟩⟩, ⟨D0, k0, fun y hy => ⟨(d0 y hy).1, ?_⟩⟩, ⟨D1, k1, fun y hy => ⟨(d1 y hy).1, ?_⟩⟩, ?_, ?_, hs, hw, ⟨_, bs, rfl, rfl⟩, ⟨_, bw, rfl, rfl⟩, f⟩
  · show ite _ _ _ = _
    rw [if_neg (fun h => (c0 y h).2.1 hy), if_pos hy]
  · show ite _ _ _ = _
    rw [if_neg (fun h => (c0 y h).2.2.1 hy), if_neg (fun h => (c1 y h).2.1 hy), if_pos hy]
  · show ite _ _ _ = _
    rw [if_neg (fun h => (c0 y h).2.2.2.1 hy), if_neg (fun h => (c1 y h).2.2.1 hy), if_neg (fun h => (d0 y h).2.1 hy), if_pos hy]
  · show ite _ _ _ = _
    rw [if_neg (fun h => (c0 _ h).2.2.2.2.1 rfl), if_neg (fun h => (c1 _ h).2.2.2.1 rfl), if_neg (fun h => (d0 _ h).2.2.1 rfl), if_neg (fun h => (d1 _ h).2.1 rfl), if_pos rfl]
  · show ite _ _ _ = _
    rw [if_neg (fun h => (c0 _ h).2.2.2.2.2 rfl), if_neg (fun h => (c1 _ h).2.2.2.2 rfl), if_neg (fun h => (d0 _ h).2.2.2 rfl), if_neg (fun h => (d1 _ h).2.2 rfl), if_neg (fun h => hne h.symm)]

/-- what the document's New leaves, as a histogram with its blocks -/
theorem isR_new {W : World} {g : Nat} {M : Hm} (s : RefIs W g none 0 0 M) : IsR W g (fun y => y = g) M := ⟨none, 0, 0, s, (fun _ h => by cases h), fun y => ⟨.inl, fun h => h.elim id fun ⟨_, h, _⟩ => by cases h⟩⟩

theorem pair_done (o : Ob Is) {w w1 w2 w3 w4 W : World} {gs gw xA xB rA rB : Nat} {C0 C1 : Nat → Prop} {N : Hm} (hA : Is w1 xA C0 N) (hA2 : ∀ y, C0 y → w.heap.size ≤ y) (f1 : Fr S0 w w1) (hB : Is w2 xB C1 N) (hB2 : ∀ y, C1 y → w1.heap.size ≤ y) (f2 : Fr S0 w1 w2)
    (kA : RefIs w3 rA none 0 0 N) (kB : RefIs w4 rB none 0 0 N) (f3 : Fr S0 w2 w3) (f4 : Fr S0 w3 w4) (f5 : Fr S0 w4 W) (ra : w2.heap.size ≤ rA) (rb : w3.heap.size ≤ rB)
    (bs : W.heap[gs]? = some (.cells #[.pointer (some ⟨xA, 0, none⟩), .pointer (some ⟨xB, 0, none⟩)] 37 (0, 0))) (bw : W.heap[gw]? = some (.cells #[.pointer (some ⟨rA, 0, none⟩), .pointer (some ⟨rB, 0, none⟩)] 38 (0, 0)))
    (hn : w2.heap.size ≤ gs ∧ gs ≠ rA ∧ gs ≠ rB ∧ w4.heap.size ≤ gw ∧ gs ≠ gw) : Quad Is w W gs gw 0 1 xA xB rA rB N N N N := by
  have s1 := f1.size
  have s2 := f2.size
  have s3 := f3.size
  have s4 := f4.size
  have la := kA.lt
  have lb := kB.lt
  have l0 := o.lt hA
  have l1 := o.lt hB
  obtain ⟨g1, g2, g3, g4, g5⟩ := hn
  have hD : ∀ y, C0 y → w.heap.size ≤ y ∧ y < w1.heap.size := fun y hy => ⟨hA2 y hy, l0 y hy⟩
  have hE : ∀ y, C1 y → w1.heap.size ≤ y ∧ y < w2.heap.size := fun y hy => ⟨hB2 y hy, l1 y hy⟩
  refine quad_new (C0 := C0) (C1 := C1) (D0 := fun y => y = rA) (D1 := fun y => y = rB) (o.fr hA (f2.trans0 (f3.trans0 (f4.trans0 f5))) (fun _ _ h => h)) (o.fr hB (f3.trans0 (f4.trans0 f5)) (fun _ _ h => h)) (isR_new (kA.fr0 (f4.trans0 f5))) (isR_new (kB.fr0 f5)) bs bw ?_ ?_ ?_ ?_ (by omega) (by omega) g5 (f1.trans0 (f2.trans0 (f3.trans0 (f4.trans0 f5))))
  · intro y hy
    have := hD y hy
    exact ⟨by omega, fun h => by have := hE y h; omega, by omega, by omega, by omega, by omega⟩
  · intro y hy
    have := hE y hy
    exact ⟨by omega, by omega, by omega, by omega, by omega⟩
  · rintro y rfl
    exact ⟨by omega, by omega, by omega, by omega⟩
  · rintro y rfl
    exact ⟨by omega, by omega, by omega⟩

set_option maxRecDepth 100000 in
set_option maxHeartbeats 2000000 in
theorem pair_any (hn : HdrNews Is) (l h D : Nat) (gr : Bool) (w : World) (h1 : 1 ≤ D) (h5 : D ≤ 5) (h0 : 0 < l) (hh : 2 * l ≤ h) (hb : h < 9223372036854775808) (hs : unt l + mag D ≤ 62) :
    Calls Tryz.prog 12 #[.agg #[.int .i64 (l : Nat), .int .i64 (h : Nat), .int .i64 (D : Nat)], .bool gr] w fun e w' => ∃ gs gw xA xB rA rB, e = .returned (.tuple #[.slice (some ⟨gs, 0, none⟩) 2 2, .slice (some ⟨gw, 0, none⟩) 2 2]) ∧ Quad Is w w' gs gw 0 1 xA xB rA rB (Hm.new l h D gr) (Hm.new l h D gr) (Hm.new l h D gr) (Hm.new l h D gr) := by
  have HN := Lib.hid (fun W => hn.yes l h D gr W h1 h5 h0 hh hb hs)
  have HR := Lib.hid (fun W => hnew_yes l h D gr W h1 h5 h0 hh hb hs)
  have HC := Lib.hid (box3 w (.int .i64 (l : Nat)) (.int .i64 (h : Nat)) (.int .i64 (D : Nat)) 30)
  have HOB := Lib.hid hn.does.reads.ob
  obtain ⟨N, eN⟩ : ∃ N, Hm.new l h D gr = N := ⟨_, rfl⟩
  rw [eN] at HN HR ⊢
  clear eN h1 h5 h0 hh hb hs hn
  go_enter Tryz.func12, Tryz.ntmps12
  go_wp2_with fail
  refine (HN.out _).mono ?_
  rintro e w1 ⟨xA, C0, rfl, hA, hA2, f1⟩
  have F1 := Lib.hid ((Fr.alloc S0 w _).trans0 f1)
  have HA := Lib.hid (And.intro hA hA2)
  have HC1 := Lib.hid (And.intro (f1.cell HC.out.1 (fun h => h)) (And.intro (f1.cell HC.out.2.1 (fun h => h)) (f1.cell HC.out.2.2 (fun h => h))))
  obtain ⟨c0, c1, c2⟩ := HC1.out
  clear f1 hA hA2 HC
  go_wp2_with fail
  refine (HN.out _).mono ?_
  rintro e w2 ⟨xB, C1, rfl, hB, hB2, f2⟩
  have F2 := Lib.hid f2
  have HB := Lib.hid (And.intro hB hB2)
  have HC2 := Lib.hid (And.intro (f2.cell HC1.out.1 (fun h => h)) (And.intro (f2.cell HC1.out.2.1 (fun h => h)) (f2.cell HC1.out.2.2 (fun h => h))))
  clear f2 hB hB2 c0 c1 c2 HC1
  obtain ⟨c0, c1, c2⟩ := HC2.out
  have x0 := fun o => (Fr.alloc S0 w2 o).cell c0 (fun h => h)
  have x1 := fun o => (Fr.alloc S0 w2 o).cell c1 (fun h => h)
  have x2 := fun o => (Fr.alloc S0 w2 o).cell c2 (fun h => h)
  have HFIRST := Lib.hid True.intro
  go_upto_region 12 with fail
  go_region_law (first
    | (go_simp; go_at_call 41; (have hm1 := HFIRST.out); clear hm1 HFIRST; (with_reducible refine (HR.out _).mono ?_); rintro _ w3 ⟨rA, rfl, hk, hk2, f3⟩; have F3 := Lib.hid f3; have HKA := Lib.hid (And.intro hk hk2); have y0 := f3.cell (by first | exact c0 | exact x0 _) (fun h => h); have y1 := f3.cell (by first | exact c1 | exact x1 _) (fun h => h); have y2 := f3.cell (by first | exact c2 | exact x2 _) (fun h => h); have z0 := fun o => (Fr.alloc S0 w3 o).cell y0 (fun h => h); have z1 := fun o => (Fr.alloc S0 w3 o).cell y1 (fun h => h); have z2 := fun o => (Fr.alloc S0 w3 o).cell y2 (fun h => h); clear hk hk2 f3)
    | (go_simp; go_at_call 41; (with_reducible refine (HR.out _).mono ?_); rintro _ w4 ⟨rB, rfl, hk, hk2, f4⟩; have F4 := Lib.hid f4; have HKB := Lib.hid (And.intro hk hk2); clear hk hk2 f4)
    | fail)
  all_goals
    go_wp2_with fail
    go_ret2
    refine ⟨_, _, _, _, _, _, rfl, pair_done HOB.out HA.out.1 (fun y hy => Nat.le_trans (by simp) (HA.out.2 y hy)) F1.out HB.out.1 HB.out.2 F2.out HKA.out.1 HKB.out.1 ?_ ?_ ?_ ?_ ?_ ?_ ?_ ?_⟩
    · first
        | exact (Fr.drew S0 w2).trans0 F3.out
        | exact ((Fr.drew S0 w2).trans0 (Fr.alloc S0 _ _)).trans0 F3.out
        | exact ((Fr.alloc S0 w2 _).trans0 (Fr.drew S0 _)).trans0 F3.out
        | fail
    · first
        | exact F4.out
        | exact (Fr.alloc S0 w3 _).trans0 F4.out
        | fail
    · first
        | exact Fr.alloc _ _ _
        | exact (Fr.alloc S0 w4 _).trans0 (Fr.alloc _ _ _)
        | fail
    · first
        | exact HKA.out.2
        | exact Nat.le_trans (by simp) HKA.out.2
        | fail
    · first
        | exact HKB.out.2
        | exact Nat.le_trans (by simp) HKB.out.2
        | fail
    · first
        | exact (Fr.alloc S0 w4 _).row (F4.out.row (F3.out.row (heap_alloc_new _ _) (fun h => h)) (fun h => h)) (fun h => h)
        | exact (Fr.alloc S0 w4 _).row (F4.out.row (heap_alloc_new w3 _) (fun h => h)) (fun h => h)
        | exact (Fr.alloc S0 _ _).row (heap_alloc_new w4 _) (fun h => h)
        | exact heap_alloc_new _ _
        | (have hq := fun X Y => heap_alloc_new (w4.alloc X) Y; simp only [size_alloc] at hq; exact hq _ _)
        | fail
    · first
        | exact heap_alloc_new _ _
        | exact (Fr.alloc S0 _ _).row (heap_alloc_new w4 _) (fun h => h)
        | (have hq := fun X Y => heap_alloc_new (w4.alloc X) Y; simp only [size_alloc] at hq; exact hq _ _)
        | fail
    · have a := F3.out.size
      have b := F4.out.size
      have c := HKA.out.2
      have d := HKB.out.2
      have e := HKA.out.1.lt
      have f := HKB.out.1.lt
      simp only [size_alloc, World.drew] at a b c d ⊢
      omega
end
end Go.Proofs.YthfcfmnaiopogaaGreat
