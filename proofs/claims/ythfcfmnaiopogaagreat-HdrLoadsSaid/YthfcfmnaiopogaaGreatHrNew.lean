/- The landed histograms: New. -/
import Derived.Test.YthfcfmnaiopogaaGreatHrEnd
import Derived.Test.YthfcfmnaiopogaaGreatHmAll
import Derived.Test.YthfcfmnaiopogaaGreatHrDo
namespace Go.Proofs.YthfcfmnaiopogaaGreat
open Go.RowKit Go.ChangeMaps

theorem make_counts (W : World) : (Instr.makeMap 108 none).run Tryz.prog W = .ok (.map (some W.heap.size)) (W.alloc (.map #[] 0)) := by
  simp [Instr.makeMap]
theorem box3c (w : World) (a b c : Value) (t : TypeId) : (w.alloc (.cells #[a, b, c] t)).cell? ⟨w.heap.size, 1, none⟩ = some b := by rw [World.cell?, heap_alloc_new]; rfl
set_option maxRecDepth 100000 in
set_option maxHeartbeats 400000 in
theorem xnew_no (lo hi d : Int) (gr : Bool) (W : World) (h : ¬ May lo hi d) (hh : -9223372036854775808 ≤ hi ∧ hi ≤ 9223372036854775807) :
    Calls Tryz.prog 48 #[.agg #[.int .i64 lo, .int .i64 hi, .int .i64 d], .bool gr] W fun e w' => e = .returned (.tuple #[.pointer none, .int .i64 1]) ∧ Fr S0 W w' := by
  have HN := Lib.hid (fun W => new_no lo hi d W h hh)
  clear h hh
  go_enter Tryz.func48, Tryz.ntmps48
  go_wp2_with fail
  refine (HN.out _).mono ?_
  rintro e w1 ⟨rfl, f1⟩
  have F1 := Lib.hid ((Fr.alloc S0 _ _).trans0 f1)
  clear f1
  go_wp2_with fail
  go_ret2
  exact ⟨rfl, F1.out⟩
set_option maxRecDepth 100000 in
set_option maxHeartbeats 400000 in
theorem xnew_big (l h D : Nat) (gr : Bool) (W : World) (h1 : 1 ≤ D) (h5 : D ≤ 5) (h0 : 0 < l) (hh : 2 * l ≤ h) (hb : h < 9223372036854775808) (hs : 62 < unt l + mag D) :
    Calls Tryz.prog 48 #[.agg #[.int .i64 (l : Nat), .int .i64 (h : Nat), .int .i64 (D : Nat)], .bool gr] W fun e w' => e = .returned (.tuple #[.pointer none, .int .i64 1]) ∧ Fr S0 W w' := by
  have HN := Lib.hid (fun W => new_big l h D W h1 h5 h0 hh hb hs)
  clear h1 h5 h0 hh hb hs
  go_enter Tryz.func48, Tryz.ntmps48
  go_wp2_with fail
  refine (HN.out _).mono ?_
  rintro e w1 ⟨rfl, f1⟩
  have F1 := Lib.hid ((Fr.alloc S0 _ _).trans0 f1)
  clear f1
  go_wp2_with fail
  go_ret2
  exact ⟨rfl, F1.out⟩
set_option maxRecDepth 100000 in
set_option maxHeartbeats 1000000 in
theorem xnew_yes (l h D : Nat) (gr : Bool) (W : World) (h1 : 1 ≤ D) (h5 : D ≤ 5) (h0 : 0 < l) (hh : 2 * l ≤ h) (hb : h < 9223372036854775808) (hs : unt l + mag D ≤ 62) :
    Calls Tryz.prog 48 #[.agg #[.int .i64 (l : Nat), .int .i64 (h : Nat), .int .i64 (D : Nat)], .bool gr] W fun e w' => ∃ g hm, e = .returned (.tuple #[.pointer (some ⟨g, 0, none⟩), .int .i64 0]) ∧ HistIs w' g hm (Hm.new l h D gr) ∧ W.heap.size ≤ g ∧ W.heap.size ≤ hm ∧ Fr S0 W w' := by
  have HN := Lib.hid (fun W => new_yes l h D W h1 h5 h0 hh hb hs)
  have HB := Lib.hid (fun g W (m : MapIs W g (l : Nat) (h : Nat) (D : Nat) (unt l) (mag D)) => buckets_any g (l : Nat) (h : Nat) (D : Nat) (unt l) (mag D) W m (h : Nat) (by omega))
  rw [show ((h : Nat) : Int).toNat = h by omega] at HB
  have hmk := make_counts
  have HGOOD := Lib.hid (Hm.new_good l h D gr h1 h5 h0 hh hb hs)
  have HBOX := Lib.hid (box3c W (.int .i64 (l : Nat)) (.int .i64 (h : Nat)) (.int .i64 (D : Nat)) 30)
  obtain ⟨U, eU⟩ : ∃ U, unt l = U := ⟨_, rfl⟩
  obtain ⟨M, eM⟩ : ∃ M, mag D = M := ⟨_, rfl⟩
  obtain ⟨K, eK⟩ : ∃ K, 1 + bkt (U + M) h = K := ⟨_, rfl⟩
  have HE := Lib.hid (And.intro eU (And.intro eM (show 1 + bkt (unt l + mag D) h = K by rw [eU, eM, eK])))
  rw [eU, eM] at HN
  simp only [eU, eM, eK] at HB
  clear h1 h5 h0 hh hb hs
  go_enter Tryz.func48, Tryz.ntmps48
  go_wp2_with fail
  refine (HN.out _).mono ?_
  rintro e w1 ⟨gm, rfl, nm⟩
  have F1 := Lib.hid ((Fr.alloc S0 _ _).trans0 nm.fr)
  have HM1 := Lib.hid nm.map
  have b1 := nm.fr.cell HBOX.out fun h => h
  clear nm
  go_upto_region 13 with fail
  obtain ⟨-, m0, m1, m2, m3, m4, -, -, -⟩ := HM1.out
  go_region_held3 (fun w' => w'.cell? ⟨W.heap.size, 1, none⟩ = some (.int .i64 (h : Nat)) ∧ w'.cell? ⟨gm, 0, none⟩ = some (.int .i64 (l : Nat)) ∧ w'.cell? ⟨gm, 1, none⟩ = some (.int .i64 (h : Nat)) ∧ w'.cell? ⟨gm, 2, none⟩ = some (.int .i64 (D : Nat)) ∧ w'.cell? ⟨gm, 3, none⟩ = some (.int .i64 (U : Nat)) ∧ w'.cell? ⟨gm, 4, none⟩ = some (.int .i64 (M : Nat)) ∧ Fr S0 w1 w')
    (first
      | (go_split_ands; exact ⟨by assumption, by assumption, by assumption, by assumption, by assumption, by assumption, by assumption⟩)
      | exact ⟨b1, m0, m1, m2, m3, m4, Fr.drew _ _⟩
      | (go_split_ands; exact ⟨f9.cell (by assumption) (fun h => h), f9.cell (by assumption) (fun h => h), f9.cell (by assumption) (fun h => h), f9.cell (by assumption) (fun h => h), f9.cell (by assumption) (fun h => h), f9.cell (by assumption) (fun h => h), Fr.trans0 (by assumption) f9⟩)
      | (go_split_ands; exact ⟨(Fr.alloc S0 _ _).cell (by assumption) (fun h => h), (Fr.alloc S0 _ _).cell (by assumption) (fun h => h), (Fr.alloc S0 _ _).cell (by assumption) (fun h => h), (Fr.alloc S0 _ _).cell (by assumption) (fun h => h), (Fr.alloc S0 _ _).cell (by assumption) (fun h => h), (Fr.alloc S0 _ _).cell (by assumption) (fun h => h), Fr.trans0 (by assumption) (Fr.alloc S0 _ _)⟩))
    (first
      | (go_at_call 93; ((with_reducible refine (HB.out gm _ (HM1.out.fr0 (by go_split_ands; assumption))).mono ?_); rintro _ w2 ⟨rfl, f9⟩; have F9 := Lib.hid f9; have F2 := Lib.hid (show Fr S0 w1 w2 from Fr.trans0 (by go_split_ands; assumption) f9))))
  all_goals
    go_wp2_with fail
    go_ret2
    first
      | (refine ⟨w2.heap.size + 1, w2.heap.size, rfl, ⟨?_, ⟨#[], 0, ?_, MpE.empty⟩, HGOOD.out⟩, ?_, ?_, ?_⟩
         · have h1 := heap_alloc_new (w2.alloc (.map #[] 0)) (.cells #[.int .i64 (l : Nat), .int .i64 (h : Nat), .int .i64 (D : Nat), .int .i64 (U : Nat), .int .i64 (M : Nat), .bool gr, .int .i64 (K : Nat), .map (some w2.heap.size), .int .u64 0] 110)
           rw [size_alloc] at h1
           rw [h1, ← HE.out.2.2, ← HE.out.2.1, ← HE.out.1]
           rfl
         · exact (Fr.alloc S0 _ _).row (heap_alloc_new w2 _) fun h => h
         · exact Nat.le_trans (F1.out.trans0 F2.out).size (Nat.le_succ _)
         · exact (F1.out.trans0 F2.out).size
         · exact ((F1.out.trans0 F2.out).trans0 (Fr.alloc _ _ _)).trans0 (Fr.alloc _ _ _))
      | (refine ⟨w2.heap.size, w1.heap.size, rfl, ⟨?_, ⟨#[], 0, ?_, MpE.empty⟩, HGOOD.out⟩, ?_, ?_, ?_⟩
         · rw [heap_alloc_new, ← HE.out.2.2, ← HE.out.2.1, ← HE.out.1]
           rfl
         · exact (Fr.alloc S0 _ _).row (F9.out.row (heap_alloc_new w1.drew (.map #[] 0)) fun h => h) fun h => h
         · exact (F1.out.trans0 F2.out).size
         · exact F1.out.size
         · exact (F1.out.trans0 F2.out).trans0 (Fr.alloc _ _ _))
end Go.Proofs.YthfcfmnaiopogaaGreat
