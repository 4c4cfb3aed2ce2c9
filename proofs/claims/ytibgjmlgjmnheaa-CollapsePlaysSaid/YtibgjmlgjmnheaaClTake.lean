/- Take of a store. -/
import Derived.Test.YtibgjmlgjmnheaaClAct
namespace Go.Proofs.Ytibgjmlgjmnheaa
open Go.RowKit
set_option maxRecDepth 100000 in
set_option maxHeartbeats 1000000 in
theorem ctake_nil (g : Nat) (w : World) : Calls Try.prog 13 #[.pointer (some ⟨g, 0, none⟩), .pointer none] w fun e w' => e = .returned (.int .i64 1) ∧ Fr S0 w w' := by
  have F1 := Lib.hid (Fr.alloc S0 w (.cells #[.pointer none] 25))
  go_enter Try.func13, Try.ntmps13
  go_wp2_with fail
  go_ret
  exact ⟨rfl, F1.out⟩

section
variable (g h g2 h2 m n : Nat) (a b : List Pr) (w : World)
set_option maxRecDepth 100000 in
set_option maxHeartbeats 1000000 in
theorem ctake_kind (s : Col w g h m a) (t : Col w g2 h2 n b) (hne : n ≠ m) :
    Calls Try.prog 13 #[.pointer (some ⟨g, 0, none⟩), .pointer (some ⟨g2, 0, none⟩)] w fun e w' => e = .returned (.int .i64 3) ∧ Fr S0 w w' := by
  obtain ⟨k0, s⟩ := s
  obtain ⟨j0, t⟩ := t
  have f1 := Fr.alloc S0 w (.cells #[.pointer (some ⟨g2, 0, none⟩)] 25)
  have c0 : w.cell? ⟨g, 0, none⟩ = some (.int .i64 (m : Nat)) := s.is.cb
  have d0 : w.cell? ⟨g2, 0, none⟩ = some (.int .i64 (n : Nat)) := t.is.cb
  have x0 := f1.cell c0 (fun h => h)
  have y0 := f1.cell d0 (fun h => h)
  have hn1 : ((n : Int) != (m : Int)) = true := by rw [bne_iff_ne]; omega
  have hn2 : ((n : Int) == (m : Int)) = false := by rw [beq_eq_false_iff_ne]; omega
  have F1 := Lib.hid f1
  clear s t f1 c0 d0 hne
  go_enter Try.func13, Try.ntmps13
  go_wp2_with fail
  go_quiet (fail)
  go_wp2_with fail
  go_ret
  exact ⟨rfl, F1.out.trans0 (Fr.drewN _ _ _)⟩
set_option maxRecDepth 100000 in
set_option maxHeartbeats 4000000 in
theorem ctake_any (s : Col w g h m a) (t : Col w g2 h2 m b) (hh : h < w.heap.size) :
    Calls Try.prog 13 #[.pointer (some ⟨g, 0, none⟩), .pointer (some ⟨g2, 0, none⟩)] w fun e w' => e = .returned (.int .i64 (takeE0 a b : Nat)) ∧ ∃ h', TurnC w w' g h h' m (takeL0 a b) := by
  obtain ⟨k0, s⟩ := s
  obtain ⟨j0, t⟩ := t
  have f1 := Fr.alloc S0 w (.cells #[.pointer (some ⟨g2, 0, none⟩)] 25)
  have bx := heap_alloc_new w (.cells #[.pointer (some ⟨g2, 0, none⟩)] 25)
  obtain ⟨F, hF⟩ : ∃ F, cutA a m = F := ⟨_, rfl⟩
  obtain ⟨G, hG⟩ : ∃ G, cutA b m = G := ⟨_, rfl⟩
  have c0 : w.cell? ⟨g, 0, none⟩ = some (.int .i64 (m : Nat)) := s.is.cb
  have d0 : w.cell? ⟨g2, 0, none⟩ = some (.int .i64 (m : Nat)) := t.is.cb
  have c3 : w.cell? ⟨g, 3, none⟩ = some (.int .i64 k0) := s.is.ck
  have d3 : w.cell? ⟨g2, 3, none⟩ = some (.int .i64 j0) := t.is.ck
  have c4 : w.cell? ⟨g, 4, none⟩ = some (.int .u64 (cutA a m : Nat)) := s.is.cf
  have d4 : w.cell? ⟨g2, 4, none⟩ = some (.int .u64 (cutA b m : Nat)) := t.is.cf
  rw [hF] at c4
  rw [hG] at d4
  have x0 := f1.cell c0 (fun h => h)
  have x3 := f1.cell c3 (fun h => h)
  have x4 := f1.cell c4 (fun h => h)
  have y0 := f1.cell d0 (fun h => h)
  have y3 := f1.cell d3 (fun h => h)
  have y4 := f1.cell d4 (fun h => h)
  have z0 := cell_row bx
  have hgl := s.is.lt
  have hE := takeE0_cut s.ok.srt s.ok.pos t.ok.srt t.ok.pos (by have := s.m2; omega : 1 ≤ m)
  have hgood : Good (takeL0 (cutN a m) (cutN b m)) := (s.ok.cut (by have := s.m2; omega)).takeL (t.ok.cut (by have := s.m2; omega))
  obtain ⟨W1, hW1⟩ : ∃ W1, w.alloc (.cells #[.pointer (some ⟨g2, 0, none⟩)] 25) = W1 := ⟨_, rfl⟩
  rw [hW1] at f1 bx x0 x3 x4 y0 y3 y4 z0
  have HW : Hid (∀ W, Fr S0 W1 W → ∀ bf, W1.heap.size ≤ bf → bf < W.heap.size → W.heap[bf]? = some (.cells #[.int .i64 k0, .int .u64 (F : Nat), .int .i64 j0, .int .u64 (G : Nat)] 61 (0, 0)) →
      Calls Try.prog 25 #[.pointer (some ⟨g, 0, none⟩), .func (.func 31) #[] #[.pointer (some ⟨w.heap.size, 0, none⟩)], .slice (some ⟨bf, 0, none⟩) 2 2] W fun e w' => e = .returned (.int .i64 (takeE0 a b : Nat)) ∧ ∃ h', TurnC w w' g h h' m (takeL0 a b)) := Lib.hid fun W f bf hb1 hb2 hb3 => by
    have f2 := f1.trans0 f
    have hact := take1_any g h g2 h2 w.heap.size (cutN a m) (cutN b m) W (s.is.fr0 f2) (t.is.fr0 f2) (f.cell z0 (fun h => h))
    rw [hE] at hact
    refine (within1_any 31 (takeE0 a b) g h m bf 2 (.pointer (some ⟨w.heap.size, 0, none⟩)) (cutN a m) (takeL0 (cutN a m) (cutN b m)) [(k0, F), (j0, G)] W has_ctake (s.is.fr0 f2) rfl ⟨s.m2, s.m3⟩ (pri_two hb3) rfl
      (by have := f1.size; omega) (takeE0_lt _ _) (by have := hgood.tot; have := cutA_le a m; have := cutA_le b m; have := s.ok.tot; have := t.ok.tot; simp only [ltot]; omega) (by omega) hact).mono fun e w' he => ⟨he.1, he.2.imp fun h' u => ?_⟩
    subst hF hG
    exact (col_take s.ok t.ok s.m2 s.m3 s.key t.key _ rfl u).back f2
  have HF1 := Lib.hid f1
  have hnm : ((m : Int) != (m : Int)) = false := by simp
  clear s t c0 c3 c4 d0 d3 d4 hE hgood hF hG hgl f1 bx hh
  go_enter Try.func13, Try.ntmps13
  go_wp2_with fail
  go_quiet (fail)
  have fq := Fr.drewN S0 W1 nq
  have x3 := fq.cell x3 (fun h => h)
  have x4 := fq.cell x4 (fun h => h)
  have y3 := fq.cell y3 (fun h => h)
  have y4 := fq.cell y4 (fun h => h)
  have z0 := fq.cell z0 (fun h => h)
  have hsz := fq.size
  generalize W1.drewN nq = W2 at *
  have HW2 := Lib.hid (HW.out ((W2.alloc (.cells #[.int .i64 k0, .int .u64 (F : Nat), .int .i64 j0, .int .u64 (G : Nat)] 61)).drew) (fq.trans0 ((Fr.alloc _ _ _).trans0 (Fr.drew _ _))) W2.heap.size (by omega) (by simp) (heap_alloc_new W2 _))
  clear HW fq hsz hW1
  go_wp2_with fail
  go_region_law (first
    | (go_simp; go_at_call 25; (with_reducible refine HW2.out.mono ?_); rintro _ w3 ⟨rfl, h', t⟩; have T := Lib.hid t; clear t HW2 x0 x3 x4 y0 y3 y4 z0; dsimp only))
  all_goals
    go_wp2_with fail
    go_ret
    exact ⟨rfl, h', T.out⟩
end
end Go.Proofs.Ytibgjmlgjmnheaa
