/- What Take does. -/
import Derived.Test.YtocdjklgfmkbfaaDnAdd
import Derived.Deep.CutBlock
import Derived.Deep.DeepCutAuto
import Derived.Deep.CutRange
namespace Go.Proofs.Ytocdjklgfmkbfaa
open Go.RowKit

theorem spn_new {w w' : World} {x y : Int} (f : Fr S0 (w.alloc (.cells #[.int .i64 x, .int .i64 y] 26)).drew w') : SpAt w' w.heap.size x y :=
  f.row ((Fr.drew S0 (w.alloc (.cells #[.int .i64 x, .int .i64 y] 26))).row (heap_alloc_new w _) (fun h => h)) (fun h => h)
section
variable (g h g2 : Nat) (l : List Pr) (w : World)
set_option maxRecDepth 100000 in
set_option maxHeartbeats 400000 in
theorem take_nil : Calls Try.prog 10 #[.pointer (some ⟨g, 0, none⟩), .pointer none] w fun e w' => e = .returned (.int .i64 1) ∧ Fr S0 w w' := by
  go_enter Try.func10, Try.ntmps10
  go_wp2_with fail
  go_ret
  exact ⟨rfl, Fr.refl _ _⟩
set_option maxRecDepth 100000 in
set_option maxHeartbeats 400000 in
theorem take_empty (hn : w.cell? ⟨g2, 4, none⟩ = some (.int .i64 0)) : Calls Try.prog 10 #[.pointer (some ⟨g, 0, none⟩), .pointer (some ⟨g2, 0, none⟩)] w fun e w' => e = .returned (.int .i64 0) ∧ Fr S0 w w' := by
  go_enter Try.func10, Try.ntmps10
  go_wp2_with fail
  go_ret
  exact ⟨rfl, Fr.refl _ _⟩
set_option maxRecDepth 100000 in
set_option maxHeartbeats 400000 in
theorem take_no (a b F : Int) (p : Option Addr) (m N T E : Nat) (r : Raw w g2 a b F p m (N : Nat) (T : Nat)) (hN : 0 < N) (hE : 0 < E)
    (ha : ∀ W, Fr S0 w W → Calls Try.prog 21 #[.pointer (some ⟨g, 0, none⟩), .agg #[.int .i64 a, .int .i64 b], .int .u64 (T : Nat)] W fun e w' => e = .returned (.tuple #[.agg #[.int .i64 0, .int .i64 0], .int .i64 (E : Nat)]) ∧ Fr S0 W w') :
    Calls Try.prog 10 #[.pointer (some ⟨g, 0, none⟩), .pointer (some ⟨g2, 0, none⟩)] w fun e w' => e = .returned (.int .i64 (E : Nat)) ∧ Fr S0 w w' := by
  have hn0 : ((N : Int) == 0) = false := by rw [beq_eq_false_iff_ne]; omega
  have hE0 : ((E : Int) != 0) = true := by rw [bne_iff_ne]; omega
  have HA := Lib.hid ha
  have HRW := Lib.hid r
  have c0 := r.c0
  have c1 := r.c1
  have c4 := r.c4
  have c5 := r.c5
  clear hN hE r ha
  go_enter Try.func10, Try.ntmps10
  go_upto_region 5 with fail
  have HK : Hid (∀ W, Fr S0 w W → Raw W g2 a b F p m (N : Nat) (T : Nat)) := Lib.hid fun W f => HRW.out.fr0 f
  have d0 := fun o => (HK.out _ (Fr.alloc S0 w o)).c0
  have d1 := fun o => (HK.out _ (Fr.alloc S0 w o)).c1
  have d5 := fun o => (HK.out _ (Fr.alloc S0 w o)).c5
  go_cut [5, 6] from 16 to 28 (fun x5 x6 wx => ∃ bk : Nat, x5 = .pointer (some ⟨bk, 0, none⟩) ∧ x6 = .int .i64 E ∧ SpAt wx bk 0 0 ∧ Fr S0 w wx)
  case first =>
    go_region_law (go_simp; go_at_call 21; refine (HA.out _ (by first | exact Fr.drew _ _ | exact (Fr.alloc S0 w _).trans0 (Fr.drew _ _))).mono ?_; rintro e w2 ⟨rfl, f2⟩; have G2 := Lib.hid f2; have G3 : Hid (Fr S0 w w2) := Lib.hid (by first | exact (Fr.drew _ _).trans0 f2 | exact ((Fr.alloc S0 w _).trans0 (Fr.drew _ _)).trans0 f2); try (have b2 := spn_new f2; obtain ⟨y0, y1, y2, y3⟩ := b2.box; have B2 := Lib.hid b2; clear b2); clear f2; dsimp only)
    all_goals
      go_wp2_with fail
      go_meet
      first
        | exact ⟨_, rfl, rfl, B2.out.set _ _, G3.out.fresh (g := w.heap.size) ((Fr.setCell (· = w.heap.size) _ _ _ rfl).trans (Fr.setCell (· = w.heap.size) _ _ _ rfl) fun _ _ h => h) (Nat.le_refl _)⟩
        | exact ⟨_, rfl, rfl, heap_alloc_new _ _, G3.out.trans0 (Fr.alloc _ _ _)⟩
  case rest =>
    obtain ⟨bk, rfl, rfl, hbk, fx⟩ := hcut
    have HF1 := Lib.hid fx
    obtain ⟨y0, y1, -, -⟩ := hbk.box
    clear hbk fx c0 c1 c4 c5 d0 d1 d5 HA
    go_wp2_with fail
    go_ret
    exact ⟨rfl, HF1.out⟩
set_option maxRecDepth 100000 in
set_option maxHeartbeats 400000 in
theorem take_yes (a b F A B : Int) (p : Option Addr) (m N T : Nat) (q : List Pr) (r : Raw w g2 a b F p m (N : Nat) (T : Nat)) (hN : 0 < N)
    (ha : ∀ W, Fr S0 w W → Calls Try.prog 21 #[.pointer (some ⟨g, 0, none⟩), .agg #[.int .i64 a, .int .i64 b], .int .u64 (T : Nat)] W fun e w' => e = .returned (.tuple #[.agg #[.int .i64 A, .int .i64 B], .int .i64 0]) ∧ Fr S0 W w')
    (hr : ∀ W, Fr S0 w W → Calls Try.prog 22 #[.pointer (some ⟨g, 0, none⟩), .agg #[.int .i64 A, .int .i64 B]] W fun e w' => e = .returned (.tuple #[]) ∧ ∃ h' F' p' m', Reached W w' g h h' A B F' p' m' l)
    (hg : ∀ W W' h' F' p' m', Fr S0 w W → Reached W W' g h h' A B F' p' m' l → Calls Try.prog 27 #[.pointer (some ⟨g2, 0, none⟩), .func (.func 23) #[.pointer (some ⟨g, 0, none⟩)] #[]] W' fun e w' => e = .returned (.tuple #[]) ∧ Sto w' g h' A B F' p' m' q ∧ Fr (fun x => x = g ∨ x = h') W' w')
    (hq : Ends q A B) :
    Calls Try.prog 10 #[.pointer (some ⟨g, 0, none⟩), .pointer (some ⟨g2, 0, none⟩)] w fun e w' => e = .returned (.int .i64 0) ∧ ∃ h', Turned w w' g h h' q := by
  have hn0 : ((N : Int) == 0) = false := by rw [beq_eq_false_iff_ne]; omega
  have HA := Lib.hid ha
  have HRW := Lib.hid r
  have HR := Lib.hid hr
  have HG := Lib.hid hg
  have HQ := Lib.hid hq
  have c0 := r.c0
  have c1 := r.c1
  have c4 := r.c4
  have c5 := r.c5
  clear hN r ha hr hg hq
  go_enter Try.func10, Try.ntmps10
  go_upto_region 5 with fail
  have HK : Hid (∀ W, Fr S0 w W → Raw W g2 a b F p m (N : Nat) (T : Nat)) := Lib.hid fun W f => HRW.out.fr0 f
  have d0 := fun o => (HK.out _ (Fr.alloc S0 w o)).c0
  have d1 := fun o => (HK.out _ (Fr.alloc S0 w o)).c1
  have d5 := fun o => (HK.out _ (Fr.alloc S0 w o)).c5
  go_cut [5, 6] from 16 to 28 (fun x5 x6 wx => ∃ bk : Nat, x5 = .pointer (some ⟨bk, 0, none⟩) ∧ x6 = .int .i64 0 ∧ SpAt wx bk A B ∧ Fr S0 w wx)
  case first =>
    go_region_law (go_simp; go_at_call 21; refine (HA.out _ (by first | exact Fr.drew _ _ | exact (Fr.alloc S0 w _).trans0 (Fr.drew _ _))).mono ?_; rintro e w2 ⟨rfl, f2⟩; have G2 := Lib.hid f2; have G3 : Hid (Fr S0 w w2) := Lib.hid (by first | exact (Fr.drew _ _).trans0 f2 | exact ((Fr.alloc S0 w _).trans0 (Fr.drew _ _)).trans0 f2); try (have b2 := spn_new f2; obtain ⟨y0, y1, y2, y3⟩ := b2.box; have B2 := Lib.hid b2; clear b2); clear f2; dsimp only)
    all_goals
      go_wp2_with fail
      go_meet
      first
        | exact ⟨_, rfl, rfl, B2.out.set _ _, G3.out.fresh (g := w.heap.size) ((Fr.setCell (· = w.heap.size) _ _ _ rfl).trans (Fr.setCell (· = w.heap.size) _ _ _ rfl) fun _ _ h => h) (Nat.le_refl _)⟩
        | exact ⟨_, rfl, rfl, heap_alloc_new _ _, G3.out.trans0 (Fr.alloc _ _ _)⟩
  case rest =>
    obtain ⟨bk, rfl, rfl, hbk, fx⟩ := hcut
    have HF1 := Lib.hid fx
    obtain ⟨y0, y1, -, -⟩ := hbk.box
    clear hbk fx c0 c1 c4 c5 d0 d1 d5 HA
    go_wp2_with fail
    refine (HR.out _ HF1.out).mono ?_
    rintro e w3 ⟨rfl, h', F', p', m', hre⟩
    have HX := Lib.hid (And.intro hre.row hre.fr)
    have HG3 := Lib.hid (HG.out _ w3 h' F' p' m' HF1.out hre)
    clear hre HR HG
    go_wp2_with fail
    refine HG3.out.mono ?_
    rintro e w4 ⟨rfl, s4, f4⟩
    have HS4 := Lib.hid (And.intro s4 f4)
    clear s4 f4 HG3
    go_wp2_with fail
    go_ret
    refine ⟨rfl, h', ⟨A, B, F', p', m', HS4.out.1, fun _ => HQ.out⟩, ?_, ?_⟩
    · have := HF1.out.size
      have := HX.out.1
      have := HS4.out.2.size
      omega
    · have hs := HF1.out.size
      refine ((HF1.out.mono (T := fun x => x = g ∨ x = h) fun _ _ h => h.elim).trans HX.out.2 fun _ _ h => .inl h).trans HS4.out.2 fun j hj hh => ?_
      rcases hh with hh | hh
      · exact .inl hh
      · rcases HX.out.1 with e | e
        · exact .inr (hh.trans e)
        · omega
end
end Go.Proofs.Ytocdjklgfmkbfaa
