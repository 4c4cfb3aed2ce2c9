/- Which window there will be, and why not. -/
import Derived.Test.YtocdjklgfmkbfaaDnReach
namespace Go.Proofs.Ytocdjklgfmkbfaa
open Go.RowKit

theorem szSp : (Try.prog.info? 26).map (·.size) = some 2 := by kernel_rfl
/-- a block with a span -/
def SpAt (w : World) (g : Nat) (a b : Int) : Prop := w.heap[g]? = some (.cells #[.int .i64 a, .int .i64 b] 26 (0, 0))
theorem SpAt.fr0 {w w' : World} {g : Nat} {a b : Int} (h : SpAt w g a b) (f : Fr S0 w w') : SpAt w' g a b := f.row h fun h => h
theorem SpAt.box {w : World} {g : Nat} {a b : Int} (h : SpAt w g a b) : Box2 w g (.int .i64 a) (.int .i64 b) := Box2.of h
theorem SpAt.set {w : World} {g : Nat} {a b : Int} (h : SpAt w g a b) (c d : Int) : SpAt ((w.setCell ⟨g, 0, none⟩ (.int .i64 c)).setCell ⟨g, 1, none⟩ (.int .i64 d)) g c d := two_set h _ _
theorem SpAt.other {w : World} {g g' : Nat} {a b c d : Int} (h : SpAt w g a b) (hg : g ≠ g') : SpAt ((w.setCell ⟨g', 0, none⟩ (.int .i64 c)).setCell ⟨g', 1, none⟩ (.int .i64 d)) g a b :=
  ((Fr.setCell (· = g') w ⟨g', 0, none⟩ (.int .i64 c) rfl).trans (Fr.setCell (· = g') _ ⟨g', 1, none⟩ (.int .i64 d) rfl) fun _ _ h => h).row h hg
theorem new3 (w : World) (a b c d x y : Int) : SpAt (((w.alloc (.cells #[.int .i64 a, .int .i64 b] 26)).alloc (.cells #[.int .i64 c, .int .i64 d] 26)).alloc (.cells #[.int .i64 x, .int .i64 y] 26)) w.heap.size a b ∧
    SpAt (((w.alloc (.cells #[.int .i64 a, .int .i64 b] 26)).alloc (.cells #[.int .i64 c, .int .i64 d] 26)).alloc (.cells #[.int .i64 x, .int .i64 y] 26)) (w.heap.size + 1) c d ∧
    SpAt (((w.alloc (.cells #[.int .i64 a, .int .i64 b] 26)).alloc (.cells #[.int .i64 c, .int .i64 d] 26)).alloc (.cells #[.int .i64 x, .int .i64 y] 26)) (w.heap.size + 1 + 1) x y := by
  have e1 := heap_alloc_new w (.cells #[.int .i64 a, .int .i64 b] 26)
  have e2 := heap_alloc_new (w.alloc (.cells #[.int .i64 a, .int .i64 b] 26)) (.cells #[.int .i64 c, .int .i64 d] 26)
  have e3 := heap_alloc_new ((w.alloc (.cells #[.int .i64 a, .int .i64 b] 26)).alloc (.cells #[.int .i64 c, .int .i64 d] 26)) (.cells #[.int .i64 x, .int .i64 y] 26)
  rw [size_alloc] at e2
  rw [size_alloc, size_alloc] at e3
  exact ⟨((Fr.alloc S0 _ _).trans0 (Fr.alloc S0 _ _)).row e1 (fun h => h), (Fr.alloc S0 _ _).row e2 (fun h => h), e3⟩
/-- what lies below is as it was -/
theorem Fr.fresh {w w1 w2 : World} {g : Nat} (h : Fr S0 w w1) (k : Fr (· = g) w1 w2) (hg : w.heap.size ≤ g) : Fr S0 w w2 := h.trans k fun j hj e => by omega

set_option maxRecDepth 100000 in
set_option maxHeartbeats 1000000 in
theorem admit_full_none (g : Nat) (a b F A B : Int) (p : Option Addr) (m N T n : Nat) (w : World) (r : Raw w g a b F p m (N : Nat) (T : Nat)) (hT : T ≤ 4611686018427387904) (hN : N = 0)
    (h1 : -1048576 ≤ A) (h2 : A ≤ 1048576) (h3 : -1048576 ≤ B) (h4 : B ≤ 1048576) (h5 : 8192 < B - A + 1) :
    Calls Try.prog 21 #[.pointer (some ⟨g, 0, none⟩), .agg #[.int .i64 A, .int .i64 B], .int .u64 (n : Nat)] w fun e w' => e = .returned (.tuple #[.agg #[.int .i64 0, .int .i64 0], .int .i64 130]) ∧ Fr S0 w w' := by
  subst hN
  have HR := Lib.hid r
  have c0 := (r.fr0 (fr3 w (.cells #[.int .i64 A, .int .i64 B] 26) (.cells #[.int .i64 0, .int .i64 0] 26) (.cells #[.int .i64 A, .int .i64 B] 26))).c0
  have c1 := (r.fr0 (fr3 w (.cells #[.int .i64 A, .int .i64 B] 26) (.cells #[.int .i64 0, .int .i64 0] 26) (.cells #[.int .i64 A, .int .i64 B] 26))).c1
  have c4 := (r.fr0 (fr3 w (.cells #[.int .i64 A, .int .i64 B] 26) (.cells #[.int .i64 0, .int .i64 0] 26) (.cells #[.int .i64 A, .int .i64 B] 26))).c4
  have HW := Lib.hid (fun W => width_any A B W (by omega) (by omega) (by omega) (by omega))
  have HHC := Lib.hid (And.intro h1 (And.intro h2 (And.intro h3 h4)))
  obtain ⟨K, hK⟩ : ∃ K, 4611686018427387904 - T = K := ⟨_, rfl⟩
  have eK : (4611686018427387904 : Int) - (T : Int) = (K : Int) := by omega
  have hkm : (K : Int) ≤ 4611686018427387904 := by omega
  clear r hK hT h1 h2 h3 h4
  go_enter Try.func21, Try.ntmps21
  go_wp2_with fail
  obtain ⟨n0, n1, n2⟩ := new3 w A B 0 0 A B
  obtain ⟨w0, hw0⟩ : ∃ w0, ((w.alloc (.cells #[.int .i64 A, .int .i64 B] 26)).alloc (.cells #[.int .i64 0, .int .i64 0] 26)).alloc (.cells #[.int .i64 A, .int .i64 B] 26) = w0 := ⟨_, rfl⟩
  have F0 : Hid (Fr S0 w w0) := Lib.hid (hw0 ▸ fr3 _ _ _ _)
  rw [hw0] at n0 n1 n2 c0 c1 c4 ⊢
  clear hw0
  obtain ⟨b0, b1, -, -⟩ := n2.box
  have S2 := Lib.hid n2
  have S1 := Lib.hid n1
  have F3 := F0
  clear n0 n1 n2 c0 c1 c4 F0
  go_wp2_with fail
  refine (HW.out _).mono ?_
  rintro e w4 ⟨rfl, f4⟩
  have F4 := Lib.hid (F3.out.trans0 f4)
  have m1 := SpAt.fr0 S1.out f4
  have c5 := (HR.out.fr0 F4.out).c5
  obtain ⟨b0, b1, -, -⟩ := (SpAt.fr0 S2.out f4).box
  have HM1 := Lib.hid m1
  obtain ⟨y0, y1, y2, y3⟩ := m1.box
  clear f4 HW m1
  go_wp2_with fail
  refine bodyPost_ret (results_row_tmp Try.results21 _ _ rfl (HM1.out.set 0 0) Try.underlying26 rfl szSp rfl) rfl ⟨rfl, F4.out.fresh (g := w.heap.size + 1) ((Fr.setCell (· = w.heap.size + 1) _ _ _ rfl).trans (Fr.setCell (· = w.heap.size + 1) _ _ _ rfl) fun _ _ h => h) (by omega)⟩

set_option maxRecDepth 100000 in
set_option maxHeartbeats 1000000 in
theorem admit_cap_none (g : Nat) (a b F A B : Int) (p : Option Addr) (m N T n : Nat) (w : World) (r : Raw w g a b F p m (N : Nat) (T : Nat)) (hT : T ≤ 4611686018427387904) (hN : N = 0)
    (h1 : -1048576 ≤ A) (h2 : A ≤ 1048576) (h3 : -1048576 ≤ B) (h4 : B ≤ 1048576) (h5 : B - A + 1 ≤ 8192) (h6 : 4611686018427387904 - T < n) :
    Calls Try.prog 21 #[.pointer (some ⟨g, 0, none⟩), .agg #[.int .i64 A, .int .i64 B], .int .u64 (n : Nat)] w fun e w' => e = .returned (.tuple #[.agg #[.int .i64 0, .int .i64 0], .int .i64 6]) ∧ Fr S0 w w' := by
  subst hN
  have HR := Lib.hid r
  have c0 := (r.fr0 (fr3 w (.cells #[.int .i64 A, .int .i64 B] 26) (.cells #[.int .i64 0, .int .i64 0] 26) (.cells #[.int .i64 A, .int .i64 B] 26))).c0
  have c1 := (r.fr0 (fr3 w (.cells #[.int .i64 A, .int .i64 B] 26) (.cells #[.int .i64 0, .int .i64 0] 26) (.cells #[.int .i64 A, .int .i64 B] 26))).c1
  have c4 := (r.fr0 (fr3 w (.cells #[.int .i64 A, .int .i64 B] 26) (.cells #[.int .i64 0, .int .i64 0] 26) (.cells #[.int .i64 A, .int .i64 B] 26))).c4
  have HW := Lib.hid (fun W => width_any A B W (by omega) (by omega) (by omega) (by omega))
  have HHC := Lib.hid (And.intro h1 (And.intro h2 (And.intro h3 h4)))
  obtain ⟨K, hK⟩ : ∃ K, 4611686018427387904 - T = K := ⟨_, rfl⟩
  have eK : (4611686018427387904 : Int) - (T : Int) = (K : Int) := by omega
  have hkm : (K : Int) ≤ 4611686018427387904 := by omega
  have hkn : (K : Int) < (n : Int) := by omega
  clear r hK hT h6 h1 h2 h3 h4
  go_enter Try.func21, Try.ntmps21
  go_wp2_with fail
  obtain ⟨n0, n1, n2⟩ := new3 w A B 0 0 A B
  obtain ⟨w0, hw0⟩ : ∃ w0, ((w.alloc (.cells #[.int .i64 A, .int .i64 B] 26)).alloc (.cells #[.int .i64 0, .int .i64 0] 26)).alloc (.cells #[.int .i64 A, .int .i64 B] 26) = w0 := ⟨_, rfl⟩
  have F0 : Hid (Fr S0 w w0) := Lib.hid (hw0 ▸ fr3 _ _ _ _)
  rw [hw0] at n0 n1 n2 c0 c1 c4 ⊢
  clear hw0
  obtain ⟨b0, b1, -, -⟩ := n2.box
  have S2 := Lib.hid n2
  have S1 := Lib.hid n1
  have F3 := F0
  clear n0 n1 n2 c0 c1 c4 F0
  go_wp2_with fail
  refine (HW.out _).mono ?_
  rintro e w4 ⟨rfl, f4⟩
  have F4 := Lib.hid (F3.out.trans0 f4)
  have m1 := SpAt.fr0 S1.out f4
  have c5 := (HR.out.fr0 F4.out).c5
  obtain ⟨b0, b1, -, -⟩ := (SpAt.fr0 S2.out f4).box
  have HM1 := Lib.hid m1
  obtain ⟨y0, y1, y2, y3⟩ := m1.box
  clear f4 HW m1
  go_wp2_with fail
  refine bodyPost_ret (results_row_tmp Try.results21 _ _ rfl (HM1.out.set 0 0) Try.underlying26 rfl szSp rfl) rfl ⟨rfl, F4.out.fresh (g := w.heap.size + 1) ((Fr.setCell (· = w.heap.size + 1) _ _ _ rfl).trans (Fr.setCell (· = w.heap.size + 1) _ _ _ rfl) fun _ _ h => h) (by omega)⟩

set_option maxRecDepth 100000 in
set_option maxHeartbeats 1000000 in
theorem admit_ok_none (g : Nat) (a b F A B : Int) (p : Option Addr) (m N T n : Nat) (w : World) (r : Raw w g a b F p m (N : Nat) (T : Nat)) (hT : T ≤ 4611686018427387904) (hN : N = 0)
    (h1 : -1048576 ≤ A) (h2 : A ≤ 1048576) (h3 : -1048576 ≤ B) (h4 : B ≤ 1048576) (h5 : B - A + 1 ≤ 8192) (h6 : n ≤ 4611686018427387904 - T) :
    Calls Try.prog 21 #[.pointer (some ⟨g, 0, none⟩), .agg #[.int .i64 A, .int .i64 B], .int .u64 (n : Nat)] w fun e w' => e = .returned (.tuple #[.agg #[.int .i64 A, .int .i64 B], .int .i64 0]) ∧ Fr S0 w w' := by
  subst hN
  have HR := Lib.hid r
  have c0 := (r.fr0 (fr3 w (.cells #[.int .i64 A, .int .i64 B] 26) (.cells #[.int .i64 0, .int .i64 0] 26) (.cells #[.int .i64 A, .int .i64 B] 26))).c0
  have c1 := (r.fr0 (fr3 w (.cells #[.int .i64 A, .int .i64 B] 26) (.cells #[.int .i64 0, .int .i64 0] 26) (.cells #[.int .i64 A, .int .i64 B] 26))).c1
  have c4 := (r.fr0 (fr3 w (.cells #[.int .i64 A, .int .i64 B] 26) (.cells #[.int .i64 0, .int .i64 0] 26) (.cells #[.int .i64 A, .int .i64 B] 26))).c4
  have HW := Lib.hid (fun W => width_any A B W (by omega) (by omega) (by omega) (by omega))
  have HHC := Lib.hid (And.intro h1 (And.intro h2 (And.intro h3 h4)))
  obtain ⟨K, hK⟩ : ∃ K, 4611686018427387904 - T = K := ⟨_, rfl⟩
  have eK : (4611686018427387904 : Int) - (T : Int) = (K : Int) := by omega
  have hkm : (K : Int) ≤ 4611686018427387904 := by omega
  have hkn : decide (K < n) = false := decide_eq_false (by omega)
  clear r hK hT h6 h1 h2 h3 h4
  go_enter Try.func21, Try.ntmps21
  go_wp2_with fail
  obtain ⟨n0, n1, n2⟩ := new3 w A B 0 0 A B
  obtain ⟨w0, hw0⟩ : ∃ w0, ((w.alloc (.cells #[.int .i64 A, .int .i64 B] 26)).alloc (.cells #[.int .i64 0, .int .i64 0] 26)).alloc (.cells #[.int .i64 A, .int .i64 B] 26) = w0 := ⟨_, rfl⟩
  have F0 : Hid (Fr S0 w w0) := Lib.hid (hw0 ▸ fr3 _ _ _ _)
  rw [hw0] at n0 n1 n2 c0 c1 c4 ⊢
  clear hw0
  obtain ⟨b0, b1, -, -⟩ := n2.box
  have S2 := Lib.hid n2
  have S1 := Lib.hid n1
  have F3 := F0
  clear n0 n1 n2 c0 c1 c4 F0
  go_wp2_with fail
  refine (HW.out _).mono ?_
  rintro e w4 ⟨rfl, f4⟩
  have F4 := Lib.hid (F3.out.trans0 f4)
  have m1 := SpAt.fr0 S1.out f4
  have c5 := (HR.out.fr0 F4.out).c5
  obtain ⟨b0, b1, -, -⟩ := (SpAt.fr0 S2.out f4).box
  have HM1 := Lib.hid m1
  obtain ⟨y0, y1, y2, y3⟩ := m1.box
  clear f4 HW m1
  go_wp2_with fail
  refine bodyPost_ret (results_row_tmp Try.results21 _ _ rfl (HM1.out.set A B) Try.underlying26 rfl szSp rfl) rfl ⟨rfl, F4.out.fresh (g := w.heap.size + 1) ((Fr.setCell (· = w.heap.size + 1) _ _ _ rfl).trans (Fr.setCell (· = w.heap.size + 1) _ _ _ rfl) fun _ _ h => h) (by omega)⟩

set_option maxRecDepth 100000 in
set_option maxHeartbeats 1000000 in
theorem admit_full_some (g : Nat) (a b F c d A B : Int) (p : Option Addr) (m N T n : Nat) (w : World) (r : Raw w g a b F p m (N : Nat) (T : Nat)) (hT : T ≤ 4611686018427387904) (hN : 0 < N) (hA : min a c = A) (hB : max b d = B)
    (h1 : -1048576 ≤ A) (h2 : A ≤ 1048576) (h3 : -1048576 ≤ B) (h4 : B ≤ 1048576) (h5 : 8192 < B - A + 1) :
    Calls Try.prog 21 #[.pointer (some ⟨g, 0, none⟩), .agg #[.int .i64 c, .int .i64 d], .int .u64 (n : Nat)] w fun e w' => e = .returned (.tuple #[.agg #[.int .i64 0, .int .i64 0], .int .i64 130]) ∧ Fr S0 w w' := by
  have hn0 : (0 : Int) < (N : Int) := by omega
  have HJ := Lib.hid (fun W => join_any a b c d A B W hA hB)
  have HR := Lib.hid r
  have c0 := (r.fr0 (fr3 w (.cells #[.int .i64 c, .int .i64 d] 26) (.cells #[.int .i64 0, .int .i64 0] 26) (.cells #[.int .i64 c, .int .i64 d] 26))).c0
  have c1 := (r.fr0 (fr3 w (.cells #[.int .i64 c, .int .i64 d] 26) (.cells #[.int .i64 0, .int .i64 0] 26) (.cells #[.int .i64 c, .int .i64 d] 26))).c1
  have c4 := (r.fr0 (fr3 w (.cells #[.int .i64 c, .int .i64 d] 26) (.cells #[.int .i64 0, .int .i64 0] 26) (.cells #[.int .i64 c, .int .i64 d] 26))).c4
  have HW := Lib.hid (fun W => width_any A B W (by omega) (by omega) (by omega) (by omega))
  have HHC := Lib.hid (And.intro h1 (And.intro h2 (And.intro h3 h4)))
  obtain ⟨K, hK⟩ : ∃ K, 4611686018427387904 - T = K := ⟨_, rfl⟩
  have eK : (4611686018427387904 : Int) - (T : Int) = (K : Int) := by omega
  have hkm : (K : Int) ≤ 4611686018427387904 := by omega
  clear r hK hT hN hA hB h1 h2 h3 h4
  go_enter Try.func21, Try.ntmps21
  go_wp2_with fail
  obtain ⟨n0, n1, n2⟩ := new3 w c d 0 0 c d
  obtain ⟨w0, hw0⟩ : ∃ w0, ((w.alloc (.cells #[.int .i64 c, .int .i64 d] 26)).alloc (.cells #[.int .i64 0, .int .i64 0] 26)).alloc (.cells #[.int .i64 c, .int .i64 d] 26) = w0 := ⟨_, rfl⟩
  have F0 : Hid (Fr S0 w w0) := Lib.hid (hw0 ▸ fr3 _ _ _ _)
  rw [hw0] at n0 n1 n2 c0 c1 c4 ⊢
  clear hw0
  have q2 := F0.out
  obtain ⟨b0, b1, -, -⟩ := n0.box
  have HN := Lib.hid (And.intro n1 n2)
  clear n0 n1 n2 q2
  go_still_tail 5, (by kernel_rfl)
  obtain ⟨w1, hw1, f1⟩ := drewFr w0
  change wpList _ _ _ _ _ w0.drew
  rw [hw1]
  have HJW := Lib.hid (HJ.out w1)
  have HF1 := Lib.hid f1
  clear hw1 f1 c0 c1 c4 b0 b1 HJ
  go_wp2_with fail
  refine HJW.out.mono ?_
  rintro e w2 ⟨rfl, f2⟩
  have g2 := HF1.out.trans0 f2
  have s2 := SpAt.fr0 HN.out.2 g2
  obtain ⟨b0, b1, z0, z1⟩ := s2.box
  have S2 := Lib.hid (s2.set A B)
  have S1 := Lib.hid ((SpAt.fr0 HN.out.1 g2).other (g' := w.heap.size + 1 + 1) (c := A) (d := B) (by omega))
  have F3 : Hid (Fr S0 w ((w2.setCell ⟨w.heap.size + 1 + 1, 0, none⟩ (.int .i64 A)).setCell ⟨w.heap.size + 1 + 1, 1, none⟩ (.int .i64 B))) := Lib.hid ((F0.out.trans0 g2).fresh (g := w.heap.size + 1 + 1) ((Fr.setCell (· = w.heap.size + 1 + 1) _ _ _ rfl).trans (Fr.setCell (· = w.heap.size + 1 + 1) _ _ _ rfl) fun _ _ h => h) (by omega))
  clear f2 g2 s2 HJW HF1 HN
  go_wp2_with fail
  refine (HW.out _).mono ?_
  rintro e w4 ⟨rfl, f4⟩
  have F4 := Lib.hid (F3.out.trans0 f4)
  have m1 := SpAt.fr0 S1.out f4
  have c5 := (HR.out.fr0 F4.out).c5
  obtain ⟨b0, b1, -, -⟩ := (SpAt.fr0 S2.out f4).box
  have HM1 := Lib.hid m1
  obtain ⟨y0, y1, y2, y3⟩ := m1.box
  clear f4 HW m1
  go_wp2_with fail
  refine bodyPost_ret (results_row_tmp Try.results21 _ _ rfl (HM1.out.set 0 0) Try.underlying26 rfl szSp rfl) rfl ⟨rfl, F4.out.fresh (g := w.heap.size + 1) ((Fr.setCell (· = w.heap.size + 1) _ _ _ rfl).trans (Fr.setCell (· = w.heap.size + 1) _ _ _ rfl) fun _ _ h => h) (by omega)⟩

set_option maxRecDepth 100000 in
set_option maxHeartbeats 1000000 in
theorem admit_cap_some (g : Nat) (a b F c d A B : Int) (p : Option Addr) (m N T n : Nat) (w : World) (r : Raw w g a b F p m (N : Nat) (T : Nat)) (hT : T ≤ 4611686018427387904) (hN : 0 < N) (hA : min a c = A) (hB : max b d = B)
    (h1 : -1048576 ≤ A) (h2 : A ≤ 1048576) (h3 : -1048576 ≤ B) (h4 : B ≤ 1048576) (h5 : B - A + 1 ≤ 8192) (h6 : 4611686018427387904 - T < n) :
    Calls Try.prog 21 #[.pointer (some ⟨g, 0, none⟩), .agg #[.int .i64 c, .int .i64 d], .int .u64 (n : Nat)] w fun e w' => e = .returned (.tuple #[.agg #[.int .i64 0, .int .i64 0], .int .i64 6]) ∧ Fr S0 w w' := by
  have hn0 : (0 : Int) < (N : Int) := by omega
  have HJ := Lib.hid (fun W => join_any a b c d A B W hA hB)
  have HR := Lib.hid r
  have c0 := (r.fr0 (fr3 w (.cells #[.int .i64 c, .int .i64 d] 26) (.cells #[.int .i64 0, .int .i64 0] 26) (.cells #[.int .i64 c, .int .i64 d] 26))).c0
  have c1 := (r.fr0 (fr3 w (.cells #[.int .i64 c, .int .i64 d] 26) (.cells #[.int .i64 0, .int .i64 0] 26) (.cells #[.int .i64 c, .int .i64 d] 26))).c1
  have c4 := (r.fr0 (fr3 w (.cells #[.int .i64 c, .int .i64 d] 26) (.cells #[.int .i64 0, .int .i64 0] 26) (.cells #[.int .i64 c, .int .i64 d] 26))).c4
  have HW := Lib.hid (fun W => width_any A B W (by omega) (by omega) (by omega) (by omega))
  have HHC := Lib.hid (And.intro h1 (And.intro h2 (And.intro h3 h4)))
  obtain ⟨K, hK⟩ : ∃ K, 4611686018427387904 - T = K := ⟨_, rfl⟩
  have eK : (4611686018427387904 : Int) - (T : Int) = (K : Int) := by omega
  have hkm : (K : Int) ≤ 4611686018427387904 := by omega
  have hkn : (K : Int) < (n : Int) := by omega
  clear r hK hT h6 hN hA hB h1 h2 h3 h4
  go_enter Try.func21, Try.ntmps21
  go_wp2_with fail
  obtain ⟨n0, n1, n2⟩ := new3 w c d 0 0 c d
  obtain ⟨w0, hw0⟩ : ∃ w0, ((w.alloc (.cells #[.int .i64 c, .int .i64 d] 26)).alloc (.cells #[.int .i64 0, .int .i64 0] 26)).alloc (.cells #[.int .i64 c, .int .i64 d] 26) = w0 := ⟨_, rfl⟩
  have F0 : Hid (Fr S0 w w0) := Lib.hid (hw0 ▸ fr3 _ _ _ _)
  rw [hw0] at n0 n1 n2 c0 c1 c4 ⊢
  clear hw0
  have q2 := F0.out
  obtain ⟨b0, b1, -, -⟩ := n0.box
  have HN := Lib.hid (And.intro n1 n2)
  clear n0 n1 n2 q2
  go_still_tail 5, (by kernel_rfl)
  obtain ⟨w1, hw1, f1⟩ := drewFr w0
  change wpList _ _ _ _ _ w0.drew
  rw [hw1]
  have HJW := Lib.hid (HJ.out w1)
  have HF1 := Lib.hid f1
  clear hw1 f1 c0 c1 c4 b0 b1 HJ
  go_wp2_with fail
  refine HJW.out.mono ?_
  rintro e w2 ⟨rfl, f2⟩
  have g2 := HF1.out.trans0 f2
  have s2 := SpAt.fr0 HN.out.2 g2
  obtain ⟨b0, b1, z0, z1⟩ := s2.box
  have S2 := Lib.hid (s2.set A B)
  have S1 := Lib.hid ((SpAt.fr0 HN.out.1 g2).other (g' := w.heap.size + 1 + 1) (c := A) (d := B) (by omega))
  have F3 : Hid (Fr S0 w ((w2.setCell ⟨w.heap.size + 1 + 1, 0, none⟩ (.int .i64 A)).setCell ⟨w.heap.size + 1 + 1, 1, none⟩ (.int .i64 B))) := Lib.hid ((F0.out.trans0 g2).fresh (g := w.heap.size + 1 + 1) ((Fr.setCell (· = w.heap.size + 1 + 1) _ _ _ rfl).trans (Fr.setCell (· = w.heap.size + 1 + 1) _ _ _ rfl) fun _ _ h => h) (by omega))
  clear f2 g2 s2 HJW HF1 HN
  go_wp2_with fail
  refine (HW.out _).mono ?_
  rintro e w4 ⟨rfl, f4⟩
  have F4 := Lib.hid (F3.out.trans0 f4)
  have m1 := SpAt.fr0 S1.out f4
  have c5 := (HR.out.fr0 F4.out).c5
  obtain ⟨b0, b1, -, -⟩ := (SpAt.fr0 S2.out f4).box
  have HM1 := Lib.hid m1
  obtain ⟨y0, y1, y2, y3⟩ := m1.box
  clear f4 HW m1
  go_wp2_with fail
  refine bodyPost_ret (results_row_tmp Try.results21 _ _ rfl (HM1.out.set 0 0) Try.underlying26 rfl szSp rfl) rfl ⟨rfl, F4.out.fresh (g := w.heap.size + 1) ((Fr.setCell (· = w.heap.size + 1) _ _ _ rfl).trans (Fr.setCell (· = w.heap.size + 1) _ _ _ rfl) fun _ _ h => h) (by omega)⟩

set_option maxRecDepth 100000 in
set_option maxHeartbeats 1000000 in
theorem admit_ok_some (g : Nat) (a b F c d A B : Int) (p : Option Addr) (m N T n : Nat) (w : World) (r : Raw w g a b F p m (N : Nat) (T : Nat)) (hT : T ≤ 4611686018427387904) (hN : 0 < N) (hA : min a c = A) (hB : max b d = B)
    (h1 : -1048576 ≤ A) (h2 : A ≤ 1048576) (h3 : -1048576 ≤ B) (h4 : B ≤ 1048576) (h5 : B - A + 1 ≤ 8192) (h6 : n ≤ 4611686018427387904 - T) :
    Calls Try.prog 21 #[.pointer (some ⟨g, 0, none⟩), .agg #[.int .i64 c, .int .i64 d], .int .u64 (n : Nat)] w fun e w' => e = .returned (.tuple #[.agg #[.int .i64 A, .int .i64 B], .int .i64 0]) ∧ Fr S0 w w' := by
  have hn0 : (0 : Int) < (N : Int) := by omega
  have HJ := Lib.hid (fun W => join_any a b c d A B W hA hB)
  have HR := Lib.hid r
  have c0 := (r.fr0 (fr3 w (.cells #[.int .i64 c, .int .i64 d] 26) (.cells #[.int .i64 0, .int .i64 0] 26) (.cells #[.int .i64 c, .int .i64 d] 26))).c0
  have c1 := (r.fr0 (fr3 w (.cells #[.int .i64 c, .int .i64 d] 26) (.cells #[.int .i64 0, .int .i64 0] 26) (.cells #[.int .i64 c, .int .i64 d] 26))).c1
  have c4 := (r.fr0 (fr3 w (.cells #[.int .i64 c, .int .i64 d] 26) (.cells #[.int .i64 0, .int .i64 0] 26) (.cells #[.int .i64 c, .int .i64 d] 26))).c4
  have HW := Lib.hid (fun W => width_any A B W (by omega) (by omega) (by omega) (by omega))
  have HHC := Lib.hid (And.intro h1 (And.intro h2 (And.intro h3 h4)))
  obtain ⟨K, hK⟩ : ∃ K, 4611686018427387904 - T = K := ⟨_, rfl⟩
  have eK : (4611686018427387904 : Int) - (T : Int) = (K : Int) := by omega
  have hkm : (K : Int) ≤ 4611686018427387904 := by omega
  have hkn : decide (K < n) = false := decide_eq_false (by omega)
  clear r hK hT h6 hN hA hB h1 h2 h3 h4
  go_enter Try.func21, Try.ntmps21
  go_wp2_with fail
  obtain ⟨n0, n1, n2⟩ := new3 w c d 0 0 c d
  obtain ⟨w0, hw0⟩ : ∃ w0, ((w.alloc (.cells #[.int .i64 c, .int .i64 d] 26)).alloc (.cells #[.int .i64 0, .int .i64 0] 26)).alloc (.cells #[.int .i64 c, .int .i64 d] 26) = w0 := ⟨_, rfl⟩
  have F0 : Hid (Fr S0 w w0) := Lib.hid (hw0 ▸ fr3 _ _ _ _)
  rw [hw0] at n0 n1 n2 c0 c1 c4 ⊢
  clear hw0
  have q2 := F0.out
  obtain ⟨b0, b1, -, -⟩ := n0.box
  have HN := Lib.hid (And.intro n1 n2)
  clear n0 n1 n2 q2
  go_still_tail 5, (by kernel_rfl)
  obtain ⟨w1, hw1, f1⟩ := drewFr w0
  change wpList _ _ _ _ _ w0.drew
  rw [hw1]
  have HJW := Lib.hid (HJ.out w1)
  have HF1 := Lib.hid f1
  clear hw1 f1 c0 c1 c4 b0 b1 HJ
  go_wp2_with fail
  refine HJW.out.mono ?_
  rintro e w2 ⟨rfl, f2⟩
  have g2 := HF1.out.trans0 f2
  have s2 := SpAt.fr0 HN.out.2 g2
  obtain ⟨b0, b1, z0, z1⟩ := s2.box
  have S2 := Lib.hid (s2.set A B)
  have S1 := Lib.hid ((SpAt.fr0 HN.out.1 g2).other (g' := w.heap.size + 1 + 1) (c := A) (d := B) (by omega))
  have F3 : Hid (Fr S0 w ((w2.setCell ⟨w.heap.size + 1 + 1, 0, none⟩ (.int .i64 A)).setCell ⟨w.heap.size + 1 + 1, 1, none⟩ (.int .i64 B))) := Lib.hid ((F0.out.trans0 g2).fresh (g := w.heap.size + 1 + 1) ((Fr.setCell (· = w.heap.size + 1 + 1) _ _ _ rfl).trans (Fr.setCell (· = w.heap.size + 1 + 1) _ _ _ rfl) fun _ _ h => h) (by omega))
  clear f2 g2 s2 HJW HF1 HN
  go_wp2_with fail
  refine (HW.out _).mono ?_
  rintro e w4 ⟨rfl, f4⟩
  have F4 := Lib.hid (F3.out.trans0 f4)
  have m1 := SpAt.fr0 S1.out f4
  have c5 := (HR.out.fr0 F4.out).c5
  obtain ⟨b0, b1, -, -⟩ := (SpAt.fr0 S2.out f4).box
  have HM1 := Lib.hid m1
  obtain ⟨y0, y1, y2, y3⟩ := m1.box
  clear f4 HW m1
  go_wp2_with fail
  refine bodyPost_ret (results_row_tmp Try.results21 _ _ rfl (HM1.out.set A B) Try.underlying26 rfl szSp rfl) rfl ⟨rfl, F4.out.fresh (g := w.heap.size + 1) ((Fr.setCell (· = w.heap.size + 1) _ _ _ rfl).trans (Fr.setCell (· = w.heap.size + 1) _ _ _ rfl) fun _ _ h => h) (by omega)⟩
end Go.Proofs.Ytocdjklgfmkbfaa
