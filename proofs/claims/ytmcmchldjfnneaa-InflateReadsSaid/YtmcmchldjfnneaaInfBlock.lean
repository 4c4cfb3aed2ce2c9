/- Blocks. -/
import Derived.Test.YtmcmchldjfnneaaInfDesc
namespace Go.Proofs.Ytmcmchldjfnneaa
open Go.RowKit

def fv (n : Nat) : Value := .func (.func n) #[] #[]
def kindsC : Array Value := #[fv 40, fv 41, fv 42, fv 43]
set_option maxRecDepth 100000 in
set_option maxHeartbeats 400000 in
theorem kinds_any (w : World) : Calls Try.prog 29 #[] w fun e w' => e = .returned (.agg kindsC) ∧ Fr S0 w w' := by
  go_enter Try.func29, Try.ntmps29
  go_wp2_with fail
  exact bodyPost_ret (results_cell_row Try.results29 _ _ w.heap.size 59 kindsC (0, 0) _ rfl (heap_alloc_new w _) Try.underlying59 rfl (by kernel_rfl)) rfl ⟨rfl, Fr.alloc _ _ _⟩
set_option maxRecDepth 100000 in
theorem none_any (v : Value) (w : World) : Calls Try.prog 43 #[v] w fun e w' => e = .panicked (chn 60) ∧ w = w' := by
  have HD := Lib.hid (demand_no 60 w)
  go_enter Try.func43, Try.ntmps43
  go_wp2_with fail
  refine HD.out.mono ?_
  rintro e w' ⟨rfl, rfl⟩
  go_wp2_with fail
  exact ⟨rfl, rfl, rfl⟩
def BlockEnds (x : Res (Bool × List Nat)) (w : World) (g gr : Nat) (r t : Option Nat) (b : List Nat) (lim : Nat) (e : Ending) (w' : World) : Prop :=
  match x with
  | .ok lt k => e = .returned (.bool lt.1) ∧ BlkTo w w' g gr r t b k lim lt.2
  | .no m => e = .panicked (chn m) ∧ Fr (StB g gr t) w w'
theorem BlockEnds.of {x y : Res (Bool × List Nat)} {w w' : World} {g gr : Nat} {r t : Option Nat} {b : List Nat} {lim : Nat} {e : Ending} (h : x = y) (q : BlockEnds y w g gr r t b lim e w') : BlockEnds x w g gr r t b lim e w' := by rw [h]; exact q
section
variable {g gr : Nat} {r t : Option Nat} {b : List Nat} {k lim : Nat} {T : List Nat} {L S : Value}
/-- what a kind's function does -/
def kindF : Nat → Nat
  | 0 => 40
  | 1 => 41
  | 2 => 42
  | _ => 43
theorem kind_any (n : Nat) (hn : n < 4) (w : World) (h : StIs w g gr r t b k lim T L S) (hx : FixIs w g gr t L S) :
    Calls Try.prog (kindF n) #[.pointer (some ⟨g, 0, none⟩)] w (BlkEnds (rKind b lim T n k) w g gr r t b lim) := by
  match n, hn with
  | 0, _ =>
    exact (stored_any w h).mono fun e w' q => BlkEnds.of (by unfold rKind; rw [if_pos rfl]) (q.blk hx (Fr.refl _ _) (.inl rfl))
  | 1, _ =>
    exact (fixed_block w h hx).mono fun e w' q => BlkEnds.of (by unfold rKind; rw [if_neg (by decide), if_pos rfl]) q
  | 2, _ =>
    exact (described_any w h hx).mono fun e w' q => BlkEnds.of (by unfold rKind; rw [if_neg (by decide), if_neg (by decide), if_pos rfl]) q
  | 3, _ =>
    exact (none_any _ w).mono fun e w' q => BlkEnds.of (y := .no 60) (by unfold rKind; rw [if_neg (by decide), if_neg (by decide), if_neg (by decide)]) ⟨q.1, q.2 ▸ Fr.refl _ _⟩
theorem index0 (w : World) : (Instr.index 59 (.agg kindsC) (.int .i64 0)).run Try.prog w = .ok (fv 40) w := by kernel_rfl
theorem index1 (w : World) : (Instr.index 59 (.agg kindsC) (.int .i64 1)).run Try.prog w = .ok (fv 41) w := by kernel_rfl
theorem index2 (w : World) : (Instr.index 59 (.agg kindsC) (.int .i64 2)).run Try.prog w = .ok (fv 42) w := by kernel_rfl
theorem index3 (w : World) : (Instr.index 59 (.agg kindsC) (.int .i64 3)).run Try.prog w = .ok (fv 43) w := by kernel_rfl
theorem enter0 (v : Value) (w : World) : (callFunc 40 #[v]).run Try.prog w = .ok (.enter 40 #[v]) w := by kernel_rfl
theorem enter1 (v : Value) (w : World) : (callFunc 41 #[v]).run Try.prog w = .ok (.enter 41 #[v]) w := by kernel_rfl
theorem enter2 (v : Value) (w : World) : (callFunc 42 #[v]).run Try.prog w = .ok (.enter 42 #[v]) w := by kernel_rfl
theorem enter3 (v : Value) (w : World) : (callFunc 43 #[v]).run Try.prog w = .ok (.enter 43 #[v]) w := by kernel_rfl
theorem index_kinds (n : Nat) (hn : n < 4) (w : World) : (Instr.index 59 (.agg kindsC) (.int .i64 (n : Nat))).run Try.prog w = .ok (fv (kindF n)) w := by
  match n, hn with
  | 0, _ => exact index0 w
  | 1, _ => exact index1 w
  | 2, _ => exact index2 w
  | 3, _ => exact index3 w
theorem enter_kinds (n : Nat) (hn : n < 4) (v : Value) (w : World) : (callFunc (kindF n) #[v]).run Try.prog w = .ok (.enter (kindF n) #[v]) w := by
  match n, hn with
  | 0, _ => exact enter0 v w
  | 1, _ => exact enter1 v w
  | 2, _ => exact enter2 v w
  | 3, _ => exact enter3 v w
set_option maxRecDepth 100000 in
set_option maxHeartbeats 1000000 in
theorem block_any (w : World) (h : StIs w g gr r t b k lim T L S) (hx : FixIs w g gr t L S) :
    Calls Try.prog 17 #[.pointer (some ⟨g, 0, none⟩)] w (BlockEnds (rBlock b lim T k) w g gr r t b lim) := by
  have H := Lib.hid h
  have HX := Lib.hid hx
  obtain ⟨RES, hRES⟩ : ∃ X, rBlock b lim T k = X := ⟨_, rfl⟩
  have HE : Hid (∀ y, ((rGrp b 1 k).then fun last k1 => (rGrp b 2 k1).then fun kind k2 => (rKind b lim T kind k2).then fun T1 k3 => .ok (decide (last = 1), T1) k3) = y → RES = y) := Lib.hid (fun y hy => by rw [← hRES]; exact hy)
  rw [hRES]
  have HG1 : Hid (Calls Try.prog 28 #[.pointer (some ⟨g, 0, none⟩), .int .i64 1] w (RdEnds (rGrp b 1 k) w gr r b)) := Lib.hid (group_any 1 w h (by decide))
  clear h hx hRES
  go_enter Try.func17, Try.ntmps17
  go_wp2_with fail
  refine HG1.out.mono ?_
  intro e w1 h1
  rcases rd_cases h1 with ⟨n1, k1, hx, rfl, t1⟩ | ⟨m, hx, rfl, f1⟩
  rotate_left
  · have K := Lib.hid (HE.out (.no m) (by rw [hx]; rfl))
    clear hx h1 HE
    go_wp2_with fail
    exact ⟨rfl, BlockEnds.of K.out ⟨rfl, frSt f1⟩⟩
  have HE1 := Lib.hid (fun y hy => HE.out y (by rw [hx, Res.then_ok]; exact hy))
  have H1 := Lib.hid (H.out.read t1)
  have HF1 := Lib.hid t1.2
  have HKI := Lib.hid (kinds_any w1)
  have EB : Hid (((n1 : Int) == 1) = decide (n1 = 1)) := Lib.hid (by rw [Bool.eq_iff_iff, beq_iff_eq, decide_eq_true_iff]; omega)
  clear hx h1 t1 HE
  obtain ⟨LB, hLB⟩ : ∃ X, decide (n1 = 1) = X := ⟨_, rfl⟩
  have eb := EB.out
  rw [hLB] at eb HE1
  clear EB
  go_wp2_with fail
  refine HKI.out.mono ?_
  rintro e w2 ⟨rfl, f2⟩
  have H2 := Lib.hid (H1.out.fr0 f2)
  have HF2 : Hid (Fr (· = gr) w w2) := Lib.hid (HF1.out.trans0 f2)
  have HG1 : Hid (Calls Try.prog 28 #[.pointer (some ⟨g, 0, none⟩), .int .i64 2] w2 (RdEnds (rGrp b 2 k1) w2 gr r b)) := Lib.hid (group_any 2 w2 H2.out (by decide))
  clear f2 HKI eb H1 HF1 hLB
  go_wp2_with fail
  refine HG1.out.mono ?_
  intro e w3 h3
  rcases rd_cases h3 with ⟨n2, k2, hx, rfl, t3⟩ | ⟨m, hx, rfl, f3⟩
  rotate_left
  · have K := Lib.hid (HE1.out (.no m) (by rw [hx]; rfl))
    have HFF : Hid (Fr (· = gr) w w3) := Lib.hid (HF2.out.trans f3 (fun _ _ h => h))
    clear hx h3 HE1
    go_wp2_with fail
    exact ⟨rfl, BlockEnds.of K.out ⟨rfl, frSt HFF.out⟩⟩
  have HE2 := Lib.hid (fun y hy => HE1.out y (by rw [hx, Res.then_ok]; exact hy))
  have hn2 : n2 < 4 := (rGrp_lt hx).1
  have H3 := Lib.hid (H2.out.read t3)
  have HF3 : Hid (Fr (· = gr) w w3) := Lib.hid (HF2.out.trans t3.2 (fun _ _ h => h))
  have HI := index_kinds n2 hn2
  have HEN := enter_kinds n2 hn2 (.pointer (some ⟨g, 0, none⟩)) w3
  have HK := Lib.hid ((kind_any n2 hn2 w3 H3.out (HX.out.to (frSt HF3.out) (.inl rfl))))
  obtain ⟨KC, hKC⟩ : ∃ X, kindsC = X := ⟨_, rfl⟩
  obtain ⟨KF, hKF⟩ : ∃ X, kindF n2 = X := ⟨_, rfl⟩
  rw [hKC, hKF] at HI
  rw [hKF] at HEN
  rw [hKF] at HK
  rw [hKC]
  unfold fv at HI
  clear hx h3 t3 HE1 H2 HF2 hKC hKF
  go_wp2_with fail
  refine HK.out.mono ?_
  intro e w4 h4
  cases hx : rKind b lim T n2 k2 with
  | no m =>
    rw [hx] at h4
    obtain ⟨rfl, f4⟩ := h4
    have K := Lib.hid (HE2.out (.no m) (by rw [hx]; rfl))
    have HFF : Hid (Fr (StB g gr t) w w4) := Lib.hid ((frSt HF3.out).trans f4 (fun _ _ h => h))
    clear hx f4 HE2 HK
    go_wp2_with fail
    exact ⟨rfl, BlockEnds.of K.out ⟨rfl, HFF.out⟩⟩
  | ok T1 k3 =>
    rw [hx] at h4
    obtain ⟨rfl, t', L', S', a1, a2, a3, a4⟩ := h4
    have K := Lib.hid (HE2.out _ (by rw [hx, Res.then_ok]))
    have HTO : Hid (BlkTo w w4 g gr r t b k3 lim T1) := Lib.hid (by
      refine ⟨t', L', S', a1, a2, (frSt HF3.out).trans a3 (fun _ _ h => h), ?_⟩
      rcases a4 with a4 | a4
      · exact .inl a4
      · exact .inr fun j hj => Nat.le_trans HF3.out.size (a4 j hj))
    clear hx a1 a2 a3 a4 HE2 HK
    go_wp2_with fail
    go_ret
    exact BlockEnds.of K.out ⟨rfl, HTO.out⟩
end
end Go.Proofs.Ytmcmchldjfnneaa
