/- Tokens are written; the block is closed. -/
import Derived.Test.YtfibhgohenkfbaaDefFix
import Derived.IntWalk
namespace Go.Proofs.Ytfibhgohenkfbaa
open Go.RowKit

/-- a token that can be written -/
def TkOk (t : M.Tk) : Prop := (t.2.2 = 0 ∧ t.1 < 256) ∨ (3 ≤ t.2.1 ∧ t.2.1 ≤ 258 ∧ 0 < t.2.2 ∧ t.2.2 ≤ 32768)

set_option maxRecDepth 100000 in
set_option maxHeartbeats 2000000 in
theorem token_one {w1 : World} {A B gl gs g : Nat} {L : List Nat} {r0 : Option Nat} (tx tl : Nat) (w : World) (h : WrTo (Xb gl gs) w1 w g r0 L) (hs : Sets w1 A B gl gs g r0) (hx : tx < 256) (hL : L.length + 1000 ≤ 1099511627776) :
    Calls Try.prog 24 #[.pointer (some ⟨g, 0, none⟩), .agg #[.int .u8 tx, .int .i64 tl, .int .i64 0]] w fun e w' => e = .returned (.tuple #[]) ∧ WrTo (Xb gl gs) w1 w' g r0 (L ++ tkB (tx, tl, 0)) := by
  obtain ⟨w0, hw0⟩ : ∃ w0, w.alloc (.cells #[.int .u8 (tx : Nat), .int .i64 (tl : Nat), .int .i64 0] 45) = w0 := ⟨_, rfl⟩
  have f0 : Fr S0 w w0 := by rw [← hw0]; exact Fr.alloc _ _ _
  have hb := heap_alloc_new w (.cells #[.int .u8 (tx : Nat), .int .i64 (tl : Nat), .int .i64 0] 45)
  rw [hw0] at hb
  have c0 : w0.cell? ⟨w.heap.size, 0, none⟩ = some (.int .u8 (tx : Nat)) := by simp [World.cell?, hb]
  have c2 : w0.cell? ⟨w.heap.size, 2, none⟩ = some (.int .i64 0) := by simp [World.cell?, hb]
  have k2 := f0.cell (h.cells 0 (.pointer (some ⟨gl, 0, none⟩)) rfl) (fun h => h)
  have H0 := Lib.hid (h.fr0 f0)
  have HW : Hid (∀ w', WrTo (Xb gl gs) w1 w' g r0 L → Calls Try.prog 48 #[.pointer (some ⟨gl, 0, none⟩), .pointer (some ⟨g, 0, none⟩), .int .i64 tx] w' fun e w'' => e = .returned (.int .i64 0) ∧ WrTo (Xb gl gs) w1 w'' g r0 (L ++ tkB (tx, tl, 0))) := Lib.hid fun w' h' => by
    have := write_to h' A B gl fixLs tx (hs.at h').1 (fx_len tx (by omega)).1 (by omega)
    unfold tkB
    rw [if_pos rfl, fx_eq]
    exact this
  have hwx : IntKind.i64.wrap (tx : Int) = (tx : Int) := IntWalk.i64_in _ (by omega)
  clear h hs hb f0
  go_enter Try.func24, Try.ntmps24
  go_wp2_with fail
  go_region_law (first
    | (go_simp; go_at_call 48; refine (HW.out _ (H0.out.fr0 (Fr.drew _ _))).mono ?_; rintro e w2 ⟨rfl, h2⟩; have K := Lib.hid h2; clear h2; dsimp only))
  all_goals
    go_wp2_with fail
    refine bodyPost_ret (results_none rfl _ _ _) rfl ?_
    exact ⟨rfl, K.out⟩

theorem has_length : Has 16 := fun _ _ => by kernel_rfl
theorem has_span : Has 18 := fun _ _ => by kernel_rfl

set_option maxRecDepth 100000 in
set_option maxHeartbeats 2000000 in
theorem token_two {w1 : World} {A B gl gs g : Nat} {L : List Nat} {r0 : Option Nat} (tx tl td : Nat) (w : World) (h : WrTo (Xb gl gs) w1 w g r0 L) (hs : Sets w1 A B gl gs g r0) (h1 : 3 ≤ tl) (h2 : tl ≤ 258) (h3 : 0 < td) (h4 : td ≤ 32768) (hL : L.length + 1000 ≤ 1099511627776) :
    Calls Try.prog 24 #[.pointer (some ⟨g, 0, none⟩), .agg #[.int .u8 tx, .int .i64 tl, .int .i64 td]] w fun e w' => e = .returned (.tuple #[]) ∧ WrTo (Xb gl gs) w1 w' g r0 (L ++ tkB (tx, tl, td)) := by
  obtain ⟨w0, hw0⟩ : ∃ w0, w.alloc (.cells #[.int .u8 (tx : Nat), .int .i64 (tl : Nat), .int .i64 (td : Nat)] 45) = w0 := ⟨_, rfl⟩
  have f0 : Fr S0 w w0 := by rw [← hw0]; exact Fr.alloc _ _ _
  have hb := heap_alloc_new w (.cells #[.int .u8 (tx : Nat), .int .i64 (tl : Nat), .int .i64 (td : Nat)] 45)
  rw [hw0] at hb
  have c1 : w0.cell? ⟨w.heap.size, 1, none⟩ = some (.int .i64 (tl : Nat)) := by simp [World.cell?, hb]
  have c2 : w0.cell? ⟨w.heap.size, 2, none⟩ = some (.int .i64 (td : Nat)) := by simp [World.cell?, hb]
  have k2 := f0.cell (h.cells 0 (.pointer (some ⟨gl, 0, none⟩)) rfl) (fun h => h)
  obtain ⟨r, i1, f1, hr⟩ := h
  have HR : Hid (∀ w' M, WrTo (Xb gl gs) w0 w' g r M → WrTo (Xb gl gs) w1 w' g r0 M) := Lib.hid fun w' M h' => WrTo.step (f1.trans0 f0) hr h'
  have hso := hs.on (i1.fr0 f0) (f1.trans0 f0) hr
  have HSET : Hid (∀ w' M, WrTo (Xb gl gs) w0 w' g r M → SetIs w' A B gl fixLs ∧ SetIs w' A B gs fives) := Lib.hid fun w' M h' => hso.at h'
  have HC : Hid (∀ w' M, WrTo (Xb gl gs) w0 w' g r M → w'.cell? ⟨w.heap.size, 2, none⟩ = some (.int .i64 (td : Nat))) := Lib.hid fun w' M h' => by
    obtain ⟨r', -, f', -⟩ := h'
    refine f'.cell c2 fun e => ?_
    rcases e with e | e
    · have := i1.lt; simp only at e; omega
    · have := i1.rlt _ e; simp only at this; omega
  have H0 : Hid (WrTo (Xb gl gs) w0 w0 g r L) := Lib.hid (i1.fr0 f0).self
  have l1 := lenS_is h1 h2
  have l2 := lenS_le tl
  have l3 := spnS_is h3 h4
  have l4 := spnS_le td
  have l5 := fx_len (lenS tl) (by omega)
  have l6 := fv_len (spnS td) (by omega)
  have l7 := baseN_le (lenS tl) l2.1 l2.2
  have l8 := farN_le (spnS td) l4
  have HN1 : Hid (∀ w', WrTo (Xb gl gs) w0 w' g r L → Calls Try.prog 49 #[.pointer (some ⟨g, 0, none⟩), .int .i64 tl, .func (.func 16) #[] #[], .func (.func 48) #[.pointer (some ⟨gl, 0, none⟩)] #[]] w' fun e w'' => e = .returned (.tuple #[]) ∧ WrTo (Xb gl gs) w0 w'' g r (L ++ numB fixLs (lenS tl) tl (baseN (lenS tl)) (baseC (lenS tl)))) :=
    Lib.hid fun w' h' => number_to 16 tl (lenS tl) (baseC (lenS tl)) (baseN (lenS tl)) gl A B fixLs w' h' has_length (fun w' => length_yes tl w' h1 h2) (fun w' M h => (HSET.out w' M h).1) l5.1 (by omega) (by omega) (by omega) (by omega) (by omega)
  obtain ⟨L2, hL2⟩ : ∃ L2, L ++ numB fixLs (lenS tl) tl (baseN (lenS tl)) (baseC (lenS tl)) = L2 := ⟨_, rfl⟩
  have hl2 : L2.length ≤ L.length + 30 := by rw [← hL2, List.length_append, numB, List.length_append, code_length, grp_length]; omega
  have HN2 : Hid (∀ w', WrTo (Xb gl gs) w0 w' g r L2 → Calls Try.prog 49 #[.pointer (some ⟨g, 0, none⟩), .int .i64 td, .func (.func 18) #[] #[], .func (.func 48) #[.pointer (some ⟨gs, 0, none⟩)] #[]] w' fun e w'' => e = .returned (.tuple #[]) ∧ WrTo (Xb gl gs) w0 w'' g r (L2 ++ numB fives (spnS td) td (farN (spnS td)) (farC (spnS td)))) :=
    Lib.hid fun w' h' => number_to 18 td (spnS td) (farC (spnS td)) (farN (spnS td)) gs A B fives w' h' has_span (fun w' => span_yes td w' h3 h4) (fun w' M h => (HSET.out w' M h).2) (by omega) (by omega) (by omega) (by omega) (by omega) (by omega)
  have HE : Hid (L2 ++ numB fives (spnS td) td (farN (spnS td)) (farC (spnS td)) = L ++ tkB (tx, tl, td)) := Lib.hid (by
    unfold tkB
    rw [if_neg (by simp only; omega), fx_eq, ← List.append_assoc, hL2])
  rw [hL2] at HN1
  rw [HE.out] at HN2
  have hne : ((td : Int) == 0) = false := by rw [beq_eq_false_iff_ne]; omega
  have hmf : ∀ (fn : Fn) (first cap : Array Value) (w : World), (Instr.makeFunc fn first cap).run Try.prog w = .ok (.func fn first cap) w := fun _ _ _ _ => rfl
  clear hs hso hb f0 i1 f1 hr l1 l2 l3 l4 l5 l6 l7 l8 hL2 hl2 HE HSET
  go_enter Try.func24, Try.ntmps24
  go_wp2_with fail
  go_region_law (first
    | (go_simp; go_at_call 49; refine (HN1.out _ (H0.out.fr0 (Fr.drew _ _))).mono ?_; rintro e w2 ⟨rfl, i2⟩; have K := Lib.hid i2; clear i2; dsimp only))
  all_goals
    have d2 := HC.out w2 L2 K.out
    have k3 := K.out.cells 1 (.pointer (some ⟨gs, 0, none⟩)) rfl
    clear c1 c2 k2 hw0 H0 HN1
    go_wp2_with fail
    go_region_law (first
      | (go_simp; go_at_call 49; refine (HN2.out _ (K.out.fr0 (Fr.drew _ _))).mono ?_; rintro e w3 ⟨rfl, i3⟩; have K3 := Lib.hid (HR.out _ _ i3); clear i3; dsimp only))
    all_goals
      go_wp2_with fail
      go_end0
      exact ⟨rfl, K3.out⟩
theorem token_to {w1 : World} {A B gl gs g : Nat} {L : List Nat} {r0 : Option Nat} (t : M.Tk) (w : World) (h : WrTo (Xb gl gs) w1 w g r0 L) (hs : Sets w1 A B gl gs g r0) (ht : TkOk t) (hL : L.length + 1000 ≤ 1099511627776) :
    Calls Try.prog 24 #[.pointer (some ⟨g, 0, none⟩), .agg #[.int .u8 t.1, .int .i64 t.2.1, .int .i64 t.2.2]] w fun e w' => e = .returned (.tuple #[]) ∧ WrTo (Xb gl gs) w1 w' g r0 (L ++ tkB t) := by
  obtain ⟨tx, tl, td⟩ := t
  rcases ht with ⟨h1, h2⟩ | ⟨h1, h2, h3, h4⟩
  · obtain rfl : td = 0 := h1
    exact token_one tx tl w h hs h2 hL
  · exact token_two tx tl td w h hs h1 h2 h3 h4 hL

set_option maxRecDepth 100000 in
set_option maxHeartbeats 2000000 in
theorem close_any {w1 : World} {A B gl gs g : Nat} {L : List Nat} {r0 : Option Nat} (w : World) (h : WrTo (Xb gl gs) w1 w g r0 L) (hs : Sets w1 A B gl gs g r0) (hL : L.length + 1000 ≤ 1099511627776) :
    Calls Try.prog 25 #[.pointer (some ⟨g, 0, none⟩)] w fun e w' => ∃ v w2, e = .returned v ∧ WrTo (Xb gl gs) w1 w2 g r0 (L ++ code (cod fixLs' 256) (len fixLs' 256)) ∧ Fr S0 w2 w' ∧ RowNew w2 w' v (byt (L ++ code (cod fixLs' 256) (len fixLs' 256))) := by
  have k2 := h.cells 0 (.pointer (some ⟨gl, 0, none⟩)) rfl
  have H := Lib.hid h
  have l5 := fx_len 256 (by omega)
  obtain ⟨M, hM⟩ : ∃ M, L ++ code (cod fixLs' 256) (len fixLs' 256) = M := ⟨_, rfl⟩
  have hMl : M.length ≤ L.length + 9 := by rw [← hM, List.length_append, code_length, fx_eq]; omega
  have HW : Hid (∀ w', WrTo (Xb gl gs) w1 w' g r0 L → Calls Try.prog 48 #[.pointer (some ⟨gl, 0, none⟩), .pointer (some ⟨g, 0, none⟩), .int .i64 256] w' fun e w'' => e = .returned (.int .i64 0) ∧ WrTo (Xb gl gs) w1 w'' g r0 M) := Lib.hid fun w' h' => by
    rw [← hM, fx_eq]
    exact write_to h' A B gl fixLs 256 (hs.at h').1 l5.1 (by omega)
  have HB := Lib.hid (fun w' (h' : WrTo (Xb gl gs) w1 w' g r0 M) => bytes_to h' (by omega))
  rw [hM]
  clear h hs l5 hM hMl hL
  go_enter Try.func25, Try.ntmps25
  go_wp2_with fail
  go_region_law (first
    | (go_simp; go_at_call 48; refine (HW.out _ (H.out.fr0 (Fr.drew _ _))).mono ?_; rintro e w2 ⟨rfl, h2⟩; have K := Lib.hid h2; clear h2; dsimp only))
  all_goals
    have K1 := Lib.hid (HB.out _ K.out)
    go_wp2_with fail
    refine K1.out.mono ?_
    rintro e w3 ⟨v, rfl, f3, hv⟩
    have K3 := Lib.hid hv
    have K4 := Lib.hid f3
    clear hv f3 K1
    go_wp2_with fail
    go_ret
    exact ⟨v, w2, rfl, K.out, K4.out, K3.out⟩
end Go.Proofs.Ytfibhgohenkfbaa
