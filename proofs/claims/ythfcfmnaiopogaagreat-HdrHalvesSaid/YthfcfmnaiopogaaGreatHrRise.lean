/- The landed histograms: rising steps; Linear, Doubling. -/
import Derived.Test.YthfcfmnaiopogaaGreatHrSt
namespace Go.Proofs.YthfcfmnaiopogaaGreat
open Go.RowKit Go.ChangeMaps

/-- where steps end, one more than the value that they go to -/
def ends (first : Nat) (nx : Nat → Nat) : Nat → Nat
  | 0 => first
  | j + 1 => min (nx (ends first nx j)) 9223372036854775808
theorem ends_bd {first : Nat} {nx : Nat → Nat} (h1 : 1 ≤ first) (h2 : first ≤ 9223372036854775808) (hn : ∀ e, 1 ≤ e → e ≤ 9223372036854775808 → 1 ≤ nx e) : ∀ j, 1 ≤ ends first nx j ∧ ends first nx j ≤ 9223372036854775808
  | 0 => ⟨h1, h2⟩
  | j + 1 => by
    have ih := ends_bd h1 h2 hn j
    have := hn _ ih.1 ih.2
    simp only [ends]
    omega
theorem cell_of {w : World} {b : Nat} {v : Value} {t : TypeId} (h : w.heap[b]? = some (.cells #[v] t (0, 0))) : w.cell? ⟨b, 0, none⟩ = some v ∧ w.frozen? ⟨b, 0, none⟩ = false := by
  constructor <;> simp [World.cell?, World.frozen?, h]
section
variable (N : Nat) (q : Value) (nx : Nat → Nat)
set_option maxRecDepth 100000 in
set_option maxHeartbeats 400000 in
/-- one end, and the next one -/
theorem rise_one (b9 b7 E : Nat) (W : World) (h9 : W.heap[b9]? = some (.cells #[.int .u64 (E : Nat)] 22 (0, 0))) (h7 : W.heap[b7]? = some (.cells #[.func (.func N) #[] #[q]] 133 (0, 0))) (hE1 : 1 ≤ E) (hE : E ≤ 9223372036854775808) (hN : Has N)
    (hnx : ∀ W', Fr S0 W W' → Calls Tryz.prog N #[.int .u64 (E : Nat), q] W' fun e w' => e = .returned (.int .u64 (nx E : Nat)) ∧ Fr S0 W' w') :
    Calls Tryz.prog 119 #[.pointer (some ⟨b9, 0, none⟩), .pointer (some ⟨b7, 0, none⟩)] W fun e w' => e = .returned (.int .i64 (E - 1 : Nat)) ∧ w'.heap[b9]? = some (.cells #[.int .u64 (min (nx E) 9223372036854775808 : Nat)] 22 (0, 0)) ∧ Fr (· = b9) W w' := by
  obtain ⟨c9, -⟩ := cell_of h9
  obtain ⟨c7, -⟩ := cell_of h7
  have HN := Lib.hid hnx
  have H9 := Lib.hid h9
  have hcf := fun W => hN #[.int .u64 (E : Nat), q] W
  obtain ⟨X, eX⟩ : ∃ X, nx E = X := ⟨_, rfl⟩
  obtain ⟨V, eV⟩ : ∃ V, E - 1 = V := ⟨_, rfl⟩
  obtain ⟨Y, eY⟩ : ∃ Y, min X 9223372036854775808 = Y := ⟨_, rfl⟩
  rw [eX] at HN
  rw [eX, eV, eY]
  have e1 : (E : Int) - 1 = (V : Int) := by omega
  have w1 : IntKind.u64.wrap (V : Int) = (V : Int) := by rw [IntKind.wrap_u64]; omega
  have w2 : IntKind.i64.wrap (V : Int) = (V : Int) := by rw [IntKind.wrap_i64]; omega
  have e2 : min (X : Int) 9223372036854775808 = (Y : Int) := by omega
  have e3 : (if (9223372036854775808 : Int) < (X : Int) then 9223372036854775808 else (X : Int)) = (Y : Int) := by split <;> omega
  clear h9 h7 hnx hN eX eV eY
  go_enter Tryz.func119, Tryz.ntmps119
  go_wp2_with fail
  refine (HN.out _ (Fr.refl _ _)).mono ?_
  rintro e w1 ⟨rfl, f1⟩
  have F1 := Lib.hid f1
  have row1 := f1.row H9.out fun h => h
  obtain ⟨d9, z9⟩ := cell_of row1
  have HR1 := Lib.hid row1
  clear f1 row1 c9 c7
  go_wp2_with fail
  go_ret
  refine ⟨rfl, ?_, (F1.out.mono (fun _ _ h => h.elim)).trans (fr_cell _) (fun _ _ h => h)⟩
  have h1 := heap_setCell_same w1 b9 0 _ _ (.int .u64 (Y : Nat)) HR1.out
  exact h1
end
theorem rising1_has : Has 119 := fun _ _ => by kernel_rfl
theorem upt_up (l : List Pr) {j k : Int} (h : j ≤ k) : upt l j ≤ upt l k := by
  induction l with
  | nil => exact Nat.le_refl _
  | cons x r ih => rw [upt, upt]; split <;> split <;> omega
theorem cumU_up {M : Hm} (hg : M.Good) {tv : Nat → Int} (h0 : ∀ j, 0 ≤ tv j ∧ tv j < 9223372036854775808) (hm : ∀ j, tv j ≤ tv (j + 1)) : ∀ j, cumU M tv j ≤ cumU M tv (j + 1)
  | 0 => Nat.zero_le _
  | j + 1 => upt_up _ (by
    have h1 := h0 j
    have h2 := h0 (j + 1)
    have h3 := hm j
    have := idx_mono M.u M.m (tv j).toNat (tv (j + 1)).toNat hg.m1 (by omega) (by omega)
    unfold Hm.cell
    omega)
/-- the values that steps with these ends go to -/
def tos (first : Nat) (nx : Nat → Nat) (j : Nat) : Int := (ends first nx j - 1 : Nat)
section
variable (g h gt J N first : Nat) (M : Hm) (w : World) (q : Value) (nx : Nat → Nat)
set_option maxRecDepth 100000 in
set_option maxHeartbeats 400000 in
theorem xrising_any (s : HistIs w g h M) (tb : TabIs w gt M.l) (h1 : 1 ≤ first) (h2 : first < 9223372036854775808) (hN : Has N)
    (hnx : ∀ W e, 1 ≤ e → e ≤ 9223372036854775808 → Fr S0 w W → Calls Tryz.prog N #[.int .u64 (e : Nat), q] W fun r w' => r = .returned (.int .u64 (nx e : Nat)) ∧ Fr S0 W w')
    (hup : ∀ e, 1 ≤ e → e ≤ 9223372036854775808 → e ≤ nx e) (hJ : J ≤ 100000) (hend : cumU M (tos first nx) J = ltot M.l) :
    Calls Tryz.prog 84 #[.pointer (some ⟨g, 0, none⟩), .pointer (some ⟨gt, 0, none⟩), .int .i64 (first : Nat), .func (.func N) #[] #[q]] w fun e w' => ∃ n p c, e = .returned (.slice p n c) ∧ n ≤ J ∧ StI w' p (stL M (tos first nx) n) ∧ (∀ i, i < n → cumU M (tos first nx) i < ltot M.l) ∧ cumU M (tos first nx) n = ltot M.l ∧ Fr S0 w w' := by
  have hb := ends_bd h1 (Nat.le_of_lt h2) (nx := nx) fun e h3 h4 => Nat.le_trans h3 (hup e h3 h4)
  have hto : ∀ j, 0 ≤ tos first nx j ∧ tos first nx j < 9223372036854775808 := fun j => by have := hb j; unfold tos; omega
  have hmo : ∀ j, tos first nx j ≤ tos first nx (j + 1) := fun j => by
    have h3 := hb j
    have h4 := hup _ h3.1 h3.2
    unfold tos
    simp only [ends]
    omega
  have hcu := cumU_up s.good hto hmo
  obtain ⟨b7, e7⟩ : ∃ b, w.heap.size = b := ⟨_, rfl⟩
  have H7 := Lib.hid e7
  have HST : Hid (∀ W, W.heap[b7]? = some (.cells #[.func (.func N) #[] #[q]] 133 (0, 0)) → W.heap[b7 + 1]? = some (.cells #[.int .u64 (first : Nat)] 22 (0, 0)) → Fr S0 w W → W.heap.size = b7 + 2 → Calls Tryz.prog 89 #[.pointer (some ⟨g, 0, none⟩), .pointer (some ⟨gt, 0, none⟩), .func (.func 119) #[] #[.pointer (some ⟨b7 + 1, 0, none⟩), .pointer (some ⟨b7, 0, none⟩)]] W fun e w' => ∃ n p c, e = .returned (.slice p n c) ∧ n ≤ J ∧ StI w' p (stL M (tos first nx) n) ∧ (∀ i, i < n → cumU M (tos first nx) i < ltot M.l) ∧ cumU M (tos first nx) n = ltot M.l ∧ Fr S0 w w') := Lib.hid fun W hw7 hw9 f hsz => by
    refine (xsteps_any g h gt 119 J M W (fun b => b = b7 + 1) #[.pointer (some ⟨b7 + 1, 0, none⟩), .pointer (some ⟨b7, 0, none⟩)] (tos first nx) (fun j W' => W'.heap[b7 + 1]? = some (.cells #[.int .u64 (ends first nx j : Nat)] 22 (0, 0)) ∧ W'.heap[b7]? = some (.cells #[.func (.func N) #[] #[q]] 133 (0, 0)) ∧ Fr S0 w W')
      (fun W' f' => ?_) (fun W' f' => ?_) (fun b hb => ?_) ⟨hw9, hw7, f⟩ (fun j W1 W' hI f' => ?_) rising1_has (fun j W1 hj hI f' => ?_) (fun j _ => hto j) hJ (fun j _ => hcu j) hend).mono ?_
    · exact s.fr0 (f.trans f' fun j hj e => by omega)
    · exact tb.fr0 (f.trans f' fun j hj e => by omega)
    · omega
    · exact ⟨f'.row hI.1 (by omega), f'.row hI.2.1 (by omega), hI.2.2.trans f' fun j hj e => by omega⟩
    · refine (rise_one N q nx (b7 + 1) b7 (ends first nx j) W1 hI.1 hI.2.1 (hb j).1 (hb j).2 hN fun W' f2 => hnx W' _ (hb j).1 (hb j).2 (hI.2.2.trans0 f2)).mono ?_
      rintro e w' ⟨rfl, r9, f2⟩
      exact ⟨by unfold tos; rfl, ⟨r9, f2.row hI.2.1 (by omega), hI.2.2.trans f2 fun j hj e => by omega⟩, f2⟩
    · rintro e w' ⟨n, p, c, rfl, h3, h4, h5, h6, f2⟩
      exact ⟨n, p, c, rfl, h3, h4, h5, h6, f.trans f2 fun j hj e => by omega⟩
  have hmf : ∀ W, (Instr.makeFunc (.func 119) #[.pointer (some ⟨b7 + 1, 0, none⟩), .pointer (some ⟨b7, 0, none⟩)] #[]).run Tryz.prog W = .ok (.func (.func 119) #[.pointer (some ⟨b7 + 1, 0, none⟩), .pointer (some ⟨b7, 0, none⟩)] #[]) W := fun _ => by rfl
  have w1 : IntKind.u64.wrap (first : Int) = (first : Int) := by rw [IntKind.wrap_u64]; omega
  clear s tb h1 hN hnx hup hJ hend hb hto hmo hcu e7
  go_enter Tryz.func84, Tryz.ntmps84
  go_wp2_with fail
  rw [H7.out]
  refine (HST.out _ ?_ ?_ ?_ ?_).mono ?_
  · rw [← H7.out]
    exact (Fr.alloc S0 _ _).row (heap_alloc_new w _) fun h => h
  · have h3 := heap_alloc_new (w.alloc (.cells #[.func (.func N) #[] #[q]] 133)) (.cells #[.int .u64 (first : Nat)] 22)
    rw [size_alloc, H7.out] at h3
    exact h3
  · exact (Fr.alloc S0 _ _).trans0 (Fr.alloc S0 _ _)
  · rw [size_alloc, size_alloc, H7.out]
  · rintro e w2 ⟨n, p, c, rfl, h3⟩
    have H3 := Lib.hid h3
    clear h3
    go_wp2_with fail
    go_ret
    exact ⟨n, p, c, rfl, H3.out⟩
end
end Go.Proofs.YthfcfmnaiopogaaGreat
