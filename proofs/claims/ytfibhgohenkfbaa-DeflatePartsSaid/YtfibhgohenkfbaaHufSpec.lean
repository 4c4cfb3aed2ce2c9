/- What stands where a set of codes is. -/
import Derived.Test.YtfibhgohenkfbaaHufMath
import Derived.Test.YtfibhgohenkfbaaBitRd
namespace Go.Proofs.Ytfibhgohenkfbaa
open Go.RowKit

/-- block g has a set's cells: three slices, of each length how many, the least, how many are ahead, and the greatest length -/
structure SetRow (w : World) (g : Nat) (A B C : Value) (m f a : Nat → Nat) (e : Nat) : Prop where
  ex : ∃ cs, w.heap[g]? = some (.cells cs 101 (0, 0)) ∧ cs.size = 52 ∧ cs[0]? = some A ∧ cs[1]? = some B ∧ cs[2]? = some C ∧ cs[51]? = some (.int .i64 (e : Nat)) ∧
    ∀ n, n < 16 → cs[3 + n * 3]? = some (.int .i64 (m n : Nat)) ∧ cs[3 + n * 3 + 1]? = some (.int .u32 (f n : Nat)) ∧ cs[3 + n * 3 + 2]? = some (.int .i64 (a n : Nat))

section
variable {w : World} {g : Nat} {A B C : Value} {m f a : Nat → Nat} {e : Nat}
theorem SetRow.c0 (h : SetRow w g A B C m f a e) : w.cell? ⟨g, 0, none⟩ = some A := by
  obtain ⟨cs, h1, -, h2, -⟩ := h.ex
  simp only [World.cell?, h1]; exact h2
theorem SetRow.c1 (h : SetRow w g A B C m f a e) : w.cell? ⟨g, 1, none⟩ = some B := by
  obtain ⟨cs, h1, -, -, h2, -⟩ := h.ex
  simp only [World.cell?, h1]; exact h2
theorem SetRow.c2 (h : SetRow w g A B C m f a e) : w.cell? ⟨g, 2, none⟩ = some C := by
  obtain ⟨cs, h1, -, -, -, h2, -⟩ := h.ex
  simp only [World.cell?, h1]; exact h2
theorem SetRow.ce (h : SetRow w g A B C m f a e) : w.cell? ⟨g, 51, none⟩ = some (.int .i64 (e : Nat)) := by
  obtain ⟨cs, h1, -, -, -, -, h2, -⟩ := h.ex
  simp only [World.cell?, h1]; exact h2
theorem SetRow.cm (h : SetRow w g A B C m f a e) (n : Nat) (hn : n < 16) : w.cell? ⟨g, 3 + n * 3, none⟩ = some (.int .i64 (m n : Nat)) := by
  obtain ⟨cs, h1, -, -, -, -, -, h2⟩ := h.ex
  simp only [World.cell?, h1]; exact (h2 n hn).1
theorem SetRow.cf (h : SetRow w g A B C m f a e) (n : Nat) (hn : n < 16) : w.cell? ⟨g, 3 + n * 3 + 1, none⟩ = some (.int .u32 (f n : Nat)) := by
  obtain ⟨cs, h1, -, -, -, -, -, h2⟩ := h.ex
  simp only [World.cell?, h1]; exact (h2 n hn).2.1
theorem SetRow.ca (h : SetRow w g A B C m f a e) (n : Nat) (hn : n < 16) : w.cell? ⟨g, 3 + n * 3 + 2, none⟩ = some (.int .i64 (a n : Nat)) := by
  obtain ⟨cs, h1, -, -, -, -, -, h2⟩ := h.ex
  simp only [World.cell?, h1]; exact (h2 n hn).2.2
theorem SetRow.fz (h : SetRow w g A B C m f a e) (k : Nat) : w.frozen? ⟨g, k, none⟩ = false := by
  obtain ⟨cs, h1, -⟩ := h.ex
  simp [World.frozen?, h1]
theorem SetRow.fr {S : Nat → Prop} {w' : World} (h : SetRow w g A B C m f a e) (hf : Fr S w w') (hs : ¬ S g) : SetRow w' g A B C m f a e := by
  obtain ⟨cs, h1, h2⟩ := h.ex
  exact ⟨cs, hf.row h1 hs, h2⟩
theorem SetRow.lt (h : SetRow w g A B C m f a e) : g < w.heap.size := by
  obtain ⟨cs, h1, h2⟩ := h.ex
  exact (Array.getElem?_eq_some_iff.1 h1).1
end
/-- f with another value at n -/
def upd (f : Nat → Nat) (n v : Nat) : Nat → Nat := fun k => if k = n then v else f k
theorem upd_at (f : Nat → Nat) (n v : Nat) : upd f n v n = v := by simp [upd]
theorem upd_ne (f : Nat → Nat) {n k : Nat} (v : Nat) (h : k ≠ n) : upd f n v k = f k := by simp [upd, h]

section
variable {w : World} {g : Nat} {A B C : Value} {m f a : Nat → Nat} {e : Nat}
theorem set_cells {cs : Array Value} {k i : Nat} {v : Value} {o : Option Value} (h : cs[i]? = o) (hk : k ≠ i) : (cs.setIfInBounds k v)[i]? = o := by
  rw [Array.getElem?_setIfInBounds, if_neg hk]; exact h
theorem SetRow.s1 (h : SetRow w g A B C m f a e) (x : Value) : SetRow (w.setCell ⟨g, 1, none⟩ x) g A x C m f a e := by
  obtain ⟨cs, h1, h2, h3, h4, h5, h6, h7⟩ := h.ex
  refine ⟨_, heap_setCell_same w g 1 _ _ _ h1, by simp [h2], set_cells h3 (by decide), by simp [h2], set_cells h5 (by decide), set_cells h6 (by decide), fun n hn => ?_⟩
  obtain ⟨q1, q2, q3⟩ := h7 n hn
  exact ⟨set_cells q1 (by omega), set_cells q2 (by omega), set_cells q3 (by omega)⟩
theorem SetRow.s2 (h : SetRow w g A B C m f a e) (x : Value) : SetRow (w.setCell ⟨g, 2, none⟩ x) g A B x m f a e := by
  obtain ⟨cs, h1, h2, h3, h4, h5, h6, h7⟩ := h.ex
  refine ⟨_, heap_setCell_same w g 2 _ _ _ h1, by simp [h2], set_cells h3 (by decide), set_cells h4 (by decide), by simp [h2], set_cells h6 (by decide), fun n hn => ?_⟩
  obtain ⟨q1, q2, q3⟩ := h7 n hn
  exact ⟨set_cells q1 (by omega), set_cells q2 (by omega), set_cells q3 (by omega)⟩
theorem SetRow.se (h : SetRow w g A B C m f a e) (x : Nat) : SetRow (w.setCell ⟨g, 51, none⟩ (.int .i64 (x : Nat))) g A B C m f a x := by
  obtain ⟨cs, h1, h2, h3, h4, h5, h6, h7⟩ := h.ex
  refine ⟨_, heap_setCell_same w g 51 _ _ _ h1, by simp [h2], set_cells h3 (by decide), set_cells h4 (by decide), set_cells h5 (by decide), by simp [h2], fun n hn => ?_⟩
  obtain ⟨q1, q2, q3⟩ := h7 n hn
  exact ⟨set_cells q1 (by omega), set_cells q2 (by omega), set_cells q3 (by omega)⟩
theorem set_here {cs : Array Value} {k : Nat} {v : Value} (h : k < cs.size) : (cs.setIfInBounds k v)[k]? = some v := by simp [h]
theorem SetRow.sm (h : SetRow w g A B C m f a e) (k : Nat) (hk : k < 16) (x : Nat) : SetRow (w.setCell ⟨g, 3 + k * 3, none⟩ (.int .i64 (x : Nat))) g A B C (upd m k x) f a e := by
  obtain ⟨cs, h1, h2, h3, h4, h5, h6, h7⟩ := h.ex
  refine ⟨_, heap_setCell_same w g _ _ _ _ h1, by simp [h2], set_cells h3 (by omega), set_cells h4 (by omega), set_cells h5 (by omega), set_cells h6 (by omega), fun n hn => ?_⟩
  obtain ⟨q1, q2, q3⟩ := h7 n hn
  refine ⟨?_, set_cells q2 (by omega), set_cells q3 (by omega)⟩
  by_cases q : n = k
  · subst q; rw [upd_at]; exact set_here (by omega)
  · rw [upd_ne m x q]; exact set_cells q1 (by omega)
theorem SetRow.sf (h : SetRow w g A B C m f a e) (k : Nat) (hk : k < 16) (x : Nat) : SetRow (w.setCell ⟨g, 3 + k * 3 + 1, none⟩ (.int .u32 (x : Nat))) g A B C m (upd f k x) a e := by
  obtain ⟨cs, h1, h2, h3, h4, h5, h6, h7⟩ := h.ex
  refine ⟨_, heap_setCell_same w g _ _ _ _ h1, by simp [h2], set_cells h3 (by omega), set_cells h4 (by omega), set_cells h5 (by omega), set_cells h6 (by omega), fun n hn => ?_⟩
  obtain ⟨q1, q2, q3⟩ := h7 n hn
  refine ⟨set_cells q1 (by omega), ?_, set_cells q3 (by omega)⟩
  by_cases q : n = k
  · subst q; rw [upd_at]; exact set_here (by omega)
  · rw [upd_ne f x q]; exact set_cells q2 (by omega)
theorem SetRow.sa (h : SetRow w g A B C m f a e) (k : Nat) (hk : k < 16) (x : Nat) : SetRow (w.setCell ⟨g, 3 + k * 3 + 2, none⟩ (.int .i64 (x : Nat))) g A B C m f (upd a k x) e := by
  obtain ⟨cs, h1, h2, h3, h4, h5, h6, h7⟩ := h.ex
  refine ⟨_, heap_setCell_same w g _ _ _ _ h1, by simp [h2], set_cells h3 (by omega), set_cells h4 (by omega), set_cells h5 (by omega), set_cells h6 (by omega), fun n hn => ?_⟩
  obtain ⟨q1, q2, q3⟩ := h7 n hn
  refine ⟨set_cells q1 (by omega), set_cells q2 (by omega), ?_⟩
  by_cases q : n = k
  · subst q; rw [upd_at]; exact set_here (by omega)
  · rw [upd_ne a x q]; exact set_cells q3 (by omega)
theorem SetRow.congr {m' f' a' : Nat → Nat} {e' : Nat} (h : SetRow w g A B C m f a e) (hm : ∀ n, n < 16 → m n = m' n) (hf : ∀ n, n < 16 → f n = f' n) (ha : ∀ n, n < 16 → a n = a' n) (he : e = e') : SetRow w g A B C m' f' a' e' := by
  obtain ⟨cs, h1, h2, h3, h4, h5, h6, h7⟩ := h.ex
  exact ⟨cs, h1, h2, h3, h4, h5, he ▸ h6, fun n hn => by rw [← hm n hn, ← hf n hn, ← ha n hn]; exact h7 n hn⟩
end

set_option maxRecDepth 100000 in
set_option maxHeartbeats 400000 in
theorem bare_any (g : Nat) {A B C : Value} {m f a : Nat → Nat} {e : Nat} (w : World) (h : SetRow w g A B C m f a e) :
    Calls Try.prog 79 #[.pointer (some ⟨g, 0, none⟩)] w fun r w' => r = .returned (.bool (decide (e = 0))) ∧ w = w' := by
  have h1 := h.ce
  have E : Hid (((e : Int) == 0) = decide (e = 0)) := Lib.hid (by rw [Bool.eq_iff_iff, beq_iff_eq, decide_eq_true_iff]; omega)
  clear h
  go_enter Try.func79, Try.ntmps79
  go_wp2
  go_ret
  exact ⟨by rw [← E.out]; rfl, rfl⟩

/-- just one code, of one bit -/
def lonB (e k : Nat) : Bool := decide (e = 1 ∧ k = 1)
set_option maxRecDepth 100000 in
set_option maxHeartbeats 400000 in
theorem lone_any (g : Nat) {A B C : Value} {m f a : Nat → Nat} {e : Nat} (w : World) (h : SetRow w g A B C m f a e) :
    Calls Try.prog 78 #[.pointer (some ⟨g, 0, none⟩)] w fun r w' => r = .returned (.bool (lonB e (m 1))) ∧ w = w' := by
  have h1 := h.ce
  have h2 := h.cm 1 (by decide)
  clear h
  by_cases he : e = 1
  · subst he
    obtain ⟨M, hM⟩ : ∃ M, m 1 = M := ⟨_, rfl⟩
    rw [hM] at h2 ⊢
    have E : Hid (((M : Int) == 1) = lonB 1 M) := Lib.hid (by unfold lonB; rw [Bool.eq_iff_iff, beq_iff_eq, decide_eq_true_iff]; omega)
    clear hM
    go_enter Try.func78, Try.ntmps78
    go_wp2
    go_ret
    exact ⟨by rw [← E.out]; rfl, rfl⟩
  · have E : Hid (lonB e (m 1) = false) := Lib.hid (decide_eq_false fun q => he q.1)
    have hb : ((e : Int) == 1) = false := by rw [beq_eq_false_iff_ne]; omega
    clear he
    go_enter Try.func78, Try.ntmps78
    go_wp2
    go_ret
    exact ⟨by rw [E.out]; rfl, rfl⟩
end Go.Proofs.Ytfibhgohenkfbaa
