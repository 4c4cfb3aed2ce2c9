/- Many keys, counted one behind the other. -/
import Derived.Test.YtocdjklgfmkbfaaDnMath
namespace Go.Proofs.Ytocdjklgfmkbfaa

/-- a list whose keys lie near 0 -/
structure Near (l : List Pr) (B : Nat) : Prop where
  srt : Srt l
  pos : Pos l
  key : ∀ x ∈ l, -3999 ≤ x.1 ∧ x.1 ≤ 3999
  tot : ltot l ≤ B
theorem Near.nil : Near [] 0 := ⟨srt_nil, pos_nil, (fun _ h => (by cases h)), Nat.le_refl _⟩
theorem Near.mono {l : List Pr} {B C : Nat} (h : Near l B) (k : B ≤ C) : Near l C := ⟨h.srt, h.pos, h.key, Nat.le_trans h.tot k⟩
theorem Near.wid {l : List Pr} {B : Nat} (h : Near l B) {k : Int} (h1 : -3999 ≤ k) (h2 : k ≤ 3999) : wid l k ≤ 8192 := by
  by_cases hl : l = []
  · subst hl
    rw [wid_nil]
    decide
  · obtain ⟨a, b, e⟩ := ends_nil_or h.srt h.pos hl
    obtain ⟨x, hx, ex⟩ := cnt_in e.fst
    obtain ⟨y, hy, ey⟩ := cnt_in e.lst
    have := h.key x hx
    have := h.key y hy
    rw [wid_ends h.srt e]
    omega
theorem Near.err {l : List Pr} {B n : Nat} (h : Near l B) {k : Int} (h1 : -3999 ≤ k) (h2 : k ≤ 3999) (h3 : B + n ≤ 4611686018427387904) : addE l k n = if n = 0 then 4 else 0 := by
  have hw := h.wid h1 h2
  have ht := h.tot
  unfold addE
  by_cases hn : n = 0
  · rw [if_pos hn, if_pos hn]
  · rw [if_neg hn, if_neg hn, if_neg (by omega), if_neg (by omega), if_neg (by omega)]
theorem Near.add {l : List Pr} {B n : Nat} (h : Near l B) {k : Int} (h1 : -3999 ≤ k) (h2 : k ≤ 3999) (h3 : B + n ≤ 4611686018427387904) :
    Near (addL l k n) (B + n) ∧ ∀ j, cnt (addL l k n) j = cnt l j + if j = k then n else 0 := by
  have e := h.err h1 h2 h3
  unfold addL
  by_cases hn : n = 0
  · rw [e, if_pos hn, if_neg (by decide)]
    subst hn
    exact ⟨h, fun j => by split <;> rfl⟩
  · rw [e, if_neg hn, if_pos rfl]
    refine ⟨⟨put_srt h.srt, put_pos h.pos (by omega), fun x hx => ?_, by rw [tot_put]; have := h.tot; omega⟩, fun j => cnt_put k n j h.srt⟩
    rcases put_mem hx with ex | hx
    · omega
    · exact h.key x hx
/-- what is counted of a list, one behind the other -/
def adds (f : Pr → Pr) (a l : List Pr) : List Pr := l.foldl (fun a x => addL a (f x).1 (f x).2) a
theorem adds_nil (f : Pr → Pr) (a : List Pr) : adds f a [] = a := rfl
theorem adds_snoc (f : Pr → Pr) (a l : List Pr) (x : Pr) : adds f a (l ++ [x]) = addL (adds f a l) (f x).1 (f x).2 := by simp [adds]
theorem adds_take (f : Pr → Pr) (a l : List Pr) (i : Nat) (h : i < l.length) : adds f a (l.take (i + 1)) = addL (adds f a (l.take i)) (f l[i]).1 (f l[i]).2 := by
  rw [List.take_succ_eq_append_getElem h, adds_snoc]
/-- how much is counted of a key -/
def much (f : Pr → Pr) (l : List Pr) (j : Int) : Nat := (l.map fun x => if j = (f x).1 then (f x).2 else 0).sum
theorem much_rev (f : Pr → Pr) (l : List Pr) (j : Int) : much f l.reverse j = much f l j := by simp [much]
structure Small (f : Pr → Pr) (C : Nat) : Prop where
  lo : ∀ x, -3999 ≤ (f x).1
  hi : ∀ x, (f x).1 ≤ 3999
  n : ∀ x, (f x).2 ≤ C
theorem adds_near {f : Pr → Pr} {C : Nat} (hf : Small f C) : ∀ (l a : List Pr) (B : Nat), Near a B → B + C * l.length ≤ 4611686018427387904 →
    Near (adds f a l) (B + C * l.length) ∧ ∀ j, cnt (adds f a l) j = cnt a j + much f l j
  | [], a, B, h, _ => ⟨by simpa [adds] using h, fun j => by simp [adds, much]⟩
  | x :: l, a, B, h, hB => by
    have hn := hf.n x
    rw [List.length_cons, Nat.mul_add, Nat.mul_one] at hB ⊢
    obtain ⟨h1, h2⟩ := h.add (k := (f x).1) (n := (f x).2) (hf.lo x) (hf.hi x) (by omega)
    obtain ⟨h3, h4⟩ := adds_near hf l _ _ (h1.mono (show B + (f x).2 ≤ B + C by omega)) (by omega)
    refine ⟨h3.mono (by omega), fun j => ?_⟩
    rw [show adds f a (x :: l) = adds f (addL a (f x).1 (f x).2) l from rfl, h4, h2]
    simp only [much, List.map_cons, List.sum_cons]
    omega
theorem Near.same {l m : List Pr} {B C : Nat} (h : Near l B) (k : Near m C) (e : ∀ j, cnt l j = cnt m j) : l = m := ext_cnt h.srt k.srt h.pos k.pos e
theorem adds_err {f : Pr → Pr} {C : Nat} (hf : Small f C) (l : List Pr) (i : Nat) (h : i < l.length) (hl : C * l.length ≤ 4611686018427387904) :
    addE (adds f [] (l.take i)) (f l[i]).1 (f l[i]).2 = if (f l[i]).2 = 0 then 4 else 0 := by
  have h1 : C * (l.take i).length ≤ C * i := Nat.mul_le_mul_left _ (by rw [List.length_take]; omega)
  have h2 : C * i + C ≤ C * l.length := by rw [← Nat.mul_succ]; exact Nat.mul_le_mul_left _ h
  have := (adds_near hf (l.take i) [] 0 Near.nil (by omega)).1
  have hn := hf.n l[i]
  exact this.err (hf.lo _) (hf.hi _) (by omega)

/-- the keys and the counts that the laws count -/
def ord (x : Pr) : Pr := (x.1.tmod 4000, 1 + x.2 % 1000)
def tak (x : Pr) : Pr := (x.1.tmod 4000, x.2 % 100000)
theorem tmod_near (k : Int) : -3999 ≤ k.tmod 4000 ∧ k.tmod 4000 ≤ 3999 := by
  have h1 := Int.lt_tmod_of_pos k (show (0 : Int) < 4000 by decide)
  have h2 := Int.tmod_lt_of_pos k (show (0 : Int) < 4000 by decide)
  omega
theorem ord_small : Small ord 1000 := ⟨fun x => (tmod_near x.1).1, fun x => (tmod_near x.1).2, fun x => by unfold ord; simp only; omega⟩
theorem tak_small : Small tak 100000 := ⟨fun x => (tmod_near x.1).1, fun x => (tmod_near x.1).2, fun x => by unfold tak; simp only; omega⟩
end Go.Proofs.Ytocdjklgfmkbfaa
