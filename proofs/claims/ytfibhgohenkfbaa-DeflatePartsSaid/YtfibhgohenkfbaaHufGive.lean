/- Each symbol is given its code. -/
import Derived.Test.YtfibhgohenkfbaaHufCount
import Derived.Laws.MakeOwn
import Derived.BigRegion
import Derived.Laws.OwnMore
namespace Go.Proofs.Ytfibhgohenkfbaa
open Go.RowKit

/-- block g has shelves alone -/
structure ShRow (w : World) (g : Nat) (m f a : Nat → Nat) : Prop where
  ex : ∃ cs, w.heap[g]? = some (.cells cs 99 (0, 0)) ∧ cs.size = 48 ∧
    ∀ n, n < 16 → cs[n * 3]? = some (.int .i64 (m n : Nat)) ∧ cs[n * 3 + 1]? = some (.int .u32 (f n : Nat)) ∧ cs[n * 3 + 2]? = some (.int .i64 (a n : Nat))
section
variable {w : World} {g : Nat} {m f a : Nat → Nat}
theorem ShRow.cm (h : ShRow w g m f a) (n : Nat) (hn : n < 16) : w.cell? ⟨g, n * 3, none⟩ = some (.int .i64 (m n : Nat)) := by
  obtain ⟨cs, h1, -, h2⟩ := h.ex
  simp only [World.cell?, h1]; exact (h2 n hn).1
theorem ShRow.cf (h : ShRow w g m f a) (n : Nat) (hn : n < 16) : w.cell? ⟨g, n * 3 + 1, none⟩ = some (.int .u32 (f n : Nat)) := by
  obtain ⟨cs, h1, -, h2⟩ := h.ex
  simp only [World.cell?, h1]; exact (h2 n hn).2.1
theorem ShRow.ca (h : ShRow w g m f a) (n : Nat) (hn : n < 16) : w.cell? ⟨g, n * 3 + 2, none⟩ = some (.int .i64 (a n : Nat)) := by
  obtain ⟨cs, h1, -, h2⟩ := h.ex
  simp only [World.cell?, h1]; exact (h2 n hn).2.2
theorem ShRow.fz (h : ShRow w g m f a) (k : Nat) : w.frozen? ⟨g, k, none⟩ = false := by
  obtain ⟨cs, h1, -⟩ := h.ex
  simp [World.frozen?, h1]
theorem ShRow.fr {S : Nat → Prop} {w' : World} (h : ShRow w g m f a) (hf : Fr S w w') (hs : ¬ S g) : ShRow w' g m f a := by
  obtain ⟨cs, h1, h2⟩ := h.ex
  exact ⟨cs, hf.row h1 hs, h2⟩
theorem ShRow.lt (h : ShRow w g m f a) : g < w.heap.size := by
  obtain ⟨cs, h1, h2⟩ := h.ex
  exact (Array.getElem?_eq_some_iff.1 h1).1
theorem ShRow.sf (h : ShRow w g m f a) (k : Nat) (hk : k < 16) (x : Nat) : ShRow (w.setCell ⟨g, k * 3 + 1, none⟩ (.int .u32 (x : Nat))) g m (upd f k x) a := by
  obtain ⟨cs, h1, h2, h7⟩ := h.ex
  refine ⟨_, heap_setCell_same w g _ _ _ _ h1, by simp [h2], fun n hn => ?_⟩
  obtain ⟨q1, q2, q3⟩ := h7 n hn
  refine ⟨set_cells q1 (by omega), ?_, set_cells q3 (by omega)⟩
  by_cases q : n = k
  · subst q; rw [upd_at]; exact set_here (by omega)
  · rw [upd_ne f x q]; exact set_cells q2 (by omega)
theorem ShRow.sa (h : ShRow w g m f a) (k : Nat) (hk : k < 16) (x : Nat) : ShRow (w.setCell ⟨g, k * 3 + 2, none⟩ (.int .i64 (x : Nat))) g m f (upd a k x) := by
  obtain ⟨cs, h1, h2, h7⟩ := h.ex
  refine ⟨_, heap_setCell_same w g _ _ _ _ h1, by simp [h2], fun n hn => ?_⟩
  obtain ⟨q1, q2, q3⟩ := h7 n hn
  refine ⟨set_cells q1 (by omega), set_cells q2 (by omega), ?_⟩
  by_cases q : n = k
  · subst q; rw [upd_at]; exact set_here (by omega)
  · rw [upd_ne a x q]; exact set_cells q3 (by omega)
theorem ShRow.congr {f' a' : Nat → Nat} (h : ShRow w g m f a) (hf : ∀ n, n < 16 → f n = f' n) (ha : ∀ n, n < 16 → a n = a' n) : ShRow w g m f' a' := by
  obtain ⟨cs, h1, h2, h7⟩ := h.ex
  exact ⟨cs, h1, h2, fun n hn => by rw [← hf n hn, ← ha n hn]; exact h7 n hn⟩
theorem ShRow.new (w : World) (m f a : Nat → Nat) : ShRow (w.alloc (.cells (shs m f a) 99)) w.heap.size m f a :=
  ⟨_, heap_alloc_new w _, shs_size m f a, fun n hn => ⟨shs_m m f a n hn, shs_f m f a n hn, shs_a m f a n hn⟩⟩
end

theorem info_u32 : (Try.prog.info? 29).map (fun i => (i.zero, i.size, i.bytes)) = some (some (.int .u32 0), 1, 4) := by kernel_rfl
theorem info_int : (Try.prog.info? 3).map (fun i => (i.zero, i.size, i.bytes)) = some (some (.int .i64 0), 1, 8) := by kernel_rfl
def u32s (l : List Nat) : List Value := l.map fun (x : Nat) => Value.int .u32 (x : Int)
def i64s (l : List Nat) : List Value := l.map fun (x : Nat) => Value.int .i64 (x : Int)
/-- n zeros -/
def zers (k : IntKind) (n : Nat) : Array Value := madeCells #[.int k 0] n
theorem make_u32 (w : World) (n : Nat) (hn : n ≤ 1000) : (Instr.makeSlice 48 (.int .i64 (n : Nat)) (.int .i64 (n : Nat))).run Try.prog w = .ok (.slice (some ⟨w.heap.size, 0, none⟩) n n) (w.alloc (.cells (zers .u32 n) 29)) := by
  obtain ⟨i, hi, hz, hs, hb⟩ := info_parts info_u32
  have := run_make w 48 29 i _ Try.underlying48 hi hz .i64 .i64 (n : Int) (n : Int) (by omega) (by omega) (by rw [hb]; omega) (by omega)
  rw [this, hs, Nat.mul_one, Int.toNat_natCast]
  rfl
theorem make_int (w : World) (n : Nat) (hn : n ≤ 100000) : (Instr.makeSlice 96 (.int .i64 (n : Nat)) (.int .i64 (n : Nat))).run Try.prog w = .ok (.slice (some ⟨w.heap.size, 0, none⟩) n n) (w.alloc (.cells (zers .i64 n) 3)) := by
  obtain ⟨i, hi, hz, hs, hb⟩ := info_parts info_int
  have := run_make w 96 3 i _ Try.underlying96 hi hz .i64 .i64 (n : Int) (n : Int) (by omega) (by omega) (by rw [hb]; omega) (by omega)
  rw [this, hs, Nat.mul_one, Int.toNat_natCast]
  rfl
theorem zers_own (w : World) (k : IntKind) (t : TypeId) (n : Nat) (hn : n ≤ 100000) : (w.alloc (.cells (zers k n) t)).ownsRow 0 t 1 (.slice (some ⟨w.heap.size, 0, none⟩) n n) n ((List.replicate n 0).map fun (x : Nat) => Value.int k (x : Int)) := by
  refine ⟨by simp, .inr ⟨w.heap.size, n, zers k n, rfl, Nat.zero_le _, heap_alloc_new w _, Nat.le_refl _, by unfold maxLen; omega, by simp [zers, size_madeCells], ?_⟩⟩
  unfold zers
  rw [toList_madeCells_one, List.take_of_length_le (by simp), List.map_replicate]
  rfl

theorem sh_info : ((Try.prog.info? 99).bind (·.zero)).map (·.cells.size) = some 48 := by kernel_rfl
theorem sh_agg : (((Try.prog.info? 99).bind (·.zero)).map fun v => match v with | .agg _ => true | _ => false) = some true := by kernel_rfl
theorem sh_zero : ∃ cs, (∀ w, (zeroValue 99).run Try.prog w = .ok (.agg cs) w) ∧ cs.size = 48 := by
  have h1 := sh_info
  have h2 := sh_agg
  cases hi : Try.prog.info? 99 with
  | none => rw [hi] at h1; simp at h1
  | some i =>
    rw [hi] at h1 h2
    simp only [Option.bind_some] at h1 h2
    cases hz : i.zero with
    | none => rw [hz] at h1; simp at h1
    | some v =>
      rw [hz] at h1 h2
      simp only [Option.map_some, Option.some.injEq] at h1 h2
      cases v <;> simp at h2
      rename_i cs
      exact ⟨cs, fun w => by simp [zeroValue, typeInfo, hi, hz], h1⟩

/-- the codes of the symbols below j -/
def codsTo (l : List Nat) (j : Nat) : List Nat := (List.range l.length).map fun i => if i < j then cod l i else 0
theorem codsTo_length (l : List Nat) (j : Nat) : (codsTo l j).length = l.length := by simp [codsTo]
theorem codsTo_zero (l : List Nat) : codsTo l 0 = List.replicate l.length 0 := by
  apply List.ext_getElem
  · simp [codsTo]
  · intro i h1 h2; simp [codsTo]
theorem codsTo_all (l : List Nat) : codsTo l l.length = cods l := by
  apply List.ext_getElem
  · simp [codsTo, cods]
  · intro i h1 h2
    have : i < l.length := by rw [codsTo_length] at h1; exact h1
    simp [codsTo, cods, this]
theorem codsTo_no (l : List Nat) (j : Nat) (h : len l j = 0) : codsTo l (j + 1) = codsTo l j := by
  unfold codsTo
  refine List.map_congr_left fun i _ => ?_
  by_cases e : i = j
  · subst e
    rw [if_pos (by omega), if_neg (by omega)]
    unfold cod; rw [if_pos h]
  · by_cases k : i < j
    · rw [if_pos k, if_pos (by omega)]
    · rw [if_neg k, if_neg (by omega)]
theorem codsTo_yes (l : List Nat) (j : Nat) : codsTo l (j + 1) = (codsTo l j).set j (cod l j) := by
  apply List.ext_getElem
  · simp [codsTo]
  · intro i h1 h2
    rw [List.getElem_set]
    by_cases e : j = i
    · subst e; simp [codsTo]
    · rw [if_neg e]
      have hc : ∀ (j : Nat) (h : i < (codsTo l j).length), (codsTo l j)[i] = if i < j then cod l i else 0 := fun j h => by simp [codsTo]
      rw [hc, hc]
      by_cases k : i < j
      · rw [if_pos k, if_pos (by omega)]
      · rw [if_neg k, if_neg (by omega)]
/-- where the symbol stands among all that have codes -/
def pos (l : List Nat) (i : Nat) : Nat := ahd l (len l i) + rnk l i
theorem pos_lt {l : List Nat} {i : Nat} (h : 0 < len l i) : pos l i < ahd l (len l i + 1) := by
  have := rnk_lt (len_in h)
  rw [ahd_succ, mny_pos l h]
  unfold pos
  omega
theorem pos_all {l : List Nat} {i : Nat} (h : 0 < len l i) : pos l i < ahd l (mx l + 1) := by
  have := ahd_mono l (len l i + 1) (mx l - len l i)
  have h2 := mx_len l i
  rw [show len l i + 1 + (mx l - len l i) = mx l + 1 by omega] at this
  have := pos_lt h
  omega
theorem pos_inj {l : List Nat} {i k : Nat} (hi : 0 < len l i) (hk : 0 < len l k) (h : pos l i = pos l k) : i = k := by
  have key : ∀ i k : Nat, 0 < len l i → 0 < len l k → len l i < len l k → pos l i ≠ pos l k := by
    intro i k hi hk hlt
    have h1 := pos_lt hi
    have h2 := ahd_mono l (len l i + 1) (len l k - len l i - 1)
    rw [show len l i + 1 + (len l k - len l i - 1) = len l k by omega] at h2
    have : ahd l (len l k) ≤ pos l k := by unfold pos; omega
    omega
  rcases Nat.lt_trichotomy (len l i) (len l k) with e | e | e
  · exact absurd h (key i k hi hk e)
  · exact rnk_inj (len_in hi) (len_in hk) e (by unfold pos at h; rw [e] at h; omega)
  · exact absurd h.symm (key k i hk hi e)
/-- the symbols below j where they stand -/
def ordTo (l : List Nat) : Nat → List Nat
  | 0 => List.replicate (ahd l (mx l + 1)) 0
  | j + 1 => if len l j = 0 then ordTo l j else (ordTo l j).set (pos l j) j
theorem ordTo_length (l : List Nat) : ∀ j, (ordTo l j).length = ahd l (mx l + 1)
  | 0 => by simp [ordTo]
  | j + 1 => by
    rw [ordTo]
    split
    · exact ordTo_length l j
    · rw [List.length_set]; exact ordTo_length l j
theorem ordTo_get (l : List Nat) : ∀ (j i : Nat), i < j → 0 < len l i → (ordTo l j)[pos l i]? = some i
  | 0, i, h, _ => by omega
  | j + 1, i, h, hi => by
    rw [ordTo]
    by_cases e : i = j
    · subst e
      rw [if_neg (by omega), List.getElem?_set_self (by rw [ordTo_length]; exact pos_all hi)]
    · split
      · exact ordTo_get l j i (by omega) hi
      · rw [List.getElem?_set_ne (fun q => e (pos_inj hi (by omega) q.symm))]
        exact ordTo_get l j i (by omega) hi
/-- of each length the code that comes next, and how many are ahead of it, at the symbol j -/
def nxf (l : List Nat) (j : Nat) : Nat → Nat := fun n => fst l n + mny (l.take j) n
def nxa (l : List Nat) (j : Nat) : Nat → Nat := fun n => ahd l n + mny (l.take j) n
theorem nxf_zero (l : List Nat) (n : Nat) : fst l n = nxf l 0 n := by unfold nxf; rw [cnt_zero]; rfl
theorem nxa_zero (l : List Nat) (n : Nat) : ahd l n = nxa l 0 n := by unfold nxa; rw [cnt_zero]; rfl
theorem nx_no (l : List Nat) (j : Nat) (hj : j < l.length) (h : len l j = 0) (n : Nat) : nxf l j n = nxf l (j + 1) n ∧ nxa l j n = nxa l (j + 1) n := by
  unfold nxf nxa
  rw [mny_take l j hj, if_neg (by omega)]
  exact ⟨rfl, rfl⟩
theorem nx_yes (l : List Nat) (j : Nat) (hj : j < l.length) (h : 0 < len l j) (n : Nat) : upd (nxf l j) (len l j) (cod l j + 1) n = nxf l (j + 1) n ∧ upd (nxa l j) (len l j) (pos l j + 1) n = nxa l (j + 1) n := by
  have hc : cod l j = nxf l j (len l j) := by rw [cod_pos h, nxf, mny_pos _ h]; rfl
  have hp : pos l j = nxa l j (len l j) := by unfold pos; rw [nxa, mny_pos _ h]; rfl
  rw [hc, hp]
  have hm := mny_take l j hj n
  by_cases e : n = len l j
  · subst e
    rw [upd_at, upd_at]
    rw [if_pos ⟨rfl, h⟩] at hm
    unfold nxf nxa
    rw [hm]
    omega
  · rw [upd_ne _ _ e, upd_ne _ _ e]
    rw [if_neg (fun q => e q.1.symm)] at hm
    unfold nxf nxa
    rw [hm]
    exact ⟨rfl, rfl⟩
theorem nx_here (l : List Nat) (j : Nat) (h : 0 < len l j) : nxf l j (len l j) = cod l j ∧ nxa l j (len l j) = pos l j := by
  constructor
  · rw [cod_pos h, nxf, mny_pos _ h]; rfl
  · unfold pos; rw [nxa, mny_pos _ h]; rfl

/-- all that stands while the symbols are given their codes -/
structure Giv (w0 w : World) (g : Nat) (A : Value) (l : List Nat) (nb cb ob j : Nat) : Prop where
  set : SetRow w g A (.slice (some ⟨cb, 0, none⟩) l.length l.length) (.slice (some ⟨ob, 0, none⟩) (ahd l (mx l + 1)) (ahd l (mx l + 1))) (mny l) (fst l) (ahd l) (mx l)
  nxt : ShRow w nb (mny l) (nxf l j) (nxa l j)
  codes : w.ownsRow 0 29 1 (.slice (some ⟨cb, 0, none⟩) l.length l.length) l.length (u32s (codsTo l j))
  order : w.ownsRow 0 3 1 (.slice (some ⟨ob, 0, none⟩) (ahd l (mx l + 1)) (ahd l (mx l + 1))) (ahd l (mx l + 1)) (i64s (ordTo l j))
  fr : Fr (· = g) w0 w
  news : w0.heap.size ≤ nb ∧ w0.heap.size ≤ cb ∧ w0.heap.size ≤ ob
  old : g < w0.heap.size
  apart : nb ≠ cb ∧ nb ≠ ob ∧ cb ≠ ob
theorem Giv.drew {w0 w : World} {g : Nat} {A : Value} {l : List Nat} {nb cb ob j : Nat} (h : Giv w0 w g A l nb cb ob j) : Giv w0 w.drew g A l nb cb ob j :=
  ⟨h.set.drew, h.nxt.fr (S := S0) (Fr.drew _ _) (fun h => h), (Fr.drew S0 w).owns h.codes (fun _ _ h => h), (Fr.drew S0 w).owns h.order (fun _ _ h => h), h.fr.trans0 (Fr.drew _ _), h.news, h.old, h.apart⟩
theorem Giv.no {w0 w : World} {g : Nat} {A : Value} {l : List Nat} {nb cb ob j : Nat} (h : Giv w0 w g A l nb cb ob j) (hj : j < l.length) (hx : len l j = 0) : Giv w0 w g A l nb cb ob (j + 1) :=
  ⟨h.set, h.nxt.congr (fun n _ => (nx_no l j hj hx n).1) (fun n _ => (nx_no l j hj hx n).2), by rw [codsTo_no l j hx]; exact h.codes, by rw [ordTo, if_pos hx]; exact h.order, h.fr, h.news, h.old, h.apart⟩
theorem Giv.yes {w0 w : World} {g x c q : Nat} {A : Value} {l : List Nat} {nb cb ob j : Nat} (h : Giv w0 w g A l nb cb ob j) (hj : j < l.length) (hx : len l j = x) (h0 : 0 < x) (h15 : x ≤ 15) (hc : cod l j = c) (hq : pos l j = q) :
    Giv w0 ((((w.setCell ⟨cb, j, none⟩ (.int .u32 (c : Nat))).setCell ⟨ob, q, none⟩ (.int .i64 (j : Nat))).setCell ⟨nb, x * 3 + 1, none⟩ (.int .u32 ((c : Int) + 1))).setCell ⟨nb, x * 3 + 2, none⟩ (.int .i64 ((q : Int) + 1))) g A l nb cb ob (j + 1) := by
  subst hx
  obtain ⟨n1, n2, n3⟩ := h.news
  obtain ⟨a1, a2, a3⟩ := h.apart
  have hg := h.old
  have f1 : Fr (· = cb) w (w.setCell ⟨cb, j, none⟩ (.int .u32 (c : Nat))) := Fr.setCell _ _ _ _ rfl
  obtain ⟨o1, -⟩ := h.codes.stored j (.int .u32 (c : Nat))
  generalize w.setCell ⟨cb, j, none⟩ (.int .u32 (c : Nat)) = w1 at f1 o1 ⊢
  have s1 := h.set.fr f1 (by omega)
  have t1 := h.nxt.fr f1 a1
  have r1 := f1.owns h.order (fun k hk e => by simp only [Value.ownBlock, Option.some.injEq] at hk; omega)
  have F1 : Fr (· = g) w0 w1 := h.fr.trans f1 (fun k hk e => by omega)
  have f2 : Fr (· = ob) w1 (w1.setCell ⟨ob, q, none⟩ (.int .i64 (j : Nat))) := Fr.setCell _ _ _ _ rfl
  obtain ⟨r2, -⟩ := r1.stored q (.int .i64 (j : Nat))
  generalize w1.setCell ⟨ob, q, none⟩ (.int .i64 (j : Nat)) = w2 at f2 r2 ⊢
  have s2 := s1.fr f2 (by omega)
  have t2 := t1.fr f2 a2
  have o2 := f2.owns o1 (fun k hk e => by simp only [Value.ownBlock, Option.some.injEq] at hk; omega)
  have F2 : Fr (· = g) w0 w2 := F1.trans f2 (fun k hk e => by omega)
  have t3 := (t2.sf (len l j) (by omega) (c + 1)).sa (len l j) (by omega) (q + 1)
  have f3 : Fr (· = nb) w2 ((w2.setCell ⟨nb, len l j * 3 + 1, none⟩ (.int .u32 ((c : Int) + 1))).setCell ⟨nb, len l j * 3 + 2, none⟩ (.int .i64 ((q : Int) + 1))) :=
    (Fr.setCell (· = nb) _ ⟨nb, len l j * 3 + 1, none⟩ _ rfl).trans (Fr.setCell (· = nb) _ ⟨nb, len l j * 3 + 2, none⟩ _ rfl) (fun _ _ h => h)
  rw [show (((c + 1 : Nat) : Int)) = (c : Int) + 1 by omega, show (((q + 1 : Nat) : Int)) = (q : Int) + 1 by omega] at t3
  generalize (w2.setCell ⟨nb, len l j * 3 + 1, none⟩ (.int .u32 ((c : Int) + 1))).setCell ⟨nb, len l j * 3 + 2, none⟩ (.int .i64 ((q : Int) + 1)) = w3 at t3 f3 ⊢
  refine ⟨s2.fr f3 (by omega), t3.congr (fun n _ => ?_) (fun n _ => ?_), ?_, ?_, F2.trans f3 (fun k hk e => by omega), h.news, h.old, h.apart⟩
  · rw [← hc]; exact (nx_yes l j hj h0 n).1
  · rw [← hq]; exact (nx_yes l j hj h0 n).2
  · have o3 := f3.owns o2 (fun k hk e => by simp only [Value.ownBlock, Option.some.injEq] at hk; omega)
    rw [codsTo_yes, hc]
    unfold u32s at o3 ⊢
    rw [List.map_set]
    exact o3
  · have r3 := f3.owns r2 (fun k hk e => by simp only [Value.ownBlock, Option.some.injEq] at hk; omega)
    rw [ordTo, if_neg (by omega), hq]
    unfold i64s at r3 ⊢
    rw [List.map_set]
    exact r3

set_option maxRecDepth 100000 in
set_option maxHeartbeats 1000000 in
theorem give_any (g : Nat) (p : Option Addr) (d : Nat) {B C : Value} (l : List Nat) (w : World) (h : SetRow w g (.slice p l.length d) B C (mny l) (fst l) (ahd l) (mx l))
    (hl : SlI w .u8 p l) (hp : Off (· = g) p) (h15 : ∀ x ∈ l, x ≤ 15) (hL : l.length ≤ 320) :
    Calls Try.prog 80 #[.pointer (some ⟨g, 0, none⟩)] w fun r w' => r = .returned (.tuple #[]) ∧ ∃ nb cb ob, Giv w w' g (.slice p l.length d) l nb cb ob l.length := by
  have H := Lib.hid h
  have HL := Lib.hid hl
  have HP := Lib.hid hp
  have H15 := Lib.hid h15
  have hc0 := h.c0
  have hc1 := h.c1
  have hf1 := h.fz 1
  have hgn := h.lt
  have HC := h.cells
  have HI : (Try.prog.info? 99).map (·.size) = some (shs (mny l) (fst l) (ahd l)).size := by rw [shs_size]; exact shelves_info
  have HO := Lib.hid (shs_one (mny l) (fst l) (ahd l))
  have HM := fun w => make_u32 w l.length (by omega)
  clear h hl hp h15
  obtain ⟨Z, hz, hZ⟩ := sh_zero
  have HZ : Hid (Z.size = (shs (mny l) (fst l) (ahd l)).size) := Lib.hid (by rw [hZ, shs_size])
  have HSN := Lib.hid (fun w => ShRow.new w (mny l) (fst l) (ahd l))
  obtain ⟨SH, hSH⟩ : ∃ X, shs (mny l) (fst l) (ahd l) = X := ⟨_, rfl⟩
  rw [hSH] at HC HI HO HZ HSN
  clear hZ hSH
  go_enter Try.func80, Try.ntmps80
  go_wp2_with (first
    | ((with_reducible show wpList _ _ _ (Oper.mk (some 9) _ _ _ _ _ :: _) _ _); refine wpList_load_at rfl 99 (.tmp 8) rfl rfl HC Try.underlying99 rfl HI ?_)
    | ((with_reducible show wpList _ _ _ (Oper.mk none (Op.store 99 _ _) _ _ _ _ :: _) _ _); refine store_new 99 (.tmp 2) (.tmp 9) rfl rfl rfl rfl HI HZ.out (by rw [Array.all_eq_true']; exact fun v hv => HO.out v (Array.mem_toList_iff.2 hv)) ?_)
    | fail)
  clear hc1 hf1 HC HI HZ HM hz
  have f0 : Fr (· = g) w (w.setCell ⟨g, 1, none⟩ (.slice (some ⟨w.heap.size + 1, 0, none⟩) l.length l.length)) := Fr.setCell _ _ _ _ rfl
  have s0 := H.out.s1 (.slice (some ⟨w.heap.size + 1, 0, none⟩) l.length l.length)
  have z0 : (w.setCell ⟨g, 1, none⟩ (.slice (some ⟨w.heap.size + 1, 0, none⟩) l.length l.length)).heap.size = w.heap.size := by simp [World.setCell]
  generalize w.setCell ⟨g, 1, none⟩ (.slice (some ⟨w.heap.size + 1, 0, none⟩) l.length l.length) = w1 at f0 s0 z0 ⊢
  have f1 : Fr (· = g) w (w1.alloc (.cells SH 99)) := f0.trans0 (Fr.alloc _ _ _)
  have s1 := s0.fr (S := S0) (Fr.alloc S0 w1 (.cells SH 99)) (fun h => h)
  have t1 := HSN.out w1
  have z1 : (w1.alloc (.cells SH 99)).heap.size = w.heap.size + 1 := by rw [size_alloc, z0]
  rw [z0] at t1
  generalize w1.alloc (.cells SH 99) = w2 at f1 s1 t1 z1 ⊢
  have f2 : Fr (· = g) w (w2.alloc (.cells (zers .u32 l.length) 29)) := f1.trans0 (Fr.alloc _ _ _)
  have s2 := s1.fr (S := S0) (Fr.alloc S0 w2 (.cells (zers .u32 l.length) 29)) (fun h => h)
  have t2 := t1.fr (S := S0) (Fr.alloc S0 w2 (.cells (zers .u32 l.length) 29)) (fun h => h)
  have o2 := zers_own w2 .u32 29 l.length (by omega)
  have z2 : (w2.alloc (.cells (zers .u32 l.length) 29)).heap.size = w.heap.size + 2 := by rw [size_alloc, z1]
  rw [z1] at o2
  generalize w2.alloc (.cells (zers .u32 l.length) 29) = W at f2 s2 t2 o2 z2 ⊢
  clear f0 s0 z0 f1 s1 t1 z1 w1 w2 HSN HO
  obtain ⟨nb, hnb⟩ : ∃ n, w.heap.size = n := ⟨_, rfl⟩
  obtain ⟨E, hE⟩ : ∃ E, mx l = E := ⟨_, rfl⟩
  have hE15 : E ≤ 15 := by rw [← hE]; exact mx_le H15.out
  have k0 := s2.c0
  have k1 := s2.ce
  have k2 := t2.cm E (by omega)
  have k3 := t2.ca E (by omega)
  have k4 := s2.c2
  have k5 := s2.fz 2
  have b1 := mny_le l E
  have b2 := ahd_small l E (by omega) (by omega)
  have hN : ahd l E + mny l E = ahd l (mx l + 1) := by rw [ahd_succ, hE]
  obtain ⟨K, hK⟩ : ∃ K, ahd l (mx l + 1) = K := ⟨_, rfl⟩
  rw [hK] at hN
  have HMI : ∀ w, (Instr.makeSlice 96 (.int .i64 ((ahd l E : Int) + (mny l E : Int))) (.int .i64 ((ahd l E : Int) + (mny l E : Int)))).run Try.prog w = .ok (.slice (some ⟨w.heap.size, 0, none⟩) K K) (w.alloc (.cells (zers .i64 K) 3)) := fun w => by
    have := make_int w (ahd l E + mny l E) (by omega)
    rw [hN] at this
    rw [← this]
    congr 4 <;> omega
  have hgnb : g < W.heap.size := by omega
  rw [hnb] at t2 o2 z2 k2 k3 ⊢
  rw [hE] at k1
  have hgnb' : ¬ nb = g := by omega
  obtain ⟨M, hM⟩ : ∃ M, mny l E = M := ⟨_, rfl⟩
  obtain ⟨N, hN'⟩ : ∃ N, ahd l E = N := ⟨_, rfl⟩
  rw [hM] at k2 b1 HMI hN
  rw [hN'] at k3 b2 HMI hN
  have HE := Lib.hid hE
  have HK := Lib.hid hK
  have HN := Lib.hid hN
  have HNB := Lib.hid hnb
  have HZ2 := Lib.hid z2
  have HS := Lib.hid s2
  have HT := Lib.hid t2
  have HO := Lib.hid o2
  clear hE hN hM hN' hnb z2 s2 t2 o2 hK
  go_region
  go_wp2_with fail
  have HG : Hid (Giv w ((W.setCell ⟨g, 2, none⟩ (.slice (some ⟨W.heap.size, 0, none⟩) K K)).alloc (.cells (zers .i64 K) 3)).drew g (.slice p l.length d) l nb (nb + 1) (nb + 2) 0) := Lib.hid (by
    have hz := HZ2.out
    have hnb := HNB.out
    have h3 : Fr (· = g) W (W.setCell ⟨g, 2, none⟩ (.slice (some ⟨W.heap.size, 0, none⟩) K K)) := Fr.setCell _ _ _ _ rfl
    have s3 := HS.out.s2 (.slice (some ⟨W.heap.size, 0, none⟩) K K)
    have z3 : (W.setCell ⟨g, 2, none⟩ (.slice (some ⟨W.heap.size, 0, none⟩) K K)).heap.size = nb + 2 := by rw [← hz]; simp [World.setCell]
    have t3 := HT.out.fr h3 (by omega)
    have o3 := h3.owns HO.out (fun k hk e => by simp only [Value.ownBlock, Option.some.injEq] at hk; omega)
    rw [hz] at s3 z3 t3 o3 h3 ⊢
    generalize W.setCell ⟨g, 2, none⟩ (.slice (some ⟨nb + 2, 0, none⟩) K K) = w3 at h3 s3 z3 t3 o3 ⊢
    have o4 := zers_own w3 .i64 3 K (by have := ahd_small l (mx l + 1) (by have := mx_le H15.out; omega) (by omega); rw [HK.out] at this; omega)
    rw [z3] at o4
    have f4 : Fr S0 w3 (w3.alloc (.cells (zers .i64 K) 3)) := Fr.alloc _ _ _
    have hK := HK.out
    have hn := HNB.out
    refine Giv.drew ⟨?_, (t3.fr f4 (fun h => h)).congr (fun n _ => nxf_zero l n) (fun n _ => nxa_zero l n), ?_, ?_, (f2.trans h3 (fun _ _ h => h)).trans0 f4, by omega, hgn, by omega⟩
    · have := s3.fr f4 (fun h => h)
      rw [hn] at this
      rw [hK]; exact this
    · rw [codsTo_zero]; exact f4.owns o3 (fun _ _ h => h)
    · rw [hK, ordTo, hK]; exact o4)
  clear HS HT HO k0 k1 k2 k3 k4 k5 HMI b1 b2 f2 HE HN hgnb hc0
  generalize ((W.setCell ⟨g, 2, none⟩ (.slice (some ⟨W.heap.size, 0, none⟩) K K)).alloc (.cells (zers .i64 K) 3)).drew = W3 at HG ⊢
  clear HZ2 HNB
  go_loopw [3, 4, 5, 43] (fun _ _ _ i wr => ∃ j : Nat, j ≤ l.length ∧ i = .int .i64 j ∧ Giv w wr g (.slice p l.length d) l nb (nb + 1) (nb + 2) j) (fun _ _ _ i _ => l.length - (intOf i).toNat)
  case atStart => exact ⟨0, by omega, rfl, HG.out⟩
  case round =>
    obtain ⟨j, hj, rfl, hG⟩ := hrel
    by_cases hjc : (j : Int) < (l.length : Int)
    · have hjl : j < l.length := by omega
      obtain ⟨b, o, hpe, hcl⟩ := (HL.out.fr hG.fr fun _ => HP.out).at j hjl
      have HX15 := H15.out _ (List.getElem_mem hjl)
      have HLEN := len_get l j hjl
      obtain ⟨x, hx⟩ : ∃ x, l[j] = x := ⟨_, rfl⟩
      rw [hx] at hcl HX15 HLEN
      clear hx
      subst hpe
      by_cases hx0 : 0 < x
      · obtain ⟨c, hc⟩ : ∃ c, cod l j = c := ⟨_, rfl⟩
        obtain ⟨q, hq⟩ : ∃ q, pos l j = q := ⟨_, rfl⟩
        have hlp : 0 < len l j := by omega
        have HS := Lib.hid (hG.yes hjl HLEN hx0 HX15 hc hq)
        have hcs : c ≤ 65535000 := by rw [← hc]; exact Nat.le_of_lt (Nat.lt_of_lt_of_le (cod_lt hlp) (top_small l _ (by omega) (by omega)))
        have hqK : q < K := by rw [← hq, ← HK.out]; exact pos_all hlp
        have hKs := ahd_small l (mx l + 1) (by have := mx_le H15.out; omega) (by omega)
        have k1 := hG.set.c1
        have k2 := hG.set.c2
        have k3 := hG.nxt.cf x (by omega)
        have k4 := hG.nxt.ca x (by omega)
        have k5 := hG.nxt.fz (x * 3 + 1)
        have k6 := hG.nxt.fz (x * 3 + 2)
        have e1 := nx_here l j hlp
        rw [HLEN, hc, hq] at e1
        rw [e1.1] at k3
        rw [e1.2] at k4
        rw [HK.out] at k2 hKs
        have k7 := hG.codes.cellAt j (by omega)
        have k8 := hG.codes.frozenAt j
        have k9 := hG.order.cellAt q (by rw [HK.out]; omega)
        have k10 := hG.order.frozenAt q
        have hu : j < (u32s (codsTo l j)).length := by unfold u32s; rw [List.length_map, codsTo_length]; exact hjl
        have hv : q < (i64s (ordTo l j)).length := by unfold i64s; rw [List.length_map, ordTo_length, HK.out]; exact hqK
        rw [List.getElem?_eq_getElem hu] at k7
        rw [List.getElem?_eq_getElem hv] at k9
        obtain ⟨u, hu'⟩ : ∃ u, (u32s (codsTo l j))[j] = u := ⟨_, rfl⟩
        obtain ⟨v, hv'⟩ : ∃ v, (i64s (ordTo l j))[q] = v := ⟨_, rfl⟩
        rw [hu'] at k7
        rw [hv'] at k9
        have HW := Lib.hid hG
        have z1 : ¬ nb = g := by have := hG.news; have := hG.old; omega
        have z2 : ¬ nb + 1 = g := by have := hG.news; have := hG.old; omega
        have z3 : ¬ nb + 2 = g := by have := hG.news; have := hG.old; omega
        clear hG HLEN hc hq hlp e1 hu hv hu' hv'
        go_wp2_with fail
        go_region
        go_wp2_with fail
        go_region
        go_wp2_with fail
        go_roundw
        case rel => exact ⟨j + 1, by omega, by go_num, HS.out.drew.drew⟩
        case measure => simp [intOf]; omega
      · obtain rfl : x = 0 := by omega
        have HS := Lib.hid (hG.no hjl HLEN)
        clear HLEN hG
        go_wp2_with fail
        go_roundw
        case rel => exact ⟨j + 1, by omega, by go_num, HS.out⟩
        case measure => simp [intOf]; omega
    · obtain rfl : j = l.length := by omega
      have HS := Lib.hid hG
      clear hG
      go_wp2_with fail
      go_end0
      exact ⟨rfl, nb, nb + 1, nb + 2, HS.out⟩
end Go.Proofs.Ytfibhgohenkfbaa
