/- Sets are made. -/
import Derived.Test.YtfibhgohenkfbaaHufGive
import Derived.Test.YtfibhgohenkfbaaBitText
namespace Go.Proofs.Ytfibhgohenkfbaa
open Go.RowKit

set_option maxRecDepth 100000 in
theorem tooLong_any (x : Nat) (w : World) : Calls Try.prog 75 #[.int .u8 (x : Nat)] w fun e w' => e = .returned (.bool (decide (15 < x))) ∧ w = w' := by
  have E : Hid (decide ((x : Int) > 15) = decide (15 < x)) := Lib.hid (by rw [decide_eq_decide]; omega)
  go_enter Try.func75, Try.ntmps75
  go_wp2
  go_ret
  exact ⟨by rw [← E.out]; rfl, rfl⟩

/-- a length is too great -/
def long (l : List Nat) : Bool := l.any (15 < ·)
theorem long_no {l : List Nat} (h : long l = false) : ∀ x ∈ l, x ≤ 15 := by
  intro x hx
  unfold long at h
  rw [List.any_eq_false] at h
  have := h x hx
  simpa using this
theorem long_yes {l : List Nat} (h : long l = true) : ∃ k, ∃ h : k < l.length, 15 < l[k] ∧ ∀ i, (hi : i < k) → l[i] ≤ 15 := by
  induction l with
  | nil => simp [long] at h
  | cons x r ih =>
    by_cases e : 15 < x
    · exact ⟨0, by simp, by simpa using e, fun i hi => by omega⟩
    · have hr : long r = true := by
        unfold long at h ⊢
        rw [List.any_cons, decide_eq_false e, Bool.false_or] at h
        exact h
      obtain ⟨k, h1, h2, h3⟩ := ih hr
      refine ⟨k + 1, by simp; omega, by simpa using h2, fun i hi => ?_⟩
      cases i with
      | zero => simp; omega
      | succ i => simpa using h3 i (by omega)

set_option maxRecDepth 100000 in
set_option maxHeartbeats 400000 in
theorem index_no (p : Option Addr) (d : Nat) (l : List Nat) (w : World) (hl : SlI w .u8 p l) (h : long l = false) (hL : l.length ≤ 1000) :
    Calls Try.prog 99 #[.slice p l.length d, .func (.func 75) #[] #[]] w fun e w' => e = .returned (.int .i64 (-1)) ∧ w = w' := by
  have HL := Lib.hid hl
  have H15 := Lib.hid (long_no h)
  clear hl h
  go_enter Try.func99, Try.ntmps99
  go_wp2
  go_loopw [5, 8] (fun _ i wr => ∃ j : Nat, j ≤ l.length ∧ i = .int .i64 j ∧ w = wr) (fun _ i _ => l.length - (intOf i).toNat)
  case atStart => exact ⟨0, by omega, rfl, rfl⟩
  case round =>
    obtain ⟨j, hj, rfl, rfl⟩ := hrel
    by_cases hjc : (j : Int) < (l.length : Int)
    · have hjl : j < l.length := by omega
      obtain ⟨b, o, hpe, hcl⟩ := HL.out.at j hjl
      have HX15 := H15.out _ (List.getElem_mem hjl)
      obtain ⟨x, hx⟩ : ∃ x, l[j] = x := ⟨_, rfl⟩
      rw [hx] at hcl HX15
      clear hx
      subst hpe
      have hT := tooLong_any x w
      rw [decide_eq_false (by omega : ¬ 15 < x)] at hT
      have HT := Lib.hid hT
      clear hT
      go_wp2_with fail
      refine HT.out.mono ?_
      rintro e w' ⟨rfl, rfl⟩
      go_wp2_with fail
      go_roundw
      case rel => exact ⟨j + 1, by omega, by go_num, by trivial⟩
      case measure => simp [intOf]; omega
    · go_wp2
      go_ret
      exact ⟨rfl, rfl⟩
set_option maxRecDepth 100000 in
set_option maxHeartbeats 400000 in
theorem index_yes (p : Option Addr) (d k : Nat) (l : List Nat) (w : World) (hl : SlI w .u8 p l) (hk : k < l.length) (h1 : 15 < l[k]) (h2 : ∀ i, (hi : i < k) → l[i] ≤ 15) (hL : l.length ≤ 1000) :
    Calls Try.prog 99 #[.slice p l.length d, .func (.func 75) #[] #[]] w fun e w' => e = .returned (.int .i64 (k : Nat)) ∧ w = w' := by
  have HL := Lib.hid hl
  have H1 := Lib.hid h1
  have H2 := Lib.hid h2
  clear hl h1 h2
  go_enter Try.func99, Try.ntmps99
  go_wp2
  go_loopw [5, 8] (fun _ i wr => ∃ j : Nat, j ≤ k ∧ i = .int .i64 j ∧ w = wr) (fun _ i _ => l.length - (intOf i).toNat)
  case atStart => exact ⟨0, by omega, rfl, rfl⟩
  case round =>
    obtain ⟨j, hj, rfl, rfl⟩ := hrel
    have hjl : j < l.length := by omega
    have hjc : (j : Int) < (l.length : Int) := by omega
    obtain ⟨b, o, hpe, hcl⟩ := HL.out.at j hjl
    subst hpe
    by_cases e : j = k
    · subst e
      have HX := H1.out
      obtain ⟨x, hx⟩ : ∃ x, l[j] = x := ⟨_, rfl⟩
      rw [hx] at hcl HX
      clear hx
      have hT := tooLong_any x w
      rw [decide_eq_true HX] at hT
      have HT := Lib.hid hT
      clear hT
      go_wp2_with fail
      refine HT.out.mono ?_
      rintro e w' ⟨rfl, rfl⟩
      go_wp2_with fail
      go_ret
      exact ⟨rfl, rfl⟩
    · have HX := H2.out j (by omega)
      obtain ⟨x, hx⟩ : ∃ x, l[j] = x := ⟨_, rfl⟩
      rw [hx] at hcl HX
      clear hx
      have hT := tooLong_any x w
      rw [decide_eq_false (by omega : ¬ 15 < x)] at hT
      have HT := Lib.hid hT
      clear hT
      go_wp2_with fail
      refine HT.out.mono ?_
      rintro e w' ⟨rfl, rfl⟩
      go_wp2_with fail
      go_roundw
      case rel => exact ⟨j + 1, by omega, by go_num, by trivial⟩
      case measure => simp [intOf]; omega
set_option maxRecDepth 100000 in
set_option maxHeartbeats 400000 in
theorem contains_any (p : Option Addr) (d : Nat) (l : List Nat) (w : World) (hl : SlI w .u8 p l) (hL : l.length ≤ 1000) :
    Calls Try.prog 74 #[.slice p l.length d, .func (.func 75) #[] #[]] w fun e w' => e = .returned (.bool (long l)) ∧ w = w' := by
  cases h : long l with
  | false =>
    have HI := Lib.hid (index_no p d l w hl h hL)
    clear hl h
    go_enter Try.func74, Try.ntmps74
    go_wp2_with fail
    refine HI.out.mono ?_
    rintro e w' ⟨rfl, rfl⟩
    go_wp2_with fail
    go_ret
    exact ⟨rfl, rfl⟩
  | true =>
    obtain ⟨k, h1, h2, h3⟩ := long_yes h
    have HI := Lib.hid (index_yes p d k l w hl h1 h2 h3 hL)
    have hk : (0 : Int) ≤ (k : Int) := by omega
    clear hl h h2 h3
    go_enter Try.func74, Try.ntmps74
    go_wp2_with fail
    refine HI.out.mono ?_
    rintro e w' ⟨rfl, rfl⟩
    go_wp2_with fail
    go_ret
    exact ⟨rfl, rfl⟩

/-- block g is the set of codes of the lengths l; all that it has lies from the block A on, below the block B -/
structure SetIs (w : World) (A B g : Nat) (l : List Nat) : Prop where
  ex : ∃ pl cl cb cc ob oc, SetRow w g (.slice pl l.length cl) (.slice (some ⟨cb, 0, none⟩) l.length cc) (.slice (some ⟨ob, 0, none⟩) (ahd l (mx l + 1)) oc) (mny l) (fst l) (ahd l) (mx l) ∧
    SlI w .u8 pl l ∧ (pl = none → cl = 0) ∧ (∀ a, pl = some a → A ≤ a.block ∧ a.block < B) ∧ SlI w .u32 (some ⟨cb, 0, none⟩) (cods l) ∧ (A ≤ cb ∧ cb < B) ∧ SlI w .i64 (some ⟨ob, 0, none⟩) (ordTo l l.length) ∧ (A ≤ ob ∧ ob < B)
  lt : A ≤ g ∧ g < B
  ok : okl l
  small : l.length ≤ 320
  short : ∀ x ∈ l, x ≤ 15
theorem SetIs.fr {w w' : World} {A B g : Nat} {l : List Nat} {S : Nat → Prop} (h : SetIs w A B g l) (hf : Fr S w w') (hs : ∀ k, A ≤ k → k < B → ¬ S k) : SetIs w' A B g l := by
  obtain ⟨pl, cl, cb, cc, ob, oc, h1, h2, h3, h4, h5, h6, h7, h8⟩ := h.ex
  exact ⟨⟨pl, cl, cb, cc, ob, oc, h1.fr hf (hs _ h.lt.1 h.lt.2), h2.fr hf (fun _ a ha => hs _ (h4 a ha).1 (h4 a ha).2), h3, h4, h5.fr hf (fun _ a ha => by cases ha; exact hs _ h6.1 h6.2), h6, h7.fr hf (fun _ a ha => by cases ha; exact hs _ h8.1 h8.2), h8⟩, h.lt, h.ok, h.small, h.short⟩
theorem SetIs.fr0 {w w' : World} {A B g : Nat} {l : List Nat} (h : SetIs w A B g l) (hf : Fr S0 w w') : SetIs w' A B g l := h.fr hf fun _ _ _ h => h
theorem SetIs.mono {w : World} {A B A' B' g : Nat} {l : List Nat} (h : SetIs w A B g l) (hA : A' ≤ A) (hB : B ≤ B') : SetIs w A' B' g l := by
  obtain ⟨pl, cl, cb, cc, ob, oc, h1, h2, h3, h4, h5, h6, h7, h8⟩ := h.ex
  exact ⟨⟨pl, cl, cb, cc, ob, oc, h1, h2, h3, fun a ha => ⟨Nat.le_trans hA (h4 a ha).1, Nat.lt_of_lt_of_le (h4 a ha).2 hB⟩, h5, ⟨Nat.le_trans hA h6.1, Nat.lt_of_lt_of_le h6.2 hB⟩, h7, ⟨Nat.le_trans hA h8.1, Nat.lt_of_lt_of_le h8.2 hB⟩⟩, ⟨Nat.le_trans hA h.lt.1, Nat.lt_of_lt_of_le h.lt.2 hB⟩, h.ok, h.small, h.short⟩
theorem SetIs.mx15 {w : World} {A B g : Nat} {l : List Nat} (h : SetIs w A B g l) : mx l ≤ 15 := mx_le h.short

/-- the set that has nothing but its lengths -/
def bareC (v : Value) : Array Value := #[v, .slice none 0 0, .slice none 0 0, .int .i64 0, .int .u32 0, .int .i64 0, .int .i64 0, .int .u32 0, .int .i64 0, .int .i64 0, .int .u32 0, .int .i64 0, .int .i64 0, .int .u32 0, .int .i64 0, .int .i64 0, .int .u32 0, .int .i64 0, .int .i64 0, .int .u32 0, .int .i64 0, .int .i64 0, .int .u32 0, .int .i64 0, .int .i64 0, .int .u32 0, .int .i64 0, .int .i64 0, .int .u32 0, .int .i64 0, .int .i64 0, .int .u32 0, .int .i64 0, .int .i64 0, .int .u32 0, .int .i64 0, .int .i64 0, .int .u32 0, .int .i64 0, .int .i64 0, .int .u32 0, .int .i64 0, .int .i64 0, .int .u32 0, .int .i64 0, .int .i64 0, .int .u32 0, .int .i64 0, .int .i64 0, .int .u32 0, .int .i64 0, .int .i64 0]
set_option maxRecDepth 100000 in
theorem bareC_at (v : Value) : ∀ n, n < 16 → (bareC v)[3 + n * 3]? = some (.int .i64 (0 : Nat)) ∧ (bareC v)[3 + n * 3 + 1]? = some (.int .u32 (0 : Nat)) ∧ (bareC v)[3 + n * 3 + 2]? = some (.int .i64 (0 : Nat))
  | 0, _ => ⟨rfl, rfl, rfl⟩
  | 1, _ => ⟨rfl, rfl, rfl⟩
  | 2, _ => ⟨rfl, rfl, rfl⟩
  | 3, _ => ⟨rfl, rfl, rfl⟩
  | 4, _ => ⟨rfl, rfl, rfl⟩
  | 5, _ => ⟨rfl, rfl, rfl⟩
  | 6, _ => ⟨rfl, rfl, rfl⟩
  | 7, _ => ⟨rfl, rfl, rfl⟩
  | 8, _ => ⟨rfl, rfl, rfl⟩
  | 9, _ => ⟨rfl, rfl, rfl⟩
  | 10, _ => ⟨rfl, rfl, rfl⟩
  | 11, _ => ⟨rfl, rfl, rfl⟩
  | 12, _ => ⟨rfl, rfl, rfl⟩
  | 13, _ => ⟨rfl, rfl, rfl⟩
  | 14, _ => ⟨rfl, rfl, rfl⟩
  | 15, _ => ⟨rfl, rfl, rfl⟩
  | n + 16, h => by omega
set_option maxRecDepth 100000 in
theorem bare_row (w : World) (v : Value) : SetRow (w.alloc (.cells (bareC v) 101)) w.heap.size v (.slice none 0 0) (.slice none 0 0) (fun _ => 0) (fun _ => 0) (fun _ => 0) 0 :=
  ⟨_, heap_alloc_new w _, rfl, rfl, rfl, rfl, rfl, bareC_at v⟩

/-- the set stands -/
theorem make_end {w w3 w4 : World} {g nb cb ob c : Nat} {q : Option Addr} {l : List Nat} (hG : Giv w3 w4 g (.slice q l.length c) l nb cb ob l.length) (hf : Fr S0 w w3) (hg : w.heap.size ≤ g)
    (own : w3.ownsRow 0 5 1 (.slice q l.length c) l.length (u8s l)) (hq : q = none → c = 0) (hqb : ∀ k, Value.ownBlock (.slice q l.length c) = some k → k < w3.heap.size ∧ w.heap.size ≤ k) (hoff : Off (· = g) q) (ok : okl l) (hL : l.length ≤ 320) (h15 : ∀ x ∈ l, x ≤ 15) :
    Fr S0 w w4 ∧ SetIs w4 w.heap.size w4.heap.size g l := by
  have hlt : ∀ {v : Value} {k : Nat} {t : TypeId} {n : Nat} {xs : List Value}, w4.ownsRow 0 t 1 v n xs → v.ownBlock = some k → k < w4.heap.size := fun h hk => (h.lt _ hk).2
  have hc := hG.codes
  rw [codsTo_all] at hc
  have hx := hG.order
  refine ⟨hf.trans hG.fr (fun k hk e => by omega), ⟨q, c, cb, _, ob, _, hG.set, (SlI.ofOwns own).fr hG.fr (fun _ => hoff), hq, ?_, SlI.ofOwns (l := cods l) hc, ⟨Nat.le_trans hf.size hG.news.2.1, hlt hc rfl⟩, SlI.ofOwns (l := ordTo l l.length) hx, ⟨Nat.le_trans hf.size hG.news.2.2, hlt hx rfl⟩⟩, ⟨hg, hG.set.lt⟩, ok, hL, h15⟩
  intro a ha
  have hq2 := hqb a.block (by rw [ha]; rfl)
  exact ⟨hq2.2, Nat.lt_of_lt_of_le hq2.1 hG.fr.size⟩

set_option maxRecDepth 100000 in
set_option maxHeartbeats 1000000 in
theorem make_ok (p : Option Addr) (d : Nat) (l : List Nat) (w : World) (hl : SlI w .u8 p l) (hp : p = none → d = 0) (hL : l.length ≤ 320) (h15 : ∀ x ∈ l, x ≤ 15) (ok : okl l) :
    Calls Try.prog 60 #[.slice p l.length d] w fun e w' => ∃ g, e = .returned (.tuple #[.pointer (some ⟨g, 0, none⟩), .int .i64 0]) ∧ (Fr S0 w w' ∧ SetIs w' w.heap.size w'.heap.size g l) ∧ w.heap.size ≤ g := by
  have hlong : long l = false := by
    unfold long
    rw [List.any_eq_false]
    intro x hx
    have := h15 x hx
    simpa using this
  have HC := contains_any p d l w hl (by omega)
  rw [hlong] at HC
  have HK := Lib.hid HC
  have HCL := Lib.hid (clone_any p d l w hl hp (by omega))
  have HL := Lib.hid hl
  have H15 := Lib.hid h15
  have hnot : ¬ (l.length : Int) > 320 := by omega
  clear hlong HC hl h15
  go_enter Try.func60, Try.ntmps60
  go_wp2_with fail
  refine HK.out.mono ?_
  rintro e w' ⟨rfl, rfl⟩
  go_wp2_with fail
  refine HCL.out.mono ?_
  rintro e w1 ⟨v, rfl, f1, hv⟩
  obtain ⟨q, c, rfl, hq, -, -⟩ := slForm hv.own
  have sb := bare_row w1 (.slice q l.length c)
  have fb : Fr S0 w (w1.alloc (.cells (bareC (.slice q l.length c)) 101)) := f1.trans0 (Fr.alloc _ _ _)
  have ob : (w1.alloc (.cells (bareC (.slice q l.length c)) 101)).ownsRow 0 5 1 (.slice q l.length c) l.length (u8s l) := hv.own.alloc _
  have zb : (w1.alloc (.cells (bareC (.slice q l.length c)) 101)).heap.size = w1.heap.size + 1 := size_alloc _ _
  obtain ⟨BC, hBC⟩ : ∃ X, bareC (.slice q l.length c) = X := ⟨_, rfl⟩
  rw [hBC] at sb fb ob zb
  have hg1 := f1.size
  have hqb : ∀ k, Value.ownBlock (.slice q l.length c) = some k → k < w1.heap.size ∧ w.heap.size ≤ k := fun k hk => ⟨(hv.own.lt k hk).2, hv.fresh k hk⟩
  unfold bareC at hBC
  have HQ := Lib.hid hq
  clear hq hv
  go_wp2_with fail
  obtain ⟨g, hg⟩ : ∃ g, w1.heap.size = g := ⟨_, rfl⟩
  rw [hg] at sb zb hg1 hqb ⊢
  generalize w1.alloc (.cells BC 101) = W at sb fb ob zb ⊢
  have hoff : Off (· = g) q := fun a ha e => by
    have := hqb a.block (by rw [ha]; rfl)
    omega
  have HC := Lib.hid (count_any g q c l W sb (SlI.ofOwns ob) hoff H15.out hL)
  clear hBC hg sb
  refine HC.out.mono ?_
  rintro e w2 ⟨rfl, f2, s2⟩
  have ob2 := f2.owns ob (fun k hk e => by have := hqb k hk; omega)
  have fb2 : Fr S0 w w2 := fb.trans f2 (fun k hk e => by omega)
  have hqb' : ∀ k, Value.ownBlock (.slice q l.length c) = some k → k < w2.heap.size ∧ w.heap.size ≤ k := fun k hk => by have := hqb k hk; have := f2.size; omega
  clear HC fb ob f2 zb
  have hF := full_any g w2 s2 (by omega)
  by_cases hfu : ful l
  · rw [decide_eq_true hfu] at hF
    have HF := Lib.hid hF
    clear hF hfu
    go_wp2_with fail
    refine HF.out.mono ?_
    rintro e w3 ⟨rfl, f3⟩
    have s3 := Lib.hid (s2.fr f3 (fun h => h))
    have o3 := Lib.hid (f3.owns ob2 (fun _ _ h => h))
    have fb3 := Lib.hid (fb2.trans0 f3)
    have hz3 := f3.size
    clear HF f3 s2 ob2 fb2
    go_wp2_with fail
    have HG := Lib.hid (give_any g q c l w3 s3.out (SlI.ofOwns o3.out) hoff H15.out hL)
    refine HG.out.mono ?_
    rintro e w4 ⟨rfl, nb, cb, ob4, hG⟩
    have HW := Lib.hid hG
    clear hG
    go_wp2_with fail
    go_ret2
    exact ⟨g, rfl, make_end HW.out fb3.out (by omega) o3.out HQ.out (fun k hk => ⟨Nat.lt_of_lt_of_le (hqb' k hk).1 hz3, (hqb' k hk).2⟩) hoff ok hL H15.out, hg1⟩
  · rw [decide_eq_false hfu] at hF
    have HF := Lib.hid hF
    clear hF
    go_wp2_with fail
    refine HF.out.mono ?_
    rintro e w3 ⟨rfl, f3⟩
    have s3 := Lib.hid (s2.fr f3 (fun h => h))
    have o3 := Lib.hid (f3.owns ob2 (fun _ _ h => h))
    have fb3 := Lib.hid (fb2.trans0 f3)
    have hz3 := f3.size
    clear HF f3 s2 ob2 fb2
    have hl1 := lone_any g w3 s3.out
    cases hlo : lonB (mx l) (mny l 1) with
    | true =>
      rw [hlo] at hl1
      have HL1 := Lib.hid hl1
      clear hl1 hfu hlo
      go_wp2_with fail
      refine HL1.out.mono ?_
      rintro e w' ⟨rfl, rfl⟩
      clear HL1
      go_wp2_with fail
      have HG := Lib.hid (give_any g q c l w3 s3.out (SlI.ofOwns o3.out) hoff H15.out hL)
      refine HG.out.mono ?_
      rintro e w4 ⟨rfl, nb, cb, ob4, hG⟩
      have HW := Lib.hid hG
      clear hG
      go_wp2_with fail
      go_ret2
      exact ⟨g, rfl, make_end HW.out fb3.out (by omega) o3.out HQ.out (fun k hk => ⟨Nat.lt_of_lt_of_le (hqb' k hk).1 hz3, (hqb' k hk).2⟩) hoff ok hL H15.out, hg1⟩
    | false =>
      have h0 : mx l = 0 := by
        rcases ok with h | h | h
        · exact absurd h hfu
        · exfalso
          have : lonB (mx l) (mny l 1) = true := decide_eq_true ⟨h.1, h.2⟩
          rw [hlo] at this
          cases this
        · exact h
      rw [hlo] at hl1
      have HL1 := Lib.hid hl1
      have hb1 := bare_any g w3 s3.out
      rw [decide_eq_true h0] at hb1
      have HB1 := Lib.hid hb1
      clear hl1 hfu hlo hb1 h0
      go_wp2_with fail
      refine HL1.out.mono ?_
      rintro e w' ⟨rfl, rfl⟩
      clear HL1
      go_wp2_with fail
      refine HB1.out.mono ?_
      rintro e w' ⟨rfl, rfl⟩
      clear HB1
      go_wp2_with fail
      have HG := Lib.hid (give_any g q c l w3 s3.out (SlI.ofOwns o3.out) hoff H15.out hL)
      refine HG.out.mono ?_
      rintro e w4 ⟨rfl, nb, cb, ob4, hG⟩
      have HW := Lib.hid hG
      clear hG
      go_wp2_with fail
      go_ret2
      exact ⟨g, rfl, make_end HW.out fb3.out (by omega) o3.out HQ.out (fun k hk => ⟨Nat.lt_of_lt_of_le (hqb' k hk).1 hz3, (hqb' k hk).2⟩) hoff ok hL H15.out, hg1⟩

set_option maxRecDepth 100000 in
set_option maxHeartbeats 1000000 in
theorem make_no (p : Option Addr) (d : Nat) (l : List Nat) (w : World) (hl : SlI w .u8 p l) (hp : p = none → d = 0) (hL : l.length ≤ 320) (h15 : ∀ x ∈ l, x ≤ 15) (ok : ¬ okl l) :
    Calls Try.prog 60 #[.slice p l.length d] w fun e w' => e = .returned (.tuple #[.pointer none, .int .i64 62]) ∧ Fr S0 w w' := by
  have hlong : long l = false := by
    unfold long
    rw [List.any_eq_false]
    intro x hx
    have := h15 x hx
    simpa using this
  have HC := contains_any p d l w hl (by omega)
  rw [hlong] at HC
  have HK := Lib.hid HC
  have HCL := Lib.hid (clone_any p d l w hl hp (by omega))
  have HL := Lib.hid hl
  have H15 := Lib.hid h15
  have hnot : ¬ (l.length : Int) > 320 := by omega
  clear hlong HC hl h15
  go_enter Try.func60, Try.ntmps60
  go_wp2_with fail
  refine HK.out.mono ?_
  rintro e w' ⟨rfl, rfl⟩
  go_wp2_with fail
  refine HCL.out.mono ?_
  rintro e w1 ⟨v, rfl, f1, hv⟩
  obtain ⟨q, c, rfl, hq, -, -⟩ := slForm hv.own
  have sb := bare_row w1 (.slice q l.length c)
  have fb : Fr S0 w (w1.alloc (.cells (bareC (.slice q l.length c)) 101)) := f1.trans0 (Fr.alloc _ _ _)
  have ob : (w1.alloc (.cells (bareC (.slice q l.length c)) 101)).ownsRow 0 5 1 (.slice q l.length c) l.length (u8s l) := hv.own.alloc _
  have zb : (w1.alloc (.cells (bareC (.slice q l.length c)) 101)).heap.size = w1.heap.size + 1 := size_alloc _ _
  obtain ⟨BC, hBC⟩ : ∃ X, bareC (.slice q l.length c) = X := ⟨_, rfl⟩
  rw [hBC] at sb fb ob zb
  have hg1 := f1.size
  have hqb : ∀ k, Value.ownBlock (.slice q l.length c) = some k → k < w1.heap.size ∧ w.heap.size ≤ k := fun k hk => ⟨(hv.own.lt k hk).2, hv.fresh k hk⟩
  unfold bareC at hBC
  have HQ := Lib.hid hq
  clear hq hv
  go_wp2_with fail
  obtain ⟨g, hg⟩ : ∃ g, w1.heap.size = g := ⟨_, rfl⟩
  rw [hg] at sb zb hg1 hqb ⊢
  generalize w1.alloc (.cells BC 101) = W at sb fb ob zb ⊢
  have hoff : Off (· = g) q := fun a ha e => by
    have := hqb a.block (by rw [ha]; rfl)
    omega
  have HC := Lib.hid (count_any g q c l W sb (SlI.ofOwns ob) hoff H15.out hL)
  clear hBC hg sb
  refine HC.out.mono ?_
  rintro e w2 ⟨rfl, f2, s2⟩
  have fb2 : Fr S0 w w2 := fb.trans f2 (fun k hk e => by omega)
  clear HC fb ob f2 zb
  have hF := full_any g w2 s2 (by omega)
  have hfu : ¬ ful l := fun h => ok (.inl h)
  have hlo : lonB (mx l) (mny l 1) = false := decide_eq_false fun h => ok (.inr (.inl ⟨h.1, h.2⟩))
  have h0 : ¬ mx l = 0 := fun h => ok (.inr (.inr h))
  rw [decide_eq_false hfu] at hF
  have HF := Lib.hid hF
  clear hF
  go_wp2_with fail
  refine HF.out.mono ?_
  rintro e w3 ⟨rfl, f3⟩
  have s3 := Lib.hid (s2.fr f3 (fun h => h))
  have fb3 := Lib.hid (fb2.trans0 f3)
  clear HF f3 s2 fb2
  have hl1 := lone_any g w3 s3.out
  rw [hlo] at hl1
  have HL1 := Lib.hid hl1
  have hb1 := bare_any g w3 s3.out
  rw [decide_eq_false h0] at hb1
  have HB1 := Lib.hid hb1
  clear hl1 hfu hlo hb1 h0 ok
  go_wp2_with fail
  refine HL1.out.mono ?_
  rintro e w' ⟨rfl, rfl⟩
  clear HL1
  go_wp2_with fail
  refine HB1.out.mono ?_
  rintro e w' ⟨rfl, rfl⟩
  clear HB1
  go_wp2_with fail
  go_ret2
  exact ⟨rfl, fb3.out⟩

set_option maxRecDepth 100000 in
set_option maxHeartbeats 1000000 in
theorem make_many (p : Option Addr) (d : Nat) (l : List Nat) (w : World) (hL : ¬ l.length ≤ 320) :
    Calls Try.prog 60 #[.slice p l.length d] w fun e w' => e = .returned (.tuple #[.pointer none, .int .i64 1]) ∧ w = w' := by
  have hnot : (l.length : Int) > 320 := by omega
  clear hL
  go_enter Try.func60, Try.ntmps60
  go_wp2_with fail
  go_ret2
  exact ⟨rfl, rfl⟩
set_option maxRecDepth 100000 in
set_option maxHeartbeats 1000000 in
theorem make_long (p : Option Addr) (d : Nat) (l : List Nat) (w : World) (hl : SlI w .u8 p l) (hL : l.length ≤ 320) (h : long l = true) :
    Calls Try.prog 60 #[.slice p l.length d] w fun e w' => e = .returned (.tuple #[.pointer none, .int .i64 1]) ∧ w = w' := by
  have hnot : ¬ (l.length : Int) > 320 := by omega
  have HC := contains_any p d l w hl (by omega)
  rw [h] at HC
  have HK := Lib.hid HC
  clear hL hl h HC
  go_enter Try.func60, Try.ntmps60
  go_wp2_with fail
  refine HK.out.mono ?_
  rintro e w' ⟨rfl, rfl⟩
  go_wp2_with fail
  go_ret2
  exact ⟨rfl, rfl⟩
end Go.Proofs.Ytfibhgohenkfbaa
