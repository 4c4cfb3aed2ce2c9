/- Which forms a pattern's letters have. -/
import Derived.Test.YtgjiepbaagmmiaaFormOf
namespace Go.Proofs.Ytgjiepbaagmmiaa
open Go.RowKit

theorem fIdx_some (c k : Nat) (h : fIdx c = some k) : k < 10 ∧ (fRow k).1 = c := by
  unfold fIdx at h
  rw [List.findIdx?_eq_some_iff_getElem] at h
  obtain ⟨hk, hc, _⟩ := h
  have h10 : formRows.length = 10 := rfl
  refine ⟨by omega, ?_⟩
  unfold fRow
  simp only [List.getD, List.getElem?_eq_getElem hk, Option.getD_some]
  simpa using hc
theorem fIdx_none (c : Nat) (h : fIdx c = none) : ∀ k, k < 10 → (fRow k).1 ≠ c := by
  unfold fIdx at h
  rw [List.findIdx?_eq_none_iff] at h
  intro k hk
  have h10 : formRows.length = 10 := rfl
  have := h formRows[k] (List.getElem_mem _)
  unfold fRow
  simp only [List.getD, List.getElem?_eq_getElem (show k < formRows.length by omega), Option.getD_some]
  intro e
  rw [beq_eq_false_iff_ne] at this
  exact this e

theorem formOf_yes' (k c : Nat) (hk : k < 10) (hc : (fRow k).1 = c) (w : World) :
    Calls Try.prog 20 #[.int .u8 (c : Nat)] w fun e w' => e = .returned (.tuple #[.agg #[.int .u8 ((fRow k).1 : Nat), .int .i64 ((fRow k).2.1 : Nat), .func (.func (fRow k).2.2.1) #[] #[], .func (.func (fRow k).2.2.2) #[] #[]], .bool true]) ∧ Fr S0 w w' := formOf_yes k c hk hc w
theorem formOf_no' (c : Nat) (hc : ∀ k, k < 10 → (fRow k).1 ≠ c) (w : World) :
    Calls Try.prog 20 #[.int .u8 (c : Nat)] w fun e w' => e = .returned (.tuple #[.agg #[.int .u8 0, .int .i64 0, .nilFunc, .nilFunc], .bool false]) ∧ Fr S0 w w' := formOf_no c hc w

/-- the letters' rows; none, if there is another letter -/
def rowsOf : List Nat → Option (List Nat)
  | [] => some []
  | c :: r => match fIdx c, rowsOf r with
    | some k, some ks => some (k :: ks)
    | _, _ => none
theorem rowsOf_snoc (c : Nat) : ∀ l : List Nat, rowsOf (l ++ [c]) = match rowsOf l, fIdx c with | some ks, some k => some (ks ++ [k]) | _, _ => none
  | [] => by
    simp only [List.nil_append, rowsOf]
    cases fIdx c <;> rfl
  | d :: r => by
    simp only [List.cons_append, rowsOf, rowsOf_snoc c r]
    cases fIdx d <;> cases rowsOf r <;> cases fIdx c <;> rfl
theorem rowsOf_none (l : List Nat) (r : List Nat) (h : rowsOf l = none) : rowsOf (l ++ r) = none := by
  induction l with
  | nil => simp [rowsOf] at h
  | cons c l ih =>
    simp only [List.cons_append, rowsOf] at h ⊢
    cases hc : fIdx c with
    | none => rfl
    | some k =>
      cases hl : rowsOf l with
      | none => rw [ih hl]
      | some ks => simp [hc, hl] at h
theorem rowsOf_length : ∀ (l ks : List Nat), rowsOf l = some ks → ks.length = l.length
  | [], ks, h => by simp [rowsOf] at h; subst h; rfl
  | c :: r, ks, h => by
    simp only [rowsOf] at h
    cases hc : fIdx c <;> cases hr : rowsOf r <;> simp [hc, hr] at h
    subst h
    simp [rowsOf_length r _ hr]
/-- the letters of a pattern -/
def pat (s : ByteArray) : List Nat := s.data.toList.map UInt8.toNat
theorem pat_length (s : ByteArray) : (pat s).length = s.size := by simp [pat]
theorem pat_take (s : ByteArray) (k : Nat) (h : k < s.size) : (pat s).take (k + 1) = (pat s).take k ++ [s[k].toNat] := by
  have hk : k < (pat s).length := by rw [pat_length]; exact h
  rw [List.take_succ_eq_append_getElem hk]
  simp [pat]; rfl
/-- the forms of a pattern: none, if it isn't right -/
def formsS (l : List Nat) : Option (List Nat) := if 64 < l.length then none else rowsOf l
def rowCells (ks : List Nat) : List Value := ks.flatMap fun k => (fCells (fRow k)).toList

theorem elForm : ElemOk Try.prog 42 50 (.agg zeroCells) 4 32 := ⟨Try.underlying42, info_form, rfl, by decide, by decide⟩
theorem oneForms (a b : Int) (p q : FuncId) : ∀ u ∈ (#[Value.int .u8 a, .int .i64 b, .func (.func p) #[] #[], .func (.func q) #[] #[]]).toList, u.oneCell' = true := by
  intro u hu; simp at hu; rcases hu with rfl | rfl | rfl | rfl <;> rfl
def Fresh (w : World) (v : Value) : Prop := ∀ g, v.ownBlock = some g → w.heap.size ≤ g
def FormsPost (w : World) (e : Ending) (w' : World) (r : Option (List Nat)) : Prop :=
  Fr S0 w w' ∧ match r with
  | none => e = .returned (.tuple #[.slice none 0 0, .bool false])
  | some ks => ∃ v, e = .returned (.tuple #[v, .bool true]) ∧ w'.ownsRow 0 50 4 v ks.length (rowCells ks) ∧ Fresh w v

set_option maxRecDepth 100000 in
set_option maxHeartbeats 1000000 in
theorem formsOf_any (s : ByteArray) (w : World) (hs : s.size ≤ maxLen) :
    Calls Try.prog 17 #[.string s] w fun e w' => FormsPost w e w' (formsS (pat s)) := by
  unfold maxLen at hs
  by_cases h64 : (64 : Int) < (s.size : Int)
  · have HN : Hid (formsS (pat s) = none) := Lib.hid (if_pos (by rw [pat_length]; omega))
    go_enter Try.func17, Try.ntmps17
    go_wp2
    go_ret2
    rw [HN.out]
    exact ⟨Fr.refl _ _, rfl⟩
  · have HS : Hid (formsS (pat s) = rowsOf (pat s)) := Lib.hid (if_neg (by rw [pat_length]; omega))
    have HR : Hid (Room s.size) := Lib.hid (Room.mk (by omega))
    go_enter Try.func17, Try.ntmps17
    go_wp2_with (at_make; refine make_room elForm _ _ rfl rfl rfl rfl HR.out ?_; intro w1 own1 hf1)
    go_loopw [4, 5, 6, 7, 16] (fun v _ _ _ i wr => ∃ (k : Nat) (ks : List Nat), k ≤ s.size ∧ i = .int .i64 k ∧ rowsOf ((pat s).take k) = some ks ∧ wr.ownsRow 0 50 4 v ks.length (rowCells ks) ∧ Fresh w v ∧ Fr S0 w wr) (fun _ _ _ _ i _ => s.size - (intOf i).toNat)
    case atStart => exact ⟨0, [], by omega, rfl, rfl, own1, fun g hg => by simp [Value.ownBlock] at hg; omega, hf1⟩
    case round =>
      obtain ⟨k, ks, hk, rfl, hks, own, hfresh, hfr⟩ := hrel
      by_cases hlt : (k : Int) < (s.size : Int)
      · have hlt' : k < s.size := by omega
        have HP := Lib.hid (pat_take s k hlt')
        obtain ⟨c, hc⟩ : ∃ c, s[k].toNat = c := ⟨_, rfl⟩
        cases hi : fIdx c with
        | none =>
          have HN : Hid (formsS (pat s) = none) := Lib.hid (by
            rw [HS.out, ← List.take_append_drop (k + 1) (pat s)]
            refine rowsOf_none _ _ ?_
            rw [HP.out, rowsOf_snoc, hks, hc, hi])
          have HC := Lib.hid hc
          have HI := Lib.hid hi
          have HK := Lib.hid hks
          clear hc hi hks
          go_wp2_with (go_at_call 20; rw [HC.out]; refine (formOf_no' c (fIdx_none c HI.out) _).mono ?_; rintro e w' ⟨rfl, hf⟩)
          go_ret2
          rw [HN.out]
          exact ⟨(hfr.trans0 hf).trans0 (Fr.alloc S0 _ _), rfl⟩
        | some j =>
          have HN : Hid (rowsOf ((pat s).take (k + 1)) = some (ks ++ [j])) := Lib.hid (by
            rw [HP.out, rowsOf_snoc, hks, hc, hi])
          have HC := Lib.hid hc
          have HJ := Lib.hid (fIdx_some c j hi)
          have HK := Lib.hid hks
          clear hc hi hks
          have HR1 : Hid (Room (ks.length + 1)) := Lib.hid (Room.mk (by
            have := rowsOf_length _ _ HK.out
            simp [pat_length] at this
            omega))
          go_wp2_with (first | (go_at_call 20; rw [HC.out]; refine (formOf_yes' j c HJ.out.1 HJ.out.2 _).mono ?_; rintro e w' ⟨rfl, hf⟩; have own' := hf.owns own (fun _ _ h => h); clear own) | (at_builtin; refine app_one elForm (.tmp 28) (.tmp 30) (size_alloc _ _) (own'.alloc _) rfl rfl rfl rfl rfl (oneForms _ _ _ _) HR1.out ?_; intro g cap w2 hown hgrow hat hlt2))
          go_roundw
          case rel =>
            refine ⟨k + 1, ks ++ [j], by omega, by go_num, HN.out, ?_, ?_, ?_⟩
            · rw [List.length_append]
              have : rowCells (ks ++ [j]) = rowCells ks ++ (fCells (fRow j)).toList := by simp [rowCells]
              rw [this]
              exact hown
            · intro q hq
              rcases hat with hat | hat
              · exact hfresh q (by rw [hat]; exact hq)
              · simp [Value.ownBlock] at hq
                have h1 := hfr.size
                have h2 := hf.size
                omega
            · exact (((hfr.trans0 hf).trans0 (Fr.alloc S0 _ _)).trans0 (Fr.alloc S0 _ _)).append hgrow hfresh
          case measure => simp [intOf]; omega
      · obtain rfl : k = s.size := by omega
        have HK : Hid (rowsOf (pat s) = some ks) := Lib.hid (by rw [← hks, List.take_of_length_le (by rw [pat_length]; omega)])
        clear hks
        go_wp2
        go_ret2
        rw [HS.out, HK.out]
        exact ⟨hfr, _, rfl, own, hfresh⟩
end Go.Proofs.Ytgjiepbaagmmiaa
