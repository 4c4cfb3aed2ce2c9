/- Stacks of levels: putting, packing, what is counted. -/
import Derived.WalkKit
namespace Go.Proofs.Ytbpfmjekpjfceaa

/-- by size -/
def Asc (l : List Int) : Prop := l.Pairwise fun a b => a ≤ b
/-- into a list by size, behind all that aren't greater -/
def insZ (v : Int) : List Int → List Int
  | [] => [v]
  | y :: r => if v < y then v :: y :: r else y :: insZ v r
theorem insZ_len (v : Int) : ∀ l, (insZ v l).length = l.length + 1
  | [] => rfl
  | y :: r => by
    rw [insZ]
    split
    · simp
    · simp [insZ_len v r]
theorem insZ_mem (v : Int) : ∀ l x, x ∈ insZ v l ↔ x = v ∨ x ∈ l
  | [], x => by simp [insZ]
  | y :: r, x => by
    rw [insZ]
    split
    · simp
    · simp only [List.mem_cons, insZ_mem v r x]
      constructor
      · rintro (h | h | h)
        · exact .inr (.inl h)
        · exact .inl h
        · exact .inr (.inr h)
      · rintro (h | h | h)
        · exact .inr (.inl h)
        · exact .inl h
        · exact .inr (.inr h)
theorem insZ_asc (v : Int) : ∀ l, Asc l → Asc (insZ v l)
  | [], _ => List.pairwise_singleton _ _
  | y :: r, h => by
    obtain ⟨h1, h2⟩ := List.pairwise_cons.1 h
    rw [insZ]
    split
    · rename_i hv
      refine List.pairwise_cons.2 ⟨fun z hz => ?_, h⟩
      rcases List.mem_cons.1 hz with rfl | hz
      · omega
      · have := h1 z hz; omega
    · rename_i hv
      refine List.pairwise_cons.2 ⟨fun z hz => ?_, insZ_asc v r h2⟩
      rcases (insZ_mem v r z).1 hz with rfl | hz
      · omega
      · exact h1 z hz
theorem insZ_cnt (P : Int → Bool) (v : Int) : ∀ l, (insZ v l).countP P = l.countP P + (if P v then 1 else 0)
  | [] => by simp [insZ, List.countP_cons]
  | y :: r => by
    rw [insZ]
    split
    · rw [List.countP_cons]
    · rw [List.countP_cons, List.countP_cons, insZ_cnt P v r]
      omega
/-- levels: a value of the level h weighs 2^h -/
abbrev Lv := List (List Int)
/-- the weight of all values that P holds of -/
def cntL (P : Int → Bool) : Lv → Nat
  | [] => 0
  | l :: r => l.countP P + 2 * cntL P r
def wtL (L : Lv) : Nat := cntL (fun _ => true) L
def kept : Lv → Nat
  | [] => 0
  | l :: r => l.length + kept r
theorem countP_all (l : List Int) : l.countP (fun _ => true) = l.length := by
  induction l with
  | nil => rfl
  | cons a r ih => rw [List.countP_cons, ih]; simp
theorem wtL_cons (l : List Int) (r : Lv) : wtL (l :: r) = l.length + 2 * wtL r := by
  unfold wtL
  rw [cntL, countP_all]
theorem cntL_le (P : Int → Bool) : ∀ L, cntL P L ≤ wtL L
  | [] => Nat.le_refl _
  | l :: r => by
    have h1 := cntL_le P r
    have h2 := List.countP_le_length (p := P) (l := l)
    rw [wtL_cons, cntL]
    omega
theorem cntL_mono (P Q : Int → Bool) (h : ∀ x, P x = true → Q x = true) : ∀ L, cntL P L ≤ cntL Q L
  | [] => Nat.le_refl _
  | l :: r => by
    have h1 := cntL_mono P Q h r
    have h2 := List.countP_mono_left (p := P) (q := Q) (l := l) fun x _ => h x
    rw [cntL, cntL]
    omega
/-- a value is put to a level -/
def putL : Lv → Nat → Int → Lv
  | [], 0, v => [[v]]
  | [], h + 1, v => [] :: putL [] h v
  | l :: r, 0, v => insZ v l :: r
  | l :: r, h + 1, v => l :: putL r h v
theorem putL_cnt (P : Int → Bool) (v : Int) : ∀ L h, cntL P (putL L h v) = cntL P L + (if P v then 2 ^ h else 0)
  | [], 0 => by simp [putL, cntL, List.countP_cons]
  | [], h + 1 => by
    rw [putL, show cntL P ([] :: putL [] h v) = 0 + 2 * cntL P (putL [] h v) from rfl, putL_cnt P v [] h]
    simp only [cntL]
    split
    · rw [Nat.pow_succ]; omega
    · rfl
  | l :: r, 0 => by
    rw [putL, cntL, cntL, insZ_cnt]
    simp only [Nat.pow_zero]
    omega
  | l :: r, h + 1 => by
    rw [putL, cntL, cntL, putL_cnt P v r h]
    split
    · rw [Nat.pow_succ]; omega
    · omega
theorem putL_wt (v : Int) (L : Lv) (h : Nat) : wtL (putL L h v) = wtL L + 2 ^ h := by
  have := putL_cnt (fun _ => true) v L h
  simpa [wtL] using this
theorem putL_kept (v : Int) : ∀ L h, kept (putL L h v) = kept L + 1
  | [], 0 => rfl
  | [], h + 1 => by rw [putL, show kept ([] :: putL [] h v) = 0 + kept (putL [] h v) from rfl, putL_kept v [] h]; simp [kept]
  | l :: r, 0 => by rw [putL, kept, kept, insZ_len]; omega
  | l :: r, h + 1 => by rw [putL, kept, kept, putL_kept v r h]; omega
theorem putL_len (v : Int) : ∀ L h, (putL L h v).length = max L.length (h + 1)
  | [], 0 => rfl
  | [], h + 1 => by rw [putL, List.length_cons, putL_len v [] h]; simp
  | l :: r, 0 => by rw [putL, List.length_cons, List.length_cons]; omega
  | l :: r, h + 1 => by rw [putL, List.length_cons, List.length_cons, putL_len v r h]; omega
def AscL (L : Lv) : Prop := ∀ l ∈ L, Asc l
theorem putL_asc (v : Int) : ∀ L h, AscL L → AscL (putL L h v)
  | [], 0, _ => fun l hl => by
    rw [putL] at hl
    rw [List.mem_singleton.1 hl]
    exact List.pairwise_singleton _ _
  | [], h + 1, hL => fun l hl => by
    rw [putL] at hl
    rcases List.mem_cons.1 hl with rfl | hl
    · exact List.Pairwise.nil
    · exact putL_asc v [] h hL l hl
  | a :: r, 0, hL => fun l hl => by
    rw [putL] at hl
    rcases List.mem_cons.1 hl with rfl | hl
    · exact insZ_asc v a (hL a List.mem_cons_self)
    · exact hL l (List.mem_cons_of_mem _ hl)
  | a :: r, h + 1, hL => fun l hl => by
    rw [putL] at hl
    rcases List.mem_cons.1 hl with rfl | hl
    · exact hL l List.mem_cons_self
    · exact putL_asc v r h (fun z hz => hL z (List.mem_cons_of_mem _ hz)) l hl
/-- is it a value of one of them? -/
def InL (L : Lv) (x : Int) : Prop := ∃ l ∈ L, x ∈ l
theorem putL_in (v : Int) : ∀ L h x, InL (putL L h v) x → x = v ∨ InL L x
  | [], 0, x, ⟨l, hl, hx⟩ => by
    rw [putL] at hl
    rw [List.mem_singleton.1 hl] at hx
    exact .inl (List.mem_singleton.1 hx)
  | [], h + 1, x, ⟨l, hl, hx⟩ => by
    rw [putL] at hl
    rcases List.mem_cons.1 hl with rfl | hl
    · cases hx
    · rcases putL_in v [] h x ⟨l, hl, hx⟩ with h1 | ⟨l', h1, _⟩
      · exact .inl h1
      · cases h1
  | a :: r, 0, x, ⟨l, hl, hx⟩ => by
    rw [putL] at hl
    rcases List.mem_cons.1 hl with rfl | hl
    · rcases (insZ_mem v a x).1 hx with h1 | h1
      · exact .inl h1
      · exact .inr ⟨a, List.mem_cons_self, h1⟩
    · exact .inr ⟨l, List.mem_cons_of_mem _ hl, hx⟩
  | a :: r, h + 1, x, ⟨l, hl, hx⟩ => by
    rw [putL] at hl
    rcases List.mem_cons.1 hl with rfl | hl
    · exact .inr ⟨l, List.mem_cons_self, hx⟩
    · rcases putL_in v r h x ⟨l, hl, hx⟩ with h1 | ⟨l', h1, h2⟩
      · exact .inl h1
      · exact .inr ⟨l', List.mem_cons_of_mem _ h1, h2⟩
/-- the coin's one of each two, by size; what stays -/
def twos (c : Nat) : List Int → List Int
  | a :: b :: r => (if c = 0 then a else b) :: twos c r
  | _ => []
def stay : List Int → List Int
  | _ :: _ :: r => stay r
  | l => l
theorem two_len (c : Nat) : ∀ l, l.length = (stay l).length + 2 * (twos c l).length
  | [] => rfl
  | [_] => rfl
  | _ :: _ :: r => by
    rw [stay, twos, List.length_cons, List.length_cons, List.length_cons, two_len c r]
    omega
theorem stay_len : ∀ l : List Int, (stay l).length = l.length % 2
  | [] => rfl
  | [_] => rfl
  | _ :: _ :: r => by
    rw [stay, stay_len r, List.length_cons, List.length_cons]
    omega
theorem twos_mem (c : Nat) : ∀ l x, x ∈ twos c l → x ∈ l
  | [], _, h => by cases h
  | [_], _, h => by cases h
  | a :: b :: r, x, h => by
    rw [twos] at h
    rcases List.mem_cons.1 h with rfl | h
    · split <;> simp
    · exact List.mem_cons_of_mem _ (List.mem_cons_of_mem _ (twos_mem c r x h))
theorem stay_mem : ∀ (l : List Int) x, x ∈ stay l → x ∈ l
  | [], _, h => by cases h
  | [_], _, h => h
  | _ :: _ :: r, x, h => List.mem_cons_of_mem _ (List.mem_cons_of_mem _ (stay_mem r x (by rwa [stay] at h)))
theorem stay_asc : ∀ l : List Int, Asc l → Asc (stay l)
  | [], h => h
  | [_], h => h
  | _ :: _ :: r, h => stay_asc r (List.pairwise_cons.1 (List.pairwise_cons.1 h).2).2
/-- a property that lesser values have, too -/
def Low (P : Int → Bool) : Prop := ∀ a b, a ≤ b → P b = true → P a = true
theorem cnt_none (P : Int → Bool) : ∀ l : List Int, (∀ x ∈ l, P x = false) → l.countP P = 0
  | [], _ => rfl
  | a :: r, h => by
    rw [List.countP_cons, cnt_none P r fun x hx => h x (List.mem_cons_of_mem _ hx), h a List.mem_cons_self]
    rfl
theorem two_cnt (P : Int → Bool) (hP : Low P) (c : Nat) : ∀ l, Asc l → (stay l).countP P + 2 * (twos c l).countP P ≤ l.countP P + 1 ∧ l.countP P ≤ (stay l).countP P + 2 * (twos c l).countP P + 1
  | [], _ => by simp [stay, twos]
  | [a], _ => by simp [stay, twos]
  | a :: b :: r, h => by
    obtain ⟨h1, h2⟩ := List.pairwise_cons.1 h
    obtain ⟨h3, h4⟩ := List.pairwise_cons.1 h2
    have hab := h1 b List.mem_cons_self
    obtain ⟨i1, i2⟩ := two_cnt P hP c r h4
    rw [stay, twos, List.countP_cons, List.countP_cons, List.countP_cons]
    by_cases hb : P b = true
    · have ha := hP a b hab hb
      have hc : P (if c = 0 then a else b) = true := by split <;> assumption
      rw [if_pos hb, if_pos ha, if_pos hc]
      omega
    · have hr : ∀ x ∈ r, P x = false := fun x hx => by
        cases hx2 : P x with
        | false => rfl
        | true => exact absurd (hP b x (h3 x hx) hx2) hb
      have r1 := cnt_none P r hr
      have r2 := cnt_none P (stay r) fun x hx => hr x (stay_mem r x hx)
      have r3 := cnt_none P (twos c r) fun x hx => hr x (twos_mem c r x hx)
      rw [r1, r2, r3, if_neg hb]
      by_cases ha : P a = true
      · rw [if_pos ha]
        constructor
        · split <;> omega
        · omega
      · have hc : ¬ P (if c = 0 then a else b) = true := by split <;> assumption
        rw [if_neg ha, if_neg hc]
        omega
/-- put one behind the other to the least level -/
def putsL (L : Lv) (h : Nat) (xs : List Int) : Lv := xs.foldl (fun L x => putL L h x) L
theorem putsL_cons (L : Lv) (h : Nat) (x : Int) (xs : List Int) : putsL L h (x :: xs) = putsL (putL L h x) h xs := rfl
theorem putsL_cnt (P : Int → Bool) (h : Nat) : ∀ xs L, cntL P (putsL L h xs) = cntL P L + 2 ^ h * xs.countP P
  | [], L => by simp [putsL]
  | x :: xs, L => by
    rw [putsL_cons, putsL_cnt P h xs, putL_cnt, List.countP_cons]
    split
    · rw [Nat.mul_add]; omega
    · rw [Nat.add_zero, Nat.add_zero]
theorem putsL_kept (h : Nat) : ∀ xs L, kept (putsL L h xs) = kept L + xs.length
  | [], L => rfl
  | x :: xs, L => by rw [putsL_cons, putsL_kept h xs, putL_kept, List.length_cons]; omega
theorem putsL_asc (h : Nat) : ∀ xs L, AscL L → AscL (putsL L h xs)
  | [], _, hL => hL
  | x :: xs, L, hL => putsL_asc h xs _ (putL_asc x L h hL)
theorem putsL_in (h : Nat) : ∀ xs L z, InL (putsL L h xs) z → z ∈ xs ∨ InL L z
  | [], _, _, hz => .inr hz
  | x :: xs, L, z, hz => by
    rcases putsL_in h xs _ z hz with h1 | h1
    · exact .inl (List.mem_cons_of_mem _ h1)
    · rcases putL_in x L h z h1 with rfl | h2
      · exact .inl List.mem_cons_self
      · exact .inr h2
theorem putsL_len (h : Nat) : ∀ xs L, xs ≠ [] → (putsL L h xs).length = max L.length (h + 1)
  | [], _, hx => absurd rfl hx
  | [x], L, _ => putL_len x L h
  | x :: y :: xs, L, _ => by
    rw [putsL_cons, putsL_len h (y :: xs) _ (by simp), putL_len]
    omega
/-- a level is packed -/
def comp : Lv → Nat → Nat → Lv
  | [], _, _ => []
  | l :: r, 0, c => stay l :: putsL r 0 (twos c l)
  | l :: r, h + 1, c => l :: comp r h c
theorem putL_succ (l : List Int) (r : Lv) (h : Nat) (v : Int) : putL (l :: r) (h + 1) v = l :: putL r h v := rfl
theorem putsL_succ (l : List Int) (h : Nat) : ∀ xs r, putsL (l :: r) (h + 1) xs = l :: putsL r h xs
  | [], _ => rfl
  | x :: xs, r => by rw [putsL_cons, putL_succ, putsL_succ l h xs, putsL_cons]
/-- as it is done: the level is emptied, what goes up is put to the next one -/
theorem comp_is (c : Nat) : ∀ (L : Lv) (h : Nat) (hh : h < L.length), comp L h c = putsL (L.set h (stay L[h])) (h + 1) (twos c L[h])
  | [], h, hh => absurd hh (Nat.not_lt_zero _)
  | l :: r, 0, _ => by
    rw [comp, List.set_cons_zero, putsL_succ]
    rfl
  | l :: r, h + 1, hh => by
    have hh2 : h < r.length := by simpa using hh
    rw [comp, comp_is c r h hh2, List.set_cons_succ, putsL_succ]
    rfl
theorem comp_cnt (P : Int → Bool) (hP : Low P) (c : Nat) : ∀ (L : Lv) (h : Nat), AscL L → cntL P (comp L h c) ≤ cntL P L + 2 ^ h ∧ cntL P L ≤ cntL P (comp L h c) + 2 ^ h
  | [], _, _ => ⟨Nat.zero_le _, Nat.zero_le _⟩
  | l :: r, 0, hL => by
    obtain ⟨h1, h2⟩ := two_cnt P hP c l (hL l List.mem_cons_self)
    rw [comp, cntL, cntL, putsL_cnt]
    simp only [Nat.pow_zero, Nat.one_mul]
    omega
  | l :: r, h + 1, hL => by
    obtain ⟨h1, h2⟩ := comp_cnt P hP c r h fun z hz => hL z (List.mem_cons_of_mem _ hz)
    rw [comp, cntL, cntL, Nat.pow_succ]
    omega
theorem comp_wt (c : Nat) : ∀ (L : Lv) (h : Nat), wtL (comp L h c) = wtL L
  | [], _ => rfl
  | l :: r, 0 => by
    have h1 := two_len c l
    rw [comp, wtL_cons, wtL_cons]
    have h2 := putsL_cnt (fun _ => true) 0 (twos c l) r
    rw [countP_all] at h2
    unfold wtL
    rw [h2]
    simp only [Nat.pow_zero, Nat.one_mul]
    omega
  | l :: r, h + 1 => by rw [comp, wtL_cons, wtL_cons, comp_wt c r h]
theorem comp_kept (c : Nat) : ∀ (L : Lv) (h : Nat) (hh : h < L.length), 2 ≤ (L[h]).length → kept (comp L h c) < kept L
  | [], h, hh, _ => absurd hh (Nat.not_lt_zero _)
  | l :: r, 0, _, h2 => by
    have h1 := two_len c l
    have h3 := stay_len l
    rw [comp, kept, kept, putsL_kept]
    simp only [List.getElem_cons_zero] at h2
    omega
  | l :: r, h + 1, hh, h2 => by
    have hh2 : h < r.length := by simpa using hh
    have := comp_kept c r h hh2 (by simpa using h2)
    rw [comp, kept, kept]
    omega
theorem comp_asc (c : Nat) : ∀ (L : Lv) (h : Nat), AscL L → AscL (comp L h c)
  | [], _, hL => hL
  | l :: r, 0, hL => fun z hz => by
    rw [comp] at hz
    rcases List.mem_cons.1 hz with rfl | hz
    · exact stay_asc l (hL l List.mem_cons_self)
    · exact putsL_asc 0 (twos c l) r (fun z hz => hL z (List.mem_cons_of_mem _ hz)) z hz
  | l :: r, h + 1, hL => fun z hz => by
    rw [comp] at hz
    rcases List.mem_cons.1 hz with rfl | hz
    · exact hL z List.mem_cons_self
    · exact comp_asc c r h (fun z hz => hL z (List.mem_cons_of_mem _ hz)) z hz
theorem InL.cons {l : List Int} {r : Lv} {x : Int} (h : InL r x) : InL (l :: r) x := let ⟨z, h1, h2⟩ := h; ⟨z, List.mem_cons_of_mem _ h1, h2⟩
theorem comp_in (c : Nat) : ∀ (L : Lv) (h : Nat) x, InL (comp L h c) x → InL L x
  | [], _, _, h => h
  | l :: r, 0, x, ⟨z, hz, hx⟩ => by
    rw [comp] at hz
    rcases List.mem_cons.1 hz with rfl | hz
    · exact ⟨l, List.mem_cons_self, stay_mem l x hx⟩
    · rcases putsL_in 0 (twos c l) r x ⟨z, hz, hx⟩ with h1 | h1
      · exact ⟨l, List.mem_cons_self, twos_mem c l x h1⟩
      · exact h1.cons
  | l :: r, h + 1, x, ⟨z, hz, hx⟩ => by
    rw [comp] at hz
    rcases List.mem_cons.1 hz with rfl | hz
    · exact ⟨z, List.mem_cons_self, hx⟩
    · exact (comp_in c r h x ⟨z, hz, hx⟩).cons
end Go.Proofs.Ytbpfmjekpjfceaa
