/- KlMath, KlPack, KcMath -/
import Derived.WalkKit
set_option maxRecDepth 100000
set_option maxHeartbeats 8000000
namespace Go.Proofs.Ytbpfmjekpjfceaa
def Asc (l : List Int) : Prop := l.Pairwise fun a b => a ≤ b
def insZ (v : Int) : List Int → List Int
  | [] => [v]
  | y :: r => if v < y then v :: y :: r else y :: insZ v r
theorem insZ_len (v : Int) : ∀ l, (insZ v l).length = l.length + 1
  | [] => rfl
  | y :: r => by
    rw [insZ]
    split
    · simp
    · simp [insZ_len v r]
theorem insZ_mem (v : Int) : ∀ l x, x ∈ insZ v l ↔ x = v ∨ x ∈ l
  | [], x => by simp [insZ]
  | y :: r, x => by
    rw [insZ]
    split
    · simp
    · simp only [List.mem_cons, insZ_mem v r x]
      constructor
      · rintro (h | h | h)
        · exact .inr (.inl h)
        · exact .inl h
        · exact .inr (.inr h)
      · rintro (h | h | h)
        · exact .inr (.inl h)
        · exact .inl h
        · exact .inr (.inr h)
theorem insZ_asc (v : Int) : ∀ l, Asc l → Asc (insZ v l)
  | [], _ => List.pairwise_singleton _ _
  | y :: r, h => by
    obtain ⟨h1, h2⟩ := List.pairwise_cons.1 h
    rw [insZ]
    split
    · rename_i hv
      refine List.pairwise_cons.2 ⟨fun z hz => ?_, h⟩
      rcases List.mem_cons.1 hz with rfl | hz
      · omega
      · have := h1 z hz; omega
    · rename_i hv
      refine List.pairwise_cons.2 ⟨fun z hz => ?_, insZ_asc v r h2⟩
      rcases (insZ_mem v r z).1 hz with rfl | hz
      · omega
      · exact h1 z hz
theorem insZ_cnt (P : Int → Bool) (v : Int) : ∀ l, (insZ v l).countP P = l.countP P + (if P v then 1 else 0)
  | [] => by simp [insZ, List.countP_cons]
  | y :: r => by
    rw [insZ]
    split
    · rw [List.countP_cons]
    · rw [List.countP_cons, List.countP_cons, insZ_cnt P v r]
      omega
abbrev Lv := List (List Int)
def cntL (P : Int → Bool) : Lv → Nat
  | [] => 0
  | l :: r => l.countP P + 2 * cntL P r
def wtL (L : Lv) : Nat := cntL (fun _ => true) L
def kept : Lv → Nat
  | [] => 0
  | l :: r => l.length + kept r
theorem countP_all (l : List Int) : l.countP (fun _ => true) = l.length := by
  induction l with
  | nil => rfl
  | cons a r ih => rw [List.countP_cons, ih]; simp
theorem wtL_cons (l : List Int) (r : Lv) : wtL (l :: r) = l.length + 2 * wtL r := by
  unfold wtL
  rw [cntL, countP_all]
def putL : Lv → Nat → Int → Lv
  | [], 0, v => [[v]]
  | [], h + 1, v => [] :: putL [] h v
  | l :: r, 0, v => insZ v l :: r
  | l :: r, h + 1, v => l :: putL r h v
theorem putL_cnt (P : Int → Bool) (v : Int) : ∀ L h, cntL P (putL L h v) = cntL P L + (if P v then 2 ^ h else 0)
  | [], 0 => by simp [putL, cntL, List.countP_cons]
  | [], h + 1 => by
    rw [putL, show cntL P ([] :: putL [] h v) = 0 + 2 * cntL P (putL [] h v) from rfl, putL_cnt P v [] h]
    simp only [cntL]
    split
    · rw [Nat.pow_succ]; omega
    · rfl
  | l :: r, 0 => by
    rw [putL, cntL, cntL, insZ_cnt]
    simp only [Nat.pow_zero]
    omega
  | l :: r, h + 1 => by
    rw [putL, cntL, cntL, putL_cnt P v r h]
    split
    · rw [Nat.pow_succ]; omega
    · omega
theorem putL_kept (v : Int) : ∀ L h, kept (putL L h v) = kept L + 1
  | [], 0 => rfl
  | [], h + 1 => by rw [putL, show kept ([] :: putL [] h v) = 0 + kept (putL [] h v) from rfl, putL_kept v [] h]; simp [kept]
  | l :: r, 0 => by rw [putL, kept, kept, insZ_len]; omega
  | l :: r, h + 1 => by rw [putL, kept, kept, putL_kept v r h]; omega
theorem putL_len (v : Int) : ∀ L h, (putL L h v).length = max L.length (h + 1)
  | [], 0 => rfl
  | [], h + 1 => by rw [putL, List.length_cons, putL_len v [] h]; simp
  | l :: r, 0 => by rw [putL, List.length_cons, List.length_cons]; omega
  | l :: r, h + 1 => by rw [putL, List.length_cons, List.length_cons, putL_len v r h]; omega
def AscL (L : Lv) : Prop := ∀ l ∈ L, Asc l
theorem putL_asc (v : Int) : ∀ L h, AscL L → AscL (putL L h v)
  | [], 0, _ => fun l hl => by
    rw [putL] at hl
    rw [List.mem_singleton.1 hl]
    exact List.pairwise_singleton _ _
  | [], h + 1, hL => fun l hl => by
    rw [putL] at hl
    rcases List.mem_cons.1 hl with rfl | hl
    · exact List.Pairwise.nil
    · exact putL_asc v [] h hL l hl
  | a :: r, 0, hL => fun l hl => by
    rw [putL] at hl
    rcases List.mem_cons.1 hl with rfl | hl
    · exact insZ_asc v a (hL a List.mem_cons_self)
    · exact hL l (List.mem_cons_of_mem _ hl)
  | a :: r, h + 1, hL => fun l hl => by
    rw [putL] at hl
    rcases List.mem_cons.1 hl with rfl | hl
    · exact hL l List.mem_cons_self
    · exact putL_asc v r h (fun z hz => hL z (List.mem_cons_of_mem _ hz)) l hl
def InL (L : Lv) (x : Int) : Prop := ∃ l ∈ L, x ∈ l
theorem putL_in (v : Int) : ∀ L h x, InL (putL L h v) x → x = v ∨ InL L x
  | [], 0, x, ⟨l, hl, hx⟩ => by
    rw [putL] at hl
    rw [List.mem_singleton.1 hl] at hx
    exact .inl (List.mem_singleton.1 hx)
  | [], h + 1, x, ⟨l, hl, hx⟩ => by
    rw [putL] at hl
    rcases List.mem_cons.1 hl with rfl | hl
    · cases hx
    · rcases putL_in v [] h x ⟨l, hl, hx⟩ with h1 | ⟨l', h1, _⟩
      · exact .inl h1
      · cases h1
  | a :: r, 0, x, ⟨l, hl, hx⟩ => by
    rw [putL] at hl
    rcases List.mem_cons.1 hl with rfl | hl
    · rcases (insZ_mem v a x).1 hx with h1 | h1
      · exact .inl h1
      · exact .inr ⟨a, List.mem_cons_self, h1⟩
    · exact .inr ⟨l, List.mem_cons_of_mem _ hl, hx⟩
  | a :: r, h + 1, x, ⟨l, hl, hx⟩ => by
    rw [putL] at hl
    rcases List.mem_cons.1 hl with rfl | hl
    · exact .inr ⟨l, List.mem_cons_self, hx⟩
    · rcases putL_in v r h x ⟨l, hl, hx⟩ with h1 | ⟨l', h1, h2⟩
      · exact .inl h1
      · exact .inr ⟨l', List.mem_cons_of_mem _ h1, h2⟩
def twos (c : Nat) : List Int → List Int
  | a :: b :: r => (if c = 0 then a else b) :: twos c r
  | _ => []
def stay : List Int → List Int
  | _ :: _ :: r => stay r
  | l => l
theorem two_len (c : Nat) : ∀ l, l.length = (stay l).length + 2 * (twos c l).length
  | [] => rfl
  | [_] => rfl
  | _ :: _ :: r => by
    rw [stay, twos, List.length_cons, List.length_cons, List.length_cons, two_len c r]
    omega
theorem stay_len : ∀ l : List Int, (stay l).length = l.length % 2
  | [] => rfl
  | [_] => rfl
  | _ :: _ :: r => by
    rw [stay, stay_len r, List.length_cons, List.length_cons]
    omega
theorem twos_mem (c : Nat) : ∀ l x, x ∈ twos c l → x ∈ l
  | [], _, h => by cases h
  | [_], _, h => by cases h
  | a :: b :: r, x, h => by
    rw [twos] at h
    rcases List.mem_cons.1 h with rfl | h
    · split <;> simp
    · exact List.mem_cons_of_mem _ (List.mem_cons_of_mem _ (twos_mem c r x h))
theorem stay_mem : ∀ (l : List Int) x, x ∈ stay l → x ∈ l
  | [], _, h => by cases h
  | [_], _, h => h
  | _ :: _ :: r, x, h => List.mem_cons_of_mem _ (List.mem_cons_of_mem _ (stay_mem r x (by rwa [stay] at h)))
theorem stay_asc : ∀ l : List Int, Asc l → Asc (stay l)
  | [], h => h
  | [_], h => h
  | _ :: _ :: r, h => stay_asc r (List.pairwise_cons.1 (List.pairwise_cons.1 h).2).2
def putsL (L : Lv) (h : Nat) (xs : List Int) : Lv := xs.foldl (fun L x => putL L h x) L
theorem putsL_cons (L : Lv) (h : Nat) (x : Int) (xs : List Int) : putsL L h (x :: xs) = putsL (putL L h x) h xs := rfl
theorem putsL_cnt (P : Int → Bool) (h : Nat) : ∀ xs L, cntL P (putsL L h xs) = cntL P L + 2 ^ h * xs.countP P
  | [], L => by simp [putsL]
  | x :: xs, L => by
    rw [putsL_cons, putsL_cnt P h xs, putL_cnt, List.countP_cons]
    split
    · rw [Nat.mul_add]; omega
    · rw [Nat.add_zero, Nat.add_zero]
theorem putsL_kept (h : Nat) : ∀ xs L, kept (putsL L h xs) = kept L + xs.length
  | [], L => rfl
  | x :: xs, L => by rw [putsL_cons, putsL_kept h xs, putL_kept, List.length_cons]; omega
theorem putsL_asc (h : Nat) : ∀ xs L, AscL L → AscL (putsL L h xs)
  | [], _, hL => hL
  | x :: xs, L, hL => putsL_asc h xs _ (putL_asc x L h hL)
theorem putsL_in (h : Nat) : ∀ xs L z, InL (putsL L h xs) z → z ∈ xs ∨ InL L z
  | [], _, _, hz => .inr hz
  | x :: xs, L, z, hz => by
    rcases putsL_in h xs _ z hz with h1 | h1
    · exact .inl (List.mem_cons_of_mem _ h1)
    · rcases putL_in x L h z h1 with rfl | h2
      · exact .inl List.mem_cons_self
      · exact .inr h2
theorem putsL_len (h : Nat) : ∀ xs L, xs ≠ [] → (putsL L h xs).length = max L.length (h + 1)
  | [], _, hx => absurd rfl hx
  | [x], L, _ => putL_len x L h
  | x :: y :: xs, L, _ => by
    rw [putsL_cons, putsL_len h (y :: xs) _ (by simp), putL_len]
    omega
def comp : Lv → Nat → Nat → Lv
  | [], _, _ => []
  | l :: r, 0, c => stay l :: putsL r 0 (twos c l)
  | l :: r, h + 1, c => l :: comp r h c
theorem putL_succ (l : List Int) (r : Lv) (h : Nat) (v : Int) : putL (l :: r) (h + 1) v = l :: putL r h v := rfl
theorem putsL_succ (l : List Int) (h : Nat) : ∀ xs r, putsL (l :: r) (h + 1) xs = l :: putsL r h xs
  | [], _ => rfl
  | x :: xs, r => by rw [putsL_cons, putL_succ, putsL_succ l h xs, putsL_cons]
theorem comp_is (c : Nat) : ∀ (L : Lv) (h : Nat) (hh : h < L.length), comp L h c = putsL (L.set h (stay L[h])) (h + 1) (twos c L[h])
  | [], h, hh => absurd hh (Nat.not_lt_zero _)
  | l :: r, 0, _ => by
    rw [comp, List.set_cons_zero, putsL_succ]
    rfl
  | l :: r, h + 1, hh => by
    have hh2 : h < r.length := by simpa using hh
    rw [comp, comp_is c r h hh2, List.set_cons_succ, putsL_succ]
    rfl
theorem comp_wt (c : Nat) : ∀ (L : Lv) (h : Nat), wtL (comp L h c) = wtL L
  | [], _ => rfl
  | l :: r, 0 => by
    have h1 := two_len c l
    rw [comp, wtL_cons, wtL_cons]
    have h2 := putsL_cnt (fun _ => true) 0 (twos c l) r
    rw [countP_all] at h2
    unfold wtL
    rw [h2]
    simp only [Nat.pow_zero, Nat.one_mul]
    omega
  | l :: r, h + 1 => by rw [comp, wtL_cons, wtL_cons, comp_wt c r h]
theorem comp_kept (c : Nat) : ∀ (L : Lv) (h : Nat) (hh : h < L.length), 2 ≤ (L[h]).length → kept (comp L h c) < kept L
  | [], h, hh, _ => absurd hh (Nat.not_lt_zero _)
  | l :: r, 0, _, h2 => by
    have h1 := two_len c l
    have h3 := stay_len l
    rw [comp, kept, kept, putsL_kept]
    simp only [List.getElem_cons_zero] at h2
    omega
  | l :: r, h + 1, hh, h2 => by
    have hh2 : h < r.length := by simpa using hh
    have := comp_kept c r h hh2 (by simpa using h2)
    rw [comp, kept, kept]
    omega
theorem comp_asc (c : Nat) : ∀ (L : Lv) (h : Nat), AscL L → AscL (comp L h c)
  | [], _, hL => hL
  | l :: r, 0, hL => fun z hz => by
    rw [comp] at hz
    rcases List.mem_cons.1 hz with rfl | hz
    · exact stay_asc l (hL l List.mem_cons_self)
    · exact putsL_asc 0 (twos c l) r (fun z hz => hL z (List.mem_cons_of_mem _ hz)) z hz
  | l :: r, h + 1, hL => fun z hz => by
    rw [comp] at hz
    rcases List.mem_cons.1 hz with rfl | hz
    · exact hL z List.mem_cons_self
    · exact comp_asc c r h (fun z hz => hL z (List.mem_cons_of_mem _ hz)) z hz
theorem InL.cons {l : List Int} {r : Lv} {x : Int} (h : InL r x) : InL (l :: r) x := let ⟨z, h1, h2⟩ := h; ⟨z, List.mem_cons_of_mem _ h1, h2⟩
theorem comp_in (c : Nat) : ∀ (L : Lv) (h : Nat) x, InL (comp L h c) x → InL L x
  | [], _, _, h => h
  | l :: r, 0, x, ⟨z, hz, hx⟩ => by
    rw [comp] at hz
    rcases List.mem_cons.1 hz with rfl | hz
    · exact ⟨l, List.mem_cons_self, stay_mem l x hx⟩
    · rcases putsL_in 0 (twos c l) r x ⟨z, hz, hx⟩ with h1 | h1
      · exact ⟨l, List.mem_cons_self, twos_mem c l x h1⟩
      · exact h1.cons
  | l :: r, h + 1, x, ⟨z, hz, hx⟩ => by
    rw [comp] at hz
    rcases List.mem_cons.1 hz with rfl | hz
    · exact ⟨z, List.mem_cons_self, hx⟩
    · exact (comp_in c r h x ⟨z, hz, hx⟩).cons
end Go.Proofs.Ytbpfmjekpjfceaa

namespace Go.Proofs.Ytbpfmjekpjfceaa
def cut23 (c : Nat) : Nat := (2 * c + 2) / 3
def cr (k : Nat) : Nat → Nat
  | 0 => k
  | i + 1 => cut23 (cr k i)
def room (k H h : Nat) : Nat := if h < H then max (cr k (H - 1 - h)) 2 else 0
theorem cr_two {k : Nat} (hk : 2 ≤ k) : ∀ i, 2 ≤ cr k i
  | 0 => hk
  | i + 1 => by
    have := cr_two hk i
    rw [cr, cut23]
    omega
theorem cr_le (k : Nat) (hk : 2 ≤ k) : ∀ i, cr k i ≤ k
  | 0 => Nat.le_refl _
  | i + 1 => by
    have h1 := cr_le k hk i
    have h2 := cr_two hk i
    rw [cr, cut23]
    omega
theorem room_two (k H h : Nat) (hh : h < H) : 2 ≤ room k H h := by
  unfold room
  rw [if_pos hh]
  omega
def crs (k : Nat) : Nat → Nat
  | 0 => 0
  | n + 1 => crs k n + cr k n
theorem crs_le (k : Nat) : ∀ n, crs k n + 3 * cr k n ≤ 3 * k + 2 * n
  | 0 => by rw [crs, cr]; omega
  | n + 1 => by
    have := crs_le k n
    rw [crs, cr, cut23]
    omega
def ovr (k H : Nat) : Nat → Lv → Option Nat
  | _, [] => none
  | h, l :: r => if room k H h < l.length then some h else ovr k H (h + 1) r
def over (k : Nat) (L : Lv) : Option Nat := ovr k L.length 0 L
theorem ovr_some (k H : Nat) : ∀ (L : Lv) (h0 h : Nat), ovr k H h0 L = some h → h0 ≤ h ∧ ∃ hh : h - h0 < L.length, room k H h < (L[h - h0]).length ∧ ∀ j, (hj : j < h - h0) → (L[j]'(by omega)).length ≤ room k H (h0 + j)
  | [], _, _, e => by cases e
  | l :: r, h0, h, e => by
    rw [ovr] at e
    split at e
    · rename_i hl
      obtain rfl := Option.some.inj e
      exact ⟨Nat.le_refl _, by simp, by simpa using hl, fun j hj => by omega⟩
    · rename_i hl
      obtain ⟨h1, h2, h3, h4⟩ := ovr_some k H r (h0 + 1) h e
      have e1 : h - h0 = (h - (h0 + 1)) + 1 := by omega
      refine ⟨by omega, by rw [e1, List.length_cons]; omega, ?_, fun j hj => ?_⟩
      · simp only [e1, List.getElem_cons_succ]
        exact h3
      · cases j with
        | zero => simpa using Nat.le_of_not_lt hl
        | succ j =>
          have := h4 j (by omega)
          rw [show h0 + 1 + j = h0 + (j + 1) by omega] at this
          simpa using this
theorem ovr_none (k H : Nat) : ∀ (L : Lv) (h0 : Nat), ovr k H h0 L = none → ∀ j, (hj : j < L.length) → (L[j]).length ≤ room k H (h0 + j)
  | [], _, _, j, hj => absurd hj (Nat.not_lt_zero _)
  | l :: r, h0, e, j, hj => by
    rw [ovr] at e
    split at e
    · cases e
    · rename_i hl
      cases j with
      | zero => simpa using Nat.le_of_not_lt hl
      | succ j =>
        have := ovr_none k H r (h0 + 1) e j (by simpa using hj)
        rw [show h0 + 1 + j = h0 + (j + 1) by omega] at this
        simpa using this
theorem over_some {k : Nat} {L : Lv} {h : Nat} (e : over k L = some h) : ∃ hh : h < L.length, room k L.length h < (L[h]).length ∧ ∀ j, (hj : j < h) → (L[j]'(by omega)).length ≤ room k L.length j := by
  obtain ⟨-, h2, h3, h4⟩ := ovr_some k L.length L 0 h e
  refine ⟨by simpa using h2, by simpa using h3, fun j hj => ?_⟩
  have := h4 j (by omega)
  simpa using this
theorem over_none {k : Nat} {L : Lv} (e : over k L = none) : ∀ j, (hj : j < L.length) → (L[j]).length ≤ room k L.length j := fun j hj => by
  have := ovr_none k L.length L 0 e j hj
  simpa using this
theorem over_is {k : Nat} {L : Lv} {h : Nat} (hh : h < L.length) (h1 : room k L.length h < (L[h]).length) (h2 : ∀ j, (hj : j < h) → (L[j]'(by omega)).length ≤ room k L.length j) : over k L = some h := by
  cases e : over k L with
  | none => have := over_none e h hh; omega
  | some g =>
    obtain ⟨g1, g2, g3⟩ := over_some e
    rcases Nat.lt_trichotomy g h with h3 | h3 | h3
    · have := h2 g h3; omega
    · rw [h3]
    · have := g3 h h3; omega
theorem over_no {k : Nat} {L : Lv} (h : ∀ j, (hj : j < L.length) → (L[j]).length ≤ room k L.length j) : over k L = none := by
  cases e : over k L with
  | none => rfl
  | some g =>
    obtain ⟨g1, g2, -⟩ := over_some e
    have := h g g1
    omega
def coin (bs : List Nat) (a : Nat) : Nat := if a < 8 * bs.length then bs.getD (a / 8) 0 / 2 ^ (a % 8) % 2 else 0
def nxt (bs : List Nat) (a : Nat) : Nat := if a < 8 * bs.length then a + 1 else a
theorem coin_two (bs : List Nat) (a : Nat) : coin bs a < 2 := by
  unfold coin
  split <;> omega
def ledg (E x : Nat) : Nat := min (E + x) 4611686018427387904
def packF (k : Nat) (bs : List Nat) : Nat → Lv → Nat → Nat → Lv × Nat × Nat
  | 0, L, E, a => (L, E, a)
  | f + 1, L, E, a => match over k L with
    | none => (L, E, a)
    | some h => packF k bs f (comp L h (coin bs a)) (ledg E (2 ^ h)) (nxt bs a)
def pack (k : Nat) (bs : List Nat) (L : Lv) (E a : Nat) : Lv × Nat × Nat := packF k bs (kept L) L E a
theorem over_kept {k : Nat} {L : Lv} {h : Nat} (e : over k L = some h) (c : Nat) : kept (comp L h c) < kept L := by
  obtain ⟨h1, h2, -⟩ := over_some e
  have := room_two k L.length h h1
  exact comp_kept c L h h1 (by omega)
theorem packF_more (k : Nat) (bs : List Nat) : ∀ (f g : Nat) (L : Lv) (E a : Nat), kept L ≤ f → kept L ≤ g → packF k bs f L E a = packF k bs g L E a
  | 0, 0, _, _, _, _, _ => rfl
  | 0, g + 1, L, E, a, hf, _ => by
    cases e : over k L with
    | none => rw [packF, packF, e]
    | some h => have := over_kept e 0; omega
  | f + 1, 0, L, E, a, _, hg => by
    cases e : over k L with
    | none => rw [packF, packF, e]
    | some h => have := over_kept e 0; omega
  | f + 1, g + 1, L, E, a, hf, hg => by
    cases e : over k L with
    | none => rw [packF, packF, e]
    | some h =>
      have := over_kept e (coin bs a)
      rw [packF, packF, e]
      exact packF_more k bs f g _ _ _ (by omega) (by omega)
theorem pack_none {k : Nat} {bs : List Nat} {L : Lv} {E a : Nat} (e : over k L = none) : pack k bs L E a = (L, E, a) := by
  unfold pack
  cases kept L with
  | zero => rfl
  | succ f => rw [packF, e]
theorem pack_some {k : Nat} {bs : List Nat} {L : Lv} {E a h : Nat} (e : over k L = some h) : pack k bs L E a = pack k bs (comp L h (coin bs a)) (ledg E (2 ^ h)) (nxt bs a) := by
  have h1 := over_kept e (coin bs a)
  unfold pack
  obtain ⟨f, hf⟩ : ∃ f, kept L = f + 1 := ⟨kept L - 1, by omega⟩
  rw [hf, packF, e]
  exact packF_more k bs f _ _ _ _ (by omega) (Nat.le_refl _)
theorem pack_ind {k : Nat} {bs : List Nat} (P : Lv → Nat → Nat → Prop) (hs : ∀ L E a h, over k L = some h → P L E a → P (comp L h (coin bs a)) (ledg E (2 ^ h)) (nxt bs a)) : ∀ (n : Nat) (L : Lv) (E a : Nat), kept L ≤ n → P L E a → P (pack k bs L E a).1 (pack k bs L E a).2.1 (pack k bs L E a).2.2 ∧ over k (pack k bs L E a).1 = none
  | n, L, E, a, hn, hp => by
    cases e : over k L with
    | none =>
      rw [pack_none e]
      exact ⟨hp, e⟩
    | some h =>
      have h1 := over_kept e (coin bs a)
      rw [pack_some e]
      cases n with
      | zero => omega
      | succ n => exact pack_ind P hs n _ _ _ (by omega) (hs L E a h e hp)
theorem pack_room (k : Nat) (bs : List Nat) (L : Lv) (E a : Nat) : over k (pack k bs L E a).1 = none := (pack_ind (fun _ _ _ => True) (fun _ _ _ _ _ _ => trivial) _ L E a (Nat.le_refl _) trivial).2
theorem pack_wt (k : Nat) (bs : List Nat) (L : Lv) (E a : Nat) : wtL (pack k bs L E a).1 = wtL L :=
  (pack_ind (fun M _ _ => wtL M = wtL L) (fun M _ _ h _ hp => by rw [comp_wt]; exact hp) _ L E a (Nat.le_refl _) rfl).1
theorem pack_asc (k : Nat) (bs : List Nat) (L : Lv) (E a : Nat) (h : AscL L) : AscL (pack k bs L E a).1 :=
  (pack_ind (fun M _ _ => AscL M) (fun M _ _ h _ hp => comp_asc _ M h hp) _ L E a (Nat.le_refl _) h).1
theorem pack_in (k : Nat) (bs : List Nat) (L : Lv) (E a : Nat) (x : Int) (hx : InL (pack k bs L E a).1 x) : InL L x :=
  (pack_ind (fun M _ _ => ∀ x, InL M x → InL L x) (fun M _ _ h _ hp x hx => hp x (comp_in _ M h x hx)) _ L E a (Nat.le_refl _) fun _ h => h).1 x hx
theorem ledg_le (E x : Nat) (h : E ≤ 4611686018427387904) : E ≤ ledg E x ∧ ledg E x ≤ 4611686018427387904 := by
  unfold ledg
  omega
theorem pack_ledger (k : Nat) (bs : List Nat) (L : Lv) (E a : Nat) (h : E ≤ 4611686018427387904) : E ≤ (pack k bs L E a).2.1 ∧ (pack k bs L E a).2.1 ≤ 4611686018427387904 :=
  (pack_ind (fun _ F _ => E ≤ F ∧ F ≤ 4611686018427387904) (fun _ F _ h _ hp => by have := ledg_le F (2 ^ h) hp.2; omega) _ L E a (Nat.le_refl _) ⟨Nat.le_refl _, h⟩).1
def Top : Lv → Prop
  | [] => True
  | [l] => l ≠ []
  | _ :: m :: r => Top (m :: r)
theorem Top.cons {l : List Int} {r : Lv} (hr : r ≠ []) (h : Top r) : Top (l :: r) := by
  cases r with
  | nil => exact absurd rfl hr
  | cons m r => exact h
theorem Top.tail {l : List Int} {r : Lv} (h : Top (l :: r)) : Top r := by
  cases r with
  | nil => trivial
  | cons m r => exact h
theorem putL_ne (L : Lv) (h : Nat) (v : Int) : putL L h v ≠ [] := by
  intro e
  have := putL_len v L h
  rw [e, List.length_nil] at this
  omega
theorem insZ_ne (v : Int) (l : List Int) : insZ v l ≠ [] := by
  intro e
  have := insZ_len v l
  rw [e, List.length_nil] at this
  omega
theorem putL_top (v : Int) : ∀ L h, Top L → Top (putL L h v)
  | [], 0, _ => by simp [putL, Top]
  | [], h + 1, _ => by
    rw [putL]
    exact Top.cons (putL_ne _ _ _) (putL_top v [] h trivial)
  | l :: r, 0, hT => by
    rw [putL]
    cases r with
    | nil => exact insZ_ne v l
    | cons m r => exact hT
  | l :: r, h + 1, hT => by
    rw [putL]
    exact Top.cons (putL_ne _ _ _) (putL_top v r h hT.tail)
theorem putsL_top (h : Nat) : ∀ xs L, Top L → Top (putsL L h xs)
  | [], _, hT => hT
  | x :: xs, L, hT => putsL_top h xs _ (putL_top x L h hT)
theorem putsL_ne (h : Nat) (xs : List Int) (L : Lv) (hx : xs ≠ []) : putsL L h xs ≠ [] := by
  intro e
  have := putsL_len h xs L hx
  rw [e, List.length_nil] at this
  omega
theorem comp_top (c : Nat) : ∀ (L : Lv) (h : Nat) (hh : h < L.length), 2 ≤ (L[h]).length → Top L → Top (comp L h c)
  | [], h, hh, _, _ => absurd hh (Nat.not_lt_zero _)
  | l :: r, 0, _, h2, hT => by
    have h1 := two_len c l
    have h3 := stay_len l
    simp only [List.getElem_cons_zero] at h2
    have h4 : twos c l ≠ [] := fun e => by rw [e, List.length_nil] at h1; omega
    rw [comp]
    exact Top.cons (putsL_ne _ _ _ h4) (putsL_top 0 _ r hT.tail)
  | l :: r, h + 1, hh, h2, hT => by
    have hh2 : h < r.length := by simpa using hh
    rw [comp]
    refine Top.cons (fun e => ?_) (comp_top c r h hh2 (by simpa using h2) hT.tail)
    cases r with
    | nil => exact absurd hh2 (Nat.not_lt_zero _)
    | cons m r => cases h <;> simp [comp] at e
theorem pack_top (k : Nat) (bs : List Nat) (L : Lv) (E a : Nat) (h : Top L) : Top (pack k bs L E a).1 :=
  (pack_ind (fun M _ _ => Top M) (fun M _ _ h e hp => by
    obtain ⟨h1, h2, -⟩ := over_some e
    have := room_two k M.length h h1
    exact comp_top _ M h h1 (by omega) hp) _ L E a (Nat.le_refl _) h).1
theorem top_wt : ∀ (L : Lv), L ≠ [] → Top L → 2 ^ (L.length - 1) ≤ wtL L
  | [], h, _ => absurd rfl h
  | [l], _, hT => by
    rw [wtL_cons]
    have : l.length ≠ 0 := fun e => hT (List.length_eq_zero_iff.1 e)
    simp only [List.length_cons, List.length_nil]
    omega
  | l :: m :: r, _, hT => by
    have := top_wt (m :: r) (by simp) hT
    rw [wtL_cons]
    simp only [List.length_cons, Nat.add_sub_cancel] at this ⊢
    rw [Nat.pow_succ]
    omega
theorem top_len {L : Lv} (hT : Top L) (hw : wtL L ≤ 281474976710656) : L.length ≤ 49 := by
  by_cases h : L = []
  · rw [h]; decide
  · have h1 := top_wt L h hT
    have h2 : 2 ^ (L.length - 1) ≤ 2 ^ 48 := Nat.le_trans h1 hw
    have := (Nat.pow_le_pow_iff_right (by decide : 1 < 2)).1 h2
    omega
theorem kept_room {k : Nat} (hk : 2 ≤ k) : ∀ (L : Lv) (H h0 : Nat), h0 + L.length = H → (∀ j, (hj : j < L.length) → (L[j]).length ≤ room k H (h0 + j)) → kept L ≤ crs k L.length
  | [], _, _, _, _ => Nat.zero_le _
  | l :: r, H, h0, hH, h => by
    rw [List.length_cons] at hH
    have h1 := h 0 (by simp)
    have h2 := kept_room hk r H (h0 + 1) (by omega) fun j hj => by
      have := h (j + 1) (by simpa using hj)
      rw [show h0 + (j + 1) = h0 + 1 + j by omega] at this
      simpa using this
    simp only [List.getElem_cons_zero, Nat.add_zero] at h1
    unfold room at h1
    rw [if_pos (by omega), show H - 1 - h0 = r.length by omega] at h1
    have h3 := cr_two hk r.length
    rw [kept, List.length_cons, crs]
    omega
theorem kept_few {k : Nat} (hk : 2 ≤ k) {L : Lv} (h : over k L = none) : kept L ≤ 3 * k + 2 * L.length := by
  have h1 := kept_room hk L L.length 0 (Nat.zero_add _) fun j hj => by rw [Nat.zero_add]; exact over_none h j hj
  have h2 := crs_le k L.length
  omega
theorem kept_wt : ∀ L : Lv, kept L ≤ wtL L
  | [] => Nat.le_refl _
  | l :: r => by
    have := kept_wt r
    rw [wtL_cons, kept]
    omega
end Go.Proofs.Ytbpfmjekpjfceaa

namespace Go.Proofs.Ytbpfmjekpjfceaa
def lbz (v : Int) : List Int → Nat
  | [] => 0
  | y :: r => if y < v then lbz v r + 1 else 0
theorem lbz_le (v : Int) : ∀ l, lbz v l ≤ l.length
  | [] => Nat.le_refl _
  | y :: r => by
    have := lbz_le v r
    rw [lbz]
    split <;> simp <;> omega
theorem lbz_is (v : Int) : ∀ (l : List Int) (i : Nat), i ≤ l.length → (∀ j, (hj : j < l.length) → j < i → l[j] < v) → ((hi : i < l.length) → v ≤ l[i]) → lbz v l = i
  | [], i, hi, _, _ => by
    have : i = 0 := by simpa using hi
    subst this
    rfl
  | y :: r, 0, _, _, h2 => by
    have := h2 (by simp)
    simp only [List.getElem_cons_zero] at this
    rw [lbz, if_neg (by omega)]
  | y :: r, i + 1, hi, h1, h2 => by
    have h0 := h1 0 (by simp) (by omega)
    simp only [List.getElem_cons_zero] at h0
    rw [lbz, if_pos h0, lbz_is v r i (by simpa using hi) (fun j hj hji => h1 (j + 1) (Nat.succ_lt_succ hj) (by omega)) (fun hi => h2 (Nat.succ_lt_succ hi))]
theorem lbz_take (v : Int) : ∀ (l : List Int) x, x ∈ l.take (lbz v l) → x < v
  | [], x, h => by simp at h
  | y :: r, x, h => by
    rw [lbz] at h
    by_cases hy : y < v
    · rw [if_pos hy, List.take_succ_cons] at h
      rcases List.mem_cons.1 h with rfl | h
      · exact hy
      · exact lbz_take v r x h
    · rw [if_neg hy] at h
      simp at h
theorem lbz_drop (v : Int) : ∀ (l : List Int), Asc l → ∀ x, x ∈ l.drop (lbz v l) → v ≤ x
  | [], _, x, h => by simp at h
  | y :: r, ha, x, h => by
    obtain ⟨h1, h2⟩ := List.pairwise_cons.1 ha
    rw [lbz] at h
    by_cases hy : y < v
    · rw [if_pos hy, List.drop_succ_cons] at h
      exact lbz_drop v r h2 x h
    · rw [if_neg hy, List.drop_zero] at h
      rcases List.mem_cons.1 h with rfl | h
      · omega
      · have := h1 x h; omega
def mrgC : List Int → List Int → List Int
  | a, [] => a
  | a, v :: b => a.take (lbz v a) ++ v :: mrgC (a.drop (lbz v a)) b
def puts1 (a b : List Int) : List Int := b.foldl (fun L x => insZ x L) a
theorem insZ_perm (v : Int) : ∀ l, (insZ v l).Perm (v :: l)
  | [] => List.Perm.refl _
  | y :: r => by
    rw [insZ]
    split
    · exact List.Perm.refl _
    · exact ((insZ_perm v r).cons y).trans (List.Perm.swap v y r)
theorem puts1_perm : ∀ (b a : List Int), (puts1 a b).Perm (b ++ a)
  | [], a => List.Perm.refl _
  | x :: b, a => by
    have h1 := puts1_perm b (insZ x a)
    exact h1.trans (((insZ_perm x a).append_left b).trans List.perm_middle)
theorem puts1_asc : ∀ (b a : List Int), Asc a → Asc (puts1 a b)
  | [], _, h => h
  | x :: b, a, h => puts1_asc b _ (insZ_asc x a h)
theorem mrgC_perm : ∀ (b a : List Int), (mrgC a b).Perm (b ++ a)
  | [], a => List.Perm.refl _
  | v :: b, a => by
    have h1 := mrgC_perm b (a.drop (lbz v a))
    rw [mrgC]
    refine (List.perm_middle).trans (List.Perm.cons v ?_)
    refine ((h1.append_left (a.take (lbz v a)))).trans ?_
    refine (List.perm_append_comm_assoc _ _ _).trans ?_
    rw [List.take_append_drop]
    exact List.Perm.refl _
theorem Asc.take {l : List Int} (h : Asc l) (n : Nat) : Asc (l.take n) := List.Pairwise.sublist (List.take_sublist _ _) h
theorem Asc.drop {l : List Int} (h : Asc l) (n : Nat) : Asc (l.drop n) := List.Pairwise.sublist (List.drop_sublist _ _) h
theorem mrgC_asc : ∀ (b a : List Int), Asc a → Asc b → Asc (mrgC a b)
  | [], _, h, _ => h
  | v :: b, a, ha, hb => by
    obtain ⟨h1, h2⟩ := List.pairwise_cons.1 hb
    have hm : ∀ x ∈ mrgC (a.drop (lbz v a)) b, v ≤ x := fun x hx => by
      rcases List.mem_append.1 ((mrgC_perm b _).mem_iff.1 hx) with h | h
      · exact h1 x h
      · exact lbz_drop v a ha x h
    rw [mrgC]
    refine List.pairwise_append.2 ⟨ha.take _, List.pairwise_cons.2 ⟨hm, mrgC_asc b _ (ha.drop _) h2⟩, fun x hx y hy => ?_⟩
    have := lbz_take v a x hx
    rcases List.mem_cons.1 hy with rfl | hy
    · omega
    · have := hm y hy; omega
theorem mrgC_eq {a b : List Int} (ha : Asc a) (hb : Asc b) : mrgC a b = puts1 a b :=
  List.Perm.eq_of_pairwise (le := fun x y => x ≤ y) (fun x y _ _ h1 h2 => by omega) (mrgC_asc b a ha hb) (puts1_asc b a ha) ((mrgC_perm b a).trans (puts1_perm b a).symm)
def putC : Lv → Nat → List Int → Lv
  | [], 0, xs => [puts1 [] xs]
  | [], h + 1, xs => [] :: putC [] h xs
  | l :: r, 0, xs => puts1 l xs :: r
  | l :: r, h + 1, xs => l :: putC r h xs
theorem putC_set (xs : List Int) : ∀ (L : Lv) (h : Nat) (hh : h < L.length), putC L h xs = L.set h (puts1 L[h] xs)
  | [], h, hh => absurd hh (Nat.not_lt_zero _)
  | l :: r, 0, _ => rfl
  | l :: r, h + 1, hh => by
    rw [putC, putC_set xs r h (by simpa using hh)]
    rfl
theorem putC_pad (xs : List Int) : ∀ (L : Lv) (h : Nat), L.length ≤ h → putC (L ++ [[]]) h xs = putC L h xs
  | [], 0, _ => rfl
  | [], h + 1, _ => by rw [List.nil_append, putC, putC]
  | l :: r, 0, hh => absurd hh (Nat.not_succ_le_zero _)
  | l :: r, h + 1, hh => by rw [List.cons_append, putC, putC, putC_pad xs r h (by simpa using hh)]
theorem putC_one (x : Int) : ∀ (L : Lv) (h : Nat), putC L h [x] = putL L h x
  | [], 0 => rfl
  | [], h + 1 => by rw [putC, putL, putC_one x [] h]
  | l :: r, 0 => rfl
  | l :: r, h + 1 => by rw [putC, putL, putC_one x r h]
theorem putC_cons (x : Int) (xs : List Int) : ∀ (L : Lv) (h : Nat), putC L h (x :: xs) = putC (putL L h x) h xs
  | [], 0 => rfl
  | [], h + 1 => by rw [putC, putL, putC_cons x xs [] h, putC]
  | l :: r, 0 => rfl
  | l :: r, h + 1 => by rw [putC, putL, putC_cons x xs r h, putC]
theorem putC_puts (h : Nat) : ∀ (xs : List Int) (L : Lv), xs ≠ [] → putC L h xs = putsL L h xs
  | [], _, hx => absurd rfl hx
  | [x], L, _ => putC_one x L h
  | x :: y :: xs, L, _ => by rw [putC_cons, putC_puts h (y :: xs) _ (by simp), putsL_cons L]
def addB (L : Lv) (v : Int) (n : Nat) : Nat → Lv
  | 0 => L
  | h + 1 => if n / 2 ^ h % 2 = 1 then putL (addB L v n h) h v else addB L v n h
def addN (L : Lv) (v : Int) (n : Nat) : Lv := addB L v n 49
theorem addB_cnt (P : Int → Bool) (L : Lv) (v : Int) (n : Nat) : ∀ h, cntL P (addB L v n h) = cntL P L + (if P v then n % 2 ^ h else 0)
  | 0 => by simp [addB, Nat.mod_one]
  | h + 1 => by
    have e : n % 2 ^ (h + 1) = n % 2 ^ h + 2 ^ h * (n / 2 ^ h % 2) := Nat.mod_pow_succ
    rw [addB]
    split
    · rename_i hb
      rw [putL_cnt, addB_cnt P L v n h, e, hb]
      split <;> omega
    · rename_i hb
      have : n / 2 ^ h % 2 = 0 := by omega
      rw [addB_cnt P L v n h, e, this]
      split <;> omega
theorem addN_cnt (P : Int → Bool) (L : Lv) (v : Int) (n : Nat) (hn : n ≤ 281474976710656) : cntL P (addN L v n) = cntL P L + (if P v then n else 0) := by
  unfold addN
  rw [addB_cnt, Nat.mod_eq_of_lt (Nat.lt_of_le_of_lt hn (by decide))]
theorem addN_wt (L : Lv) (v : Int) (n : Nat) (hn : n ≤ 281474976710656) : wtL (addN L v n) = wtL L + n := by
  have := addN_cnt (fun _ => true) L v n hn
  simpa [wtL] using this
theorem addB_same (L : Lv) (v : Int) (n : Nat) (h : Nat) (hz : n / 2 ^ h = 0) : ∀ d, addB L v n (h + d) = addB L v n h
  | 0 => rfl
  | d + 1 => by
    have h0 : n / 2 ^ (h + d) = 0 := by
      have h1 := (Nat.div_eq_zero_iff).1 hz
      rcases h1 with h1 | h1
      · have : 0 < 2 ^ h := Nat.pow_pos (by decide)
        omega
      · exact Nat.div_eq_of_lt (Nat.lt_of_lt_of_le h1 (Nat.pow_le_pow_right (by decide) (by omega)))
    rw [← Nat.add_assoc, addB, h0, if_neg (by decide), addB_same L v n h hz d]
theorem addB_ind (P : Lv → Prop) (L : Lv) (v : Int) (n : Nat) (h0 : P L) (hs : ∀ M h, P M → P (putL M h v)) : ∀ h, P (addB L v n h)
  | 0 => h0
  | h + 1 => by
    rw [addB]
    split
    · exact hs _ _ (addB_ind P L v n h0 hs h)
    · exact addB_ind P L v n h0 hs h
theorem addN_asc (L : Lv) (v : Int) (n : Nat) (h : AscL L) : AscL (addN L v n) := addB_ind _ L v n h (fun M h hM => putL_asc v M h hM) 49
theorem addN_top (L : Lv) (v : Int) (n : Nat) (h : Top L) : Top (addN L v n) := addB_ind _ L v n h (fun M h hM => putL_top v M h hM) 49
theorem addN_in (L : Lv) (v : Int) (n : Nat) : ∀ x, InL (addN L v n) x → x = v ∨ InL L x :=
  addB_ind (fun M => ∀ x, InL M x → x = v ∨ InL L x) L v n (fun _ h => .inr h) (fun M h hM x hx => (putL_in v M h x hx).elim .inl (hM x)) 49
theorem addB_kept (L : Lv) (v : Int) (n : Nat) : ∀ h, kept (addB L v n h) ≤ kept L + h
  | 0 => Nat.le_refl _
  | h + 1 => by
    have := addB_kept L v n h
    rw [addB]
    split
    · rw [putL_kept]; omega
    · omega
end Go.Proofs.Ytbpfmjekpjfceaa
