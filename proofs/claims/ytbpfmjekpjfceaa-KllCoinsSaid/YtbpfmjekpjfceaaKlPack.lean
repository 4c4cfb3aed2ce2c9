/- Stacks: rooms, packing, the ledger. -/
import Derived.Test.YtbpfmjekpjfceaaKlMath
namespace Go.Proofs.Ytbpfmjekpjfceaa

def cut23 (c : Nat) : Nat := (2 * c + 2) / 3
/-- the room of the i-th level from above -/
def cr (k : Nat) : Nat → Nat
  | 0 => k
  | i + 1 => cut23 (cr k i)
def room (k H h : Nat) : Nat := if h < H then max (cr k (H - 1 - h)) 2 else 0
theorem cr_two {k : Nat} (hk : 2 ≤ k) : ∀ i, 2 ≤ cr k i
  | 0 => hk
  | i + 1 => by
    have := cr_two hk i
    rw [cr, cut23]
    omega
theorem cr_le (k : Nat) (hk : 2 ≤ k) : ∀ i, cr k i ≤ k
  | 0 => Nat.le_refl _
  | i + 1 => by
    have h1 := cr_le k hk i
    have h2 := cr_two hk i
    rw [cr, cut23]
    omega
theorem room_two (k H h : Nat) (hh : h < H) : 2 ≤ room k H h := by
  unfold room
  rw [if_pos hh]
  omega
/-- the rooms of all levels but n from above together -/
def crs (k : Nat) : Nat → Nat
  | 0 => 0
  | n + 1 => crs k n + cr k n
theorem crs_le (k : Nat) : ∀ n, crs k n + 3 * cr k n ≤ 3 * k + 2 * n
  | 0 => by rw [crs, cr]; omega
  | n + 1 => by
    have := crs_le k n
    rw [crs, cr, cut23]
    omega
/-- the least level that has more values than room, from the level h of H on -/
def ovr (k H : Nat) : Nat → Lv → Option Nat
  | _, [] => none
  | h, l :: r => if room k H h < l.length then some h else ovr k H (h + 1) r
def over (k : Nat) (L : Lv) : Option Nat := ovr k L.length 0 L
theorem ovr_some (k H : Nat) : ∀ (L : Lv) (h0 h : Nat), ovr k H h0 L = some h → h0 ≤ h ∧ ∃ hh : h - h0 < L.length, room k H h < (L[h - h0]).length ∧ ∀ j, (hj : j < h - h0) → (L[j]'(by omega)).length ≤ room k H (h0 + j)
  | [], _, _, e => by cases e
  | l :: r, h0, h, e => by
    rw [ovr] at e
    split at e
    · rename_i hl
      obtain rfl := Option.some.inj e
      exact ⟨Nat.le_refl _, by simp, by simpa using hl, fun j hj => by omega⟩
    · rename_i hl
      obtain ⟨h1, h2, h3, h4⟩ := ovr_some k H r (h0 + 1) h e
      have e1 : h - h0 = (h - (h0 + 1)) + 1 := by omega
      refine ⟨by omega, by rw [e1, List.length_cons]; omega, ?_, fun j hj => ?_⟩
      · simp only [e1, List.getElem_cons_succ]
        exact h3
      · cases j with
        | zero => simpa using Nat.le_of_not_lt hl
        | succ j =>
          have := h4 j (by omega)
          rw [show h0 + 1 + j = h0 + (j + 1) by omega] at this
          simpa using this
theorem ovr_none (k H : Nat) : ∀ (L : Lv) (h0 : Nat), ovr k H h0 L = none → ∀ j, (hj : j < L.length) → (L[j]).length ≤ room k H (h0 + j)
  | [], _, _, j, hj => absurd hj (Nat.not_lt_zero _)
  | l :: r, h0, e, j, hj => by
    rw [ovr] at e
    split at e
    · cases e
    · rename_i hl
      cases j with
      | zero => simpa using Nat.le_of_not_lt hl
      | succ j =>
        have := ovr_none k H r (h0 + 1) e j (by simpa using hj)
        rw [show h0 + 1 + j = h0 + (j + 1) by omega] at this
        simpa using this
theorem over_some {k : Nat} {L : Lv} {h : Nat} (e : over k L = some h) : ∃ hh : h < L.length, room k L.length h < (L[h]).length ∧ ∀ j, (hj : j < h) → (L[j]'(by omega)).length ≤ room k L.length j := by
  obtain ⟨-, h2, h3, h4⟩ := ovr_some k L.length L 0 h e
  refine ⟨by simpa using h2, by simpa using h3, fun j hj => ?_⟩
  have := h4 j (by omega)
  simpa using this
theorem over_none {k : Nat} {L : Lv} (e : over k L = none) : ∀ j, (hj : j < L.length) → (L[j]).length ≤ room k L.length j := fun j hj => by
  have := ovr_none k L.length L 0 e j hj
  simpa using this
theorem over_is {k : Nat} {L : Lv} {h : Nat} (hh : h < L.length) (h1 : room k L.length h < (L[h]).length) (h2 : ∀ j, (hj : j < h) → (L[j]'(by omega)).length ≤ room k L.length j) : over k L = some h := by
  cases e : over k L with
  | none => have := over_none e h hh; omega
  | some g =>
    obtain ⟨g1, g2, g3⟩ := over_some e
    rcases Nat.lt_trichotomy g h with h3 | h3 | h3
    · have := h2 g h3; omega
    · rw [h3]
    · have := g3 h h3; omega
theorem over_no {k : Nat} {L : Lv} (h : ∀ j, (hj : j < L.length) → (L[j]).length ≤ room k L.length j) : over k L = none := by
  cases e : over k L with
  | none => rfl
  | some g =>
    obtain ⟨g1, g2, -⟩ := over_some e
    have := h g g1
    omega
/-- coins: the bits of bytes, one by one, zeros behind them -/
def coin (bs : List Nat) (a : Nat) : Nat := if a < 8 * bs.length then bs.getD (a / 8) 0 / 2 ^ (a % 8) % 2 else 0
def nxt (bs : List Nat) (a : Nat) : Nat := if a < 8 * bs.length then a + 1 else a
theorem coin_two (bs : List Nat) (a : Nat) : coin bs a < 2 := by
  unfold coin
  split <;> omega
/-- the ledger with so much more -/
def ledg (E x : Nat) : Nat := min (E + x) 4611686018427387904
/-- a stack while it is packed: levels, ledger, coins that were read -/
def packF (k : Nat) (bs : List Nat) : Nat → Lv → Nat → Nat → Lv × Nat × Nat
  | 0, L, E, a => (L, E, a)
  | f + 1, L, E, a => match over k L with
    | none => (L, E, a)
    | some h => packF k bs f (comp L h (coin bs a)) (ledg E (2 ^ h)) (nxt bs a)
def pack (k : Nat) (bs : List Nat) (L : Lv) (E a : Nat) : Lv × Nat × Nat := packF k bs (kept L) L E a
theorem over_kept {k : Nat} {L : Lv} {h : Nat} (e : over k L = some h) (c : Nat) : kept (comp L h c) < kept L := by
  obtain ⟨h1, h2, -⟩ := over_some e
  have := room_two k L.length h h1
  exact comp_kept c L h h1 (by omega)
theorem packF_more (k : Nat) (bs : List Nat) : ∀ (f g : Nat) (L : Lv) (E a : Nat), kept L ≤ f → kept L ≤ g → packF k bs f L E a = packF k bs g L E a
  | 0, 0, _, _, _, _, _ => rfl
  | 0, g + 1, L, E, a, hf, _ => by
    cases e : over k L with
    | none => rw [packF, packF, e]
    | some h => have := over_kept e 0; omega
  | f + 1, 0, L, E, a, _, hg => by
    cases e : over k L with
    | none => rw [packF, packF, e]
    | some h => have := over_kept e 0; omega
  | f + 1, g + 1, L, E, a, hf, hg => by
    cases e : over k L with
    | none => rw [packF, packF, e]
    | some h =>
      have := over_kept e (coin bs a)
      rw [packF, packF, e]
      exact packF_more k bs f g _ _ _ (by omega) (by omega)
theorem pack_none {k : Nat} {bs : List Nat} {L : Lv} {E a : Nat} (e : over k L = none) : pack k bs L E a = (L, E, a) := by
  unfold pack
  cases kept L with
  | zero => rfl
  | succ f => rw [packF, e]
theorem pack_some {k : Nat} {bs : List Nat} {L : Lv} {E a h : Nat} (e : over k L = some h) : pack k bs L E a = pack k bs (comp L h (coin bs a)) (ledg E (2 ^ h)) (nxt bs a) := by
  have h1 := over_kept e (coin bs a)
  unfold pack
  obtain ⟨f, hf⟩ : ∃ f, kept L = f + 1 := ⟨kept L - 1, by omega⟩
  rw [hf, packF, e]
  exact packF_more k bs f _ _ _ _ (by omega) (Nat.le_refl _)
/-- what holds ahead, and is kept by each step, holds at the end, where all have room -/
theorem pack_ind {k : Nat} {bs : List Nat} (P : Lv → Nat → Nat → Prop) (hs : ∀ L E a h, over k L = some h → P L E a → P (comp L h (coin bs a)) (ledg E (2 ^ h)) (nxt bs a)) : ∀ (n : Nat) (L : Lv) (E a : Nat), kept L ≤ n → P L E a → P (pack k bs L E a).1 (pack k bs L E a).2.1 (pack k bs L E a).2.2 ∧ over k (pack k bs L E a).1 = none
  | n, L, E, a, hn, hp => by
    cases e : over k L with
    | none =>
      rw [pack_none e]
      exact ⟨hp, e⟩
    | some h =>
      have h1 := over_kept e (coin bs a)
      rw [pack_some e]
      cases n with
      | zero => omega
      | succ n => exact pack_ind P hs n _ _ _ (by omega) (hs L E a h e hp)
theorem pack_room (k : Nat) (bs : List Nat) (L : Lv) (E a : Nat) : over k (pack k bs L E a).1 = none := (pack_ind (fun _ _ _ => True) (fun _ _ _ _ _ _ => trivial) _ L E a (Nat.le_refl _) trivial).2
theorem pack_wt (k : Nat) (bs : List Nat) (L : Lv) (E a : Nat) : wtL (pack k bs L E a).1 = wtL L :=
  (pack_ind (fun M _ _ => wtL M = wtL L) (fun M _ _ h _ hp => by rw [comp_wt]; exact hp) _ L E a (Nat.le_refl _) rfl).1
theorem pack_asc (k : Nat) (bs : List Nat) (L : Lv) (E a : Nat) (h : AscL L) : AscL (pack k bs L E a).1 :=
  (pack_ind (fun M _ _ => AscL M) (fun M _ _ h _ hp => comp_asc _ M h hp) _ L E a (Nat.le_refl _) h).1
theorem pack_in (k : Nat) (bs : List Nat) (L : Lv) (E a : Nat) (x : Int) (hx : InL (pack k bs L E a).1 x) : InL L x :=
  (pack_ind (fun M _ _ => ∀ x, InL M x → InL L x) (fun M _ _ h _ hp x hx => hp x (comp_in _ M h x hx)) _ L E a (Nat.le_refl _) fun _ h => h).1 x hx
/-- as many that P holds of, but for the ledger -/
def NearL (P : Int → Bool) (n : Nat) (L : Lv) (E : Nat) : Prop := cntL P L ≤ n + E ∧ n ≤ cntL P L + E
theorem near_comp {P : Int → Bool} (hP : Low P) {n E h c : Nat} {L : Lv} (hL : AscL L) (hw : wtL L ≤ 281474976710656) (hn : n ≤ 281474976710656) (h0 : NearL P n L E) : NearL P n (comp L h c) (ledg E (2 ^ h)) := by
  obtain ⟨h1, h2⟩ := comp_cnt P hP c L h hL
  obtain ⟨h3, h4⟩ := h0
  have h5 := cntL_le P (comp L h c)
  rw [comp_wt] at h5
  unfold NearL ledg
  omega
theorem near_pack {P : Int → Bool} (hP : Low P) {k n E a : Nat} {bs : List Nat} {L : Lv} (hL : AscL L) (hw : wtL L ≤ 281474976710656) (hn : n ≤ 281474976710656) (h0 : NearL P n L E) : NearL P n (pack k bs L E a).1 (pack k bs L E a).2.1 :=
  (pack_ind (fun M F _ => AscL M ∧ wtL M = wtL L ∧ NearL P n M F) (fun M F _ h _ hp => ⟨comp_asc _ M h hp.1, (comp_wt _ M h).trans hp.2.1, near_comp hP hp.1 (by rw [hp.2.1]; exact hw) hn hp.2.2⟩) _ L E a (Nat.le_refl _) ⟨hL, rfl, h0⟩).1.2.2
theorem ledg_le (E x : Nat) (h : E ≤ 4611686018427387904) : E ≤ ledg E x ∧ ledg E x ≤ 4611686018427387904 := by
  unfold ledg
  omega
theorem pack_ledger (k : Nat) (bs : List Nat) (L : Lv) (E a : Nat) (h : E ≤ 4611686018427387904) : E ≤ (pack k bs L E a).2.1 ∧ (pack k bs L E a).2.1 ≤ 4611686018427387904 :=
  (pack_ind (fun _ F _ => E ≤ F ∧ F ≤ 4611686018427387904) (fun _ F _ h _ hp => by have := ledg_le F (2 ^ h) hp.2; omega) _ L E a (Nat.le_refl _) ⟨Nat.le_refl _, h⟩).1
/-- the last level isn't empty -/
def Top : Lv → Prop
  | [] => True
  | [l] => l ≠ []
  | _ :: m :: r => Top (m :: r)
theorem Top.cons {l : List Int} {r : Lv} (hr : r ≠ []) (h : Top r) : Top (l :: r) := by
  cases r with
  | nil => exact absurd rfl hr
  | cons m r => exact h
theorem Top.tail {l : List Int} {r : Lv} (h : Top (l :: r)) : Top r := by
  cases r with
  | nil => trivial
  | cons m r => exact h
theorem putL_ne (L : Lv) (h : Nat) (v : Int) : putL L h v ≠ [] := by
  intro e
  have := putL_len v L h
  rw [e, List.length_nil] at this
  omega
theorem insZ_ne (v : Int) (l : List Int) : insZ v l ≠ [] := by
  intro e
  have := insZ_len v l
  rw [e, List.length_nil] at this
  omega
theorem putL_top (v : Int) : ∀ L h, Top L → Top (putL L h v)
  | [], 0, _ => by simp [putL, Top]
  | [], h + 1, _ => by
    rw [putL]
    exact Top.cons (putL_ne _ _ _) (putL_top v [] h trivial)
  | l :: r, 0, hT => by
    rw [putL]
    cases r with
    | nil => exact insZ_ne v l
    | cons m r => exact hT
  | l :: r, h + 1, hT => by
    rw [putL]
    exact Top.cons (putL_ne _ _ _) (putL_top v r h hT.tail)
theorem putsL_top (h : Nat) : ∀ xs L, Top L → Top (putsL L h xs)
  | [], _, hT => hT
  | x :: xs, L, hT => putsL_top h xs _ (putL_top x L h hT)
theorem putsL_ne (h : Nat) (xs : List Int) (L : Lv) (hx : xs ≠ []) : putsL L h xs ≠ [] := by
  intro e
  have := putsL_len h xs L hx
  rw [e, List.length_nil] at this
  omega
theorem comp_top (c : Nat) : ∀ (L : Lv) (h : Nat) (hh : h < L.length), 2 ≤ (L[h]).length → Top L → Top (comp L h c)
  | [], h, hh, _, _ => absurd hh (Nat.not_lt_zero _)
  | l :: r, 0, _, h2, hT => by
    have h1 := two_len c l
    have h3 := stay_len l
    simp only [List.getElem_cons_zero] at h2
    have h4 : twos c l ≠ [] := fun e => by rw [e, List.length_nil] at h1; omega
    rw [comp]
    exact Top.cons (putsL_ne _ _ _ h4) (putsL_top 0 _ r hT.tail)
  | l :: r, h + 1, hh, h2, hT => by
    have hh2 : h < r.length := by simpa using hh
    rw [comp]
    refine Top.cons (fun e => ?_) (comp_top c r h hh2 (by simpa using h2) hT.tail)
    cases r with
    | nil => exact absurd hh2 (Nat.not_lt_zero _)
    | cons m r => cases h <;> simp [comp] at e
theorem pack_top (k : Nat) (bs : List Nat) (L : Lv) (E a : Nat) (h : Top L) : Top (pack k bs L E a).1 :=
  (pack_ind (fun M _ _ => Top M) (fun M _ _ h e hp => by
    obtain ⟨h1, h2, -⟩ := over_some e
    have := room_two k M.length h h1
    exact comp_top _ M h h1 (by omega) hp) _ L E a (Nat.le_refl _) h).1
theorem top_wt : ∀ (L : Lv), L ≠ [] → Top L → 2 ^ (L.length - 1) ≤ wtL L
  | [], h, _ => absurd rfl h
  | [l], _, hT => by
    rw [wtL_cons]
    have : l.length ≠ 0 := fun e => hT (List.length_eq_zero_iff.1 e)
    simp only [List.length_cons, List.length_nil]
    omega
  | l :: m :: r, _, hT => by
    have := top_wt (m :: r) (by simp) hT
    rw [wtL_cons]
    simp only [List.length_cons, Nat.add_sub_cancel] at this ⊢
    rw [Nat.pow_succ]
    omega
/-- there are at most 49 levels -/
theorem top_len {L : Lv} (hT : Top L) (hw : wtL L ≤ 281474976710656) : L.length ≤ 49 := by
  by_cases h : L = []
  · rw [h]; decide
  · have h1 := top_wt L h hT
    have h2 : 2 ^ (L.length - 1) ≤ 2 ^ 48 := Nat.le_trans h1 hw
    have := (Nat.pow_le_pow_iff_right (by decide : 1 < 2)).1 h2
    omega
theorem kept_room {k : Nat} (hk : 2 ≤ k) : ∀ (L : Lv) (H h0 : Nat), h0 + L.length = H → (∀ j, (hj : j < L.length) → (L[j]).length ≤ room k H (h0 + j)) → kept L ≤ crs k L.length
  | [], _, _, _, _ => Nat.zero_le _
  | l :: r, H, h0, hH, h => by
    rw [List.length_cons] at hH
    have h1 := h 0 (by simp)
    have h2 := kept_room hk r H (h0 + 1) (by omega) fun j hj => by
      have := h (j + 1) (by simpa using hj)
      rw [show h0 + (j + 1) = h0 + 1 + j by omega] at this
      simpa using this
    simp only [List.getElem_cons_zero, Nat.add_zero] at h1
    unfold room at h1
    rw [if_pos (by omega), show H - 1 - h0 = r.length by omega] at h1
    have h3 := cr_two hk r.length
    rw [kept, List.length_cons, crs]
    omega
/-- at most three times the size, and twice the levels, are kept -/
theorem kept_few {k : Nat} (hk : 2 ≤ k) {L : Lv} (h : over k L = none) : kept L ≤ 3 * k + 2 * L.length := by
  have h1 := kept_room hk L L.length 0 (Nat.zero_add _) fun j hj => by rw [Nat.zero_add]; exact over_none h j hj
  have h2 := crs_le k L.length
  omega
theorem kept_wt : ∀ L : Lv, kept L ≤ wtL L
  | [] => Nat.le_refl _
  | l :: r => by
    have := kept_wt r
    rw [wtL_cons, kept]
    omega
end Go.Proofs.Ytbpfmjekpjfceaa
