/- A stack and coins, turned; what a level's packing takes. -/
import Derived.Test.YtbpfmjekpjfceaaKrTotal
namespace Go.Proofs.Ytbpfmjekpjfceaa
open Go.RowKit

theorem stay_even : ∀ l : List Int, l.length % 2 = 0 → stay l = []
  | [], _ => rfl
  | [_], h => by simp at h
  | _ :: _ :: r, h => stay_even r (by simp only [List.length_cons] at h; omega)
theorem stay_odd : ∀ (l : List Int) (h : l.length % 2 = 1), stay l = [l[l.length - 1]'(by omega)]
  | [], h => by simp at h
  | [x], _ => rfl
  | a :: b :: r, h => by
    have h2 : r.length % 2 = 1 := by simp only [List.length_cons] at h; omega
    rw [stay, stay_odd r h2]
    obtain ⟨n, hn⟩ : ∃ n, r.length = n + 1 := ⟨r.length - 1, by omega⟩
    simp only [List.length_cons, hn, Nat.add_sub_cancel, List.getElem_cons_succ]
theorem twos_len2 (c : Nat) (l : List Int) : (twos c l).length = l.length / 2 := by
  have h1 := two_len c l
  have h2 := stay_len l
  omega
theorem twos_at (c : Nat) (hc : c < 2) : ∀ (l : List Int) (j : Nat) (hj : 2 * j + 1 < l.length), (twos c l)[j]'(by rw [twos_len2]; omega) = l[2 * j + c]'(by omega)
  | [], j, hj => absurd hj (Nat.not_lt_zero _)
  | [_], j, hj => by simp at hj
  | a :: b :: r, 0, _ => by
    rcases (by omega : c = 0 ∨ c = 1) with rfl | rfl <;> rfl
  | a :: b :: r, j + 1, hj => by
    have hj2 : 2 * j + 1 < r.length := by simp only [List.length_cons] at hj; omega
    have e : 2 * (j + 1) + c = 2 * j + c + 1 + 1 := by omega
    simp only [twos, e, List.getElem_cons_succ]
    exact twos_at c hc r j hj2
theorem len_kept : ∀ (L : Lv) (l : List Int), l ∈ L → l.length ≤ kept L
  | [], _, h => nomatch h
  | x :: r, l, h => by
    rcases List.mem_cons.1 h with rfl | h
    · rw [kept]; omega
    · have := len_kept r l h
      rw [kept]; omega
theorem putsL_take (L : Lv) (h : Nat) (xs : List Int) (j : Nat) (hj : j < xs.length) : putsL L h (xs.take (j + 1)) = putL (putsL L h (xs.take j)) h xs[j] := by
  unfold putsL
  rw [List.take_succ_eq_append_getElem hj, List.foldl_append]
  rfl
/-- the stack g and the coins r, whose blocks are C, D and the coins' own, are these now -/
def PkTurn (w w' : World) (g r : Nat) (C D : Nat → Prop) (k : Nat) (M : Lv) (E : Nat) (q : Option Addr) (n c : Nat) (bs : List Nat) (a : Nat) : Prop :=
  ∃ C' D', RkS w' g C' D' k M E ∧ RcIs w' r q n c bs a ∧ Fr (fun b => C b ∨ b = r) w w' ∧ (∀ b, C' b → C b ∨ w.heap.size ≤ b) ∧ ∀ b, D' b → D b ∨ w.heap.size ≤ b
/-- the coins lie aside of the stack -/
structure Aparts (w : World) (r : Nat) (q : Option Addr) (bs : List Nat) (C D : Nat → Prop) : Prop where
  rc : ¬ C r
  rd : ¬ D r
  lt : r < w.heap.size
  off : bs ≠ [] → ∀ a, q = some a → ¬ C a.block ∧ a.block < w.heap.size
section
variable {w W w' : World} {g r k E E2 n c a a2 : Nat} {C D : Nat → Prop} {M M2 : Lv} {q : Option Addr} {bs : List Nat}
theorem PkTurn.start (s : RkS w g C D k M E) (t : RcIs w r q n c bs a) : PkTurn w w g r C D k M E q n c bs a :=
  ⟨C, D, s, t, Fr.refl _ _, fun _ h => .inl h, fun _ h => .inl h⟩
theorem PkTurn.on {C1 D1 : Nat → Prop} (ap : Aparts w r q bs C D) (x : RcIs W r q n c bs a) (f : Fr (fun b => C b ∨ b = r) w W) (hC : ∀ b, C1 b → C b ∨ w.heap.size ≤ b) (hD : ∀ b, D1 b → D b ∨ w.heap.size ≤ b)
    (h : RkTurn W w' g C1 D1 k M2 E2) : PkTurn w w' g r C D k M2 E2 q n c bs a := by
  obtain ⟨C2, D2, s2, f2, hC2, hD2⟩ := h
  have hr : ¬ C1 r := fun h => (hC r h).elim ap.rc fun h => by have := ap.lt; omega
  refine ⟨C2, D2, s2, x.fr f2 hr fun hb a ha h => ?_, f.trans f2 fun j hj h => ?_, fun b hb => ?_, fun b hb => ?_⟩
  · obtain ⟨h1, h2⟩ := ap.off hb a ha
    rcases hC _ h with h | h
    · exact h1 h
    · omega
  · rcases hC j h with h | h
    · exact .inl h
    · omega
  · rcases hC2 b hb with h | h
    · exact hC b h
    · exact .inr (Nat.le_trans f.size h)
  · rcases hD2 b hb with h | h
    · exact hD b h
    · exact .inr (Nat.le_trans f.size h)
theorem PkTurn.step (ap : Aparts w r q bs C D) (t : PkTurn w W g r C D k M E q n c bs a) (h : ∀ C1 D1, RkS W g C1 D1 k M E → RkTurn W w' g C1 D1 k M2 E2) : PkTurn w w' g r C D k M2 E2 q n c bs a := by
  obtain ⟨C1, D1, s, x, f, hC, hD⟩ := t
  exact PkTurn.on ap x f hC hD (h C1 D1 s)
theorem PkTurn.coin (ap : Aparts w r q bs C D) (t : PkTurn w W g r C D k M E q n c bs a) (x : RcIs w' r q n c bs a2) (f2 : Fr (· = r) W w') : PkTurn w w' g r C D k M E q n c bs a2 := by
  obtain ⟨C1, D1, ⟨p, m, d, rs, s⟩, -, f, hC, hD⟩ := t
  have hr : ¬ C1 r := fun h => (hC r h).elim ap.rc fun h => by have := ap.lt; omega
  have hr2 : ¬ D1 r := fun h => (hD r h).elim ap.rd fun h => by have := ap.lt; omega
  refine ⟨C1, D1, ⟨p, m, d, rs, s.fr f2 fun b hb e => ?_⟩, x, f.trans f2 fun j _ h => .inr h, hC, hD⟩
  obtain rfl : b = r := e
  exact hb.elim hr hr2
theorem PkTurn.fr0 (t : PkTurn w W g r C D k M E q n c bs a) (f2 : Fr S0 W w') : PkTurn w w' g r C D k M E q n c bs a := by
  obtain ⟨C1, D1, ⟨p, m, d, rs, s⟩, x, f, hC, hD⟩ := t
  exact ⟨C1, D1, ⟨p, m, d, rs, s.fr0 f2⟩, x.fr0 f2, f.trans f2 fun _ _ h => h.elim, hC, hD⟩
end
theorem Sz.one (W : World) (v : Int) (t : TypeId) : Sz (W.alloc (.cells #[.int .i64 v] t)) (some ⟨W.heap.size, 0, none⟩) 1 1 [v] := by
  refine ⟨rfl, fun _ => ⟨W.heap.size, 0, rfl, fun i hi => ?_⟩, Nat.le_refl _, by decide, fun h => (by cases h), fun _ => ⟨_, _, rfl⟩⟩
  obtain rfl : i = 0 := by simpa using hi
  have h := heap_alloc_new W (.cells #[.int .i64 v] t)
  unfold World.cell?
  rw [h]
  rfl
/-- an emptied level holds one value again -/
theorem RkIs.one {C D : Nat → Prop} {W : World} {g b m d k E h : Nat} {rs : List Sv} {M : Lv} (s : RkIs W g C D (some ⟨b, 0, none⟩) m d rs k (M.set h []) E) (v : Int) (t : TypeId) :
    ∃ D' rs', RkIs (((W.alloc (.cells #[.int .i64 v] t)).setCell ⟨b, h, none⟩ (.slice (some ⟨W.heap.size, 0, none⟩) 1 1)).drew) g C D' (some ⟨b, 0, none⟩) m d rs' k (M.set h [v]) E ∧
      Fr C W (((W.alloc (.cells #[.int .i64 v] t)).setCell ⟨b, h, none⟩ (.slice (some ⟨W.heap.size, 0, none⟩) 1 1)).drew) ∧ ∀ x, D' x → D x ∨ W.heap.size ≤ x := by
  obtain ⟨D', s', f', hD⟩ := s.lay1 (h := h) (Fr.alloc S0 W (.cells #[.int .i64 v] t)) (Sz.one W v t) (fun a ha => by obtain rfl := Option.some.inj ha; simp)
  rw [List.set_set] at s'
  exact ⟨D', _, s'.fr0 (Fr.drew S0 _), f'.trans (Fr.drew S0 _) fun _ _ h => h.elim, hD⟩
end Go.Proofs.Ytbpfmjekpjfceaa
