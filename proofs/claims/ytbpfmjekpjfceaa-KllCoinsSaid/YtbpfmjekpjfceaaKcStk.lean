/- The code's stacks: their blocks. -/
import Derived.Test.YtbpfmjekpjfceaaKcMrg2
import Derived.Test.YtbpfmjekpjfceaaKrPut
namespace Go.Proofs.Ytbpfmjekpjfceaa
open Go.RowKit

/-- block g is the code's stack of the size k with the levels L and the ledger E; its own blocks are C, those of its levels D -/
structure KsIs (w : World) (g : Nat) (C D : Nat → Prop) (p : Option Addr) (n c : Nat) (rs : List Sv) (k : Nat) (L : Lv) (T E : Nat) : Prop where
  blk : w.heap[g]? = some (.cells #[.int .i64 (k : Nat), .slice p n c, .int .u64 (T : Nat), .int .u64 (E : Nat)] 83 (0, 0))
  out : w.ownsRow 0 53 1 (.slice p n c) n (svs rs)
  lvs : Lvs w D rs L
  own : ∀ b, Value.ownBlock (.slice p n c) = some b → b ≠ g ∧ C b
  self : C g
  cd : ∀ b, C b → ¬ D b
  below : ∀ b, C b ∨ D b → b < w.heap.size
section
variable {S C D : Nat → Prop} {w w' : World} {g n c k T E : Nat} {p : Option Addr} {rs : List Sv} {L : Lv}
theorem KsIs.fr (s : KsIs w g C D p n c rs k L T E) (f : Fr S w w') (ho : ∀ b, C b ∨ D b → ¬ S b) : KsIs w' g C D p n c rs k L T E :=
  ⟨f.row s.blk (ho g (.inl s.self)), f.owns s.out fun b hb => ho b (.inl (s.own b hb).2), s.lvs.fr f fun b hb => ho b (.inr hb), s.own, s.self, s.cd, fun b hb => Nat.lt_of_lt_of_le (s.below b hb) f.size⟩
theorem KsIs.fr0 (s : KsIs w g C D p n c rs k L T E) (f : Fr S0 w w') : KsIs w' g C D p n c rs k L T E := s.fr f fun _ _ h => h
theorem KsIs.c0 (s : KsIs w g C D p n c rs k L T E) : w.cell? ⟨g, 0, none⟩ = some (.int .i64 (k : Nat)) := by simp [World.cell?, s.blk]
theorem KsIs.c1 (s : KsIs w g C D p n c rs k L T E) : w.cell? ⟨g, 1, none⟩ = some (.slice p n c) := by simp [World.cell?, s.blk]
theorem KsIs.c2 (s : KsIs w g C D p n c rs k L T E) : w.cell? ⟨g, 2, none⟩ = some (.int .u64 (T : Nat)) := by simp [World.cell?, s.blk]
theorem KsIs.c3 (s : KsIs w g C D p n c rs k L T E) : w.cell? ⟨g, 3, none⟩ = some (.int .u64 (E : Nat)) := by simp [World.cell?, s.blk]
theorem KsIs.z (s : KsIs w g C D p n c rs k L T E) (i : Nat) : w.frozen? ⟨g, i, none⟩ = false := by simp [World.frozen?, s.blk]
theorem KsIs.rlen (s : KsIs w g C D p n c rs k L T E) : rs.length = n := by
  have := s.out.1
  rw [svs_len] at this
  omega
theorem KsIs.len (s : KsIs w g C D p n c rs k L T E) : L.length = n := by rw [← s.lvs.len, s.rlen]
/-- a level's cell in the row of levels, and the level -/
theorem KsIs.lev (s : KsIs w g C D p n c rs k L T E) (h : Nat) (hh : h < L.length) : ∃ b, p = some ⟨b, 0, none⟩ ∧ b ≠ g ∧ C b ∧ ∃ q m d, w.cell? ⟨b, h, none⟩ = some (.slice q m d) ∧ Sz w q m d L[h] ∧ w.frozen? ⟨b, h, none⟩ = false ∧ ∀ a, q = some a → D a.block := by
  have hr : h < rs.length := by rw [s.lvs.len]; exact hh
  obtain ⟨b, rfl⟩ := rows_some s.out (by omega)
  obtain ⟨h1, h2⟩ := s.own b rfl
  refine ⟨b, rfl, h1, h2, rs[h].1, rs[h].2.1, rs[h].2.2, rows_at s.out h hr, s.lvs.sz h hr hh, ?_, s.lvs.dd h hr⟩
  rcases s.out.2 with ⟨hv, -⟩ | ⟨b2, cap, cur, hv, -, hb, -⟩
  · cases hv
  · simp only [Value.slice.injEq, Option.some.injEq, Addr.mk.injEq] at hv
    obtain ⟨⟨rfl, -⟩, -⟩ := hv
    simp [World.frozen?, hb]
end
/-- block g is a stack of the code's -/
def KsS (w : World) (g : Nat) (C D : Nat → Prop) (k : Nat) (L : Lv) (T E : Nat) : Prop := ∃ p n c rs, KsIs w g C D p n c rs k L T E
/-- stack g, whose blocks were C and D, has these levels and this ledger now -/
def KsTurn (w w' : World) (g : Nat) (C D : Nat → Prop) (k : Nat) (L : Lv) (T E : Nat) : Prop :=
  ∃ C' D', KsS w' g C' D' k L T E ∧ Fr C w w' ∧ (∀ b, C' b → C b ∨ w.heap.size ≤ b) ∧ ∀ b, D' b → D b ∨ w.heap.size ≤ b
section
variable {C D C1 D1 : Nat → Prop} {w W w' : World} {g k T E : Nat} {L : Lv}
theorem KsTurn.after (f : Fr C w W) (hC : ∀ b, C1 b → C b ∨ w.heap.size ≤ b) (hD : ∀ b, D1 b → D b ∨ w.heap.size ≤ b) (t : KsTurn W w' g C1 D1 k L T E) : KsTurn w w' g C D k L T E := by
  obtain ⟨C', D', s, f2, h1, h2⟩ := t
  refine ⟨C', D', s, f.trans f2 fun j hj h => (hC j h).resolve_right (by omega), fun b hb => ?_, fun b hb => ?_⟩
  · rcases h1 b hb with h | h
    · exact hC b h
    · exact .inr (Nat.le_trans f.size h)
  · rcases h2 b hb with h | h
    · exact hD b h
    · exact .inr (Nat.le_trans f.size h)
theorem KsTurn.same (s : KsS w g C D k L T E) (f : Fr S0 w w') : KsTurn w w' g C D k L T E := by
  obtain ⟨p, n, c, rs, s⟩ := s
  exact ⟨C, D, ⟨p, n, c, rs, s.fr0 f⟩, f.mono fun _ _ h => h.elim, fun _ h => .inl h, fun _ h => .inl h⟩
end
theorem four_set {w : World} {g : Nat} {a b c d : Value} {t : TypeId} (h : w.heap[g]? = some (.cells #[a, b, c, d] t (0, 0))) (x : Value) : (w.setCell ⟨g, 1, none⟩ x).heap[g]? = some (.cells #[a, x, c, d] t (0, 0)) ∧ (w.setCell ⟨g, 2, none⟩ x).heap[g]? = some (.cells #[a, b, x, d] t (0, 0)) ∧ (w.setCell ⟨g, 3, none⟩ x).heap[g]? = some (.cells #[a, b, c, x] t (0, 0)) := by
  refine ⟨?_, ?_, ?_⟩ <;> (rw [heap_setCell_same w g _ _ _ _ h]; rfl)
/-- a level more, an empty one -/
theorem KsIs.grow {C D : Nat → Prop} {w w3 : World} {g n c k T E g1 cap : Nat} {p : Option Addr} {rs : List Sv} {L : Lv} {o : Obj} (s : KsIs w g C D p n c rs k L T E)
    (own : w3.ownsRow 0 53 1 (.slice (some ⟨g1, 0, none⟩) (n + 1) cap) (n + 1) (svs rs ++ #[Value.slice none 0 0].toList))
    (hg : (w.alloc o).grownBy w3 (Value.ownBlock (.slice p n c))) (hat : Value.ownBlock (.slice p n c) = some g1 ∨ g1 = w.heap.size + 1) :
    KsTurn w (w3.setCell ⟨g, 1, none⟩ (.slice (some ⟨g1, 0, none⟩) (n + 1) cap)) g C D k (L ++ [[]]) T E := by
  have f1 : Fr C w w3 := ((Fr.alloc S0 w o).mono fun _ _ h => h.elim).trans (Fr.grown hg) fun j _ h => (s.own j h).2
  have f1' : Fr (fun x => Value.ownBlock (.slice p n c) = some x) w w3 := ((Fr.alloc S0 w o).mono fun _ _ h => h.elim).trans (Fr.grown hg) fun _ _ h => h
  have f2 : Fr (· = g) w3 (w3.setCell ⟨g, 1, none⟩ (.slice (some ⟨g1, 0, none⟩) (n + 1) cap)) := Fr.setCell _ _ _ _ rfl
  have hg1 : g1 ≠ g ∧ ¬ D g1 := by
    have hgl := s.below g (.inl s.self)
    rcases hat with h | h
    · exact ⟨(s.own g1 h).1, s.cd g1 (s.own g1 h).2⟩
    · refine ⟨by omega, fun hd => ?_⟩
      have := s.below g1 (.inr hd)
      omega
  have b3 := f1'.row s.blk fun h => (s.own g h).1 rfl
  have hlt := (own.lt g1 rfl).2
  have sz := f2.size
  refine ⟨fun b => C b ∨ b = g1, D, ⟨some ⟨g1, 0, none⟩, n + 1, cap, rs ++ [(none, 0, 0)], (four_set b3 _).1, ?_, ?_, fun b hb => ?_, .inl s.self, fun b hb => ?_, fun b hb => ?_⟩, f1.trans f2 fun j _ h => by rw [show j = g from h]; exact s.self, fun b hb => ?_, fun b hb => .inl hb⟩
  · refine f2.owns (by rw [show svs (rs ++ [(none, 0, 0)]) = svs rs ++ #[Value.slice none 0 0].toList by simp [svs]]; exact own) fun b hb h => ?_
    obtain rfl : g1 = b := Option.some.inj hb
    exact hg1.1 h
  · exact ((s.lvs.fr f1 fun b hd hc => s.cd b hc hd).fr f2 fun b hd h => by rw [show b = g from h] at hd; exact s.cd g s.self hd).snoc (Sz.emp _) fun a ha => by cases ha
  · obtain rfl : g1 = b := Option.some.inj hb
    exact ⟨hg1.1, .inr rfl⟩
  · rcases hb with h | rfl
    · exact s.cd b h
    · exact hg1.2
  · rcases hb with (h | rfl) | h
    · exact Nat.lt_of_lt_of_le (s.below b (.inl h)) (Nat.le_trans f1.size sz)
    · omega
    · exact Nat.lt_of_lt_of_le (s.below b (.inr h)) (Nat.le_trans f1.size sz)
  · rcases hb with h | rfl
    · exact .inl h
    · rcases hat with h | h
      · exact .inl (s.own b h).2
      · exact .inr (by omega)
/-- a level is another one now, whose block is new -/
theorem KsIs.lay1 {C D : Nat → Prop} {w w3 : World} {g n c k T E b h m d : Nat} {q : Option Addr} {rs : List Sv} {L : Lv} {l : List Int} (s : KsIs w g C D (some ⟨b, 0, none⟩) n c rs k L T E) (f : Fr S0 w w3)
    (z : Sz w3 q m d l) (hq : ∀ a, q = some a → w.heap.size ≤ a.block ∧ a.block < w3.heap.size) : ∃ D', KsIs (w3.setCell ⟨b, h, none⟩ (.slice q m d)) g C D' (some ⟨b, 0, none⟩) n c (rs.set h (q, m, d)) k (L.set h l) T E ∧
      Fr C w (w3.setCell ⟨b, h, none⟩ (.slice q m d)) ∧ ∀ x, D' x → D x ∨ w.heap.size ≤ x := by
  have s3 := s.fr0 f
  obtain ⟨hbg, hb⟩ := s.own b rfl
  obtain ⟨o4, f4⟩ := rows_set s3.out h q m d
  have hlb := s.below b (.inl hb)
  refine ⟨fun x => D x ∨ (w.heap.size ≤ x ∧ x < w3.heap.size), ⟨f4.row s3.blk fun e => hbg (show g = b from e).symm, o4, ?_, s.own, s.self, fun x hx => ?_, fun x hx => ?_⟩, f.mono (fun _ _ h => h.elim) |>.trans f4 fun j _ e => by rw [show j = b from e]; exact hb, fun x hx => ?_⟩
  · exact ((s3.lvs.mono fun x hx => .inl hx).fr f4 fun x hx e => by
      rw [show x = b from e] at hx
      rcases hx with hx | hx
      · exact s.cd b hb hx
      · omega).set (z.fr f4 fun _ a ha e => by have := (hq a ha).1; have e2 : a.block = b := e; omega) (fun a ha => .inr (hq a ha)) h
  · rintro (h1 | h1)
    · exact s.cd x hx h1
    · have := s.below x (.inl hx); omega
  · have hz := f4.size
    have hz2 := f.size
    rcases hx with h1 | h1 | h1
    · have := s.below x (.inl h1); omega
    · have := s.below x (.inr h1); omega
    · omega
  · rcases hx with h1 | h1
    · exact .inl h1
    · exact .inr h1.1
theorem KsIs.lay {C D : Nat → Prop} {w w3 : World} {g n c k T E b h m d : Nat} {q : Option Addr} {rs : List Sv} {L : Lv} {l : List Int} (s : KsIs w g C D (some ⟨b, 0, none⟩) n c rs k L T E) (f : Fr S0 w w3)
    (z : Sz w3 q m d l) (hq : ∀ a, q = some a → w.heap.size ≤ a.block ∧ a.block < w3.heap.size) : KsTurn w (w3.setCell ⟨b, h, none⟩ (.slice q m d)) g C D k (L.set h l) T E := by
  obtain ⟨D', s', f', hD⟩ := s.lay1 (h := h) f z hq
  exact ⟨C, D', ⟨_, _, _, _, s'⟩, f', fun x hx => .inl hx, hD⟩
/-- the ledger is another one -/
theorem KsIs.led {C D : Nat → Prop} {w : World} {g n c k T E : Nat} {p : Option Addr} {rs : List Sv} {L : Lv} (s : KsIs w g C D p n c rs k L T E) (F : Nat) : KsIs (w.setCell ⟨g, 3, none⟩ (.int .u64 (F : Nat))) g C D p n c rs k L T F ∧ Fr (· = g) w (w.setCell ⟨g, 3, none⟩ (.int .u64 (F : Nat))) := by
  have f : Fr (· = g) w (w.setCell ⟨g, 3, none⟩ (.int .u64 (F : Nat))) := Fr.setCell _ _ _ _ rfl
  exact ⟨⟨(four_set s.blk _).2.2, f.owns s.out fun b hb e => (s.own b hb).1 e, s.lvs.fr f fun b hb e => by rw [show b = g from e] at hb; exact s.cd g s.self hb, s.own, s.self, s.cd, fun b hb => Nat.lt_of_lt_of_le (s.below b hb) f.size⟩, f⟩
/-- the total is another one -/
theorem KsIs.tot {C D : Nat → Prop} {w : World} {g n c k T E : Nat} {p : Option Addr} {rs : List Sv} {L : Lv} (s : KsIs w g C D p n c rs k L T E) (F : Nat) : KsIs (w.setCell ⟨g, 2, none⟩ (.int .u64 (F : Nat))) g C D p n c rs k L F E ∧ Fr (· = g) w (w.setCell ⟨g, 2, none⟩ (.int .u64 (F : Nat))) := by
  have f : Fr (· = g) w (w.setCell ⟨g, 2, none⟩ (.int .u64 (F : Nat))) := Fr.setCell _ _ _ _ rfl
  exact ⟨⟨(four_set s.blk _).2.1, f.owns s.out fun b hb e => (s.own b hb).1 e, s.lvs.fr f fun b hb e => by rw [show b = g from e] at hb; exact s.cd g s.self hb, s.own, s.self, s.cd, fun b hb => Nat.lt_of_lt_of_le (s.below b hb) f.size⟩, f⟩
end Go.Proofs.Ytbpfmjekpjfceaa
