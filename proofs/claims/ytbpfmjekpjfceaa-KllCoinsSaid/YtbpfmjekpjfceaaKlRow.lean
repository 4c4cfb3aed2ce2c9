/- Rows of whole numbers; rows of such rows. -/
import Derived.Test.YtbpfmjekpjfceaaKlPack
import Derived.Test.YtbpfmjekpjfceaaBytes
import Derived.Test.YtbpfmjekpjfceaaMany
import Derived.Maps.AppendAt
import Derived.Laws.AppendOwnNone
import Derived.Laws.OwnMore
import Derived.Lib.AppendZerosOnto
import Derived.Lib.SliceRun
import Derived.Lib.Walk
namespace Go.Proofs.Ytbpfmjekpjfceaa
open Go.RowKit

theorem info_int64 : (Try.prog.info? 2).map (fun i => (i.zero, i.size, i.bytes)) = some (some (.int .i64 0), 1, 8) := by kernel_rfl
theorem elZ : ElemOk Try.prog 53 2 (.int .i64 0) 1 8 := ⟨Try.underlying53, info_int64, rfl, by decide, by decide⟩
theorem info_rows : (Try.prog.info? 53).map (fun i => (i.zero, i.size, i.bytes)) = some (some (.slice none 0 0), 1, 24) := by kernel_rfl
theorem elR : ElemOk Try.prog 33 53 (.slice none 0 0) 1 24 := ⟨Try.underlying33, info_rows, rfl, by decide, by decide⟩
def zs (l : List Int) : List Value := l.map fun x => .int .i64 x
theorem zs_app (a b : List Int) : zs (a ++ b) = zs a ++ zs b := by simp [zs]
theorem zs_len (l : List Int) : (zs l).length = l.length := by simp [zs]
theorem one_z (x : Int) : ∀ u ∈ (#[Value.int .i64 x]).toList, u.oneCell' = true := by
  intro u hu
  simp only [List.mem_cons, List.not_mem_nil, or_false] at hu
  rw [hu]
  rfl
theorem one_zs (l : List Int) : ∀ u ∈ zs l, u.oneCell' = true := by
  intro u hu
  obtain ⟨x, -, rfl⟩ := List.mem_map.1 hu
  rfl
theorem own_cap {w : World} {e : TypeId} {s : Nat} {q : Option Addr} {n d m : Nat} {xs : List Value} (h : w.ownsRow 0 e s (.slice q n d) m xs) : n ≤ d ∧ d ≤ maxLen ∧ (q = none → d = 0) := by
  rcases h.2 with ⟨hv, -⟩ | ⟨g, cap, cur, hv, _, _, h1, h2, _⟩
  · simp only [Value.slice.injEq] at hv
    obtain ⟨-, rfl, rfl⟩ := hv
    exact ⟨Nat.le_refl _, Nat.zero_le _, fun _ => rfl⟩
  · simp only [Value.slice.injEq] at hv
    obtain ⟨rfl, rfl, rfl⟩ := hv
    exact ⟨h1, h2, fun h => by cases h⟩
theorem slFormN {w : World} {e : TypeId} {s : Nat} {v : Value} {n : Nat} {xs : List Value} (h : w.ownsRow 0 e s v n xs) : ∃ p c, v = .slice p n c := by
  rcases h.2 with ⟨h, h0⟩ | ⟨g, cap, cur, h, _⟩
  · exact ⟨none, 0, by rw [h, h0]⟩
  · exact ⟨_, _, h⟩
/-- a slice of whole numbers that is read -/
structure Sz (w : World) (p : Option Addr) (n c : Nat) (l : List Int) : Prop where
  len : l.length = n
  cel : l ≠ [] → ∃ b o, p = some ⟨b, o, none⟩ ∧ ∀ i, (h : i < l.length) → w.cell? ⟨b, o + i, none⟩ = some (.int .i64 l[i])
  cap : n ≤ c
  max : c ≤ maxLen
  nil : p = none → c = 0
  form : 0 < c → ∃ b o, p = some ⟨b, o, none⟩
section
variable {S : Nat → Prop} {w w' : World} {p : Option Addr} {n c : Nat} {l : List Int}
theorem Sz.at (h : Sz w p n c l) (i : Nat) (hi : i < l.length) : ∃ b o, p = some ⟨b, o, none⟩ ∧ w.cell? ⟨b, o + i, none⟩ = some (.int .i64 l[i]) := by
  obtain ⟨b, o, hp, hc⟩ := h.cel (fun e => by rw [e] at hi; exact absurd hi (Nat.not_lt_zero _))
  exact ⟨b, o, hp, hc i hi⟩
theorem Sz.fr (h : Sz w p n c l) (f : Fr S w w') (ho : l ≠ [] → Off S p) : Sz w' p n c l :=
  ⟨h.len, fun hl => let ⟨b, o, hp, hc⟩ := h.cel hl; ⟨b, o, hp, fun i hi => f.cell (hc i hi) (ho hl ⟨b, o, none⟩ hp)⟩, h.cap, h.max, h.nil, h.form⟩
theorem Sz.fr0 (h : Sz w p n c l) (f : Fr S0 w w') : Sz w' p n c l := h.fr f fun _ => Off.s0 p
theorem Sz.emp (w : World) : Sz w none 0 0 [] := ⟨rfl, fun h => absurd rfl h, Nat.le_refl _, Nat.zero_le _, fun _ => rfl, fun h => absurd h (Nat.lt_irrefl _)⟩
theorem Sz.lt (h : Sz w p n c l) (hl : l ≠ []) : ∀ a, p = some a → a.block < w.heap.size := by
  intro a ha
  obtain ⟨b, o, hp, hc⟩ := h.cel hl
  rw [hp] at ha
  obtain rfl := Option.some.inj ha
  exact World.block_lt_of_cell? w _ (hc 0 (List.length_pos_iff.2 hl))
theorem Sz.ofOwns (h : w.ownsRow 0 2 1 (.slice p n c) n (zs l)) : Sz w p n c l := by
  obtain ⟨h1, h2, h3⟩ := own_cap h
  have hl : l.length = n := by have := h.1; rw [zs_len] at this; omega
  have hf : 0 < c → ∃ b o, p = some ⟨b, o, none⟩ := fun hc => by
    rcases h.2 with ⟨hv, -⟩ | ⟨g, cap, cur, hv, -⟩
    · simp only [Value.slice.injEq] at hv
      omega
    · simp only [Value.slice.injEq] at hv
      exact ⟨g, 0, hv.1⟩
  refine ⟨hl, fun hne => ?_, h1, h2, h3, hf⟩
  rcases h.2 with ⟨hv, hn⟩ | ⟨g, cap, cur, hv, _⟩
  · exact absurd (List.eq_nil_of_length_eq_zero (by omega)) hne
  · simp only [Value.slice.injEq] at hv
    obtain ⟨rfl, -, rfl⟩ := hv
    refine ⟨g, 0, rfl, fun i hi => ?_⟩
    rw [Nat.zero_add, h.cellAt i (by omega)]
    simp [zs, hi]
end
/-- a row of whole numbers that is being made, new to w -/
structure AccZ (w wr : World) (v : Value) (N : Nat) (L : List Int) : Prop where
  own : wr.ownsRow 0 2 1 v N (zs L)
  fresh : Fresh w v
  fr : Fr S0 w wr
section
variable {w wr w2 w3 : World} {v : Value} {N : Nat} {L : List Int}
theorem AccZ.nil (f : Fr S0 w wr) : AccZ w wr (.slice none 0 0) 0 [] := ⟨World.ownsRow_nil _ _ _ _, fresh_nil _ _, f⟩
theorem AccZ.len (h : AccZ w wr v N L) : L.length = N := by
  have := h.own.1
  rw [zs_len] at this
  omega
theorem AccZ.fr0 (h : AccZ w wr v N L) (f : Fr S0 wr w2) : AccZ w w2 v N L := ⟨f.owns h.own fun _ _ h => h, h.fresh, h.fr.trans0 f⟩
theorem AccZ.app {o : Obj} {g cap : Nat} {x : Int} (h : AccZ w wr v N L) (own : w3.ownsRow 0 2 1 (.slice (some ⟨g, 0, none⟩) (N + 1) cap) (N + 1) (zs L ++ #[Value.int .i64 x].toList))
    (hg : (wr.alloc o).grownBy w3 v.ownBlock) (hat : v.ownBlock = some g ∨ g = wr.heap.size + 1) : AccZ w w3 (.slice (some ⟨g, 0, none⟩) (N + 1) cap) (N + 1) (L ++ [x]) :=
  ⟨by rw [show zs (L ++ [x]) = zs L ++ #[Value.int .i64 x].toList by simp [zs]]; exact own, fresh_app h.fr h.fresh hat, (h.fr.trans0 (Fr.alloc S0 wr _)).append hg h.fresh⟩
theorem AccZ.sl (h : AccZ w wr v N L) : ∃ p c, v = .slice p N c ∧ Sz wr p N c L ∧ ∀ a, p = some a → w.heap.size ≤ a.block ∧ a.block < wr.heap.size := by
  obtain ⟨p, c, rfl⟩ := slFormN h.own
  refine ⟨p, c, rfl, Sz.ofOwns h.own, fun a ha => ?_⟩
  subst ha
  exact ⟨h.fresh a.block rfl, (h.own.lt a.block rfl).2⟩
end
/-- slices as values -/
abbrev Sv := Option Addr × Nat × Nat
def svs (rs : List Sv) : List Value := rs.map fun r => .slice r.1 r.2.1 r.2.2
theorem svs_len (rs : List Sv) : (svs rs).length = rs.length := by simp [svs]
theorem one_sv (p : Option Addr) (n c : Nat) : ∀ u ∈ (#[Value.slice p n c]).toList, u.oneCell' = true := by
  intro u hu
  simp only [List.mem_cons, List.not_mem_nil, or_false] at hu
  rw [hu]
  rfl
/-- the slices rs are the levels L, their blocks among D -/
structure Lvs (w : World) (D : Nat → Prop) (rs : List Sv) (L : Lv) : Prop where
  len : rs.length = L.length
  sz : ∀ h (hr : h < rs.length) (hl : h < L.length), Sz w rs[h].1 rs[h].2.1 rs[h].2.2 L[h]
  dd : ∀ h (hr : h < rs.length), ∀ a, rs[h].1 = some a → D a.block
section
variable {S D D' : Nat → Prop} {w w' : World} {rs : List Sv} {L : Lv}
theorem Lvs.fr (h : Lvs w D rs L) (f : Fr S w w') (ho : ∀ b, D b → ¬ S b) : Lvs w' D rs L :=
  ⟨h.len, fun i hr hl => (h.sz i hr hl).fr f fun _ a ha => ho _ (h.dd i hr a ha), h.dd⟩
theorem Lvs.fr0 (h : Lvs w D rs L) (f : Fr S0 w w') : Lvs w' D rs L := h.fr f fun _ _ h => h
theorem Lvs.mono (h : Lvs w D rs L) (hd : ∀ b, D b → D' b) : Lvs w D' rs L := ⟨h.len, h.sz, fun i hr a ha => hd _ (h.dd i hr a ha)⟩
theorem Lvs.nil (w : World) (D : Nat → Prop) : Lvs w D [] [] := ⟨rfl, fun _ hr => absurd hr (Nat.not_lt_zero _), fun _ hr => absurd hr (Nat.not_lt_zero _)⟩
theorem Lvs.snoc (h : Lvs w D rs L) {p : Option Addr} {n c : Nat} {l : List Int} (s : Sz w p n c l) (hd : ∀ a, p = some a → D a.block) : Lvs w D (rs ++ [(p, n, c)]) (L ++ [l]) := by
  have hlen := h.len
  refine ⟨by simp [hlen], fun i hr hl => ?_, fun i hr a ha => ?_⟩
  · by_cases hi : i < rs.length
    · rw [show (rs ++ [(p, n, c)])[i] = rs[i] from List.getElem_append_left hi, show (L ++ [l])[i] = L[i]'(by omega) from List.getElem_append_left (by omega)]
      exact h.sz i hi (by omega)
    · rw [List.length_append, List.length_singleton] at hr
      obtain rfl : i = rs.length := by omega
      have e1 : (rs ++ [(p, n, c)])[rs.length] = (p, n, c) := by simp
      have e2 : (L ++ [l])[rs.length]'(by simp [hlen]) = l := by simp [hlen]
      rw [e1, e2]
      exact s
  · by_cases hi : i < rs.length
    · simp only [List.getElem_append_left hi] at ha
      exact h.dd i hi a ha
    · rw [List.length_append, List.length_singleton] at hr
      obtain rfl : i = rs.length := by omega
      simp only [List.getElem_append_right (Nat.le_refl _), Nat.sub_self, List.getElem_cons_zero] at ha
      exact hd a ha
theorem Lvs.set (h : Lvs w D rs L) {p : Option Addr} {n c : Nat} {l : List Int} (s : Sz w p n c l) (hd : ∀ a, p = some a → D a.block) (j : Nat) : Lvs w D (rs.set j (p, n, c)) (L.set j l) := by
  refine ⟨by simp [h.len], fun i hr hl => ?_, fun i hr a ha => ?_⟩
  · rw [List.length_set] at hr hl
    by_cases hij : j = i
    · subst hij
      simp only [List.getElem_set_self]
      exact s
    · simp only [List.getElem_set_ne hij]
      exact h.sz i hr hl
  · rw [List.length_set] at hr
    by_cases hij : j = i
    · subst hij
      simp only [List.getElem_set_self] at ha
      exact hd a ha
    · simp only [List.getElem_set_ne hij] at ha
      exact h.dd i hr a ha
end
/-- a cell of an own row of slices -/
theorem rows_at {w : World} {g c n : Nat} {rs : List Sv} (own : w.ownsRow 0 53 1 (.slice (some ⟨g, 0, none⟩) n c) n (svs rs)) (j : Nat) (hj : j < rs.length) : w.cell? ⟨g, j, none⟩ = some (.slice rs[j].1 rs[j].2.1 rs[j].2.2) := by
  have hl := own.1
  rw [svs_len] at hl
  rw [own.cellAt j (by omega)]
  simp [svs, hj]
theorem rows_some {w : World} {p : Option Addr} {n c : Nat} {rs : List Sv} (own : w.ownsRow 0 53 1 (.slice p n c) n (svs rs)) (h : 0 < rs.length) : ∃ g, p = some ⟨g, 0, none⟩ := by
  rcases own.2 with ⟨hv, hn⟩ | ⟨g, cap, cur, hv, _⟩
  · have hl := own.1
    rw [svs_len] at hl
    omega
  · simp only [Value.slice.injEq] at hv
    exact ⟨g, hv.1⟩
theorem rows_set {w : World} {g c n : Nat} {rs : List Sv} (own : w.ownsRow 0 53 1 (.slice (some ⟨g, 0, none⟩) n c) n (svs rs)) (j : Nat) (p : Option Addr) (m d : Nat) :
    (w.setCell ⟨g, j, none⟩ (.slice p m d)).ownsRow 0 53 1 (.slice (some ⟨g, 0, none⟩) n c) n (svs (rs.set j (p, m, d))) ∧ Fr (· = g) w (w.setCell ⟨g, j, none⟩ (.slice p m d)) := by
  obtain ⟨ho, -⟩ := own.stored j (.slice p m d)
  refine ⟨?_, Fr.setCell (· = g) w ⟨g, j, none⟩ _ rfl⟩
  unfold svs at ho ⊢
  rw [List.map_set]
  exact ho
end Go.Proofs.Ytbpfmjekpjfceaa
