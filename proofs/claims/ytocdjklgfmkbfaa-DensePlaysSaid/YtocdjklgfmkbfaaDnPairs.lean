/- Rows of pairs; what Pairs does. -/
import Derived.Test.YtocdjklgfmkbfaaDnAdd
namespace Go.Proofs.Ytocdjklgfmkbfaa
open Go.RowKit

theorem info_pr : (Try.prog.info? 50).map (fun i => (i.zero, i.size, i.bytes)) = some (some (.agg #[.int .i64 0, .int .u64 0]), 2, 16) := by kernel_rfl
theorem elPr : ElemOk Try.prog 39 50 (.agg #[.int .i64 0, .int .u64 0]) 2 16 := ⟨Try.underlying39, info_pr, rfl, by decide, by decide⟩
def prs (l : List Pr) : List Value := l.flatMap fun t => [.int .i64 t.1, .int .u64 (t.2 : Int)]
theorem prs_snoc (l : List Pr) (t : Pr) : prs (l ++ [t]) = prs l ++ [.int .i64 t.1, .int .u64 (t.2 : Int)] := by simp [prs]
theorem prs_len (l : List Pr) : (prs l).length = l.length * 2 := by
  induction l with
  | nil => rfl
  | cons t l ih => rw [show prs (t :: l) = [.int .i64 t.1, .int .u64 (t.2 : Int)] ++ prs l from rfl, List.length_append, ih, List.length_cons]; simp; omega
theorem prs_at : ∀ (l : List Pr) (i : Nat) (h : i < l.length), (prs l)[i * 2]? = some (.int .i64 l[i].1) ∧ (prs l)[i * 2 + 1]? = some (.int .u64 (l[i].2 : Int))
  | t :: l, 0, _ => by simp [prs]
  | t :: l, i + 1, h => by
    have := prs_at l i (by simpa using h)
    rw [show prs (t :: l) = [.int .i64 t.1, .int .u64 (t.2 : Int)] ++ prs l from rfl]
    rw [List.getElem?_append_right (by simp; omega), List.getElem?_append_right (by simp; omega)]
    simp only [List.length_cons, List.length_nil, List.getElem_cons_succ]
    rw [show (i + 1) * 2 - (0 + 1 + 1) = i * 2 by omega, show (i + 1) * 2 + 1 - (0 + 1 + 1) = i * 2 + 1 by omega]
    exact this
theorem one_pr (x : Int) (y : Nat) : ∀ u ∈ (#[Value.int .i64 x, Value.int .u64 (y : Int)]).toList, u.oneCell' = true := by
  intro u hu
  simp only [List.mem_cons, List.not_mem_nil, or_false] at hu
  rcases hu with rfl | rfl <;> rfl
/-- a slice of pairs that is read -/
structure PrI (w : World) (p : Option Addr) (l : List Pr) : Prop where
  len : l.length ≤ maxLen
  cel : l ≠ [] → ∃ b off, p = some ⟨b, off, none⟩ ∧ ∀ i, (h : i < l.length) → w.cell? ⟨b, off + i * 2, none⟩ = some (.int .i64 l[i].1) ∧ w.cell? ⟨b, off + i * 2 + 1, none⟩ = some (.int .u64 (l[i].2 : Nat))
theorem PrI.fr {S : Nat → Prop} {w w' : World} {p : Option Addr} {l : List Pr} (h : PrI w p l) (f : Fr S w w') (ho : Off S p) : PrI w' p l :=
  ⟨h.len, fun hl => let ⟨b, o, hp, hc⟩ := h.cel hl; ⟨b, o, hp, fun i hi => ⟨f.cell (hc i hi).1 (ho ⟨b, o, none⟩ hp), f.cell (hc i hi).2 (ho ⟨b, o, none⟩ hp)⟩⟩⟩
theorem PrI.fr0 {w w' : World} {p : Option Addr} {l : List Pr} (h : PrI w p l) (f : Fr S0 w w') : PrI w' p l := h.fr f (Off.s0 p)
theorem PrI.at {w : World} {p : Option Addr} {l : List Pr} (h : PrI w p l) (i : Nat) (hi : i < l.length) : ∃ b off, p = some ⟨b, off, none⟩ ∧ w.cell? ⟨b, off + i * 2, none⟩ = some (.int .i64 l[i].1) ∧ w.cell? ⟨b, off + i * 2 + 1, none⟩ = some (.int .u64 (l[i].2 : Nat)) :=
  let ⟨b, off, hp, hc⟩ := h.cel (by intro e; simp [e] at hi); ⟨b, off, hp, hc i hi⟩
theorem PrI.nil (w : World) (p : Option Addr) : PrI w p [] := ⟨by simp, fun h => absurd rfl h⟩
theorem PrI.lt {w : World} {p : Option Addr} {l : List Pr} (h : PrI w p l) (hl : l ≠ []) : ∀ a, p = some a → a.block < w.heap.size := by
  intro a ha
  obtain ⟨b, off, hp, hc⟩ := h.cel hl
  rw [hp] at ha
  obtain rfl := Option.some.inj ha
  exact World.block_lt_of_cell? w _ (hc 0 (List.length_pos_iff.2 hl)).1
theorem PrI.ofOwns {w : World} {q : Option Addr} {n d : Nat} {l : List Pr} (h : w.ownsRow 0 50 2 (.slice q n d) n (prs l)) (hm : n ≤ maxLen) : PrI w q l := by
  have hlen : l.length * 2 = n * 2 := by have h1 := h.1; rw [prs_len] at h1; exact h1
  refine ⟨by omega, fun hl => ?_⟩
  rcases h.2 with ⟨hv, hn⟩ | ⟨g, cap, cur, hv, _⟩
  · exact absurd (List.eq_nil_of_length_eq_zero (by omega)) hl
  · simp only [Value.slice.injEq] at hv
    obtain ⟨rfl, -, rfl⟩ := hv
    refine ⟨g, 0, rfl, fun i hi => ?_⟩
    obtain ⟨h1, h2⟩ := prs_at l i hi
    rw [Nat.zero_add]
    exact ⟨(h.cellAt _ (by omega)).trans h1, (h.cellAt _ (by omega)).trans h2⟩
theorem slFormN {w : World} {e : TypeId} {s : Nat} {v : Value} {n : Nat} {xs : List Value} (h : w.ownsRow 0 e s v n xs) : ∃ p c, v = .slice p n c := by
  rcases h.2 with ⟨h, h0⟩ | ⟨g, cap, cur, h, _⟩
  · exact ⟨none, 0, by rw [h, h0]⟩
  · exact ⟨_, _, h⟩

/-- a block of one cell, and a row of pairs that it holds -/
structure BoxPr (w : World) (x : Nat) (v : Value) (n : Nat) (l : List Pr) : Prop where
  blk : w.heap[x]? = some (.cells #[v] 39 (0, 0))
  own : w.ownsRow 0 50 2 v n (prs l)
  off : v.ownBlock ≠ some x
theorem BoxPr.c {w : World} {x : Nat} {v : Value} {n : Nat} {l : List Pr} (h : BoxPr w x v n l) : w.cell? ⟨x, 0, none⟩ = some v := by simp [World.cell?, h.blk]
theorem BoxPr.z {w : World} {x : Nat} {v : Value} {n : Nat} {l : List Pr} (h : BoxPr w x v n l) : w.frozen? ⟨x, 0, none⟩ = false := by simp [World.frozen?, h.blk]

set_option maxRecDepth 100000 in
set_option maxHeartbeats 1000000 in
theorem pairs_step (x n : Nat) (k : Int) (v : Value) (N : Nat) (l : List Pr) (w : World) (h : BoxPr w x v N l) (hn : N ≤ 10000) :
    Calls Try.prog 33 #[.int .i64 k, .int .u64 (n : Nat), .pointer (some ⟨x, 0, none⟩)] w fun e w' => e = .returned (.tuple #[]) ∧ ∃ v', BoxPr w' x v' (N + 1) (l ++ [(k, n)]) ∧ (v'.ownBlock = v.ownBlock ∨ ∃ g, v'.ownBlock = some g ∧ w.heap.size ≤ g) ∧ Fr (fun y => y = x ∨ v.ownBlock = some y) w w' := by
  have HR : Hid (Room (N + 1)) := Lib.hid (Room.mk (by omega))
  have H := Lib.hid h
  have HO := Lib.hid h.own
  have c0 := h.c
  have hx : x < w.heap.size := (Array.getElem?_eq_some_iff.1 h.blk).1
  have HX := Lib.hid hx
  clear h hn hx
  go_enter Try.func33, Try.ntmps33
  go_wp2_with (at_builtin; refine app_one elPr (.tmp 5) (.tmp 9) rfl HO.out rfl rfl rfl rfl rfl (one_pr k n) HR.out ?_; intro g cap w2 hown hgrow hat hlt2; have HOW := Lib.hid hown; have HG := Lib.hid hgrow; have HA := Lib.hid hat; have b2 := (((Fr.grown hgrow).row ((Fr.alloc S0 _ _).row H.out.blk (fun h => h)) (fun e => H.out.off e))); have HB := Lib.hid b2; have y0 : w2.cell? ⟨x, 0, none⟩ = some v := (by simp [World.cell?, b2]); have y1 : w2.frozen? ⟨x, 0, none⟩ = false := (by simp [World.frozen?, b2]); clear hown hgrow hat b2)
  go_end0
  refine ⟨rfl, _, ⟨(heap_setCell_same _ x 0 _ _ _ HB.out).trans rfl, ?_, ?_⟩, ?_, ?_⟩
  · rw [prs_snoc]
    refine (Fr.setCell (· = x) w2 ⟨x, 0, none⟩ _ rfl).owns HOW.out fun y hy e => ?_
    obtain rfl : g = y := Option.some.inj hy
    rcases HA.out with h1 | h1
    · exact H.out.off (h1.trans (by rw [e]))
    · have := HX.out; omega
  · intro hy
    obtain rfl : g = x := Option.some.inj hy
    rcases HA.out with h1 | h1
    · exact H.out.off h1
    · have := HX.out; omega
  · rcases HA.out with h1 | h1
    · exact .inl h1.symm
    · exact .inr ⟨g, rfl, by omega⟩
  · exact (((Fr.alloc S0 _ _).mono (T := fun y => y = x ∨ v.ownBlock = some y) fun _ _ h => h.elim).trans (Fr.grown HG.out) fun _ _ h => .inr h).trans (Fr.setCell (· = x) w2 ⟨x, 0, none⟩ _ rfl) fun _ _ h => .inl h

/-- a row of pairs that is new to w -/
structure PrsNew (w w' : World) (p : Option Addr) (c n : Nat) (l : List Pr) : Prop where
  own : w'.ownsRow 0 50 2 (.slice p n c) n (prs l)
  len : l.length = n
  fresh : ∀ a, p = some a → w.heap.size ≤ a.block
  fr : Fr S0 w w'
theorem PrsNew.pri {w w' : World} {p : Option Addr} {c n : Nat} {l : List Pr} (h : PrsNew w w' p c n l) (hn : n ≤ 1000000) : PrI w' p l := PrI.ofOwns h.own (by unfold maxLen; omega)

theorem BoxPr.fr0 {w w' : World} {x : Nat} {v : Value} {n : Nat} {l : List Pr} (h : BoxPr w x v n l) (f : Fr S0 w w') : BoxPr w' x v n l := ⟨f.row h.blk (fun h => h), f.owns h.own fun _ _ h => h, h.off⟩
theorem collect_any (g h : Nat) (a b F : Int) (p : Option Addr) (m : Nat) (l : List Pr) (w W : World) (x : Nat) (v : Value) (s : Sto w g h a b F p m l) (f : Fr S0 w W) (hx : w.heap.size ≤ x) (hb : BoxPr W x v 0 []) (hv : Fresh w v) :
    Calls Try.prog 27 #[.pointer (some ⟨g, 0, none⟩), .func (.func 33) #[] #[.pointer (some ⟨x, 0, none⟩)]] W fun e w' => e = .returned (.tuple #[]) ∧ ∃ v, BoxPr w' x v l.length l ∧ Fr S0 w w' ∧ Fresh w v := by
  by_cases hl : l = []
  · subst hl
    exact (each_none g _ W (s.fr0 f).raw.c4).mono fun e w' he => ⟨he.1, v, he.2 ▸ hb, he.2 ▸ f, hv⟩
  · refine (each_clos 33 g h _ a b F p m l (fun done W' => (∃ rest, l = done ++ rest) ∧ ∃ v, BoxPr W' x v done.length done ∧ Fr S0 w W' ∧ Fresh w v) W has_pairs s.lo s.hi s.ab s.srt s.pos s.all ⟨⟨l, rfl⟩, v, hb, f, hv⟩ (s.fr0 f).raw.c4 hl ?_ ?_ ?_).mono fun e w' he => ⟨he.1, he.2.2⟩
    · rintro done W' ⟨-, _, _, f, _⟩
      exact (s.fr0 f).sees done
    · rintro done W' W'' ⟨e, v, k, f, hv⟩ f2
      exact ⟨e, v, k.fr0 f2, f.trans0 f2, hv⟩
    · rintro done k n rest W' e ⟨-, v, hb, f, hv⟩
      have hlen := s.len
      have : done.length ≤ l.length := by rw [e]; simp
      refine (pairs_step x n k v done.length done W' hb (by omega)).mono fun e w' he => ?_
      obtain ⟨he, v', hb', hv', f'⟩ := he
      refine ⟨he, ⟨rest, by rw [‹l = _›]; simp⟩, v', by rw [List.length_append]; exact hb', f.trans f' fun j hj h => ?_, fun g hg => ?_⟩
      · rcases h with h | h
        · omega
        · have := hv j h; omega
      · rcases hv' with h | ⟨g', h1, h2⟩
        · exact hv g (h ▸ hg)
        · have := f.size
          rw [h1] at hg
          have := Option.some.inj hg
          omega

set_option maxRecDepth 100000 in
set_option maxHeartbeats 1000000 in
theorem pairs_any (g h : Nat) (l : List Pr) (w : World) (s : StIs w g h l) :
    Calls Try.prog 18 #[.pointer (some ⟨g, 0, none⟩)] w fun e w' => ∃ p c n, e = .returned (.slice p n c) ∧ PrsNew w w' p c n l := by
  obtain ⟨a, b, F, p, m, s, -⟩ := s
  have c4 := s.raw.c4
  have HS := Lib.hid s
  obtain ⟨N, hN⟩ : ∃ N, l.length = N := ⟨_, rfl⟩
  have hlen := s.len
  rw [hN] at c4 hlen
  have HN := Lib.hid hN
  have HR : Hid (Room N) := Lib.hid (Room.mk (by omega))
  clear s hN
  go_enter Try.func18, Try.ntmps18
  go_wp2_with (at_make; refine make_room elPr (.const (.int .i64 0)) (.tmp 7) rfl rfl rfl rfl HR.out ?_; intro w1 hown hf1; have HO := Lib.hid hown; have HF1 := Lib.hid hf1; clear hown hf1)
  have HB : Hid (BoxPr (w1.alloc (.cells #[.slice (some ⟨w.heap.size, 0, none⟩) 0 N] 39)) w1.heap.size (.slice (some ⟨w.heap.size, 0, none⟩) 0 N) 0 []) := Lib.hid
    ⟨heap_alloc_new _ _, (Fr.alloc S0 _ _).owns HO.out fun _ _ h => h, fun e => by have h1 := (HO.out.lt w.heap.size rfl).2; have h2 : w.heap.size = w1.heap.size := Option.some.inj e; omega⟩
  have HC := Lib.hid (collect_any g h a b F p m l w _ w1.heap.size (.slice (some ⟨w.heap.size, 0, none⟩) 0 N) HS.out (HF1.out.trans0 (Fr.alloc _ _ _)) HF1.out.size HB.out fun y hy => by obtain rfl := Option.some.inj hy; exact Nat.le_refl _)
  clear HB HO c4
  go_wp2_with fail
  refine HC.out.mono ?_
  rintro e w3 ⟨rfl, v, hb, f3, hv⟩
  have c0 := hb.c
  have HE := Lib.hid (And.intro hb (And.intro f3 hv))
  clear HC hb f3 hv
  go_wp2_with fail
  go_ret
  obtain ⟨p, c, rfl⟩ := slFormN HE.out.1.own
  refine ⟨p, c, _, rfl, HE.out.1.own, rfl, fun a ha => ?_, HE.out.2.1⟩
  subst ha
  rcases HE.out.1.own.2 with ⟨h1, -⟩ | ⟨g', cap, cur, h1, -⟩
  · cases h1
  · obtain ⟨h2, -, -⟩ := Value.slice.inj h1
    obtain rfl := Option.some.inj h2
    exact HE.out.2.2 g' rfl
end Go.Proofs.Ytocdjklgfmkbfaa
