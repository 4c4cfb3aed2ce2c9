/- Most: a range over a table's own steps. -/
import Derived.Test.YtegdhggilaehdaaWkSteps
import Derived.Test.YtegdhggilaehdaaWdBits
namespace Go.Proofs.Ytegdhggilaehdaa
open Go.RowKit Go.Shelf
attribute [local go_sem] Oper.semAt_some

/-- how much more is up to a key than up to the one ahead, in 64 bits -/
def mdif (a : Int) (r : Nat) : Int := IntKind.u64.wrap ((r : Int) - a)
/-- the key, how often it was counted, what came ahead: one step on -/
def mstep (s : Int × Int × Int) (x : Pr) : Int × Int × Int := if s.2.1 < mdif s.2.2 x.2 then (x.1, mdif s.2.2 x.2, (x.2 : Int)) else (s.1, s.2.1, (x.2 : Int))
def mfold (s : Int × Int × Int) (l : List Pr) : Int × Int × Int := l.foldl mstep s
theorem mfold_snoc (s : Int × Int × Int) (l : List Pr) (x : Pr) : mfold s (l ++ [x]) = mstep (mfold s l) x := by simp [mfold]
theorem mfold_cums : ∀ (l : List Pr) (b : Pr) (s : Nat), s + ltot l < 18446744073709551616 → (∀ x ∈ l, 0 < x.2) → mfold (b.1, (b.2 : Int), (s : Int)) (cums s l) = ((mst b l).1, ((mst b l).2 : Int), ((s + ltot l : Nat) : Int))
  | [], b, s, _, _ => by simp [mfold, cums, mst, ltot]
  | x :: t, b, s, h, hp => by
    have hx := hp x List.mem_cons_self
    rw [ltot] at h
    have e : mdif (s : Int) (s + x.2) = (x.2 : Int) := wrap_nat (by omega) (by omega)
    have h1 : mfold (b.1, (b.2 : Int), (s : Int)) (cums s (x :: t)) = mfold (mstep (b.1, (b.2 : Int), (s : Int)) (x.1, s + x.2)) (cums (s + x.2) t) := rfl
    rw [h1, mst]
    unfold mstep
    simp only [e]
    by_cases hlt : b.2 < x.2
    · rw [if_pos (by omega), if_pos hlt]
      rw [mfold_cums t x (s + x.2) (by omega) fun y hy => hp y (List.mem_cons_of_mem _ hy), ltot, Nat.add_assoc]
    · rw [if_neg (by omega), if_neg hlt]
      rw [mfold_cums t b (s + x.2) (by omega) fun y hy => hp y (List.mem_cons_of_mem _ hy), ltot, Nat.add_assoc]
theorem mfold_stp {l : List Pr} (h : Tb l) : mfold (0, 0, 0) (stp l) = ((mst (0, 0) l).1, ((mst (0, 0) l).2 : Int), (ltot l : Int)) := by
  have ht := h.tot
  have := mfold_cums l (0, 0) 0 (by omega) h.pos
  rw [Nat.zero_add] at this
  exact this

set_option maxRecDepth 100000 in
set_option maxHeartbeats 4000000 in
theorem most_in (F : Fence) (n : Nat) (h1 : F.fn 23) (h2 : F.fn 27) (h3 : F.fn 41) (hro : F.round = none) (hn : 3 ≤ n) (hst : ∀ g w, CallsIn F (n - 1) Try.prog 27 #[.pointer (some ⟨g, 0, none⟩)] w fun e w' => e = .returned (.func (.func 41) #[] #[.pointer (some ⟨w.heap.size, 0, none⟩)]) ∧ w' = w.alloc (.cells #[.pointer (some ⟨g, 0, none⟩)] 24))
    (g m c : Nat) (p : Option Addr) (l : List Pr) (w : World) (s : Tab w g p m c l) (hp : l ≠ [] → ∀ a, p = some a → a.block < w.heap.size) (R : Int × Int × Int) (hR : mfold (0, 0, 0) (stp l) = R) :
    CallsIn F n Try.prog 23 #[.pointer (some ⟨g, 0, none⟩)] w fun e W' => ((R.2.1 = 0 ∧ e = .returned (.tuple #[.int .i64 0, .int .u64 0, .int .i64 8])) ∨ (R.2.1 ≠ 0 ∧ e = .returned (.tuple #[.int .i64 R.1, .int .u64 R.2.1, .int .i64 0]))) ∧ Below w.heap.size w W' := by
  have hn1 : 1 ≤ n := by omega
  refine callsIn_of_wp_marks Try.func23 rfl h1 ?_ hro
  simp only [Try.ntmps23, List.size_toArray, List.length_cons, List.length_nil, Nat.reduceAdd, Nat.reduceSub, Array.replicate_succ, Array.replicate_zero, List.push_toArray, List.append_toArray, List.nil_append, List.cons_append]
  gi_wp2_with (gi_at_call 27; refine (hst _ _).mono ?_; rintro e w' ⟨rfl, rfl⟩)
  have bK := Boxed.new w 3 (.int .i64 0)
  have bM := Boxed.new (w.alloc (.cells #[.int .i64 0] 3)) 29 (.int .u64 0)
  have bA := Boxed.new ((w.alloc (.cells #[.int .i64 0] 3)).alloc (.cells #[.int .u64 0] 29)) 29 (.int .u64 0)
  have bT := Boxed.new (((w.alloc (.cells #[.int .i64 0] 3)).alloc (.cells #[.int .u64 0] 29)).alloc (.cells #[.int .u64 0] 29)) 24 (.pointer (some ⟨g, 0, none⟩))
  have hB0 : Below w.heap.size w ((((w.alloc (.cells #[.int .i64 0] 3)).alloc (.cells #[.int .u64 0] 29)).alloc (.cells #[.int .u64 0] 29)).alloc (.cells #[.pointer (some ⟨g, 0, none⟩)] 24)) :=
    ((((Below.refl _ w).alloc (Nat.le_refl _) _).alloc (by simp) _).alloc (by simp; omega) _).alloc (by simp; omega) _
  simp only [World.size_alloc] at bM bA bT
  have bK4 := ((bK.alloc (.cells #[.int .u64 0] 29)).alloc (.cells #[.int .u64 0] 29)).alloc (.cells #[.pointer (some ⟨g, 0, none⟩)] 24)
  have bM4 := (bM.alloc (.cells #[.int .u64 0] 29)).alloc (.cells #[.pointer (some ⟨g, 0, none⟩)] 24)
  have bA4 := bA.alloc (.cells #[.pointer (some ⟨g, 0, none⟩)] 24)
  have hsz : ((((w.alloc (.cells #[.int .i64 0] 3)).alloc (.cells #[.int .u64 0] 29)).alloc (.cells #[.int .u64 0] 29)).alloc (.cells #[.pointer (some ⟨g, 0, none⟩)] 24)).heap.size = w.heap.size + 1 + 1 + 1 + 1 := by simp
  generalize (((w.alloc (.cells #[.int .i64 0] 3)).alloc (.cells #[.int .u64 0] 29)).alloc (.cells #[.int .u64 0] 29)).alloc (.cells #[.pointer (some ⟨g, 0, none⟩)] 24) = W0 at bK4 bM4 bA4 bT hB0 hsz ⊢
  clear bK bM bA
  have s0 := s.fr0 (Fr.ofBelow hB0)
  refine wpIn_rangeFunc_ownG hro hn1 (gf := 41) (lb := #[.pointer (some ⟨w.heap.size + 1 + 1 + 1, 0, none⟩)]) rfl h3 (enters_of Try.func41 (by kernel_rfl) rfl)
    (steps_stops F (n - 1) h3 hro (by omega) (w.heap.size + 1 + 1 + 1) w.heap.size g m c p l W0 (by omega) (by omega) bT.cell s0 hp) belowK_t (belowK_b (by omega)) (Below.refl _ _) (fun _ => rfl)
    (fun pre W => (Boxed W w.heap.size 3 (.int .i64 (mfold (0, 0, 0) pre).1) ∧ Boxed W (w.heap.size + 1) 29 (.int .u64 (mfold (0, 0, 0) pre).2.1) ∧ Boxed W (w.heap.size + 1 + 1) 29 (.int .u64 (mfold (0, 0, 0) pre).2.2)) ∧ Below w.heap.size w W)
    (fun _ _ _ => False)
    (OwnFrom.and (OwnFrom.and ((boxed_own _ _ _).from _) (OwnFrom.and ((boxed_own _ _ _).from _) ((boxed_own _ _ _).from _))) (ownFrom_below (Nat.le_refl _) (by omega)))
    (fun _ _ _ _ _ hs _ _ => hs)
    ⟨⟨bK4, bM4, bA4⟩, hB0⟩
    (fun x => { tmps := #[.pointer (some ⟨g, 0, none⟩), undef, .int .i64 0, .int .u64 0, .int .i64 0, .pointer (some ⟨w.heap.size, 0, none⟩), .pointer (some ⟨w.heap.size + 1, 0, none⟩), .pointer (some ⟨w.heap.size + 1 + 1, 0, none⟩), .int .u64 (x.2 : Nat), .int .i64 x.1, undef, .pointer (some ⟨g, 0, none⟩), .func (.func 41) #[] #[.pointer (some ⟨w.heap.size + 1 + 1 + 1, 0, none⟩)], .int .u64 (x.2 : Nat), .int .i64 x.1, undef, undef, undef, undef, undef, undef, undef, undef, undef, undef, undef, undef, undef], defers := [] }) ?assign ?body ?done ?stop
  case assign =>
    intro lp x W K hK
    gi_wp2
    exact hK
  case body =>
    rintro lp pre x W ⟨⟨b1, b2, b3⟩, hB⟩ _
    obtain ⟨⟨k, mo, ah⟩, hS⟩ : ∃ S, mfold (0, 0, 0) pre = S := ⟨_, rfl⟩
    obtain ⟨tk, tn⟩ := x
    rw [hS] at b1 b2 b3
    have hsn := mfold_snoc (0, 0, 0) pre (tk, tn)
    rw [hS] at hsn
    unfold mstep at hsn
    simp only at b1 b2 b3 hsn
    obtain ⟨N, hN⟩ : ∃ N, mdif ah tn = N := ⟨_, rfl⟩
    rw [hN] at hsn
    have e1 : IntKind.u64.wrap ((tn : Int) - ah) = N := hN
    have e2 : ((tn : Int) - ah) % 18446744073709551616 = N := by rw [← hN, mdif, IntKind.wrap_u64]
    have c1 := b1.cell
    have c2 := b2.cell
    have c3 := b3.cell
    have f1 := b1.frozen
    have f2 := b2.frozen
    have f3 := b3.frozen
    clear hN hS
    by_cases hlt : mo < N
    · rw [if_pos hlt] at hsn
      gi_wp2
      simp only [ownPostG, hsn]
      exact ⟨(((KeepsOthers.setCell _ _ _).trans (KeepsOthers.setCell _ _ _)).trans (KeepsOthers.setCell _ _ _)).from _,
        (((Below.refl w.heap.size W).setCell (p := ⟨w.heap.size, 0, none⟩) (Nat.le_refl _) _).setCell (p := ⟨w.heap.size + 1, 0, none⟩) (by simp) _).setCell (p := ⟨w.heap.size + 1 + 1, 0, none⟩) (by simp; omega) _,
        ⟨((b1.set _).other (by omega) _).other (by omega) _, ((b2.other (by omega) _).set _).other (by omega) _, ((b3.other (by omega) _).other (by omega) _).set _⟩,
        ((hB.setCell (p := ⟨w.heap.size, 0, none⟩) (Nat.le_refl _) _).setCell (p := ⟨w.heap.size + 1, 0, none⟩) (by simp) _).setCell (p := ⟨w.heap.size + 1 + 1, 0, none⟩) (by simp; omega) _⟩
    · rw [if_neg hlt] at hsn
      have hd : decide (mo < N) = false := decide_eq_false hlt
      clear hlt
      gi_wp2
      simp only [ownPostG, hsn]
      exact ⟨(KeepsOthers.setCell _ _ _).from _, (Below.refl w.heap.size W).setCell (p := ⟨w.heap.size + 1 + 1, 0, none⟩) (by simp; omega) _,
        ⟨b1.other (by omega) _, b2.other (by omega) _, b3.set _⟩, hB.setCell (p := ⟨w.heap.size + 1 + 1, 0, none⟩) (by simp; omega) _⟩
  case done =>
    rintro D ys W hD rfl ⟨⟨b1, b2, b3⟩, hB⟩ hK
    rw [hR] at b1 b2 b3
    have c1 := b1.cell
    have c2 := b2.cell
    obtain ⟨k, mo, ah⟩ := R
    simp only at c1 c2
    have hE := hB.trans (belowK_b (w := w) (Nat.le_refl _) W D _ (.deferred none) (by omega) hK rfl rfl)
    clear b1 b2 b3
    by_cases h0 : mo = 0
    · subst h0
      gi_wp2
      refine ⟨by simp, .inl ⟨_, _, rfl, run_takeDeferred hK, ?_⟩⟩
      refine ⟨.tuple #[.int .i64 0, .int .u64 0, .int .i64 8], ?_, rfl, hE⟩
      simp [results, Try.f23, go_sem]
    · have hd : (mo == 0) = false := by rw [beq_eq_false_iff_ne]; exact h0
      gi_wp2
      gi_region
      all_goals
        gi_wp2
        have hK2 : W.drew.heap[D]? = some (.deferred (some [])) := hK
        have hB2 : Below w.heap.size w W.drew := ⟨hB.os, hB.tape, hB.output, hB.size, hB.block⟩
        have hE2 := hB2.trans (belowK_b (w := w) (Nat.le_refl _) W.drew D _ (.deferred none) (by omega) hK2 rfl rfl)
        refine ⟨by simp, .inl ⟨_, _, rfl, run_takeDeferred hK2, ?_⟩⟩
        refine ⟨.tuple #[.int .i64 k, .int .u64 mo, .int .i64 0], ?_, rfl, hE2⟩
        simp [results, Try.f23, go_sem]
  case stop =>
    rintro D c pre W _ _ h _
    exact h.elim
theorem most_wide (g : Nat) (l : List Pr) (w : World) (s : TabIs w g l) (R : Int × Int × Int) (hR : mfold (0, 0, 0) (stp l) = R) :
    Calls Try.prog 23 #[.pointer (some ⟨g, 0, none⟩)] w fun e W' => ((R.2.1 = 0 ∧ e = .returned (.tuple #[.int .i64 0, .int .u64 0, .int .i64 8])) ∨ (R.2.1 ≠ 0 ∧ e = .returned (.tuple #[.int .i64 R.1, .int .u64 R.2.1, .int .i64 0]))) ∧ Below w.heap.size w W' := by
  obtain ⟨p, m, c, s⟩ := s
  exact callsIn_wide.1 (most_in Fence.wide 3 trivial trivial trivial rfl (by omega) (fun g w => callsIn_wide.2 (steps_any g w)) g m c p l w s (fun hl a ha => s.pri.lt (fun h => hl (by have := stp_len l; rw [h] at this; exact List.eq_nil_of_length_eq_zero this.symm)) a ha) R hR)
theorem most_none (g : Nat) (w : World) (s : TabIs w g []) :
    Calls Try.prog 23 #[.pointer (some ⟨g, 0, none⟩)] w fun e w' => e = .returned (.tuple #[.int .i64 0, .int .u64 0, .int .i64 8]) ∧ Fr S0 w w' :=
  (most_wide g [] w s (0, 0, 0) rfl).mono fun e w' h => by
    obtain ⟨⟨-, h1⟩ | ⟨h1, -⟩, h2⟩ := h
    · exact ⟨h1, Fr.ofBelow h2⟩
    · exact absurd rfl h1
theorem most_yes (g : Nat) (x : Pr) (t : List Pr) (w : World) (s : TabIs w g (x :: t)) :
    Calls Try.prog 23 #[.pointer (some ⟨g, 0, none⟩)] w fun e w' => e = .returned (.tuple #[.int .i64 (mst x t).1, .int .u64 ((mst x t).2 : Nat), .int .i64 0]) ∧ Fr S0 w w' :=
  (most_wide g (x :: t) w s _ (mfold_stp s.ok)).mono fun e w' h => by
    have h0 := (pos_cons.1 s.ok.pos).1
    have h3 := mst_pos x t
    rw [mst_zero h0] at h
    simp only at h
    obtain ⟨⟨h1, -⟩ | ⟨-, h1⟩, h2⟩ := h
    · omega
    · exact ⟨h1, Fr.ofBelow h2⟩
end Go.Proofs.Ytegdhggilaehdaa
