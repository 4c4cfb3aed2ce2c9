/- ScRow, ScCode, ScNew -/
import Derived.Test.YtaemgflhgdlmiaaGreatPw1
import Derived.Test.YtaemgflhgdlmiaaGreatPw2
import Derived.Test.YtaemgflhgdlmiaaGreatPw4
import Derived.Test.YtaemgflhgdlmiaaGreatPw5
import Derived.Test.YtaemgflhgdlmiaaGreatPw6
import Derived.Test.YtaemgflhgdlmiaaGreatPw7
import Derived.Test.YtaemgflhgdlmiaaGreatPw8
import Derived.Test.YtaemgflhgdlmiaaGreatPw9
import Derived.Test.YtaemgflhgdlmiaaGreatPw10
import Derived.Test.YtaemgflhgdlmiaaGreatPw11
import Derived.Test.YtaemgflhgdlmiaaGreatPw12
import Derived.WalkKit
import Derived.WalkSpells
import Derived.WalkLawsBesides
import Derived.Deep.QuietTactic
import Derived.BigQuiet
import Derived.RegionTactic
import Derived.Deep.AppendLies
import Derived.Deep.RegionLaw
import Derived.Laws.ResultCell
import Derived.Laws.EntriesVeiled
import Derived.Lib.Hide
import Derived.Test.YtaemgflhgdlmiaaGreatRows
import Derived.Deep.RegionHeld3
import Derived.Maps.AppendAt
import Derived.Lib.SliceRun
import Derived.StillTailTactics
import Derived.BigRegion
import Derived.Laws.BytesArg
import Derived.Lib.SlBytesConst
import Derived.Laws.AppendOwnNone
import Derived.Laws.Externs
import Derived.Shelf.Spec.BitsCarry
import Derived.Deep.CutBlock
import Derived.Deep.CutRange
import Derived.Deep.DeepCutAuto
import Derived.Lib.BitFns
import Derived.Shelf.Small.Bits
import Derived.Shelf.Strconv.Itoa0
import Derived.Shelf.Bits.Mul64
set_option maxRecDepth 100000
set_option maxHeartbeats 8000000
namespace Go.Proofs.YtaemgflhgdlmiaaGreat
open Go.RowKit
abbrev Tr := Nat × Nat × Nat
def t3s (k : IntKind) (l : List Tr) : List Value := l.flatMap fun t => [.int k (t.1 : Int), .int k (t.2.1 : Int), .int k (t.2.2 : Int)]
theorem t3s_snoc (k : IntKind) (l : List Tr) (t : Tr) : t3s k (l ++ [t]) = t3s k l ++ [.int k (t.1 : Int), .int k (t.2.1 : Int), .int k (t.2.2 : Int)] := by simp [t3s]
theorem t3s_len (k : IntKind) (l : List Tr) : (t3s k l).length = l.length * 3 := by
  induction l with
  | nil => rfl
  | cons t l ih => rw [show t3s k (t :: l) = [.int k (t.1 : Int), .int k (t.2.1 : Int), .int k (t.2.2 : Int)] ++ t3s k l from rfl, List.length_append, ih, List.length_cons]; simp; omega
theorem t3s_at (k : IntKind) : ∀ (l : List Tr) (i : Nat) (h : i < l.length), (t3s k l)[i * 3]? = some (.int k (l[i].1 : Int)) ∧ (t3s k l)[i * 3 + 1]? = some (.int k (l[i].2.1 : Int)) ∧ (t3s k l)[i * 3 + 2]? = some (.int k (l[i].2.2 : Int))
  | t :: l, 0, _ => by simp [t3s]
  | t :: l, i + 1, h => by
    have := t3s_at k l i (by simpa using h)
    rw [show t3s k (t :: l) = [.int k (t.1 : Int), .int k (t.2.1 : Int), .int k (t.2.2 : Int)] ++ t3s k l from rfl]
    rw [List.getElem?_append_right (by simp; omega), List.getElem?_append_right (by simp; omega), List.getElem?_append_right (by simp; omega)]
    simp only [List.length_cons, List.length_nil, List.getElem_cons_succ]
    rw [show (i + 1) * 3 - (0 + 1 + 1 + 1) = i * 3 by omega, show (i + 1) * 3 + 1 - (0 + 1 + 1 + 1) = i * 3 + 1 by omega, show (i + 1) * 3 + 2 - (0 + 1 + 1 + 1) = i * 3 + 2 by omega]
    exact this
theorem one_t3 (k : IntKind) (x y z : Nat) : ∀ u ∈ (#[Value.int k (x : Int), Value.int k (y : Int), Value.int k (z : Int)]).toList, u.oneCell' = true := by
  intro u hu
  simp only [List.mem_cons, List.not_mem_nil, or_false] at hu
  rcases hu with rfl | rfl | rfl <;> rfl
structure T3 (w : World) (k : IntKind) (p : Option Addr) (l : List Tr) : Prop where
  len : l.length ≤ maxLen
  cel : l ≠ [] → ∃ b off, p = some ⟨b, off, none⟩ ∧ ∀ i, (h : i < l.length) → w.cell? ⟨b, off + i * 3, none⟩ = some (.int k (l[i].1 : Int)) ∧ w.cell? ⟨b, off + i * 3 + 1, none⟩ = some (.int k (l[i].2.1 : Int)) ∧ w.cell? ⟨b, off + i * 3 + 2, none⟩ = some (.int k (l[i].2.2 : Int))
theorem T3.fr {S : Nat → Prop} {w w' : World} {k : IntKind} {p : Option Addr} {l : List Tr} (h : T3 w k p l) (f : Fr S w w') (ho : Off S p) : T3 w' k p l :=
  ⟨h.len, fun hl => let ⟨b, o, hp, hc⟩ := h.cel hl; ⟨b, o, hp, fun i hi => ⟨f.cell (hc i hi).1 (ho ⟨b, o, none⟩ hp), f.cell (hc i hi).2.1 (ho ⟨b, o, none⟩ hp), f.cell (hc i hi).2.2 (ho ⟨b, o, none⟩ hp)⟩⟩⟩
theorem T3.fr0 {w w' : World} {k : IntKind} {p : Option Addr} {l : List Tr} (h : T3 w k p l) (f : Fr S0 w w') : T3 w' k p l := h.fr f (Off.s0 p)
theorem T3.at {w : World} {k : IntKind} {p : Option Addr} {l : List Tr} (h : T3 w k p l) (i : Nat) (hi : i < l.length) : ∃ b off, p = some ⟨b, off, none⟩ ∧ w.cell? ⟨b, off + i * 3, none⟩ = some (.int k (l[i].1 : Int)) ∧ w.cell? ⟨b, off + i * 3 + 1, none⟩ = some (.int k (l[i].2.1 : Int)) ∧ w.cell? ⟨b, off + i * 3 + 2, none⟩ = some (.int k (l[i].2.2 : Int)) :=
  let ⟨b, off, hp, hc⟩ := h.cel (by intro e; simp [e] at hi); ⟨b, off, hp, hc i hi⟩
theorem T3.lt {w : World} {k : IntKind} {p : Option Addr} {l : List Tr} (h : T3 w k p l) (hl : l ≠ []) : ∀ a, p = some a → a.block < w.heap.size := by
  intro a ha
  obtain ⟨b, off, hp, hc⟩ := h.cel hl
  rw [hp] at ha
  obtain rfl := Option.some.inj ha
  exact World.block_lt_of_cell? w _ (hc 0 (List.length_pos_iff.2 hl)).1
theorem T3.ofOwns {w : World} {e : TypeId} {k : IntKind} {q : Option Addr} {n d : Nat} {l : List Tr} (h : w.ownsRow 0 e 3 (.slice q n d) n (t3s k l)) (hm : n ≤ maxLen) : T3 w k q l := by
  have hlen : l.length * 3 = n * 3 := by have h1 := h.1; rw [t3s_len] at h1; exact h1
  refine ⟨by omega, fun hl => ?_⟩
  rcases h.2 with ⟨hv, hn⟩ | ⟨g, cap, cur, hv, _⟩
  · exact absurd (List.eq_nil_of_length_eq_zero (by omega)) hl
  · simp only [Value.slice.injEq] at hv
    obtain ⟨rfl, -, rfl⟩ := hv
    refine ⟨g, 0, rfl, fun i hi => ?_⟩
    obtain ⟨h1, h2, h3⟩ := t3s_at k l i hi
    rw [Nat.zero_add]
    exact ⟨(h.cellAt _ (by omega)).trans h1, (h.cellAt _ (by omega)).trans h2, (h.cellAt _ (by omega)).trans h3⟩
def rng (a i : Nat) : Tr := (slo a i, smid a (slo a i), shi a (slo a i))
def rngs (a n : Nat) : List Tr := (List.range n).map (rng a)
theorem rngs_len (a n : Nat) : (rngs a n).length = n := by simp [rngs]
theorem rngs_succ (a n : Nat) : rngs a (n + 1) = rngs a n ++ [rng a n] := by simp [rngs, List.range_succ]
theorem rngs_get (a n i : Nat) (h : i < (rngs a n).length) : (rngs a n)[i] = rng a i := by simp [rngs]
def spns (a n : Nat) : List Tr := (0, 0, 0) :: rngs a n
theorem spns_len (a n : Nat) : (spns a n).length = n + 1 := by simp [spns, rngs_len]
theorem spns_succ (a n : Nat) : spns a (n + 1) = spns a n ++ [rng a n] := by simp [spns, rngs_succ]
theorem spns_get (a n i : Nat) (h : i + 1 < (spns a n).length) : (spns a n)[i + 1] = rng a i := by
  simp only [spns, List.getElem_cons_succ]
  exact rngs_get a n i _
end Go.Proofs.YtaemgflhgdlmiaaGreat

namespace Go.Proofs.YtaemgflhgdlmiaaGreat
open Go.RowKit
theorem results_cell {P : Program} {fn : Func} {p : Tmp} {ty : TypeId} (h : fn.results = #[.cell p ty]) (tmps : Array Value) (w : World) {g : Nat} {t : TypeId} {cs : Array Value} {fr : Nat × Nat} {d : TypeDesc}
    (hp : tmps.getD p undef = .pointer (some ⟨g, 0, none⟩)) (hg : w.heap[g]? = some (.cells cs t fr))
    (hu : P.underlying ty = some d) (hd : (match d with | .struct _ | .array _ _ => true | _ => false) = true) (hi : (P.info? ty).map (·.size) = some cs.size) :
    (results fn tmps).run P w = .ok (.agg cs) w := by
  have hrun := run_loadVar_row w g t ty cs fr d hg hu hd hi
  rw [Array.getD_eq_getD_getElem?] at hp
  unfold results
  rw [h]
  simp [hp, asAddr, hrun]
theorem szSpan : (Tryz.prog.info? 137).map (·.size) = some 3 := by kernel_rfl
theorem one3 (a b c : Nat) : (#[Value.int .u64 (a : Int), .int .u64 (b : Int), .int .u64 (c : Int)]).all (·.oneCell') = true := by simp [Value.oneCell']
theorem cut21_any (f a : Nat) (w : World) (hf : f ≤ 9223372036854775807) (ha : a ≤ 5000) :
    Calls Tryz.prog 77 #[.int .u64 (f : Nat), .int .u64 (a : Nat)] w fun e w' => e = .returned (.agg #[.int .u64 (f : Nat), .int .u64 (smid a f : Nat), .int .u64 (shi a f : Nat)]) ∧ Fr S0 w w' := by
  have hq1 : a * f / 10000 ≤ f := by
    refine Nat.div_le_of_le_mul ?_
    exact Nat.mul_le_mul_right _ (by omega)
  have hm := smid_le a f
  have hq2 : 10000 * smid a f / (10000 - a) ≤ 2 * smid a f := by
    refine Nat.div_le_of_le_mul ?_
    rw [← Nat.mul_assoc]
    exact Nat.mul_le_mul_right _ (by omega)
  have H1 : Hid (∀ W, Calls Tryz.prog 100 #[.int .u64 (a : Int), .int .u64 (f : Int), .int .u64 10000] W fun e w' => e = .returned (.tuple #[.int .u64 ((a * f / 10000 : Nat) : Int), .int .u64 ((a * f % 10000 : Nat) : Int), .int .i64 0]) ∧ Fr S0 W w') := Lib.hid (fun W => muldiv_yes a f 10000 W (by omega) (by omega) (by omega) (by decide) (by omega))
  have H2 : Hid (∀ W, Calls Tryz.prog 100 #[.int .u64 10000, .int .u64 (smid a f : Nat), .int .u64 ((10000 - a : Nat) : Int)] W fun e w' => e = .returned (.tuple #[.int .u64 ((10000 * smid a f / (10000 - a) : Nat) : Int), .int .u64 ((10000 * smid a f % (10000 - a) : Nat) : Int), .int .i64 0]) ∧ Fr S0 W w') := Lib.hid (fun W => muldiv_yes 10000 (smid a f) (10000 - a) W (by omega) (by omega) (by omega) (by omega) (by omega))
  obtain ⟨Q, hQ⟩ : ∃ Q, a * f / 10000 = Q := ⟨_, rfl⟩
  obtain ⟨R, hR⟩ : ∃ R, a * f % 10000 = R := ⟨_, rfl⟩
  obtain ⟨M, hM⟩ : ∃ M, smid a f = M := ⟨_, rfl⟩
  obtain ⟨T, hT⟩ : ∃ T, shi a f = T := ⟨_, rfl⟩
  obtain ⟨D, hD⟩ : ∃ D, 10000 - a = D := ⟨_, rfl⟩
  have e1 : min (f + Q) 9223372036854775807 = M := by rw [← hQ, ← hM]; rfl
  have e2 : min (10000 * M / D) 9223372036854775807 = T := by rw [← hM, ← hD, ← hT]; rfl
  rw [hQ, hR] at H1
  rw [hM, hD] at H2
  rw [hM, hD] at hq2
  rw [hM] at hm
  rw [hQ] at hq1
  obtain ⟨P, hP⟩ : ∃ P, 10000 * M / D = P := ⟨_, rfl⟩
  obtain ⟨R2, hR2⟩ : ∃ R2, 10000 * M % D = R2 := ⟨_, rfl⟩
  rw [hP] at e2 hq2
  rw [hP, hR2] at H2
  rw [hM, hT]
  have eD : (10000 : Int) - (a : Int) = (D : Int) := by omega
  obtain ⟨U, hU⟩ : ∃ U, f + Q = U := ⟨_, rfl⟩
  have eU : (f : Int) + (Q : Int) = (U : Int) := by omega
  have hUm : (U : Int) < 18446744073709551616 := by omega
  have eM : min (U : Int) 9223372036854775807 = (M : Int) := by omega
  have eT : min (P : Int) 9223372036854775807 = (T : Int) := by omega
  have hDb : (D : Int) ≤ 10000 := by omega
  have hMb : (M : Int) ≤ 9223372036854775807 := by omega
  have hPb : (P : Int) < 18446744073709551616 := by omega
  have HRES : Hid (∀ W : World, Fr S0 (w.alloc (.cells #[.int .u64 0, .int .u64 0, .int .u64 0] 137)) W → W.heap[w.heap.size]? = some (.cells #[.int .u64 0, .int .u64 0, .int .u64 0] 137 (0, 0))) := Lib.hid fun W f => f.row (heap_alloc_new w _) fun h => h
  have F0 := Lib.hid (Fr.alloc S0 w (.cells #[.int .u64 0, .int .u64 0, .int .u64 0] 137))
  clear hQ hR hM hT hD hP hR2 e1 e2 hU hq1 hq2 hm ha hf
  go_enter Tryz.func77, Tryz.ntmps77
  go_wp2_with fail
  refine (H1.out _).mono ?_
  rintro e w1 ⟨rfl, f1⟩
  have F1 := Lib.hid f1
  clear f1
  go_wp2_with fail
  refine (H2.out _).mono ?_
  rintro e w2 ⟨rfl, f2⟩
  have F2 := Lib.hid (F1.out.trans0 f2)
  have hb := HRES.out w2 F2.out
  clear f2
  go_wp2_with ((with_reducible show wpList _ _ _ (Oper.mk none (.store _ (.tmp 4) (.tmp 35)) _ _ _ _ :: _) _ _); refine store_at 137 (.tmp 4) (.tmp 35) rfl rfl rfl rfl hb szSpan rfl (one3 _ _ _) ?_; intro w3 hb3 f3)
  exact bodyPost_ret (v := .agg #[.int .u64 (f : Nat), .int .u64 (M : Nat), .int .u64 (T : Nat)]) (results_cell Tryz.results77 _ _ rfl hb3 Tryz.underlying137 rfl szSpan) rfl ⟨rfl, (F0.out.trans0 F2.out).trans f3 fun x hx e => by have e2 : x = w.heap.size := e; omega⟩
end Go.Proofs.YtaemgflhgdlmiaaGreat

namespace Go.Proofs.YtaemgflhgdlmiaaGreat
open Go.RowKit
theorem info_span : (Tryz.prog.info? 137).map (fun i => (i.zero, i.size, i.bytes)) = some (some (.agg #[.int .u64 0, .int .u64 0, .int .u64 0]), 3, 24) := by kernel_rfl
theorem elSpan : ElemOk Tryz.prog 91 137 (.agg #[.int .u64 0, .int .u64 0, .int .u64 0]) 3 24 := ⟨Tryz.underlying91, info_span, rfl, by decide, by decide⟩
structure ScIs (w : World) (g a : Nat) (p : Option Addr) (c : Nat) : Prop where
  ca : w.cell? ⟨g, 0, none⟩ = some (.int .i64 (a : Int))
  cs : w.cell? ⟨g, 1, none⟩ = some (.slice p (sN a + 1) c)
  row : T3 w .u64 p (spns a (sN a))
  a1 : 100 ≤ a
  a2 : a ≤ 5000
theorem ScIs.fr {S : Nat → Prop} {w w' : World} {g a : Nat} {p : Option Addr} {c : Nat} (s : ScIs w g a p c) (f : Fr S w w') (h1 : ¬ S g) (h2 : Off S p) : ScIs w' g a p c :=
  ⟨f.cell s.ca h1, f.cell s.cs h1, s.row.fr f h2, s.a1, s.a2⟩
theorem ScIs.fr0 {w w' : World} {g a : Nat} {p : Option Addr} {c : Nat} (s : ScIs w g a p c) (f : Fr S0 w w') : ScIs w' g a p c := s.fr f (fun h => h) (Off.s0 p)
theorem cell_pair {W : World} {g : Nat} {x y : Value} {t : TypeId} (h : W.heap[g]? = some (.cells #[x, y] t (0, 0))) : W.cell? ⟨g, 0, none⟩ = some x ∧ W.cell? ⟨g, 1, none⟩ = some y := by simp [World.cell?, h]
theorem cell_tri {W : World} {g : Nat} {x y z : Value} {t : TypeId} (h : W.heap[g]? = some (.cells #[x, y, z] t (0, 0))) : W.cell? ⟨g, 0, none⟩ = some x ∧ W.cell? ⟨g, 1, none⟩ = some y ∧ W.cell? ⟨g, 2, none⟩ = some z := by simp [World.cell?, h]
structure NewSc (w w' : World) (g a : Nat) (p : Option Addr) (c : Nat) : Prop where
  is : ScIs w' g a p c
  blk : w'.heap[g]? = some (.cells #[.int .i64 (a : Int), .slice p (sN a + 1) c] 93 (0, 0))
  g0 : w.heap.size ≤ g
  p0 : ∀ x, p = some x → w.heap.size ≤ x.block ∧ x.block < g
  fr : Fr S0 w w'
theorem sN_end {a : Nat} (h1 : 100 ≤ a) (h2 : a ≤ 5000) : slo a (sN a) = 9223372036854775808 := by
  have h3 := sN_last h1 h2
  have h4 := sN_pos a
  obtain ⟨n, hn⟩ : ∃ n, sN a = n + 1 := ⟨sN a - 1, by omega⟩
  rw [hn] at h3 ⊢
  rw [Nat.add_sub_cancel] at h3
  rw [slo, h3]
structure AccS (w wr : World) (v : Value) (N : Nat) (L : List Tr) : Prop where
  own : wr.ownsRow 0 137 3 v N (t3s .u64 L)
  fresh : Fresh w v
  fr : Fr S0 w wr
theorem AccS.app {w wr wa w3 : World} {v : Value} {N : Nat} {L : List Tr} {o : Obj} {g cap x y z : Nat} (h : AccS w wr v N L) (fa : Fr S0 wr wa) (own : w3.ownsRow 0 137 3 (.slice (some ⟨g, 0, none⟩) (N + 1) cap) (N + 1) (t3s .u64 L ++ #[Value.int .u64 (x : Int), Value.int .u64 (y : Int), Value.int .u64 (z : Int)].toList))
    (hg : (wa.alloc o).grownBy w3 v.ownBlock) (hat : v.ownBlock = some g ∨ g = wa.heap.size + 1) : AccS w w3 (.slice (some ⟨g, 0, none⟩) (N + 1) cap) (N + 1) (L ++ [(x, y, z)]) :=
  ⟨by rw [t3s_snoc]; exact own, fresh_app (h.fr.trans0 fa) h.fresh hat, ((h.fr.trans0 fa).trans0 (Fr.alloc S0 wa _)).append hg h.fresh⟩
theorem AccS.fr0 {w wr w2 : World} {v : Value} {N : Nat} {L : List Tr} (h : AccS w wr v N L) (f : Fr S0 wr w2) : AccS w w2 v N L := ⟨f.owns h.own fun _ _ h => h, h.fresh, h.fr.trans0 f⟩
theorem scnew_yes (a : Nat) (w : World) (h1 : 100 ≤ a) (h2 : a ≤ 5000) : Calls Tryz.prog 48 #[.int .i64 (a : Nat)] w fun e w' => ∃ g p c, e = .returned (.tuple #[.pointer (some ⟨g, 0, none⟩), .int .i64 0]) ∧ NewSc w w' g a p c := by
  have d1 : decide ((a : Int) < 100) = false := decide_eq_false (by omega)
  have d2 : decide ((5000 : Int) < (a : Int)) = false := decide_eq_false (by omega)
  have H12 := Lib.hid (And.intro h1 h2)
  have hab : (a : Int) ≤ 5000 := by omega
  have hN := sN_le h1 h2
  have hN1 := sN_pos a
  obtain ⟨N, eN⟩ : ∃ N, sN a = N := ⟨_, rfl⟩
  rw [eN] at hN hN1
  have EN := Lib.hid eN
  have HCUT := Lib.hid (fun f W (hf : f ≤ 9223372036854775807) => cut21_any f a W hf h2)
  have HZ : Hid (w.alloc (.cells #[.int .u64 0, .int .u64 0, .int .u64 0] 137) |>.ownsRow 0 137 3 (.slice (some ⟨w.heap.size, 0, none⟩) 1 1) 1 (t3s .u64 (spns a 0))) := Lib.hid (by
    refine ⟨by simp [t3s, spns, rngs], .inr ⟨w.heap.size, 1, #[.int .u64 0, .int .u64 0, .int .u64 0], rfl, Nat.zero_le _, heap_alloc_new w _, by omega, ?_, ?_, ?_⟩⟩
    all_goals first | decide | rfl)
  clear h1 h2 eN
  go_enter Tryz.func48, Tryz.ntmps48
  go_wp2_with fail
  go_loopw [4, 5] (fun v d wr => ∃ (i D : Nat), i ≤ N ∧ D ≤ 9223372036854775807 ∧ d = .int .u64 D ∧ Hid (D + 1 = slo a i) ∧ Hid (AccS w wr v (i + 1) (spns a i))) (fun _ d _ => 9223372036854775808 - (intOf d).toNat)
  case atStart => exact ⟨0, 0, by omega, by omega, rfl, Lib.hid rfl, Lib.hid ⟨HZ.out, fun k hk => by obtain rfl := Option.some.inj hk; exact Nat.le_refl _, Fr.alloc _ _ _⟩⟩
  case round =>
    obtain ⟨i, D, hi, hD, rfl, hd, hacc⟩ := hrel
    clear HZ
    obtain ⟨pv, cv, rfl⟩ := slFormN hacc.out.own
    by_cases hlt : D < 9223372036854775807
    · have hlt2 : (D : Int) < 9223372036854775807 := by omega
      have hiN : i < N := by
        rcases Nat.lt_or_ge i N with h | h
        · exact h
        · have e1 := sN_end H12.out.1 H12.out.2
          rw [EN.out, ← Nat.le_antisymm hi h, ← hd.out] at e1
          omega
      obtain ⟨F, hF⟩ : ∃ F, slo a i = F := ⟨_, rfl⟩
      have hd1 := hd.out
      rw [hF] at hd1
      have eF : (D : Int) + 1 = (F : Int) := by omega
      have hFb : (F : Int) ≤ 9223372036854775807 := by omega
      have HC := Lib.hid (fun W => HCUT.out F W (by omega))
      have hge := shi_ge H12.out.2 (show F ≤ 9223372036854775807 by omega)
      have hle := shi_le a F
      obtain ⟨M, hM⟩ : ∃ M, smid a F = M := ⟨_, rfl⟩
      obtain ⟨T, hT⟩ : ∃ T, shi a F = T := ⟨_, rfl⟩
      rw [hM, hT] at HC
      rw [hT] at hge hle
      have HT : Hid (T + 1 = slo a (i + 1)) := Lib.hid (by rw [slo, hF, hT])
      have HG : Hid (spns a (i + 1) = spns a i ++ [(F, M, T)]) := Lib.hid (by rw [spns_succ, rng, hF, hM, hT])
      have HR : Hid (Room (i + 1 + 1)) := Lib.hid (Room.mk (by omega))
      have HD : Hid (D < T) := Lib.hid (by omega)
      clear hF hM hT hd1 hd hlt HCUT
      go_wp2_with fail
      refine (HC.out _).mono ?_
      rintro e w1 ⟨rfl, f1⟩
      have F1 := Lib.hid (f1.trans0 (Fr.alloc S0 w1 (.cells #[.int .u64 (F : Nat), .int .u64 (M : Nat), .int .u64 (T : Nat)] 137)))
      have HA1 := Lib.hid (hacc.out.fr0 F1.out)
      have hb := heap_alloc_new w1 (.cells #[.int .u64 (F : Nat), .int .u64 (M : Nat), .int .u64 (T : Nat)] 137)
      obtain ⟨q0, q1, q2⟩ := cell_tri hb
      have Q2 := Lib.hid q2
      have HLT : Hid (∀ k, (Value.slice pv (i + 1) cv).ownBlock = some k → k ≠ w1.heap.size) := Lib.hid (fun k hk => by
        have := ((hacc.out.fr0 f1).own.lt k hk).2
        omega)
      clear f1 HC hb
      go_wp2_with (first
        | ((with_reducible show wpList _ _ _ (Oper.mk none (.store _ (.tmp 6) (.tmp 21)) _ _ _ _ :: _) _ _); refine store_new 137 (.tmp 6) (.tmp 21) rfl rfl rfl rfl szSpan rfl (one3 _ _ _) ?_)
        | ((with_reducible show wpList _ _ _ (Oper.mk (some 25) _ _ _ _ _ :: _) _ _); refine app_one elSpan (.tmp 22) (.tmp 24) (size_alloc _ _) HA1.out.own rfl rfl rfl rfl rfl (one_t3 .u64 F M T) HR.out ?_; intro g1 cap1 w3 hown hgrow hat hlt; have HA3 := Lib.hid (hacc.out.app F1.out hown hgrow (hat.imp id fun e => e.trans (by rw [size_alloc]))); have c2 : w3.cell? ⟨w1.heap.size, 2, none⟩ = some (.int .u64 (T : Nat)) := (by
            exact (((Fr.alloc S0 _ _).mono (fun _ _ e => e.elim)).trans (Fr.grown hgrow) (fun _ _ e => e)).cell Q2.out (fun e => HLT.out _ e rfl)); clear hown hgrow hat hlt))
      rw [← HG.out] at HA3
      go_roundw
      case rel => exact ⟨i + 1, T, by omega, by omega, rfl, HT, HA3⟩
      case measure =>
        have := HD.out
        simp [intOf]
        omega
    · have hlt2 : decide ((D : Int) < 9223372036854775807) = false := decide_eq_false (by omega)
      obtain rfl : i = N := by
        rcases Nat.lt_or_ge i N with h | h
        · have e1 : slo a i ≤ 9223372036854775807 := slo_in (by rw [EN.out]; exact h)
          rw [← hd.out] at e1
          omega
        · omega
      have HEND : Hid (NewSc w (wr.alloc (.cells #[.int .i64 (a : Int), .slice pv (i + 1) cv] 93)) wr.heap.size a pv cv) := Lib.hid (by
        have hA := hacc.out
        have hb := heap_alloc_new wr (.cells #[.int .i64 (a : Int), .slice pv (i + 1) cv] 93)
        have hf := Fr.alloc S0 wr (.cells #[.int .i64 (a : Int), .slice pv (i + 1) cv] 93)
        refine ⟨⟨(cell_pair hb).1, by rw [EN.out]; exact (cell_pair hb).2, ?_, H12.out.1, H12.out.2⟩, by rw [EN.out]; exact hb, hA.fr.size, fun x hx => ⟨hA.fresh _ (by rw [hx]; rfl), (hA.own.lt _ (by rw [hx]; rfl)).2⟩, hA.fr.trans0 hf⟩
        rw [EN.out]
        exact (T3.ofOwns hA.own (by unfold maxLen; omega)).fr0 hf)
      clear hd hacc HCUT hlt EN H12
      go_wp2_with fail
      go_ret2
      exact ⟨_, pv, cv, rfl, HEND.out⟩
end Go.Proofs.YtaemgflhgdlmiaaGreat
