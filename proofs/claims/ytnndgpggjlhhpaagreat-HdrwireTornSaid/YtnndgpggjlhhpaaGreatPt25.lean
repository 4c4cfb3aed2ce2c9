/- MatOne, MatPass, MatTwo -/
import Derived.Test.YtnndgpggjlhhpaaGreatPt1
import Derived.Test.YtnndgpggjlhhpaaGreatPt2
import Derived.DeepKeys4
import Derived.WideKeyPair
import Derived.MapKept
import Derived.ChangeMaps
import Derived.Laws.Cover3
import Derived.Laws.BytesArg
import Derived.Lib.SlBytesConst
import Derived.Maps.AppendAt
import Derived.Laws.AppendOwnNone
import Derived.WalkKit
import Derived.WalkSpells
import Derived.WalkLawsBesides
import Derived.Deep.QuietTactic
import Derived.BigQuiet
import Derived.RegionTactic
import Derived.Deep.AppendLies
import Derived.Deep.RegionLaw
import Derived.Laws.ResultCell
import Derived.Laws.EntriesVeiled
import Derived.Lib.Hide
import Derived.Test.YtnndgpggjlhhpaaGreatRows
import Derived.BigRegion
import Derived.IntWalk
set_option maxRecDepth 100000
set_option maxHeartbeats 8000000
namespace Go.Proofs.YtnndgpggjlhhpaaGreat.M
open Go.RowKit Go.WideMaps Go.MapKept
theorem laidOutP : laidOutB Tryz.prog = true := by kernel_rfl
theorem rowStart : (259 : TypeId) < Tryz.prog.types.size := of_decide_eq_true (by kernel_rfl)
theorem wideStart : (match Tryz.prog.underlying 259 with | some (.array _ _) | some (.struct _) => true | _ => false) = true := by rw [Tryz.underlying259]
theorem lawStart : KeyLaw Tryz.prog 259 := deep_law_laid laidOutP (m := 2) (by omega) rowStart (by kernel_rfl) wideStart
theorem cellsStart : Tryz.prog.cellsOf 259 = 3 := by kernel_rfl
theorem arrStart : ArrKey Tryz.prog 259 5 3 := ⟨Tryz.underlying259, by kernel_rfl, by kernel_rfl, cellsStart⟩
theorem typesSize : ∃ m, Tryz.prog.types.size = m + 1 := ⟨Tryz.prog.types.size - 1, (Nat.succ_pred_eq_of_pos (Nat.lt_of_le_of_lt (Nat.zero_le _) rowStart)).symm⟩
def key3 (x y z : Nat) : Value := .agg #[.int .u8 (x : Int), .int .u8 (y : Int), .int .u8 (z : Int)]
theorem keyOf_three {P : Program} {k e : TypeId} {q : IntKind} (A : ArrKey P k e 3) (he : P.underlying e = some (.int q)) (hsz : ∃ m, P.types.size = m + 1) {a b c : Int} (wa : (Lit.int q a).wf = true) (wb : (Lit.int q b).wf = true) (wc : (Lit.int q c).wf = true) :
    keyOf P k (.agg #[.int q a, .int q b, .int q c]) = some (.string (keyBytes [.int q a, .int q b, .int q c])) := by
  have hkt := A.keyType hsz
  obtain ⟨m, hm⟩ := hsz
  unfold keyOf
  simp only [A.hu]
  rw [if_pos (by simp [hkt, Value.formed, A.hu, A.size]), hm]
  unfold Program.keyLits
  simp only [A.hu, Value.cells]
  rw [if_pos (by rw [A.size]; rfl), show List.range 3 = [0, 1, 2] from rfl, List.mapM_cons, List.mapM_cons, List.mapM_cons, List.mapM_nil]
  simp [A.one, Program.keyLits, he, wa, wb, wc]
theorem key3_of (x y z : Nat) (hx : x < 256) (hy : y < 256) (hz : z < 256) : ∃ l, keyOf Tryz.prog 259 (key3 x y z) = some l :=
  ⟨_, keyOf_three arrStart Tryz.underlying5 typesSize (WalkArith.wf_u8 (by omega)) (WalkArith.wf_u8 (by omega)) (WalkArith.wf_u8 (by omega))⟩
theorem key3_inj {x y z x' y' z' : Nat} (h : key3 x y z = key3 x' y' z') : x = x' ∧ y = y' ∧ z = z' := by
  simp only [key3, Value.agg.injEq, Array.mk.injEq, List.cons.injEq, Value.int.injEq, Int.natCast_inj, true_and, and_true] at h
  exact h
section
variable {P : Program} {t k e : TypeId}
theorem one_place {es : Array MapEntry} {clock : Nat} (h : Stamped es clock) {i j : Nat} {x y : MapEntry} (hi : es.toList[i]? = some x) (hj : es.toList[j]? = some y) (hk : x.key = y.key) : i = j := by
  have hp := ((stamped_iff es clock).1 h).2.2
  obtain ⟨hil, rfl⟩ := List.getElem?_eq_some_iff.1 hi
  obtain ⟨hjl, rfl⟩ := List.getElem?_eq_some_iff.1 hj
  rcases Nat.lt_trichotomy i j with h1 | h1 | h1
  · exact absurd hk (List.pairwise_iff_getElem.1 hp i j hil hjl h1)
  · exact h1
  · exact absurd hk.symm (List.pairwise_iff_getElem.1 hp j i hjl hil h1)
theorem born_place {es : Array MapEntry} {clock : Nat} (h : Stamped es clock) {j : Nat} {x : MapEntry} (hj : es.toList[j]? = some x) : es.findIdx? (fun e => ((e.born : Nat) : Int) == ((x.born : Nat) : Int)) = some j := by
  obtain ⟨hjl, rfl⟩ := List.getElem?_eq_some_iff.1 hj
  have hjs : j < es.size := by simpa using hjl
  rw [Array.findIdx?_eq_some_iff_getElem]
  refine ⟨hjs, by simp, fun i hi => ?_⟩
  have hn := h.2.1
  have hil : i < es.size := Nat.lt_trans hi hjs
  have hp := List.pairwise_iff_getElem.1 hn i j (by simpa using Nat.lt_trans hi hjs) (by simpa using hjs) hi
  simp only [List.getElem_map, Array.getElem_toList] at hp
  simpa using fun e : (es[i].born : Int) = es[j].born => hp (by omega)
theorem entry_at (K : KeyLaw P k) (ht : P.underlying t = some (.map k e)) {es : Array MapEntry} {clock : Nat} (hs : Stamped es clock) (hks : ∀ x ∈ es.toList, ∃ l, keyOf P k x.key = some l) {key : Value} {kl : Lit} (hkey : keyOf P k key = some kl)
    {j : Nat} {x : MapEntry} (hj : es.toList[j]? = some x) (hx : x.key = key) (b : Nat) :
    (∀ w : World, w.heap[b]? = some (.map es clock) → (∀ z, (zeroValue e).run P w = .ok z w → (Instr.lookup t (.map (some b)) key false).run P w = .ok x.val w)) ∧
    (∀ w : World, w.heap[b]? = some (.map es clock) → (Instr.mapEntry t (.map (some b)) key).run P w = .ok (.tuple #[x.val, goInt x.born]) (ChangeMaps.setBlock w b (.map es clock))) ∧
    (∀ (w : World) (v : Value), w.heap[b]? = some (.map es clock) → (Instr.entryStore t (.map (some b)) (goInt x.born) v).run P w = .ok () (ChangeMaps.setBlock w b (.map (es.modify j fun e => { e with val := v }) clock))) := by
  have hjj : es[j]? = some x := by simpa using hj
  have hfind : ∀ w : World, (Instr.findKey k key es.toList).run P w = .ok (some (j, x.val)) w := by
    intro w
    rcases K.find w hkey es.toList hks with ⟨_, h2⟩ | ⟨j', y, h1, h2, h3⟩
    · exact absurd hx (h2 x (List.mem_of_getElem? hj))
    · obtain rfl := one_place hs h2 hj (h3.trans hx.symm)
      rw [h2] at hj
      obtain rfl := Option.some.inj hj
      exact h1
  have hsame : es.modify j (fun e => { e with key := key }) = es := by
    apply Array.ext
    · simp
    · intro i h1 h2
      rw [Array.getElem_modify]
      split
      · rename_i hij
        subst hij
        have : es[j] = x := by
          have := hjj
          rw [Array.getElem?_eq_getElem h2] at this
          exact Option.some.inj this
        rw [this, ← hx]
      · rfl
  refine ⟨fun w hb z hz => ?_, fun w hb => ?_, fun w v hb => ?_⟩
  · simp [Instr.lookup, run_underlying ht, MapKept.run_getObj_map hb, K.check w _ hkey, hfind, Result.andThen]
  · simp [Instr.mapEntry, run_underlying ht, MapKept.run_getObj_map hb, K.check w _ hkey, hfind, hjj, hx, K.stays w hkey, hsame, MapKept.run_setObj_map _ hb, Result.andThen, ChangeMaps.setBlock]
  · simp [Instr.entryStore, MapKept.run_getObj_map hb, asInt, asIntOf, goInt, born_place hs hj, MapKept.run_setObj_map _ hb, Result.andThen, ChangeMaps.setBlock]
theorem entry_new (K : KeyLaw P k) (ht : P.underlying t = some (.map k e)) {es : Array MapEntry} {clock : Nat} (hs : Stamped es clock) (hks : ∀ x ∈ es.toList, ∃ l, keyOf P k x.key = some l) {key : Value} {kl : Lit} (hkey : keyOf P k key = some kl)
    (hno : ∀ x ∈ es.toList, x.key ≠ key) {z : Value} (hz : ∀ w : World, (zeroValue e).run P w = .ok z w) (b : Nat) :
    (∀ w : World, w.heap[b]? = some (.map es clock) → (Instr.lookup t (.map (some b)) key false).run P w = .ok z w) ∧
    (∀ w : World, w.heap[b]? = some (.map es clock) → (Instr.mapEntry t (.map (some b)) key).run P w = .ok (.tuple #[z, goInt clock]) (ChangeMaps.setBlock w b (.map (es.push ⟨key, z, clock⟩) (clock + 1)))) ∧
    (∀ (w : World) (v : Value), w.heap[b]? = some (.map (es.push ⟨key, z, clock⟩) (clock + 1)) → (Instr.entryStore t (.map (some b)) (goInt clock) v).run P w = .ok () (ChangeMaps.setBlock w b (.map (es.push ⟨key, v, clock⟩) (clock + 1)))) := by
  have hfind : ∀ w : World, (Instr.findKey k key es.toList).run P w = .ok none w := by
    intro w
    rcases K.find w hkey es.toList hks with ⟨h1, _⟩ | ⟨j', y, _, h2, h3⟩
    · exact h1
    · exact absurd h3 (hno y (List.mem_of_getElem? h2))
  refine ⟨fun w hb => ?_, fun w hb => ?_, fun w v hb => ?_⟩
  · simp [Instr.lookup, run_underlying ht, MapKept.run_getObj_map hb, K.check w _ hkey, hfind, hz, Result.andThen]
  · simp [Instr.mapEntry, run_underlying ht, MapKept.run_getObj_map hb, K.check w _ hkey, hfind, hz, MapKept.run_setObj_map _ hb, Result.andThen, ChangeMaps.setBlock]
  · have hs' := stamped_push hs (key := key) (val := z) hno
    have hidx := born_place hs' (j := es.size) (x := ⟨key, z, clock⟩) (by simp)
    have hmod : (es.push ⟨key, z, clock⟩).modify es.size (fun e => { e with val := v }) = es.push ⟨key, v, clock⟩ := by
      apply Array.ext
      · simp
      · intro i h1 h2
        rw [Array.getElem_modify]
        simp only [Array.getElem_push]
        split <;> split <;> first | rfl | omega | (exfalso; simp at h2; omega)
    simp [Instr.entryStore, MapKept.run_getObj_map hb, asInt, asIntOf, goInt, hidx, hmod, MapKept.run_setObj_map _ hb, Result.andThen, ChangeMaps.setBlock]
end
end Go.Proofs.YtnndgpggjlhhpaaGreat.M
namespace Go.Proofs.YtnndgpggjlhhpaaGreat.M
def run (b : List Nat) : Nat → Nat → Nat → Nat
  | _, _, 0 => 0
  | i, k, m + 1 => if k < b.length ∧ b.getD i 0 = b.getD k 0 then run b (i + 1) (k + 1) m + 1 else 0
theorem run_unique (b : List Nat) : ∀ (m i k n : Nat), n ≤ m → (∀ j, j < n → k + j < b.length ∧ b.getD (i + j) 0 = b.getD (k + j) 0) → (n < m → ¬ (k + n < b.length ∧ b.getD (i + n) 0 = b.getD (k + n) 0)) → run b i k m = n
  | 0, i, k, n, h, _, _ => by simp [run]; omega
  | m + 1, i, k, 0, _, _, h3 => by
    have := h3 (by omega)
    simp only [Nat.add_zero] at this
    unfold run
    rw [if_neg this]
  | m + 1, i, k, n + 1, h1, h2, h3 => by
    have h0 := h2 0 (by omega)
    simp only [Nat.add_zero] at h0
    unfold run
    rw [if_pos h0, run_unique b m (i + 1) (k + 1) n (by omega)]
    · intro j hj
      have := h2 (j + 1) (by omega)
      rw [show i + 1 + j = i + (j + 1) by omega, show k + 1 + j = k + (j + 1) by omega]
      exact this
    · intro hn
      have := h3 (by omega)
      rw [show i + 1 + n = i + (n + 1) by omega, show k + 1 + n = k + (n + 1) by omega]
      exact this
theorem run_le (b : List Nat) : ∀ (m i k : Nat), run b i k m ≤ m
  | 0, _, _ => by simp [run]
  | m + 1, i, k => by
    unfold run
    split
    · have := run_le b m (i + 1) (k + 1); omega
    · omega
theorem run_all (b : List Nat) : ∀ (m i k j : Nat), j < run b i k m → k + j < b.length ∧ b.getD (i + j) 0 = b.getD (k + j) 0
  | 0, _, _, j, h => by simp [run] at h
  | m + 1, i, k, j, h => by
    unfold run at h
    split at h
    · rename_i h0
      cases j with
      | zero => exact h0
      | succ j =>
        have := run_all b m (i + 1) (k + 1) j (by omega)
        rw [show i + 1 + j = i + (j + 1) by omega, show k + 1 + j = k + (j + 1) by omega] at this
        exact this
    · omega
theorem run_end (b : List Nat) : ∀ (m i k : Nat), run b i k m < m → ¬ (k + run b i k m < b.length ∧ b.getD (i + run b i k m) 0 = b.getD (k + run b i k m) 0)
  | 0, _, _, h => by simp [run] at h
  | m + 1, i, k, h => by
    unfold run at h ⊢
    split
    · rename_i h0
      rw [if_pos h0] at h
      have := run_end b m (i + 1) (k + 1) (by omega)
      rw [show i + (run b (i + 1) (k + 1) m + 1) = i + 1 + run b (i + 1) (k + 1) m by omega, show k + (run b (i + 1) (k + 1) m + 1) = k + 1 + run b (i + 1) (k + 1) m by omega]
      exact this
    · rename_i h0
      simpa using h0
theorem run_room (b : List Nat) (m i k : Nat) (hk : k ≤ b.length) : k + run b i k m ≤ b.length := by
  by_cases h : run b i k m = 0
  · omega
  · have := (run_all b m i k (run b i k m - 1) (by omega)).1
    omega
theorem run_cap (b : List Nat) (m m' i k : Nat) (h : m' ≤ m) (hm : b.length ≤ k + m' ∨ m' = m) : run b i k m' = run b i k m := by
  rcases hm with hm | rfl
  · refine (run_unique b m i k _ (Nat.le_trans (run_le b m' i k) h) (run_all b m' i k) fun _ => ?_).symm
    by_cases h1 : run b i k m' < m'
    · exact run_end b m' i k h1
    · have := run_le b m' i k
      omega
  · rfl
def zbst (b : List Nat) (k : Nat) : Nat → Nat × Nat
  | 0 => (0, 0)
  | j + 1 => if (zbst b k j).1 < run b (k - 1 - j) k 258 then (run b (k - 1 - j) k 258, j + 1) else zbst b k j
def nrm (r : Nat × Nat) : Nat × Nat := if 3 ≤ r.1 then r else (2, 0)
theorem nrm_ge (r : Nat × Nat) : 2 ≤ (nrm r).1 := by unfold nrm; split <;> first | omega | exact Nat.le_refl _
theorem nrm_max (r : Nat × Nat) : r.1 ≤ (nrm r).1 := by unfold nrm; split <;> first | exact Nat.le_refl _ | (show r.1 ≤ 2; omega)
theorem nrm_step (b : List Nat) (k j : Nat) : nrm (zbst b k (j + 1)) = if (nrm (zbst b k j)).1 < run b (k - 1 - j) k 258 then (run b (k - 1 - j) k 258, j + 1) else nrm (zbst b k j) := by
  have h1 := nrm_max (zbst b k j)
  have h2 := nrm_ge (zbst b k j)
  rw [zbst]
  by_cases h : (nrm (zbst b k j)).1 < run b (k - 1 - j) k 258
  · rw [if_pos h, if_pos (by omega)]
    unfold nrm
    rw [if_pos (show 3 ≤ run b (k - 1 - j) k 258 by omega)]
  · rw [if_neg h]
    split
    · rename_i h3
      unfold nrm at h ⊢
      split at h
      · omega
      · rw [if_neg (by omega), if_neg (by assumption)]
    · rfl
theorem nrm_stop (b : List Nat) (k J : Nat) : ∀ J', J ≤ J' → (∀ j, J ≤ j → j < J' → run b (k - 1 - j) k 258 ≤ (nrm (zbst b k J)).1) → nrm (zbst b k J') = nrm (zbst b k J)
  | 0, h, _ => by rw [Nat.le_zero.1 h]
  | J' + 1, h, h1 => by
    by_cases e : J = J' + 1
    · rw [e]
    · have ih := nrm_stop b k J J' (by omega) fun j h2 h3 => h1 j h2 (by omega)
      rw [nrm_step, ih, if_neg (by have := h1 J' (by omega) (by omega); omega)]
theorem bst_is (b : List Nat) (k : Nat) : ∀ j, (∀ i, i < j → run b (k - 1 - i) k 258 ≤ (zbst b k j).1) ∧ (zbst b k j).2 ≤ j ∧ ((zbst b k j).2 = 0 ↔ (zbst b k j).1 = 0) ∧
    (0 < (zbst b k j).2 → run b (k - (zbst b k j).2) k 258 = (zbst b k j).1 ∧ ∀ i, i + 1 < (zbst b k j).2 → run b (k - 1 - i) k 258 < (zbst b k j).1)
  | 0 => by simp [zbst]
  | j + 1 => by
    obtain ⟨h1, h2, h3, h4⟩ := bst_is b k j
    rw [zbst]
    split
    · rename_i h
      refine ⟨fun i hi => ?_, Nat.le_refl _, by simp; omega, fun _ => ⟨by rw [show k - (j + 1) = k - 1 - j by omega], fun i hi => ?_⟩⟩
      · by_cases e : i = j
        · rw [e]; exact Nat.le_refl _
        · have := h1 i (by omega); simp only; omega
      · have := h1 i (by simp only at hi; omega); simp only; omega
    · rename_i h
      refine ⟨fun i hi => ?_, by omega, h3, h4⟩
      by_cases e : i = j
      · rw [e]; omega
      · exact h1 i (by omega)
abbrev Tk := Nat × Nat × Nat
def tok (b : List Nat) (k : Nat) : Tk := if (nrm (zbst b k (min k 32768))).1 < 3 then (b.getD k 0, 0, 0) else (0, (nrm (zbst b k (min k 32768))).1, (nrm (zbst b k (min k 32768))).2)
def wid (t : Tk) : Nat := if t.2.2 = 0 then 1 else t.2.1
theorem tok_is (b : List Nat) (k : Nat) (hk : k < b.length) : (tok b k = (b.getD k 0, 0, 0) ∧ (∀ i, i < k → k ≤ i + 32768 → run b i k 258 < 3)) ∨
    (∃ s d, tok b k = (0, s, d) ∧ 3 ≤ s ∧ s ≤ 258 ∧ 0 < d ∧ d ≤ k ∧ d ≤ 32768 ∧ k + s ≤ b.length ∧ run b (k - d) k 258 = s ∧ (∀ i, i < k → k ≤ i + 32768 → run b i k 258 ≤ s) ∧ ∀ i, k < i + d → i < k → run b i k 258 < s) := by
  obtain ⟨h1, h2, h3, h4⟩ := bst_is b k (min k 32768)
  have all : ∀ i, i < k → k ≤ i + 32768 → run b i k 258 ≤ (zbst b k (min k 32768)).1 := fun i hi hf => by
    have := h1 (k - 1 - i) (by omega)
    rwa [show k - 1 - (k - 1 - i) = i by omega] at this
  unfold tok nrm
  by_cases h : 3 ≤ (zbst b k (min k 32768)).1
  · rw [if_pos h, if_neg (by omega)]
    have hd : 0 < (zbst b k (min k 32768)).2 := by
      rcases Nat.eq_zero_or_pos (zbst b k (min k 32768)).2 with e | e
      · have := h3.1 e; omega
      · exact e
    obtain ⟨h5, h6⟩ := h4 hd
    refine .inr ⟨_, _, rfl, h, by rw [← h5]; exact run_le b _ _ _, hd, by omega, by omega, ?_, h5, all, fun i hi hk => ?_⟩
    · rw [← h5]; exact run_room b _ _ _ (by omega)
    · have := h6 (k - 1 - i) (by omega)
      rwa [show k - 1 - (k - 1 - i) = i by omega] at this
  · rw [if_neg h, if_pos (by simp)]
    exact .inl ⟨rfl, fun i hi hf => by have := all i hi hf; omega⟩
theorem wid_pos (b : List Nat) (k : Nat) (hk : k < b.length) : 0 < wid (tok b k) ∧ k + wid (tok b k) ≤ b.length := by
  rcases tok_is b k hk with ⟨h, _⟩ | ⟨s, d, h, h3, _, hd, _, _, hr, _⟩
  · rw [h]; simp [wid]; omega
  · rw [h]; simp only [wid]; rw [if_neg (by omega)]; omega
def toks (b : List Nat) (k : Nat) : List Tk := if _h : k < b.length then tok b k :: toks b (k + wid (tok b k)) else []
termination_by b.length - k
decreasing_by have := wid_pos b k (by assumption); omega
theorem toks_in (b : List Nat) (k : Nat) (h : k < b.length) : toks b k = tok b k :: toks b (k + wid (tok b k)) := by rw [toks, dif_pos h]
theorem toks_out (b : List Nat) (k : Nat) (h : b.length ≤ k) : toks b k = [] := by rw [toks, dif_neg (by omega)]
theorem toks_len (b : List Nat) : ∀ (m k : Nat), b.length ≤ k + m → (toks b k).length + k ≤ max k b.length
  | 0, k, h => by rw [toks_out b k h]; simp; omega
  | m + 1, k, h => by
    by_cases hk : k < b.length
    · have hw := wid_pos b k hk
      have := toks_len b m (k + wid (tok b k)) (by omega)
      rw [toks_in b k hk, List.length_cons]
      omega
    · rw [toks_out b k (by omega)]; simp; omega
def lst (b : List Nat) (k x y z : Nat) : List Nat := (List.range k).filter fun i => decide (i + 3 ≤ b.length ∧ b.getD i 0 = x ∧ b.getD (i + 1) 0 = y ∧ b.getD (i + 2) 0 = z)
theorem lst_mem (b : List Nat) (k x y z i : Nat) : i ∈ lst b k x y z ↔ i < k ∧ i + 3 ≤ b.length ∧ b.getD i 0 = x ∧ b.getD (i + 1) 0 = y ∧ b.getD (i + 2) 0 = z := by simp [lst]
theorem lst_len (b : List Nat) (k x y z : Nat) : (lst b k x y z).length ≤ k := by
  have := List.length_filter_le (fun i => decide (i + 3 ≤ b.length ∧ b.getD i 0 = x ∧ b.getD (i + 1) 0 = y ∧ b.getD (i + 2) 0 = z)) (List.range k)
  simpa [lst] using this
theorem lst_sorted (b : List Nat) (k x y z : Nat) : (lst b k x y z).Pairwise (· < ·) := List.Pairwise.filter _ List.pairwise_lt_range
theorem lst_next (b : List Nat) (k x y z : Nat) : lst b (k + 1) x y z = if k + 3 ≤ b.length ∧ b.getD k 0 = x ∧ b.getD (k + 1) 0 = y ∧ b.getD (k + 2) 0 = z then lst b k x y z ++ [k] else lst b k x y z := by
  unfold lst
  rw [List.range_succ, List.filter_append]
  split <;> rename_i h <;> simp only [List.filter_cons, List.filter_nil] <;> simp only [h, decide_true, decide_false, if_true, Bool.false_eq_true, if_false, and_self, List.append_nil]
theorem run_short (b : List Nat) (i k : Nat) (h : ¬ (b.getD i 0 = b.getD k 0 ∧ b.getD (i + 1) 0 = b.getD (k + 1) 0 ∧ b.getD (i + 2) 0 = b.getD (k + 2) 0)) : run b i k 258 ≤ 2 := by
  rcases Nat.lt_or_ge 2 (run b i k 258) with h1 | h1
  · exact absurd ⟨by have := (run_all b 258 i k 0 (by omega)).2; simpa only [Nat.add_zero] using this, (run_all b 258 i k 1 (by omega)).2, (run_all b 258 i k 2 (by omega)).2⟩ h
  · exact h1
end Go.Proofs.YtnndgpggjlhhpaaGreat.M
namespace Go.Proofs.YtnndgpggjlhhpaaGreat.M
open Go.RowKit Go.WideMaps Go.MapKept Go.ChangeMaps
theorem zinfo_int : (Tryz.prog.info? 3).map (fun i => (i.zero, i.size, i.bytes)) = some (some (.int .i64 0), 1, 8) := by kernel_rfl
theorem elInt : ElemOk Tryz.prog 260 3 (.int .i64 0) 1 8 := ⟨Tryz.underlying260, zinfo_int, rfl, by decide, by decide⟩
theorem zero_ints (w : World) : (zeroValue 260).run Tryz.prog w = .ok (.slice none 0 0) w := by kernel_rfl
def ints (l : List Nat) : List Value := l.map fun (x : Nat) => Value.int .i64 (x : Int)
structure Grp (w : World) (bm : Nat) (T : Nat → Prop) (f : Nat → Nat → Nat → List Nat) (es : Array MapEntry) (clock : Nat) : Prop where
  row : w.heap[bm]? = some (.map es clock)
  st : Stamped es clock
  keys : ∀ e ∈ es.toList, ∃ x y z, x < 256 ∧ y < 256 ∧ z < 256 ∧ e.key = key3 x y z
  own : ∀ e ∈ es.toList, ∀ x y z, e.key = key3 x y z → w.ownsRow 0 3 1 e.val (f x y z).length (ints (f x y z))
  blk : ∀ e ∈ es.toList, ∀ g, e.val.ownBlock = some g → T g
  nil : ∀ x y z, (∀ e ∈ es.toList, e.key ≠ key3 x y z) → f x y z = []
  apart : ∀ e ∈ es.toList, ∀ e' ∈ es.toList, e.key ≠ e'.key → e.val.ownBlock = none ∨ e.val.ownBlock ≠ e'.val.ownBlock
  off : ¬ T bm
theorem Grp.law {w : World} {bm : Nat} {T : Nat → Prop} {f : Nat → Nat → Nat → List Nat} {es : Array MapEntry} {clock : Nat} (h : Grp w bm T f es clock) : ∀ x ∈ es.toList, ∃ l, keyOf Tryz.prog 259 x.key = some l := by
  intro e he
  obtain ⟨x, y, z, hx, hy, hz, hk⟩ := h.keys e he
  rw [hk]
  exact key3_of x y z hx hy hz
theorem Grp.fr {S : Nat → Prop} {w w' : World} {bm : Nat} {T : Nat → Prop} {f : Nat → Nat → Nat → List Nat} {es : Array MapEntry} {clock : Nat} (h : Grp w bm T f es clock) (hf : Fr S w w') (hb : ¬ S bm) (hT : ∀ g, T g → ¬ S g) : Grp w' bm T f es clock :=
  ⟨hf.row h.row hb, h.st, h.keys, fun e he x y z hk => hf.owns (h.own e he x y z hk) fun g hg => hT g (h.blk e he g hg), h.blk, h.nil, h.apart, h.off⟩
theorem Grp.look {w : World} {bm : Nat} {T : Nat → Prop} {f : Nat → Nat → Nat → List Nat} {es : Array MapEntry} {clock : Nat} (h : Grp w bm T f es clock) (x y z : Nat) (hx : x < 256) (hy : y < 256) (hz : z < 256) :
    ∃ v, w.ownsRow 0 3 1 v (f x y z).length (ints (f x y z)) ∧ ∀ w' : World, w'.heap[bm]? = some (.map es clock) → (Instr.lookup 235 (.map (some bm)) (key3 x y z) false).run Tryz.prog w' = .ok v w' := by
  obtain ⟨kl, hkl⟩ := key3_of x y z hx hy hz
  by_cases he : ∃ e ∈ es.toList, e.key = key3 x y z
  · obtain ⟨e, hm, hk⟩ := he
    obtain ⟨j, hj⟩ := List.mem_iff_getElem?.1 hm
    exact ⟨e.val, h.own e hm x y z hk, fun w' hw' => (entry_at lawStart Tryz.underlying235 h.st h.law hkl hj hk bm).1 w' hw' _ (zero_ints w')⟩
  · have hno : ∀ e ∈ es.toList, e.key ≠ key3 x y z := fun e hm hk => he ⟨e, hm, hk⟩
    rw [h.nil x y z hno]
    exact ⟨_, World.ownsRow_nil _ _ _ _, (entry_new lawStart Tryz.underlying235 h.st h.law hkl hno (zero_ints) bm).1⟩
theorem heap_setBlock {w : World} {b : Nat} {es : Array MapEntry} {clock : Nat} {o' : Obj} (h : w.heap[b]? = some (.map es clock)) : (setBlock w b o').heap[b]? = some o' ∧ Fr (· = b) w (setBlock w b o') :=
  ⟨heap_setBlock_same h _, ⟨rfl, rfl, rfl, by simp [setBlock], fun k _ hk => heap_setBlock_other h _ hk⟩⟩
theorem Grp.add {w : World} {bm : Nat} {T : Nat → Prop} {f : Nat → Nat → Nat → List Nat} {es : Array MapEntry} {clock : Nat} (h : Grp w bm T f es clock) (x y z : Nat) (hx : x < 256) (hy : y < 256) (hz : z < 256) (p : Nat) :
    ∃ v st es1 clock1, w.ownsRow 0 3 1 v (f x y z).length (ints (f x y z)) ∧ (∀ g, v.ownBlock = some g → T g) ∧
      (∀ w' : World, w'.heap[bm]? = some (.map es clock) → (Instr.mapEntry 235 (.map (some bm)) (key3 x y z)).run Tryz.prog w' = .ok (.tuple #[v, goInt st]) (setBlock w' bm (.map es1 clock1))) ∧
      ∀ v' : Value, ∃ es2 clock2, (∀ w2 : World, w2.heap[bm]? = some (.map es1 clock1) → (Instr.entryStore 235 (.map (some bm)) (goInt st) v').run Tryz.prog w2 = .ok () (setBlock w2 bm (.map es2 clock2))) ∧
        ∀ w3 : World, Fr (fun g => g = bm ∨ v.ownBlock = some g) w w3 → w3.heap[bm]? = some (.map es2 clock2) → w3.ownsRow 0 3 1 v' (f x y z ++ [p]).length (ints (f x y z ++ [p])) → (∀ g, v'.ownBlock = some g → v.ownBlock = some g ∨ w.heap.size ≤ g) →
          ∀ f' : Nat → Nat → Nat → List Nat, (∀ a b c, f' a b c = if x = a ∧ y = b ∧ z = c then f x y z ++ [p] else f a b c) → Grp w3 bm (fun g => T g ∨ w.heap.size ≤ g) f' es2 clock2 := by
  obtain ⟨kl, hkl⟩ := key3_of x y z hx hy hz
  have hbm : bm < w.heap.size := (Array.getElem?_eq_some_iff.1 h.row).1
  by_cases he : ∃ e ∈ es.toList, e.key = key3 x y z
  · obtain ⟨e, hm, hk⟩ := he
    obtain ⟨j, hj⟩ := List.mem_iff_getElem?.1 hm
    obtain ⟨_, h2, h3⟩ := entry_at lawStart Tryz.underlying235 h.st h.law hkl hj hk bm
    refine ⟨e.val, e.born, es, clock, h.own e hm x y z hk, h.blk e hm, h2, fun v' => ⟨_, clock, fun w2 => h3 w2 v', fun w3 hf3 hr3 ho3 hb3 f' hf' => ?_⟩⟩
    have mem : ∀ e' ∈ (es.modify j fun e => { e with val := v' }).toList, (e' ∈ es.toList ∧ e'.key ≠ key3 x y z) ∨ (e'.key = key3 x y z ∧ e'.val = v') := by
      intro e' he'
      rw [Array.toList_modify] at he'
      obtain ⟨i, hi⟩ := List.mem_iff_getElem?.1 he'
      rw [List.getElem?_modify] at hi
      by_cases hij : j = i
      · subst hij
        rw [hj] at hi
        simp only [if_true, Option.map_eq_map, Option.map_some, Option.some.injEq] at hi
        subst hi
        exact .inr ⟨hk, rfl⟩
      · cases hes : es.toList[i]? with
        | none => rw [hes] at hi; simp at hi
        | some y0 =>
          rw [hes] at hi
          simp only [hij, if_false, Option.map_eq_map, Option.map_some, Option.some.injEq] at hi
          subst hi
          refine .inl ⟨List.mem_of_getElem? hes, fun e1 => hij (one_place h.st hj hes (hk.trans e1.symm))⟩
    have hkeys : (es.modify j fun e => { e with val := v' }).toList.map (·.key) = es.toList.map (·.key) := by
      apply List.ext_getElem?
      intro i
      simp only [List.getElem?_map, Array.toList_modify, List.getElem?_modify]
      cases es.toList[i]? <;> simp
      split <;> rfl
    have hborn : (es.modify j fun e => { e with val := v' }).toList.map (·.born) = es.toList.map (·.born) := by
      apply List.ext_getElem?
      intro i
      simp only [List.getElem?_map, Array.toList_modify, List.getElem?_modify]
      cases es.toList[i]? <;> simp
      split <;> rfl
    have old : ∀ e' ∈ es.toList, e'.key ≠ key3 x y z → ∀ g, e'.val.ownBlock = some g → ¬ (g = bm ∨ e.val.ownBlock = some g) := by
      intro e' he' hne g hg hor
      rcases hor with rfl | h1
      · exact h.off (h.blk e' he' g hg)
      · rcases h.apart e' he' e hm (by rw [hk]; exact hne) with h4 | h4
        · rw [h4] at hg; cases hg
        · exact h4 (by rw [hg, h1])
    have oldnew : ∀ e' ∈ es.toList, e'.key ≠ key3 x y z → e'.val.ownBlock = none ∨ e'.val.ownBlock ≠ v'.ownBlock := by
      intro e' he' hne
      cases hg : e'.val.ownBlock with
      | none => exact .inl rfl
      | some g =>
        refine .inr fun e1 => ?_
        rcases hb3 g e1.symm with h4 | h4
        · exact old e' he' hne g hg (.inr h4)
        · obtain ⟨a, b, c, _, _, _, hk'⟩ := h.keys e' he'
          have := ((h.own e' he' a b c hk').lt g hg).2
          omega
    refine ⟨hr3, ⟨fun e' he' => ?_, by rw [hborn]; exact h.st.2.1, by rw [hkeys]; exact h.st.2.2⟩, fun e' he' => ?_, fun e' he' a b c hk' => ?_, fun e' he' g hg => ?_, fun a b c hno => ?_, fun e1 he1 e2 he2 hne => ?_, fun hor => ?_⟩
    · have : e'.born ∈ es.toList.map (·.born) := by rw [← hborn]; exact List.mem_map.2 ⟨e', he', rfl⟩
      obtain ⟨y0, hy0, hy1⟩ := List.mem_map.1 this
      rw [← hy1]
      exact h.st.1 y0 hy0
    · rcases mem e' he' with ⟨h4, _⟩ | ⟨h4, _⟩
      · exact h.keys e' h4
      · exact ⟨x, y, z, hx, hy, hz, h4⟩
    · rw [hf']
      rcases mem e' he' with ⟨h4, h5⟩ | ⟨h4, h5⟩
      · rw [if_neg (fun h6 => h5 (by rw [hk', h6.1, h6.2.1, h6.2.2]))]
        exact hf3.owns (h.own e' h4 a b c hk') (old e' h4 h5)
      · have := key3_inj (h4.symm.trans hk')
        rw [if_pos this, h5]
        exact ho3
    · rcases mem e' he' with ⟨h4, _⟩ | ⟨_, h5⟩
      · exact .inl (h.blk e' h4 g hg)
      · rw [h5] at hg
        rcases hb3 g hg with h6 | h6
        · exact .inl (h.blk e hm g h6)
        · exact .inr h6
    · have hno' : ∀ e' ∈ es.toList, e'.key ≠ key3 a b c := by
        intro e' he' hk'
        have : key3 a b c ∈ es.toList.map (·.key) := List.mem_map.2 ⟨e', he', hk'⟩
        rw [← hkeys] at this
        obtain ⟨y0, hy0, hy1⟩ := List.mem_map.1 this
        exact hno y0 hy0 hy1
      rw [hf', if_neg (fun h6 => hno' e hm (by rw [hk, h6.1, h6.2.1, h6.2.2]))]
      exact h.nil a b c hno'
    · rcases mem e1 he1 with ⟨h4, h5⟩ | ⟨h4, h5⟩ <;> rcases mem e2 he2 with ⟨h6, h7⟩ | ⟨h6, h7⟩
      · exact h.apart e1 h4 e2 h6 hne
      · rw [h7]; exact oldnew e1 h4 h5
      · rw [h5]
        rcases oldnew e2 h6 h7 with h8 | h8
        · rw [h8]
          cases hv : v'.ownBlock with
          | none => exact .inl rfl
          | some g => exact .inr (by simp)
        · exact .inr fun h9 => h8 h9.symm
      · exact absurd (h4.trans h6.symm) hne
    · rcases hor with h4 | h4
      · exact h.off h4
      · omega
  · have hno : ∀ e ∈ es.toList, e.key ≠ key3 x y z := fun e hm hk => he ⟨e, hm, hk⟩
    have hnil := h.nil x y z hno
    obtain ⟨_, h2, h3⟩ := entry_new lawStart Tryz.underlying235 h.st h.law hkl hno (zero_ints) bm
    refine ⟨.slice none 0 0, clock, _, _, by rw [hnil]; exact World.ownsRow_nil _ _ _ _, fun g hg => by simp [Value.ownBlock] at hg, h2, fun v' => ⟨_, _, fun w2 => h3 w2 v', fun w3 hf3 hr3 ho3 hb3 f' hf' => ?_⟩⟩
    have mem : ∀ e' ∈ (es.push ⟨key3 x y z, v', clock⟩).toList, e' ∈ es.toList ∨ e' = ⟨key3 x y z, v', clock⟩ := by
      intro e' he'
      rw [Array.toList_push] at he'
      simpa using he'
    have old : ∀ e' ∈ es.toList, ∀ g, e'.val.ownBlock = some g → ¬ (g = bm ∨ (Value.slice none 0 0).ownBlock = some g) := by
      intro e' he' g hg hor
      rcases hor with rfl | h1
      · exact h.off (h.blk e' he' g hg)
      · simp [Value.ownBlock] at h1
    have oldnew : ∀ e' ∈ es.toList, e'.val.ownBlock = none ∨ e'.val.ownBlock ≠ v'.ownBlock := by
      intro e' he'
      cases hg : e'.val.ownBlock with
      | none => exact .inl rfl
      | some g =>
        refine .inr fun e1 => ?_
        rcases hb3 g e1.symm with h4 | h4
        · exact old e' he' g hg (.inr h4)
        · obtain ⟨a, b, c, _, _, _, hk'⟩ := h.keys e' he'
          have := ((h.own e' he' a b c hk').lt g hg).2
          omega
    refine ⟨hr3, stamped_push h.st hno, fun e' he' => ?_, fun e' he' a b c hk' => ?_, fun e' he' g hg => ?_, fun a b c hno' => ?_, fun e1 he1 e2 he2 hne => ?_, fun hor => ?_⟩
    · rcases mem e' he' with h4 | rfl
      · exact h.keys e' h4
      · exact ⟨x, y, z, hx, hy, hz, rfl⟩
    · rw [hf']
      rcases mem e' he' with h4 | rfl
      · rw [if_neg (fun h6 => hno e' h4 (by rw [hk', h6.1, h6.2.1, h6.2.2]))]
        exact hf3.owns (h.own e' h4 a b c hk') (old e' h4)
      · rw [if_pos (key3_inj hk')]
        exact ho3
    · rcases mem e' he' with h4 | rfl
      · exact .inl (h.blk e' h4 g hg)
      · rcases hb3 g hg with h6 | h6
        · simp [Value.ownBlock] at h6
        · exact .inr h6
    · rw [hf', if_neg (fun h6 => hno' ⟨key3 x y z, v', clock⟩ (by simp) (by rw [← h6.1, ← h6.2.1, ← h6.2.2]))]
      exact h.nil a b c fun e' he' => hno' e' (by rw [Array.toList_push]; simp [he'])
    · rcases mem e1 he1 with h4 | rfl <;> rcases mem e2 he2 with h6 | rfl
      · exact h.apart e1 h4 e2 h6 hne
      · exact oldnew e1 h4
      · rcases oldnew e2 h6 with h8 | h8
        · rw [h8]
          cases hv : v'.ownBlock with
          | none => exact .inl rfl
          | some g => exact .inr (by simp)
        · exact .inr fun h9 => h8 h9.symm
      · exact absurd rfl hne
    · rcases hor with h4 | h4
      · exact h.off h4
      · omega
end Go.Proofs.YtnndgpggjlhhpaaGreat.M
namespace Go.Proofs.YtnndgpggjlhhpaaGreat.M
open Go.RowKit Go.MapKept
structure PastIs (w : World) (a bm : Nat) (p : Option Addr) (c : Nat) (b : List Nat) (k : Nat) : Prop where
  blk : w.heap[a]? = some (.cells #[.slice p b.length c, .int .i64 (k : Nat), .map (some bm)] 237 (0, 0))
  txt : SlI w .u8 p b
  cap : b.length ≤ c
  small : ∀ x ∈ b, x < 256
  len : b.length ≤ 1048576
theorem PastIs.c0 {w : World} {a bm : Nat} {p : Option Addr} {c : Nat} {b : List Nat} {k : Nat} (h : PastIs w a bm p c b k) : w.cell? ⟨a, 0, none⟩ = some (.slice p b.length c) := by simp [World.cell?, h.blk]
theorem PastIs.c1 {w : World} {a bm : Nat} {p : Option Addr} {c : Nat} {b : List Nat} {k : Nat} (h : PastIs w a bm p c b k) : w.cell? ⟨a, 1, none⟩ = some (.int .i64 (k : Nat)) := by simp [World.cell?, h.blk]
theorem PastIs.c2 {w : World} {a bm : Nat} {p : Option Addr} {c : Nat} {b : List Nat} {k : Nat} (h : PastIs w a bm p c b k) : w.cell? ⟨a, 2, none⟩ = some (.map (some bm)) := by simp [World.cell?, h.blk]
theorem PastIs.f1 {w : World} {a bm : Nat} {p : Option Addr} {c : Nat} {b : List Nat} {k : Nat} (h : PastIs w a bm p c b k) : w.frozen? ⟨a, 1, none⟩ = false := by simp [World.frozen?, h.blk]
theorem PastIs.fr {S : Nat → Prop} {w w' : World} {a bm : Nat} {p : Option Addr} {c : Nat} {b : List Nat} {k : Nat} (h : PastIs w a bm p c b k) (hf : Fr S w w') (ha : ¬ S a) (hp : b ≠ [] → Off S p) : PastIs w' a bm p c b k :=
  ⟨hf.row h.blk ha, h.txt.fr hf hp, h.cap, h.small, h.len⟩
theorem PastIs.fr0 {w w' : World} {a bm : Nat} {p : Option Addr} {c : Nat} {b : List Nat} {k : Nat} (h : PastIs w a bm p c b k) (hf : Fr S0 w w') : PastIs w' a bm p c b k := h.fr hf (fun h => h) (fun _ => Off.s0 _)
theorem PastIs.to {w : World} {a bm : Nat} {p : Option Addr} {c : Nat} {b : List Nat} {k : Nat} (h : PastIs w a bm p c b k) (k' : Nat) (ha : b ≠ [] → Off (· = a) p) : PastIs (w.setCell ⟨a, 1, none⟩ (.int .i64 (k' : Nat))) a bm p c b k' :=
  ⟨by rw [heap_setCell_same w a 1 _ _ _ h.blk]; rfl, h.txt.fr (Fr.setCell (· = a) w ⟨a, 1, none⟩ _ rfl) ha, h.cap, h.small, h.len⟩
theorem getD_at (b : List Nat) (i : Nat) (h : i < b.length) : b.getD i 0 = b[i] := by simp [h]
def sam (b : List Nat) (i k s e : Nat) : Nat := if b.getD (i + s) 0 = b.getD (k + s) 0 then run b i k e else 0
theorem same_any (a bm : Nat) (p : Option Addr) (c : Nat) (b : List Nat) (k i s e : Nat) (w : World) (h : PastIs w a bm p c b k) (hi : i < k) (hs : s < e) (he : k + e ≤ b.length) :
    Calls Tryz.prog 230 #[.pointer (some ⟨a, 0, none⟩), .int .i64 (i : Nat), .int .i64 (s : Nat), .int .i64 (e : Nat)] w fun r w' => r = .returned (.int .i64 (sam b i k s e : Nat)) ∧ Fr S0 w w' := by
  have H := Lib.hid h
  have hc0 := h.c0
  have hc1 := h.c1
  have hlen := h.len
  have hcap := h.cap
  obtain ⟨B, o, hpe, hx⟩ := h.txt.at (i + s) (by omega)
  obtain ⟨B', o', hpe', hy⟩ := h.txt.at (k + s) (by omega)
  rw [hpe] at hpe'
  obtain ⟨rfl, rfl⟩ : B = B' ∧ o = o' := by simpa using hpe'
  subst hpe
  have HX := getD_at b (i + s) (by omega)
  have HY := getD_at b (k + s) (by omega)
  obtain ⟨x, hxe⟩ : ∃ x, b[i + s] = x := ⟨_, rfl⟩
  obtain ⟨y, hye⟩ : ∃ y, b[k + s] = y := ⟨_, rfl⟩
  rw [hxe] at hx HX
  rw [hye] at hy HY
  obtain ⟨m, hm⟩ : ∃ m, b.length = m := ⟨_, rfl⟩
  have HM := Lib.hid hm
  rw [hm] at hc0 hlen hcap he
  clear hpe' h hxe hye hm
  have q1 : (i : Int) + (s : Int) < (m : Int) := by omega
  have q2 : (k : Int) + (s : Int) < (m : Int) := by omega
  have hx' : w.cell? ⟨B, o + (i + s), none⟩ = some (.int .u8 (x : Int)) := hx
  have hy' : w.cell? ⟨B, o + (k + s), none⟩ = some (.int .u8 (y : Int)) := hy
  by_cases hxy : (x : Int) = (y : Int)
  · have HS : Hid (sam b i k s e = run b i k e) := Lib.hid (by unfold sam; rw [if_pos (by omega)])
    have HXY := Lib.hid hxy
    go_enter Tryz.func230, Tryz.ntmps230
    go_wp2_with fail
    go_quiet (fail)
    go_wp2_with fail
    go_loopw [9] (fun n wr => ∃ j : Nat, j ≤ e ∧ n = .int .i64 j ∧ Fr S0 w wr ∧ ∀ q, q < j → b.getD (i + q) 0 = b.getD (k + q) 0) (fun n _ => e - (intOf n).toNat)
    case atStart => exact ⟨0, by omega, rfl, Fr.drewN _ _ _, fun q hq => by omega⟩
    case round =>
      obtain ⟨j, hj, rfl, hfr, hq⟩ := hrel
      have H1 := H.out.fr0 hfr
      have hc0 := H1.c0
      have hc1 := H1.c1
      rw [HM.out] at hc0
      have HFR := Lib.hid hfr
      have HQ := Lib.hid hq
      by_cases hje : (j : Int) < (e : Int)
      · obtain ⟨B', o', hpe', hu⟩ := H1.txt.at (i + j) (by rw [HM.out]; omega)
        obtain ⟨B'', o'', hpe'', hv⟩ := H1.txt.at (k + j) (by rw [HM.out]; omega)
        obtain ⟨rfl, rfl⟩ : B = B' ∧ o = o' := by simpa using hpe'
        obtain ⟨rfl, rfl⟩ : B = B'' ∧ o = o'' := by simpa using hpe''
        have HU := getD_at b (i + j) (by rw [HM.out]; omega)
        have HV := getD_at b (k + j) (by rw [HM.out]; omega)
        obtain ⟨u, hue⟩ : ∃ u, b[i + j]'(by rw [HM.out]; omega) = u := ⟨_, rfl⟩
        obtain ⟨v, hve⟩ : ∃ v, b[k + j]'(by rw [HM.out]; omega) = v := ⟨_, rfl⟩
        rw [hue] at hu HU
        rw [hve] at hv HV
        have r1 : (i : Int) + (j : Int) < (m : Int) := by omega
        have r2 : (k : Int) + (j : Int) < (m : Int) := by omega
        have hu' : wr.cell? ⟨B, o + (i + j), none⟩ = some (.int .u8 (u : Int)) := hu
        have hv' : wr.cell? ⟨B, o + (k + j), none⟩ = some (.int .u8 (v : Int)) := hv
        clear hpe' hpe'' hue hve hfr hq
        by_cases huv : (u : Int) = (v : Int)
        · go_wp2_with fail
          go_quiet (fail)
          go_wp2_with fail
          go_roundw
          case rel => exact ⟨j + 1, by omega, by simp, HFR.out.trans0 (Fr.drewN _ _ _), fun q hq => by
            by_cases e1 : q = j
            · rw [e1, HU, HV]; omega
            · exact HQ.out q (by omega)⟩
          case measure => simp [intOf]; omega
        · have HR : Hid (run b i k e = j) := Lib.hid (run_unique b e i k j (by omega) (fun q h1 => ⟨by rw [HM.out]; omega, HQ.out q h1⟩) fun _ h2 => huv (by rw [← HU, ← HV, h2.2]))
          go_wp2_with fail
          go_quiet (fail)
          go_wp2
          go_ret
          exact ⟨congrArg (fun z : Nat => Ending.returned (Value.int .i64 (z : Int))) (HS.out.trans HR.out).symm, HFR.out.trans0 (Fr.drewN _ _ _)⟩
      · have HR : Hid (run b i k e = j) := Lib.hid (run_unique b e i k j (by omega) (fun q h1 => ⟨by rw [HM.out]; omega, HQ.out q h1⟩) fun h1 _ => by omega)
        have hd : decide (j < e) = false := decide_eq_false (by omega)
        clear hfr hq
        go_wp2_with fail
        go_quiet (fail)
        go_wp2
        go_ret
        exact ⟨congrArg (fun z : Nat => Ending.returned (Value.int .i64 (z : Int))) (HS.out.trans HR.out).symm, HFR.out.trans0 (Fr.drewN _ _ _)⟩
  · have HS : Hid (sam b i k s e = 0) := Lib.hid (by unfold sam; rw [if_neg (by omega)])
    go_enter Tryz.func230, Tryz.ntmps230
    go_wp2_with fail
    go_quiet (fail)
    go_wp2
    go_ret
    exact ⟨by rw [HS.out]; rfl, Fr.drewN _ _ _⟩
end Go.Proofs.YtnndgpggjlhhpaaGreat.M
namespace Go.Proofs.YtnndgpggjlhhpaaGreat.M
open Go.RowKit Go.MapKept
theorem gap (b : List Nat) (k x y z : Nat) (L : List Nat) (hL : lst b k x y z = L) (hx : b.getD k 0 = x) (hy : b.getD (k + 1) 0 = y) (hz : b.getD (k + 2) 0 = z) (h3 : k + 3 ≤ b.length) (i : Nat) (hi : i < k) (hn : i ∉ L) : run b i k 258 ≤ 2 := by
  refine run_short b i k fun h => hn ?_
  rw [← hL, lst_mem]
  exact ⟨hi, by omega, by rw [h.1, hx], by rw [h.2.1, hy], by rw [h.2.2, hz]⟩
theorem lst_gap (L : List Nat) (hs : L.Pairwise (· < ·)) (k i0 i : Nat) (h0 : i0 < L.length) (h1 : L[i0] < i) (h2 : i < L.getD (i0 + 1) k) : i ∉ L := by
  intro hm
  obtain ⟨j, hj, rfl⟩ := List.mem_iff_getElem.1 hm
  have hp := List.pairwise_iff_getElem.1 hs
  rcases Nat.lt_trichotomy j i0 with h | h | h
  · have := hp j i0 hj h0 h; omega
  · subst h; omega
  · by_cases e : j = i0 + 1
    · subst e
      simp [hj] at h2
    · have h3 : i0 + 1 < L.length := by omega
      have := hp (i0 + 1) j h3 hj (by omega)
      simp [h3] at h2
      omega
theorem lst_first (L : List Nat) (hs : L.Pairwise (· < ·)) (k i : Nat) (h2 : i < L.getD 0 k) : i ∉ L := by
  intro hm
  obtain ⟨j, hj, rfl⟩ := List.mem_iff_getElem.1 hm
  have hp := List.pairwise_iff_getElem.1 hs
  have h0 : 0 < L.length := by omega
  simp only [List.getD_eq_getElem?_getD, List.getElem?_eq_getElem h0, Option.getD_some] at h2
  by_cases e : j = 0
  · subst e; omega
  · have := hp 0 j h0 hj (by omega)
    omega
theorem long_stop (b : List Nat) (k P J : Nat) (h : P ≤ J) (hJ : J ≤ k) (hle : ∀ i, i < k - P → k ≤ i + J → run b i k 258 ≤ (nrm (zbst b k P)).1) : nrm (zbst b k J) = nrm (zbst b k P) :=
  nrm_stop b k P J h fun j h1 h2 => hle _ (by omega) (by omega)
theorem run_e (b : List Nat) (i k e : Nat) (he : min 258 (b.length - k) = e) (hk : k < b.length) : run b i k e = run b i k 258 := by
  by_cases h : e = 258
  · rw [h]
  · exact run_cap b 258 e i k (by omega) (.inl (by omega))
theorem run_le_e (b : List Nat) (i k e : Nat) (he : min 258 (b.length - k) = e) (hk : k < b.length) : run b i k 258 ≤ e := by
  rw [← run_e b i k e he hk]
  exact run_le b e i k
theorem long_next (b : List Nat) (k P t S e : Nat) (hP : P + t < k) (hgap : ∀ i, t < i → i < k - P → run b i k 258 ≤ 2) (hS : (nrm (zbst b k P)).1 = S) (he : min 258 (b.length - k) = e) (hk : k < b.length) :
    nrm (zbst b k (k - t)) = if S < sam b t k S e then (sam b t k S e, k - t) else nrm (zbst b k P) := by
  have h1 := long_stop b k P (k - 1 - t) (by omega) (by omega) fun i h2 h3 => Nat.le_trans (hgap i (by omega) h2) (nrm_ge _)
  rw [show k - t = (k - 1 - t) + 1 by omega, nrm_step, h1, hS, show k - 1 - (k - 1 - t) = t by omega]
  have hc : k - 1 - t + 1 = k - t := by omega
  by_cases h : b.getD (t + S) 0 = b.getD (k + S) 0
  · have e1 : sam b t k S e = run b t k 258 := by unfold sam; rw [if_pos h, run_e b t k e he hk]
    rw [e1, hc]
  · have e1 : sam b t k S e = 0 := by unfold sam; rw [if_neg h]
    have h2 : ¬ S < run b t k 258 := fun h3 => h (run_all b 258 t k S h3).2
    rw [e1, if_neg h2, if_neg (by omega)]
theorem nrm_zero (b : List Nat) (k : Nat) : nrm (zbst b k 0) = (2, 0) := rfl
theorem longest_any (a bm : Nat) (p : Option Addr) (c : Nat) (b : List Nat) (k : Nat) (T : Nat → Prop) (es : Array MapEntry) (clock : Nat) (w : World) (h : PastIs w a bm p c b k) (hg : Grp w bm T (lst b k) es clock) (hk : k < b.length) :
    Calls Tryz.prog 205 #[.pointer (some ⟨a, 0, none⟩)] w fun r w' => r = .returned (.tuple #[.int .i64 ((nrm (zbst b k (min k 32768))).1 : Nat), .int .i64 ((nrm (zbst b k (min k 32768))).2 : Nat)]) ∧ Fr S0 w w' := by
  have H := Lib.hid h
  have hc0 := h.c0
  have hc1 := h.c1
  have hc2 := h.c2
  have hlen := h.len
  have hcap := h.cap
  obtain ⟨m, hm⟩ : ∃ m, b.length = m := ⟨_, rfl⟩
  have HM := Lib.hid hm
  have HG := Lib.hid hg
  rw [hm] at hc0 hlen hcap hk
  clear h hg hm
  by_cases hs : 3 ≤ m - k
  · obtain ⟨B, o, hpe, hx0⟩ := H.out.txt.at k (by rw [HM.out]; omega)
    obtain ⟨B', o', hpe', hx1⟩ := H.out.txt.at (k + 1) (by rw [HM.out]; omega)
    obtain ⟨B'', o'', hpe'', hx2⟩ := H.out.txt.at (k + 2) (by rw [HM.out]; omega)
    rw [hpe] at hpe' hpe''
    obtain ⟨rfl, rfl⟩ : B = B' ∧ o = o' := by simpa using hpe'
    obtain ⟨rfl, rfl⟩ : B = B'' ∧ o = o'' := by simpa using hpe''
    subst hpe
    have H80 := H.out.small _ (List.getElem_mem (show k < b.length by rw [HM.out]; omega))
    have H81 := H.out.small _ (List.getElem_mem (show k + 1 < b.length by rw [HM.out]; omega))
    have H82 := H.out.small _ (List.getElem_mem (show k + 2 < b.length by rw [HM.out]; omega))
    have HX := getD_at b k (by rw [HM.out]; omega)
    have HY := getD_at b (k + 1) (by rw [HM.out]; omega)
    have HZ := getD_at b (k + 2) (by rw [HM.out]; omega)
    obtain ⟨x, hxe⟩ : ∃ x, b[k]'(by rw [HM.out]; omega) = x := ⟨_, rfl⟩
    obtain ⟨y, hye⟩ : ∃ y, b[k + 1]'(by rw [HM.out]; omega) = y := ⟨_, rfl⟩
    obtain ⟨z, hze⟩ : ∃ z, b[k + 2]'(by rw [HM.out]; omega) = z := ⟨_, rfl⟩
    rw [hxe] at hx0 HX H80
    rw [hye] at hx1 HY H81
    rw [hze] at hx2 HZ H82
    obtain ⟨v, hown, hlook⟩ := HG.out.look x y z H80 H81 H82
    obtain ⟨L, hL⟩ : ∃ L, lst b k x y z = L := ⟨_, rfl⟩
    rw [hL] at hown
    obtain ⟨n, hn⟩ : ∃ n, L.length = n := ⟨_, rfl⟩
    rw [hn] at hown
    obtain ⟨q, d, rfl, -, hnd, hdm⟩ := slForm hown
    have HLK : ∀ j, (Instr.lookup 235 (.map (some bm)) (.agg #[.int .u8 (x : Int), .int .u8 (y : Int), .int .u8 (z : Int)]) false).run Tryz.prog (w.drewN j) = .ok (.slice q n d) (w.drewN j) := fun j => hlook _ HG.out.row
    have HOWN := Lib.hid hown
    have HLL := Lib.hid hL
    have HN := Lib.hid hn
    have hnk : n ≤ k := by rw [← hn, ← hL]; exact lst_len b k x y z
    clear hpe' hpe'' hxe hye hze hlook hown hL hn
    obtain ⟨e, he⟩ : ∃ e, min 258 (m - k) = e := ⟨_, rfl⟩
    have HE := Lib.hid he
    have r1 : (k : Int) ≤ (m : Int) := by omega
    have r2 : (m : Int) ≤ (c : Int) := by omega
    have r3 : ¬ c = k := by omega
    have r4 : ¬ m - k < 3 := by omega
    have hat : ∀ w : World, (Instr.arrayAt 259 (.slice (some ⟨B, o + k, none⟩) (m - k) (c - k))).run Tryz.prog w = .ok (.pointer (some ⟨B, o + k, none⟩)) w := fun w => run_arrayAt w _ _ 3 _ _ _ Tryz.underlying259 hs
    have hx1' : w.cell? ⟨B, o + k + 1, none⟩ = some (.int .u8 (y : Int)) := hx1
    have hx2' : w.cell? ⟨B, o + k + 2, none⟩ = some (.int .u8 (z : Int)) := hx2
    have r5 : ¬ (e : Int) < 3 := by omega
    have HL2 : Hid (L.Pairwise (· < ·)) := Lib.hid (by rw [← HLL.out]; exact lst_sorted b k x y z)
    have HLT : Hid (∀ t ∈ L, t < k) := Lib.hid (fun t ht => by rw [← HLL.out, lst_mem] at ht; exact ht.1)
    have HGAP : Hid (∀ i, i < k → i ∉ L → run b i k 258 ≤ 2) := Lib.hid (fun i h1 h2 => gap b k x y z L HLL.out HX HY HZ (by rw [HM.out]; omega) i h1 h2)
    have HTOP : Hid (∀ i, run b i k 258 ≤ e) := Lib.hid (fun i => run_le_e b i k e (by rw [HM.out]; exact HE.out) (by rw [HM.out]; exact hk))
    have HSL := Lib.hid (SlI.ofOwns (l := L) HOWN.out)
    have emin : (if ((m : Int) - (k : Int)) < 258 then ((m : Int) - (k : Int)) else 258) = (e : Int) := by split <;> omega
    clear hx1 hx2 he
    go_enter Tryz.func205, Tryz.ntmps205
    go_wp2_with fail
    go_quiet (fail)
    go_wp2_with fail
    go_quiet (fail)
    go_wp2_with fail
    go_loopw [4, 5, 8, 9] (fun s u i _ wr => ∃ N S D : Nat, N ≤ n ∧ i = .int .i64 ((N : Int) - 1) ∧ s = .int .i64 S ∧ u = .int .i64 D ∧ nrm (zbst b k (k - L.getD N k)) = (S, D) ∧ (N < n → k ≤ L.getD N k + 32768) ∧ Fr S0 w wr) (fun _ _ i _ _ => (intOf i + 1).toNat)
    case atStart => exact ⟨n, 2, 0, by omega, by simp, rfl, rfl, by rw [show L.getD n k = k by simp [HN.out]]; simp [nrm_zero], fun h => by omega, Fr.drewN _ _ _⟩
    case round =>
      obtain ⟨N, S, D, hN, rfl, rfl, rfl, hst, hfar, hfr⟩ := hrel
      have H1 := H.out.fr0 hfr
      have hc0 := H1.c0
      have hc1 := H1.c1
      rw [HM.out] at hc0
      have HFR := Lib.hid hfr
      have HST := Lib.hid hst
      have HFAR := Lib.hid hfar
      clear hst hfar hfr
      cases N with
      | zero =>
        have HR : Hid (nrm (zbst b k (min k 32768)) = (S, D)) := Lib.hid (by
          have hf := HFAR.out
          have h1 := HST.out
          by_cases h0 : 0 < n
          · have h2 := hf h0
            have h3 := HLT.out (L.getD 0 k) (by simp [show 0 < L.length by rw [HN.out]; exact h0])
            rw [← h1, long_stop b k (k - L.getD 0 k) (min k 32768) (by omega) (by omega) fun i h4 _ => ?_]
            exact Nat.le_trans (HGAP.out i (by omega) (lst_first L HL2.out k i (by omega))) (nrm_ge _)
          · have h2 : L.getD 0 k = k := by simp [List.eq_nil_of_length_eq_zero (show L.length = 0 by rw [HN.out]; omega)]
            rw [h2] at h1
            rw [← h1, long_stop b k (k - k) (min k 32768) (by omega) (by omega) fun i h4 _ => ?_]
            exact Nat.le_trans (HGAP.out i (by omega) (lst_first L HL2.out k i (by omega))) (nrm_ge _))
        go_wp2_with fail
        go_quiet (fail)
        go_wp2
        go_ret2
        exact ⟨congrArg (fun r : Nat × Nat => Ending.returned (Value.tuple #[.int .i64 (r.1 : Int), .int .i64 (r.2 : Int)])) HR.out.symm, HFR.out.trans0 (Fr.drewN _ _ _)⟩
      | succ N =>
        have ei : (((N + 1 : Nat) : Int) - 1) = (N : Int) := by omega
        rw [ei]
        have hNL : N < L.length := by rw [HN.out]; omega
        obtain ⟨B2, o2, rfl, hcl⟩ := (HSL.out.fr0 HFR.out).at N hNL
        have HLN : Hid (L.getD N k = L[N]) := Lib.hid (by simp [hNL])
        have htk := HLT.out _ (List.getElem_mem hNL)
        have HGN : Hid (∀ i, L[N] < i → i < L.getD (N + 1) k → run b i k 258 ≤ 2) := Lib.hid (fun i h1 h2 => by
          by_cases h3 : i < k
          · exact HGAP.out i h3 (lst_gap L HL2.out k N i hNL h1 h2)
          · by_cases h4 : N + 1 < L.length
            · have := HLT.out (L.getD (N + 1) k) (by simp [h4])
              omega
            · have : L.getD (N + 1) k = k := by simp [List.getElem?_eq_none (Nat.le_of_not_lt h4)]
              omega)
        have HPT : Hid (k - L.getD (N + 1) k + L[N] < k ∧ k - (k - L.getD (N + 1) k) = L.getD (N + 1) k) := Lib.hid (by
          by_cases h4 : N + 1 < L.length
          · have h5 := HLT.out (L.getD (N + 1) k) (by simp [h4])
            have h6 := List.pairwise_iff_getElem.1 HL2.out N (N + 1) hNL h4 (by omega)
            have h7 : L.getD (N + 1) k = L[N + 1] := by simp [h4]
            omega
          · have : L.getD (N + 1) k = k := by simp [List.getElem?_eq_none (Nat.le_of_not_lt h4)]
            omega)
        obtain ⟨t, ht⟩ : ∃ t, L[N] = t := ⟨_, rfl⟩
        rw [ht] at hcl htk
        have HLN2 : Hid (L.getD N k = t) := Lib.hid (by rw [HLN.out, ht])
        have HGN2 : Hid (∀ i, t < i → i < L.getD (N + 1) k → run b i k 258 ≤ 2) := Lib.hid (by rw [← ht]; exact HGN.out)
        have HPT2 : Hid (k - L.getD (N + 1) k + t < k ∧ k - (k - L.getD (N + 1) k) = L.getD (N + 1) k) := Lib.hid (by rw [← ht]; exact HPT.out)
        clear HLN HGN HPT ht hNL
        have q1 : (N : Int) < (n : Int) := by omega
        by_cases hf : (k : Int) - (t : Int) ≤ 32768
        · by_cases hS : (S : Int) < (e : Int)
          · have HNX : Hid (nrm (zbst b k (k - t)) = if S < sam b t k S e then (sam b t k S e, k - t) else (S, D)) := Lib.hid (by
              have h1 := long_next b k (k - L.getD (N + 1) k) t S e HPT2.out.1 (fun i h2 h3 => HGN2.out i h2 (by rw [HPT2.out.2] at h3; exact h3)) (by rw [HST.out]) (by rw [HM.out]; exact HE.out) (by rw [HM.out]; exact hk)
              rw [HST.out] at h1
              exact h1)
            obtain ⟨r, hr⟩ : ∃ r, sam b t k S e = r := ⟨_, rfl⟩
            rw [hr] at HNX
            by_cases hrs : (S : Int) < (r : Int)
            · have HNX2 : Hid (nrm (zbst b k (k - L.getD N k)) = (r, k - t)) := Lib.hid (by rw [HLN2.out, HNX.out, if_pos (by omega)])
              have HFF : Hid (k ≤ L.getD N k + 32768) := Lib.hid (by rw [HLN2.out]; omega)
              go_wp2_with fail
              go_quiet (fail)
              go_wp2_with fail
              go_wp2_with (go_at_call 230; refine (same_any a bm _ c b k t S e _ (H1.fr0 (Fr.drewN _ _ _)) htk (by omega) (by rw [HM.out]; omega)).mono ?_; rintro _ w1 ⟨rfl, hf1⟩)
              have HF1 := Lib.hid ((HFR.out.trans0 (Fr.drewN _ _ _)).trans0 hf1)
              have H2 := H.out.fr0 HF1.out
              have hd0 := H2.c0
              have hd1 := H2.c1
              rw [HM.out] at hd0
              have hcl1 := (HFR.out.trans0 (Fr.drewN _ _ _)).trans0 hf1
              obtain ⟨B3, o3, he3, hcl3⟩ := (HSL.out.fr0 HF1.out).at N (by rw [HN.out]; omega)
              obtain ⟨rfl, rfl⟩ : B2 = B3 ∧ o2 = o3 := by simpa using he3
              have hcl4 : w1.cell? ⟨B2, o2 + N, none⟩ = some (.int .i64 (t : Int)) := by rw [hcl3, ← HLN2.out]; simp [show N < L.length by rw [HN.out]; omega]
              clear hf1 hcl1 he3 hcl3
              go_quiet (fail)
              go_wp2_with fail
              go_roundw
              case rel => exact ⟨N, r, k - t, by omega, rfl, rfl, by congr 1; omega, HNX2.out, fun _ => HFF.out, HF1.out.trans0 (Fr.drewN _ _ _)⟩
              case measure => simp [intOf]
            · have HNX2 : Hid (nrm (zbst b k (k - L.getD N k)) = (S, D)) := Lib.hid (by rw [HLN2.out, HNX.out, if_neg (by omega)])
              have HFF : Hid (k ≤ L.getD N k + 32768) := Lib.hid (by rw [HLN2.out]; omega)
              go_wp2_with fail
              go_quiet (fail)
              go_wp2_with fail
              go_wp2_with (go_at_call 230; refine (same_any a bm _ c b k t S e _ (H1.fr0 (Fr.drewN _ _ _)) htk (by omega) (by rw [HM.out]; omega)).mono ?_; rintro _ w1 ⟨rfl, hf1⟩)
              have HF1 := Lib.hid ((HFR.out.trans0 (Fr.drewN _ _ _)).trans0 hf1)
              have H2 := H.out.fr0 HF1.out
              have hd0 := H2.c0
              have hd1 := H2.c1
              rw [HM.out] at hd0
              have hcl1 := (HFR.out.trans0 (Fr.drewN _ _ _)).trans0 hf1
              obtain ⟨B3, o3, he3, hcl3⟩ := (HSL.out.fr0 HF1.out).at N (by rw [HN.out]; omega)
              obtain ⟨rfl, rfl⟩ : B2 = B3 ∧ o2 = o3 := by simpa using he3
              have hcl4 : w1.cell? ⟨B2, o2 + N, none⟩ = some (.int .i64 (t : Int)) := by rw [hcl3, ← HLN2.out]; simp [show N < L.length by rw [HN.out]; omega]
              clear hf1 hcl1 he3 hcl3
              go_roundw
              case rel => exact ⟨N, S, D, by omega, rfl, rfl, rfl, HNX2.out, fun _ => HFF.out, HF1.out⟩
              case measure => simp [intOf]
          · have HR : Hid (nrm (zbst b k (min k 32768)) = (S, D)) := Lib.hid (by
              have h1 := HPT2.out
              have h2 := HST.out
              have h3 := HFAR.out
              have h4 : k - L.getD (N + 1) k ≤ min k 32768 := by
                by_cases h5 : N + 1 < n
                · have := h3 h5; omega
                · have : L.getD (N + 1) k = k := by simp [List.getElem?_eq_none (show L.length ≤ N + 1 by rw [HN.out]; omega)]
                  omega
              rw [← h2, long_stop b k (k - L.getD (N + 1) k) (min k 32768) h4 (by omega) fun i _ _ => ?_]
              rw [h2]
              have := HTOP.out i
              omega)
            have hd : decide (S < e) = false := decide_eq_false (by omega)
            go_wp2_with fail
            go_quiet (fail)
            go_wp2
            go_ret2
            exact ⟨congrArg (fun r : Nat × Nat => Ending.returned (Value.tuple #[.int .i64 (r.1 : Int), .int .i64 (r.2 : Int)])) HR.out.symm, HFR.out.trans0 (Fr.drewN _ _ _)⟩
        · have HR : Hid (nrm (zbst b k (min k 32768)) = (S, D)) := Lib.hid (by
            have h1 := HPT2.out
            have h2 := HST.out
            have h3 := HFAR.out
            have h4 : k - L.getD (N + 1) k ≤ min k 32768 := by
              by_cases h5 : N + 1 < n
              · have := h3 h5; omega
              · have : L.getD (N + 1) k = k := by simp [List.getElem?_eq_none (show L.length ≤ N + 1 by rw [HN.out]; omega)]
                omega
            rw [← h2, long_stop b k (k - L.getD (N + 1) k) (min k 32768) h4 (by omega) fun i h5 h6 => ?_]
            exact Nat.le_trans (HGN2.out i (by omega) (by omega)) (nrm_ge _))
          have hd : decide ((k : Int) - (t : Int) ≤ 32768) = false := decide_eq_false hf
          go_wp2_with fail
          go_quiet (fail)
          go_wp2
          go_ret2
          exact ⟨congrArg (fun r : Nat × Nat => Ending.returned (Value.tuple #[.int .i64 (r.1 : Int), .int .i64 (r.2 : Int)])) HR.out.symm, HFR.out.trans0 (Fr.drewN _ _ _)⟩
  · have HR : Hid (nrm (zbst b k (min k 32768)) = (2, 0)) := Lib.hid (by
      rw [← nrm_zero b k, long_stop b k 0 (min k 32768) (by omega) (by omega) fun i _ _ => ?_]
      have := run_le_e b i k _ rfl (by rw [HM.out]; exact hk)
      rw [nrm_zero]
      rw [HM.out] at this
      omega)
    have emin : (if ((m : Int) - (k : Int)) < 258 then ((m : Int) - (k : Int)) else 258) = ((m - k : Nat) : Int) := by split <;> omega
    obtain ⟨e, he⟩ : ∃ e, m - k = e := ⟨_, rfl⟩
    rw [he] at emin
    have r5 : (e : Int) < 3 := by omega
    go_enter Tryz.func205, Tryz.ntmps205
    go_wp2_with fail
    go_quiet (fail)
    go_wp2
    go_ret2
    exact ⟨congrArg (fun r : Nat × Nat => Ending.returned (Value.tuple #[.int .i64 (r.1 : Int), .int .i64 (r.2 : Int)])) HR.out.symm, Fr.drewN _ _ _⟩
end Go.Proofs.YtnndgpggjlhhpaaGreat.M

namespace Go.Proofs.YtnndgpggjlhhpaaGreat.M
open Go.RowKit Go.MapKept Go.ChangeMaps
def Own (a bm : Nat) (T : Nat → Prop) : Nat → Prop := fun g => g = a ∨ g = bm ∨ T g
structure PsIs (w : World) (a bm : Nat) (p : Option Addr) (c : Nat) (b : List Nat) (k : Nat) (T : Nat → Prop) : Prop where
  is : PastIs w a bm p c b k
  grp : ∃ es clock, Grp w bm T (lst b k) es clock
  a1 : ¬ T a
  a2 : a ≠ bm
  lt : ∀ g, T g → g < w.heap.size
  off : b ≠ [] → Off (Own a bm T) p
structure PsTo (w w' : World) (a bm : Nat) (T T' : Nat → Prop) : Prop where
  fr : Fr (Own a bm T) w w'
  new : ∀ g, T' g → T g ∨ w.heap.size ≤ g
theorem PsIs.fr {S : Nat → Prop} {w w' : World} {a bm : Nat} {p : Option Addr} {c : Nat} {b : List Nat} {k : Nat} {T : Nat → Prop} (h : PsIs w a bm p c b k T) (hf : Fr S w w') (hs : ∀ g, Own a bm T g → ¬ S g) (hp : b ≠ [] → Off S p) : PsIs w' a bm p c b k T :=
  ⟨h.is.fr hf (hs a (.inl rfl)) hp, let ⟨es, cl, hg⟩ := h.grp; ⟨es, cl, hg.fr hf (hs bm (.inr (.inl rfl))) fun g hg => hs g (.inr (.inr hg))⟩, h.a1, h.a2, fun g hg => Nat.lt_of_lt_of_le (h.lt g hg) hf.size, h.off⟩
theorem PsIs.fr0 {w w' : World} {a bm : Nat} {p : Option Addr} {c : Nat} {b : List Nat} {k : Nat} {T : Nat → Prop} (h : PsIs w a bm p c b k T) (hf : Fr S0 w w') : PsIs w' a bm p c b k T := h.fr hf (fun _ _ h => h) fun _ => Off.s0 _
theorem PsTo.refl (w : World) (a bm : Nat) (T : Nat → Prop) : PsTo w w a bm T T := ⟨Fr.refl _ _, fun _ h => .inl h⟩
theorem PsTo.trans {w w1 w2 : World} {a bm : Nat} {T T1 T2 : Nat → Prop} (h : PsTo w w1 a bm T T1) (k : PsTo w1 w2 a bm T1 T2) : PsTo w w2 a bm T T2 :=
  ⟨h.fr.trans k.fr fun j hj hs => by
    rcases hs with h1 | h1 | h1
    · exact .inl h1
    · exact .inr (.inl h1)
    · rcases h.new j h1 with h2 | h2
      · exact .inr (.inr h2)
      · omega, fun g hg => by
    rcases k.new g hg with h1 | h1
    · exact h.new g h1
    · exact .inr (Nat.le_trans h.fr.size h1)⟩
theorem PsTo.fr0 {w w1 w2 : World} {a bm : Nat} {T T1 : Nat → Prop} (h : PsTo w w1 a bm T T1) (k : Fr S0 w1 w2) : PsTo w w2 a bm T T1 := ⟨h.fr.trans0 k, h.new⟩
theorem PsIs.next {w : World} {a bm : Nat} {p : Option Addr} {c : Nat} {b : List Nat} {K : Nat} {T : Nat → Prop} {es : Array MapEntry} {clock : Nat} (h : PastIs w a bm p c b K) (hg : Grp w bm T (lst b (K + 1)) es clock) (a1 : ¬ T a) (a2 : a ≠ bm) (lt : ∀ g, T g → g < w.heap.size) (off : b ≠ [] → Off (Own a bm T) p) :
    PsIs (w.setCell ⟨a, 1, none⟩ (.int .i64 ((K : Int) + 1))) a bm p c b (K + 1) T :=
  ⟨h.to (K + 1) fun hb ad he => fun e => off hb ad he (.inl e), ⟨es, clock, hg.fr (Fr.setCell (· = a) w ⟨a, 1, none⟩ _ rfl) (fun e => a2 e.symm) fun g hg e => a1 (e ▸ hg)⟩, a1, a2, fun g hg => by have := lt g hg; simpa [World.setCell] using this, off⟩
theorem lst_same (b : List Nat) (K : Nat) (h : ¬ K + 3 ≤ b.length) : lst b (K + 1) = lst b K := by
  funext x y z
  rw [lst_next, if_neg (fun h1 => h h1.1)]
theorem PsIs.skip {w : World} {a bm : Nat} {p : Option Addr} {c : Nat} {b : List Nat} {K : Nat} {T : Nat → Prop} (h : PsIs w a bm p c b K T) (h3 : ¬ K + 3 ≤ b.length) : PsIs (w.setCell ⟨a, 1, none⟩ (.int .i64 ((K : Int) + 1))) a bm p c b (K + 1) T := by
  obtain ⟨es, cl, hg⟩ := h.grp
  rw [← lst_same b K h3] at hg
  exact PsIs.next h.is hg h.a1 h.a2 h.lt h.off
theorem PsTo.set {w w1 : World} {a bm : Nat} {T T1 : Nat → Prop} (h : PsTo w w1 a bm T T1) (v : Value) : PsTo w (w1.setCell ⟨a, 1, none⟩ v) a bm T T1 :=
  ⟨h.fr.trans (Fr.setCell (· = a) w1 ⟨a, 1, none⟩ v rfl) fun _ _ e => .inl e, h.new⟩
theorem step_many {P : Program} {t e : TypeId} {z : Value} {bytes : Nat} (he : ElemOk P t e z 1 bytes) {ops : Array Oper} {o : Oper} {a : Act} {K : Act → World → Prop} {Q : Exit → Act → World → Prop} {E : Prop} {w : World} (s x : Operand)
    {v : Value} {n : Nat} {xs : List Value} (own : w.ownsRow 0 e 1 v n xs) {u : Value} {m : Nat} {ys : List Value} (hsrc : SrcIs w u m ys) {N : Nat} (hN : n + m = N)
    (hgd : o.guard = none) (ho : o.op = .call { callee := .builtin .append, args := #[s, x], argTypes := #[t, t] }) (hs : a.eval s = v) (hx : a.eval x = u) (h1 : ∀ y ∈ ys, y.oneCell' = true) (hr : Room N)
    (h : ∀ p c w', w'.ownsRow 0 e 1 (.slice p N c) N (xs ++ ys) → w.grownBy w' v.ownBlock → (Value.ownBlock (.slice p N c) = v.ownBlock ∨ Value.ownBlock (.slice p N c) = some w.heap.size) →
      K (a.put o.dst (.slice p N c)) w') :
    if Region.wanted o (yielded ops a.tmps) = true then Oper.wp P o a w K Q else E := by
  subst hN
  have hw : Region.wanted o (yielded ops a.tmps) = true := by simp [Region.wanted, hgd]
  rw [if_pos hw]
  obtain ⟨p, c, w', hrun, h2, h3, h4⟩ := run_many (ty := o.type) he own hsrc h1 hr
  unfold Oper.wp
  simp only [execOp, ho, resolve, invoke, builtin, Sem.run_bind, Sem.run_pure, Result.andThen_ok, List.map_toArray, List.map_cons, List.map_nil, hs, hx, hrun]
  exact h p c w' h2 h3 h4
theorem Grp.bound {w : World} {bm : Nat} {T : Nat → Prop} {f : Nat → Nat → Nat → List Nat} {es : Array MapEntry} {clock : Nat} (h : Grp w bm T f es clock) : Grp w bm (fun g => T g ∧ g < w.heap.size) f es clock :=
  ⟨h.row, h.st, h.keys, h.own, fun e he g hg => ⟨h.blk e he g hg, by
    obtain ⟨x, y, z, _, _, _, hk⟩ := h.keys e he
    exact ((h.own e he x y z hk).lt g hg).2⟩, h.nil, h.apart, fun h1 => h.off h1.1⟩
theorem ints_append (a b : List Nat) : ints (a ++ b) = ints a ++ ints b := by simp [ints]
theorem PsIs.ent {w : World} {a bm : Nat} {p : Option Addr} {c : Nat} {b : List Nat} {K : Nat} {T : Nat → Prop} (h : PsIs w a bm p c b K T) (h3 : K + 3 ≤ b.length) {x y z : Nat} (hx : b.getD K 0 = x) (hy : b.getD (K + 1) 0 = y) (hz : b.getD (K + 2) 0 = z)
    (h8 : x < 256 ∧ y < 256 ∧ z < 256) {n : Nat} (hn : (lst b K x y z).length = n) :
    ∃ v st es1 cl1, (∀ U, Fr S0 w U → (Instr.mapEntry 235 (.map (some bm)) (.agg #[.int .u8 (x : Int), .int .u8 (y : Int), .int .u8 (z : Int)])).run Tryz.prog U = .ok (.tuple #[v, .int .i64 st]) (setBlock U bm (.map es1 cl1))) ∧
      (∀ U Wp, Fr S0 w U → Fr S0 (setBlock U bm (.map es1 cl1)) Wp → Wp.ownsRow 0 3 1 v n (ints (lst b K x y z)) ∧ PastIs Wp a bm p c b K) ∧
      (∀ U Wp p' c' w', Fr S0 w U → Fr S0 (setBlock U bm (.map es1 cl1)) Wp → w'.ownsRow 0 3 1 (.slice p' (n + 1) c') (n + 1) (ints (lst b K x y z) ++ ints [K]) → Wp.grownBy w' v.ownBlock → (Value.ownBlock (.slice p' (n + 1) c') = v.ownBlock ∨ Value.ownBlock (.slice p' (n + 1) c') = some Wp.heap.size) →
        ∃ w'', (Instr.entryStore 235 (.map (some bm)) (.int .i64 st) (.slice p' (n + 1) c')).run Tryz.prog w' = .ok () w'' ∧
          ∃ T', PastIs w'' a bm p c b K ∧ (∃ es cl, Grp w'' bm T' (lst b (K + 1)) es cl) ∧ ¬ T' a ∧ (∀ g, T' g → g < w''.heap.size) ∧ (b ≠ [] → Off (Own a bm T') p) ∧ PsTo w w'' a bm T T') := by
  obtain ⟨es, cl, hg⟩ := h.grp
  obtain ⟨v, st, es1, cl1, hown, hblk, hme, hes⟩ := hg.add x y z h8.1 h8.2.1 h8.2.2 K
  have hbm : bm < w.heap.size := (Array.getElem?_eq_some_iff.1 hg.row).1
  have ha : a < w.heap.size := (Array.getElem?_eq_some_iff.1 h.is.blk).1
  have hvb : ∀ g, v.ownBlock = some g → g ≠ bm := fun g h1 e => hg.off (e ▸ hblk g h1)
  have frU : ∀ U Wp, Fr S0 w U → Fr S0 (setBlock U bm (.map es1 cl1)) Wp → Fr (· = bm) w Wp ∧ Wp.heap[bm]? = some (.map es1 cl1) := by
    intro U Wp hU hW
    have h1 := heap_setBlock (o' := .map es1 cl1) (hU.row hg.row (fun h => h))
    exact ⟨((Fr.mono hU (T := (· = bm)) (fun _ _ e => e.elim)).trans (h1.2.trans0 hW) fun _ _ e => e), hW.row h1.1 (fun h => h)⟩
  refine ⟨v, st, es1, cl1, fun U hU => hme U (hU.row hg.row (fun h => h)), fun U Wp hU hW => ?_, fun U Wp p' c' w' hU hW ho hgr hat => ?_⟩
  · obtain ⟨h1, h2⟩ := frU U Wp hU hW
    rw [← hn]
    exact ⟨h1.owns hown fun g hg' e => hvb g hg' e, h.is.fr h1 h.a2 fun hb ad he e => h.off hb ad he (.inr (.inl e))⟩
  · obtain ⟨h1, h2⟩ := frU U Wp hU hW
    have h4 : w'.heap[bm]? = some (.map es1 cl1) := (hgr.block bm (Array.getElem?_eq_some_iff.1 h2).1 (fun e => hvb bm e.symm rfl)).trans h2
    obtain ⟨es2, cl2, hrun, hgrp⟩ := hes (.slice p' (n + 1) c')
    have h5 := heap_setBlock (o' := .map es2 cl2) h4
    have f1 : Fr (fun g => g = bm ∨ v.ownBlock = some g) w (setBlock w' bm (.map es2 cl2)) :=
      ((h1.mono (T := fun g => g = bm ∨ v.ownBlock = some g) fun _ _ e => .inl e).trans (Fr.grown hgr) fun _ _ e => .inr e).trans h5.2 fun _ _ e => .inl e
    have hv' : ∀ g, Value.ownBlock (.slice p' (n + 1) c') = some g → v.ownBlock = some g ∨ w.heap.size ≤ g := by
      intro g hg'
      rcases hat with e | e
      · exact .inl (e ▸ hg')
      · rw [e] at hg'
        cases hg'
        exact .inr h1.size
    have own2 : (setBlock w' bm (.map es2 cl2)).ownsRow 0 3 1 (.slice p' (n + 1) c') (lst b K x y z ++ [K]).length (ints (lst b K x y z ++ [K])) := by
      rw [ints_append, List.length_append, hn]
      refine h5.2.owns ho fun g hg' e => ?_
      rcases hv' g hg' with h6 | h6
      · exact hvb g h6 e
      · omega
    have hG := (hgrp _ f1 h5.1 own2 hv' (lst b (K + 1)) (fun a' b' c' => by
      rw [lst_next, hx, hy, hz]
      by_cases h6 : x = a' ∧ y = b' ∧ z = c'
      · obtain ⟨rfl, rfl, rfl⟩ := h6
        rw [if_pos ⟨h3, rfl, rfl, rfl⟩, if_pos ⟨rfl, rfl, rfl⟩]
      · rw [if_neg (fun h7 => h6 h7.2), if_neg h6])).bound
    have hsz := f1.size
    refine ⟨_, hrun w' h4, _, h.is.fr f1 ?_ ?_, ⟨es2, cl2, hG⟩, ?_, fun g h6 => h6.2, fun hb ad he => ?_, ?_, fun g h6 => h6.1⟩
    · rintro (e | e)
      · exact h.a2 e
      · exact h.a1 (hblk a e)
    · rintro hb ad he (e | e)
      · exact h.off hb ad he (.inr (.inl e))
      · exact h.off hb ad he (.inr (.inr (hblk _ e)))
    · rintro ⟨e | e, -⟩
      · exact h.a1 e
      · omega
    · rintro (e | e | ⟨e | e, -⟩)
      · exact h.off hb ad he (.inl e)
      · exact h.off hb ad he (.inr (.inl e))
      · exact h.off hb ad he (.inr (.inr e))
      · have := h.is.txt.lt hb ad he; omega
    · exact f1.mono fun g _ e => by
        rcases e with e | e
        · exact .inr (.inl e)
        · exact .inr (.inr (hblk g e))
theorem pass_any (a bm : Nat) (p : Option Addr) (c : Nat) (b : List Nat) (k n : Nat) (T : Nat → Prop) (w : World) (h : PsIs w a bm p c b k T) (hn : k + n ≤ b.length) :
    Calls Tryz.prog 185 #[.pointer (some ⟨a, 0, none⟩), .int .i64 (n : Nat)] w fun r w' => r = .returned (.tuple #[]) ∧ ∃ T', PsIs w' a bm p c b (k + n) T' ∧ PsTo w w' a bm T T' := by
  have H := Lib.hid h
  have hcap := h.is.cap
  have hlen := h.is.len
  obtain ⟨m, hm⟩ : ∃ m, b.length = m := ⟨_, rfl⟩
  have HM := Lib.hid hm
  rw [hm] at hcap hlen hn
  clear h hm
  go_enter Tryz.func185, Tryz.ntmps185
  go_wp2_with fail
  go_loopw [4, 6] (fun _ i wr => ∃ (j : Nat) (T' : Nat → Prop), j ≤ n ∧ i = .int .i64 j ∧ PsIs wr a bm p c b (k + j) T' ∧ PsTo w wr a bm T T') (fun _ i _ => n - (intOf i).toNat)
  case atStart => exact ⟨0, T, by omega, rfl, H.out, PsTo.refl _ _ _ _⟩
  case round =>
    obtain ⟨j, T1, hj, rfl, hps, hto⟩ := hrel
    have hc0 := hps.is.c0
    have hc1 := hps.is.c1
    have hc2 := hps.is.c2
    have hf1 := hps.is.f1
    rw [HM.out] at hc0
    have HPS := Lib.hid hps
    have HTO := Lib.hid hto
    clear hps hto
    obtain ⟨K, hK⟩ : ∃ K, k + j = K := ⟨_, rfl⟩
    rw [hK] at hc1 HPS
    have HKK := Lib.hid hK
    by_cases hjn : (j : Int) < (n : Int)
    · have hKm : K < m := by omega
      clear hK
      by_cases h3 : (3 : Int) ≤ (m : Int) - (K : Int)
      · go_wp2_with fail
        go_quiet (fail)
        go_wp2_with fail
        obtain ⟨W1, hW⟩ : ∃ W1, wr.drewN nq = W1 := ⟨_, rfl⟩
        rw [hW]
        have HP1 : Hid (PsIs W1 a bm p c b K T1) := Lib.hid (by rw [← hW]; exact HPS.out.fr0 (Fr.drewN _ _ _))
        have HT1 : Hid (PsTo w W1 a bm T T1) := Lib.hid (by rw [← hW]; exact HTO.out.fr0 (Fr.drewN _ _ _))
        clear hc0 hc1 hc2 hf1 hW
        have hc0 := HP1.out.is.c0
        have hc1 := HP1.out.is.c1
        rw [HM.out] at hc0
        obtain ⟨B, o, hpe, hx0⟩ := HP1.out.is.txt.at K (by rw [HM.out]; omega)
        obtain ⟨B', o', hpe', hx1⟩ := HP1.out.is.txt.at (K + 1) (by rw [HM.out]; omega)
        obtain ⟨B'', o'', hpe'', hx2⟩ := HP1.out.is.txt.at (K + 2) (by rw [HM.out]; omega)
        rw [hpe] at hpe' hpe''
        obtain ⟨rfl, rfl⟩ : B = B' ∧ o = o' := by simpa using hpe'
        obtain ⟨rfl, rfl⟩ : B = B'' ∧ o = o'' := by simpa using hpe''
        subst hpe
        have H80 := HP1.out.is.small _ (List.getElem_mem (show K < b.length by rw [HM.out]; omega))
        have H81 := HP1.out.is.small _ (List.getElem_mem (show K + 1 < b.length by rw [HM.out]; omega))
        have H82 := HP1.out.is.small _ (List.getElem_mem (show K + 2 < b.length by rw [HM.out]; omega))
        have HX := getD_at b K (by rw [HM.out]; omega)
        have HY := getD_at b (K + 1) (by rw [HM.out]; omega)
        have HZ := getD_at b (K + 2) (by rw [HM.out]; omega)
        obtain ⟨x, hxe⟩ : ∃ x, b[K]'(by rw [HM.out]; omega) = x := ⟨_, rfl⟩
        obtain ⟨y, hye⟩ : ∃ y, b[K + 1]'(by rw [HM.out]; omega) = y := ⟨_, rfl⟩
        obtain ⟨z, hze⟩ : ∃ z, b[K + 2]'(by rw [HM.out]; omega) = z := ⟨_, rfl⟩
        rw [hxe] at hx0 HX H80
        rw [hye] at hx1 HY H81
        rw [hze] at hx2 HZ H82
        clear hpe' hpe'' hxe hye hze
        have r1 : (K : Int) ≤ (m : Int) := by omega
        have r2 : (m : Int) ≤ (c : Int) := by omega
        have r3 : ¬ c = K := by omega
        have r4 : ¬ m - K < 3 := by omega
        have hat : ∀ w : World, (Instr.arrayAt 259 (.slice (some ⟨B, o + K, none⟩) (m - K) (c - K))).run Tryz.prog w = .ok (.pointer (some ⟨B, o + K, none⟩)) w := fun w => run_arrayAt w _ _ 3 _ _ _ Tryz.underlying259 (by omega)
        have hx1' : W1.cell? ⟨B, o + K + 1, none⟩ = some (.int .u8 (y : Int)) := hx1
        have hx2' : W1.cell? ⟨B, o + K + 2, none⟩ = some (.int .u8 (z : Int)) := hx2
        clear hx1 hx2
        have FA : Fr S0 W1 (W1.alloc (.cells #[.int .u8 0, .int .u8 0, .int .u8 0] 259)) := Fr.alloc _ _ _
        have g0 := FA.cell hc0 (fun h => h)
        have g1 := FA.cell hc1 (fun h => h)
        have g2 := FA.cell hx0 (fun h => h)
        have g3 := FA.cell hx1' (fun h => h)
        have g4 := FA.cell hx2' (fun h => h)
        clear FA
        go_region
        obtain ⟨W2, hW⟩ : ∃ W2, (W1.alloc (.cells #[.int .u8 (x : Int), .int .u8 (y : Int), .int .u8 (z : Int)] 259)).drew = W2 := ⟨_, rfl⟩
        have F2 : Fr S0 W1 W2 := by rw [← hW]; exact (Fr.alloc S0 _ _).trans0 (Fr.drew _ _)
        have hs0 : W2.heap[W1.heap.size]? = some (.cells #[.int .u8 (x : Int), .int .u8 (y : Int), .int .u8 (z : Int)] 259) := by rw [← hW]; exact heap_alloc_new W1 _
        rw [hW]
        obtain ⟨S, hS⟩ : ∃ S, W1.heap.size = S := ⟨_, rfl⟩
        rw [hS] at hs0
        rw [hS]
        have HP2 : Hid (PsIs W2 a bm (some ⟨B, o, none⟩) c b K T1) := Lib.hid (HP1.out.fr0 F2)
        have HT2 : Hid (PsTo w W2 a bm T T1) := Lib.hid (HT1.out.fr0 F2)
        clear hc0 hc1 hW F2 hx0 hx1' hx2' g0 g1 g2 g3 g4 hat r1 r2 r3 r4 hS
        have k0 : W2.cell? ⟨S, 0, none⟩ = some (.int .u8 (x : Int)) := by simp [World.cell?, hs0]
        have k1 : W2.cell? ⟨S, 1, none⟩ = some (.int .u8 (y : Int)) := by simp [World.cell?, hs0]
        have k2 : W2.cell? ⟨S, 2, none⟩ = some (.int .u8 (z : Int)) := by simp [World.cell?, hs0]
        have hc1 := HP2.out.is.c1
        have hc2 := HP2.out.is.c2
        obtain ⟨nn, hnn⟩ : ∃ nn, (lst b K x y z).length = nn := ⟨_, rfl⟩
        have hnK : nn ≤ K := by rw [← hnn]; exact lst_len b K x y z
        obtain ⟨v, st, es1, cl1, hme, hmid, hfin⟩ := HP2.out.ent (by rw [HM.out]; omega) HX HY HZ ⟨H80, H81, H82⟩ hnn
        obtain ⟨NN, hNN⟩ : ∃ NN, nn + 1 = NN := ⟨_, rfl⟩
        rw [hNN] at hfin
        have FA : Fr S0 W2 (W2.alloc (.cells #[.int .i64 (K : Int)] 3)) := Fr.alloc _ _ _
        have fA1 := (FA.trans0 (Fr.drew S0 _)).cell hc1 (fun h => h)
        have j0 := FA.cell k0 (fun h => h)
        have j1 := FA.cell k1 (fun h => h)
        have j2 := FA.cell k2 (fun h => h)
        have j3 := FA.cell hc2 (fun h => h)
        have e1 := hme W2.drew (Fr.drew _ _)
        have e2 := hme (W2.alloc (.cells #[.int .i64 (K : Int)] 3)).drew (FA.trans0 (Fr.drew _ _))
        obtain ⟨WA, hWA⟩ : ∃ WA, setBlock W2.drew bm (.map es1 cl1) = WA := ⟨_, rfl⟩
        obtain ⟨WB, hWB⟩ : ∃ WB, setBlock (W2.alloc (.cells #[.int .i64 (K : Int)] 3)).drew bm (.map es1 cl1) = WB := ⟨_, rfl⟩
        rw [hWA] at e1
        rw [hWB] at e2
        have hA1 := (hmid W2.drew WA (Fr.drew _ _) (by rw [hWA]; exact Fr.refl _ _)).2.c1
        have OA := Lib.hid (hmid W2.drew (WA.alloc (.cells #[.int .i64 (K : Int)] 3)) (Fr.drew _ _) (by rw [hWA]; exact Fr.alloc _ _ _)).1
        have OB := Lib.hid (hmid (W2.alloc (.cells #[.int .i64 (K : Int)] 3)).drew WB (FA.trans0 (Fr.drew _ _)) (by rw [hWB]; exact Fr.refl _ _)).1
        have FINA := Lib.hid (fun p' c' w' => hfin W2.drew (WA.alloc (.cells #[.int .i64 (K : Int)] 3)) p' c' w' (Fr.drew _ _) (by rw [hWA]; exact Fr.alloc _ _ _))
        have FINB := Lib.hid (fun p' c' w' => hfin (W2.alloc (.cells #[.int .i64 (K : Int)] 3)).drew WB p' c' w' (FA.trans0 (Fr.drew _ _)) (by rw [hWB]; exact Fr.refl _ _))
        clear hme hmid hfin
        have SA : Hid (SrcIs (WA.alloc (.cells #[.int .i64 (K : Int)] 3)) (.slice (some ⟨WA.heap.size, 0, none⟩) 1 1) 1 (ints [K])) := Lib.hid (SrcIs.ofOwns (own_one WA (.int .i64 (K : Int)) 3))
        have SB : Hid (SrcIs WB (.slice (some ⟨W2.heap.size, 0, none⟩) 1 1) 1 (ints [K])) := Lib.hid (by
          have h1 := (own_one W2 (.int .i64 (K : Int)) 3)
          refine SrcIs.ofOwns (e := 3) ?_
          rw [← hWB]
          have hbm : bm < W2.heap.size := by obtain ⟨es, cl, hg⟩ := HP2.out.grp; exact (Array.getElem?_eq_some_iff.1 hg.row).1
          obtain ⟨es, cl, hg⟩ := HP2.out.grp
          exact (heap_setBlock (o' := .map es1 cl1) ((FA.trans0 (Fr.drew S0 _)).row hg.row (fun h => h))).2.owns ((Fr.drew S0 _).owns h1 fun _ _ h => h) fun g hg' e => by
            have hg2 : W2.heap.size = g := Option.some.inj hg'
            omega)
        have HNN := Lib.hid hNN
        have HR : Hid (Room NN) := Lib.hid (Room.mk (by omega))
        clear hWA hWB FA hnn hs0 hNN
        go_wp2_with fail
        go_region_law (first
          | (refine step_many elInt (.tmp 35) (.tmp 40) OA.out SA.out HNN.out rfl rfl rfl rfl (ones _) HR.out ?_; intro p11 c11 w11 own11 g11 at11; obtain ⟨w12, e12, h12⟩ := FINA.out p11 c11 w11 own11 g11 at11; have H12 := Lib.hid h12; clear h12 own11 g11 at11)
          | (refine step_many elInt (.tmp 35) (.tmp 40) OB.out SB.out HNN.out rfl rfl rfl rfl (ones _) HR.out ?_; intro p11 c11 w11 own11 g11 at11; obtain ⟨w12, e12, h12⟩ := FINB.out p11 c11 w11 own11 g11 at11; have H12 := Lib.hid h12; clear h12 own11 g11 at11))
        all_goals
          obtain ⟨T2, i2, g2, a2, l2, o2, t2⟩ := H12.out
          clear hc1 hc2 k0 k1 k2 fA1 j0 j1 j2 j3 e1 e2 e12
          have hd1 := i2.c1
          have hf1 := i2.f1
          have HI := Lib.hid (And.intro i2 (And.intro g2 (And.intro a2 (And.intro l2 (And.intro o2 t2)))))
          clear i2 g2 a2 l2 o2 t2
          go_wp2_with fail
          go_roundw
          case rel => exact ⟨j + 1, T2, by omega, by simp, by
            obtain ⟨i2, ⟨es, cl, hg⟩, a2, l2, o2, t2⟩ := HI.out
            rw [show k + (j + 1) = K + 1 by have := HKK.out; omega]
            exact PsIs.next i2 hg a2 HP2.out.a2 l2 o2, by
            obtain ⟨i2, g2, a2, l2, o2, t2⟩ := HI.out
            exact (HT2.out.trans t2).set _⟩
          case measure => simp [intOf]; omega
      · go_wp2_with fail
        go_quiet (fail)
        go_wp2_with fail
        go_roundw
        case rel => exact ⟨j + 1, T1, by omega, by simp, by rw [show k + (j + 1) = K + 1 by have := HKK.out; omega]; exact (HPS.out.fr0 (Fr.drewN _ _ _)).skip (by rw [HM.out]; omega), (HTO.out.fr0 (Fr.drewN _ _ _)).set _⟩
        case measure => simp [intOf]; omega
    · go_wp2
      go_end0
      exact ⟨rfl, T1, by rw [show k + n = K by have := HKK.out; omega]; exact HPS.out, HTO.out⟩
end Go.Proofs.YtnndgpggjlhhpaaGreat.M

namespace Go.Proofs.YtnndgpggjlhhpaaGreat.M
open Go.RowKit Go.MapKept
def tkc (t : Tk) : Array Value := #[.int .u8 (t.1 : Nat), .int .i64 (t.2.1 : Nat), .int .i64 (t.2.2 : Nat)]
theorem szTok : (Tryz.prog.info? 186).map (·.size) = some 3 := by kernel_rfl
theorem width_any (t : Tk) (w : World) : Calls Tryz.prog 186 #[.agg (tkc t)] w fun r w' => r = .returned (.int .i64 (wid t : Nat)) ∧ Fr S0 w w' := by
  obtain ⟨x, l, d⟩ := t
  unfold tkc
  by_cases h : d = 0
  · have HW : Hid (wid (x, l, d) = 1) := Lib.hid (by simp [wid, h])
    subst h
    go_enter Tryz.func186, Tryz.ntmps186
    go_wp2
    go_ret
    exact ⟨congrArg (fun z : Nat => Ending.returned (Value.int .i64 (z : Int))) HW.out.symm, Fr.alloc _ _ _⟩
  · have HW : Hid (wid (x, l, d) = l) := Lib.hid (by simp [wid, h])
    have h1 : ¬ (d : Int) = 0 := by omega
    go_enter Tryz.func186, Tryz.ntmps186
    go_wp2
    go_ret
    exact ⟨congrArg (fun z : Nat => Ending.returned (Value.int .i64 (z : Int))) HW.out.symm, Fr.alloc _ _ _⟩
theorem results_row_one {P : Program} {fn : Func} {p : Tmp} {ty : TypeId} (h : fn.results = #[.cell p ty]) (tmps : Array Value) (w : World) {g : Nat} {t : TypeId} {cs : Array Value} {fr : Nat × Nat} {d : TypeDesc}
    (hp : tmps.getD p undef = .pointer (some ⟨g, 0, none⟩)) (hg : w.heap[g]? = some (.cells cs t fr)) (hu : P.underlying ty = some d) (hd : (match d with | .struct _ | .array _ _ => true | _ => false) = true) (hi : (P.info? ty).map (·.size) = some cs.size) :
    (results fn tmps).run P w = .ok (.agg cs) w := by
  have hp' : tmps[p]?.getD undef = .pointer (some ⟨g, 0, none⟩) := by simpa using hp
  simp only [results, h]
  simp [hp', asAddr, run_loadVar_row w g t ty cs fr d hg hu hd hi]
theorem tok_facts {w : World} {g : Nat} {x l d : Value} {t : TypeId} (h : w.heap[g]? = some (.cells #[x, l, d] t)) :
    w.cell? ⟨g, 0, none⟩ = some x ∧ w.cell? ⟨g, 1, none⟩ = some l ∧ w.cell? ⟨g, 2, none⟩ = some d ∧ w.frozen? ⟨g, 0, none⟩ = false ∧ w.frozen? ⟨g, 1, none⟩ = false ∧ w.frozen? ⟨g, 2, none⟩ = false :=
  ⟨by simp [World.cell?, h], by simp [World.cell?, h], by simp [World.cell?, h], by simp [World.frozen?, h], by simp [World.frozen?, h], by simp [World.frozen?, h]⟩
theorem tok_set {w : World} {g : Nat} {x l d x' l' d' : Value} {t : TypeId} (h : w.heap[g]? = some (.cells #[x, l, d] t)) :
    (((w.setCell ⟨g, 0, none⟩ x').setCell ⟨g, 1, none⟩ l').setCell ⟨g, 2, none⟩ d').heap[g]? = some (.cells #[x', l', d'] t) ∧ Fr (· = g) w (((w.setCell ⟨g, 0, none⟩ x').setCell ⟨g, 1, none⟩ l').setCell ⟨g, 2, none⟩ d') := by
  refine ⟨?_, ((Fr.setCell (· = g) w ⟨g, 0, none⟩ x' rfl).trans (Fr.setCell (· = g) _ ⟨g, 1, none⟩ l' rfl) fun _ _ e => e).trans (Fr.setCell (· = g) _ ⟨g, 2, none⟩ d' rfl) fun _ _ e => e⟩
  have h1 : (w.setCell ⟨g, 0, none⟩ x').heap[g]? = some (.cells #[x', l, d] t) := by rw [heap_setCell_same w g 0 _ _ _ h]; rfl
  have h2 : ((w.setCell ⟨g, 0, none⟩ x').setCell ⟨g, 1, none⟩ l').heap[g]? = some (.cells #[x', l', d] t) := by rw [heap_setCell_same _ g 1 _ _ _ h1]; rfl
  rw [heap_setCell_same _ g 2 _ _ _ h2]; rfl
theorem token_any (a bm : Nat) (p : Option Addr) (c : Nat) (b : List Nat) (k : Nat) (T : Nat → Prop) (w : World) (h : PsIs w a bm p c b k T) (hk : k < b.length) :
    Calls Tryz.prog 184 #[.pointer (some ⟨a, 0, none⟩)] w fun r w' => r = .returned (.agg (tkc (tok b k))) ∧ Fr S0 w w' := by
  have H := Lib.hid h
  obtain ⟨⟨sz, d⟩, hR⟩ : ∃ R, nrm (zbst b k (min k 32768)) = R := ⟨_, rfl⟩
  have HRR := Lib.hid hR
  have HK := Lib.hid hk
  have hlen := h.is.len
  have hcap := h.is.cap
  obtain ⟨m, hm⟩ : ∃ m, b.length = m := ⟨_, rfl⟩
  have HM := Lib.hid hm
  rw [hm] at hlen hcap hk
  have hkm : (k : Int) < (m : Int) := by omega
  clear h hR hm
  go_enter Tryz.func184, Tryz.ntmps184
  go_wp2_with fail
  have F0 : Fr S0 w (w.alloc (.cells #[.int .u8 0, .int .i64 0, .int .i64 0] 186)) := Fr.alloc _ _ _
  have hg0 : (w.alloc (.cells #[.int .u8 0, .int .i64 0, .int .i64 0] 186)).heap[w.heap.size]? = some (.cells #[.int .u8 0, .int .i64 0, .int .i64 0] 186) := heap_alloc_new w _
  obtain ⟨w1, hw1⟩ : ∃ w1, w.alloc (.cells #[.int .u8 0, .int .i64 0, .int .i64 0] 186) = w1 := ⟨_, rfl⟩
  obtain ⟨g, hg⟩ : ∃ g, w.heap.size = g := ⟨_, rfl⟩
  rw [hw1] at F0 hg0
  rw [hg] at hg0
  rw [hw1, hg]
  have hga : a ≠ g := by have := (Array.getElem?_eq_some_iff.1 H.out.is.blk).1; omega
  obtain ⟨es, cl, hgr⟩ := (H.out.fr0 F0).grp
  have HG := Lib.hid hgr
  have HG0 := Lib.hid hg0
  have HF0 := Lib.hid F0
  clear hgr hg0 F0 hw1
  by_cases h3 : (sz : Int) < 3
  · have HT : Hid (tok b k = (b.getD k 0, 0, 0)) := Lib.hid (by unfold tok; rw [HRR.out, if_pos (by omega)])
    go_wp2_with (go_at_call 205; refine (longest_any a bm p c b k T es cl w1 (H.out.fr0 HF0.out).is HG.out HK.out).mono ?_; rintro _ w2 ⟨rfl, f2⟩; rw [HRR.out]; have HF2 := Lib.hid f2; clear f2)
    have hg2 := HF2.out.row HG0.out (fun h => h)
    have HP2 := Lib.hid (H.out.fr0 (HF0.out.trans0 HF2.out))
    obtain ⟨B, o, hpe, hx0⟩ := HP2.out.is.txt.at k HK.out
    subst hpe
    have hc0 := HP2.out.is.c0
    have hc1 := HP2.out.is.c1
    rw [HM.out] at hc0
    have HX := getD_at b k HK.out
    obtain ⟨x, hxe⟩ : ∃ x, b[k]'HK.out = x := ⟨_, rfl⟩
    rw [hxe] at hx0 HX
    have k0 : w2.cell? ⟨g, 0, none⟩ = some (.int .u8 0) := by simp [World.cell?, hg2]
    have k1 : w2.cell? ⟨g, 1, none⟩ = some (.int .i64 0) := by simp [World.cell?, hg2]
    have k2 : w2.cell? ⟨g, 2, none⟩ = some (.int .i64 0) := by simp [World.cell?, hg2]
    have f0 : w2.frozen? ⟨g, 0, none⟩ = false := by simp [World.frozen?, hg2]
    have f1 : w2.frozen? ⟨g, 1, none⟩ = false := by simp [World.frozen?, hg2]
    have f2 : w2.frozen? ⟨g, 2, none⟩ = false := by simp [World.frozen?, hg2]
    have HG2 := Lib.hid hg2
    clear hg2 hxe
    go_region
    go_wp2
    have hend := tok_set (x' := .int .u8 (x : Int)) (l' := .int .i64 0) (d' := .int .i64 0) HG2.out
    refine bodyPost_ret (v := .agg (tkc (tok b k))) ?_ rfl ⟨rfl, ?_⟩
    · rw [HT.out, HX]
      exact results_row_one Tryz.results184 _ _ rfl hend.1 Tryz.underlying186 rfl szTok
    · exact ((HF0.out.trans0 HF2.out).trans (hend.2.mono (T := fun j => w.heap.size ≤ j) fun j _ e => by omega) fun j _ e => by omega).trans0 (Fr.drew _ _)
  · have HT : Hid (tok b k = (0, sz, d)) := Lib.hid (by unfold tok; rw [HRR.out, if_neg (by omega)])
    go_wp2_with (go_at_call 205; refine (longest_any a bm p c b k T es cl w1 (H.out.fr0 HF0.out).is HG.out HK.out).mono ?_; rintro _ w2 ⟨rfl, f2⟩; rw [HRR.out]; have HF2 := Lib.hid f2; obtain ⟨k0, k1, k2, l0, l1, l2⟩ := tok_facts (f2.row HG0.out (fun h => h)); clear f2)
    have hend := tok_set (x' := .int .u8 0) (l' := .int .i64 (sz : Int)) (d' := .int .i64 (d : Int)) (HF2.out.row HG0.out (fun h => h))
    refine bodyPost_ret (v := .agg (tkc (tok b k))) ?_ rfl ⟨rfl, ?_⟩
    · rw [HT.out]
      exact results_row_one Tryz.results184 _ _ rfl hend.1 Tryz.underlying186 rfl szTok
    · exact (HF0.out.trans0 HF2.out).trans (hend.2.mono (T := fun j => w.heap.size ≤ j) fun j _ e => by omega) fun j _ e => by omega
end Go.Proofs.YtnndgpggjlhhpaaGreat.M
namespace Go.Proofs.YtnndgpggjlhhpaaGreat.M
open Go.RowKit Go.MapKept
def tkl (l : List Tk) : List Value := l.flatMap fun t => (tkc t).toList
theorem tkl_append (a b : List Tk) : tkl (a ++ b) = tkl a ++ tkl b := by simp [tkl]
theorem tkl_one (t : Tk) : tkl [t] = (tkc t).toList := by simp [tkl]
theorem one_tk (t : Tk) : ∀ u ∈ (tkc t).toList, u.oneCell' = true := by
  intro u hu
  simp only [tkc, List.mem_cons, List.not_mem_nil, or_false] at hu
  rcases hu with rfl | rfl | rfl <;> rfl
theorem info_tk : (Tryz.prog.info? 186).map (fun i => (i.zero, i.size, i.bytes)) = some (some (.agg #[.int .u8 0, .int .i64 0, .int .i64 0]), 3, 24) := by kernel_rfl
theorem elTk : ElemOk Tryz.prog 183 186 (.agg #[.int .u8 0, .int .i64 0, .int .i64 0]) 3 24 := ⟨Tryz.underlying183, info_tk, rfl, by decide, by decide⟩
theorem toks_le (b : List Nat) : (toks b 0).length ≤ b.length := by have := toks_len b b.length 0 (by omega); omega
theorem ps_new (w : World) (p : Option Addr) (c : Nat) (b : List Nat) (h : SlI w .u8 p b) (hc : b.length ≤ c) (h8 : ∀ x ∈ b, x < 256) (hlen : b.length ≤ 1048576) :
    PsIs ((w.alloc (.map #[] 0)).alloc (.cells #[.slice p b.length c, .int .i64 0, .map (some w.heap.size)] 237)) (w.heap.size + 1) w.heap.size p c b 0 (fun _ => False) := by
  have f : Fr S0 w ((w.alloc (.map #[] 0)).alloc (.cells #[.slice p b.length c, .int .i64 0, .map (some w.heap.size)] 237)) := (Fr.alloc S0 _ _).trans0 (Fr.alloc _ _ _)
  refine ⟨⟨?_, h.fr0 f, hc, h8, hlen⟩, ⟨#[], 0, ⟨?_, stamped_empty 0, ?_, ?_, ?_, ?_, ?_, ?_⟩⟩, fun h => h, by omega, fun g h => h.elim, fun hb ad he e => ?_⟩
  · have := heap_alloc_new (w.alloc (.map #[] 0)) (.cells #[.slice p b.length c, .int .i64 0, .map (some w.heap.size)] 237)
    rw [show (w.alloc (.map #[] 0)).heap.size = w.heap.size + 1 by simp] at this
    exact this
  · exact (Fr.alloc S0 _ _).row (heap_alloc_new w (.map #[] 0)) (fun h => h)
  · intro e he; simp at he
  · intro e he; simp at he
  · intro e he; simp at he
  · intro x y z _; simp [lst]
  · intro e he; simp at he
  · exact fun h => h
  · have := h.lt hb ad he
    rcases e with e | e | e
    · omega
    · omega
    · exact e
theorem app_after {w1 w2 : World} {tx tl td : Value} {t : TypeId} {row : Option Nat} (ho : ∀ g, row = some g → g < w1.heap.size) (hgrow : ((w1.alloc (.cells #[tx, tl, td] t)).alloc (.cells #[tx, tl, td] t)).grownBy w2 row) :
    w2.cell? ⟨w1.heap.size, 0, none⟩ = some tx ∧ w2.cell? ⟨w1.heap.size, 1, none⟩ = some tl ∧ w2.cell? ⟨w1.heap.size, 2, none⟩ = some td ∧ Fr (fun j => row = some j) w1 w2 := by
  have h0 := (Fr.alloc S0 (w1.alloc (.cells #[tx, tl, td] t)) (.cells #[tx, tl, td] t)).row (heap_alloc_new w1 (.cells #[tx, tl, td] t)) (fun h => h)
  have h1 := (Fr.grown hgrow).row h0 (fun e => by have := ho _ e; omega)
  obtain ⟨k0, k1, k2, _⟩ := tok_facts h1
  exact ⟨k0, k1, k2, ((Fr.alloc S0 _ _).trans0 (Fr.alloc S0 _ _)).mono (T := fun j => row = some j) (fun _ _ h => h.elim) |>.trans (Fr.grown hgrow) fun _ _ h => h⟩
theorem find_any (p : Option Addr) (c : Nat) (b : List Nat) (w : World) (h : SlI w .u8 p b) (hc : b.length ≤ c) (h8 : ∀ x ∈ b, x < 256) (hlen : b.length ≤ 1048576) :
    Calls Tryz.prog 156 #[.slice p b.length c] w fun r w' => ∃ q n d, r = .returned (.slice q n d) ∧ n = (toks b 0).length ∧ w'.ownsRow 0 186 3 (.slice q n d) n (tkl (toks b 0)) ∧ Fr S0 w w' ∧ Fresh w (.slice q n d) := by
  have H := Lib.hid h
  have H8 := Lib.hid h8
  obtain ⟨m, hm⟩ : ∃ m, b.length = m := ⟨_, rfl⟩
  have HM := Lib.hid hm
  rw [hm] at hc hlen
  rw [hm]
  clear h h8 hm
  have hmm := @run_makeMap Tryz.prog
  go_enter Tryz.func156, Tryz.ntmps156
  go_wp2_with fail
  obtain ⟨W0, hW0⟩ : ∃ W0, (w.alloc (.map #[] 0)).alloc (.cells #[.slice p m c, .int .i64 0, .map (some w.heap.size)] 237) = W0 := ⟨_, rfl⟩
  have HP0 : Hid (PsIs W0 (w.heap.size + 1) w.heap.size p c b 0 (fun _ => False)) := Lib.hid (by rw [← hW0, ← HM.out]; exact ps_new w p c b H.out (by rw [HM.out]; exact hc) H8.out (by rw [HM.out]; exact hlen))
  have HF0 : Hid (Fr S0 w W0) := Lib.hid (by rw [← hW0]; exact (Fr.alloc S0 _ _).trans0 (Fr.alloc _ _ _))
  rw [hW0]
  obtain ⟨bm, hbm⟩ : ∃ bm, w.heap.size = bm := ⟨_, rfl⟩
  obtain ⟨a, ha⟩ : ∃ a, bm + 1 = a := ⟨_, rfl⟩
  have HBM := Lib.hid hbm
  have HA := Lib.hid ha
  rw [hbm, ha] at HP0
  rw [hbm, ha]
  clear hmm hW0 hbm ha
  go_loopw [3, 5] (fun s _ wr => ∃ (k : Nat) (T : Nat → Prop) (q : Option Addr) (n d : Nat) (l : List Tk), s = .slice q n d ∧ toks b 0 = l ++ toks b k ∧ l.length = n ∧ n ≤ k ∧ k ≤ m ∧ PsIs wr a bm p c b k T ∧ Fr S0 w wr ∧ (∀ g, T g → bm ≤ g) ∧ wr.ownsRow 0 186 3 (.slice q n d) n (tkl l) ∧ (∀ g, Value.ownBlock (.slice q n d) = some g → bm ≤ g ∧ ¬ Own a bm T g)) (fun _ _ wr => match wr.cell? ⟨a, 1, none⟩ with | some v => m - (intOf v).toNat | none => 0)
  case atStart => exact ⟨0, _, none, 0, 0, [], rfl, by simp, rfl, by omega, by omega, HP0.out, HF0.out, fun g h => h.elim, World.ownsRow_nil _ _ _ _, fun g h => by cases h⟩
  case round =>
    obtain ⟨k, T, q, n, d, l, rfl, htk, hln, hnk, hkm, hps, hfr, hT, hown, hob⟩ := hrel
    have hc0 := hps.is.c0
    have hc1 := hps.is.c1
    rw [HM.out] at hc0
    have HPS := Lib.hid hps
    have HFR := Lib.hid hfr
    have HT := Lib.hid hT
    have HOWN := Lib.hid hown
    have HOB := Lib.hid hob
    have HTK := Lib.hid htk
    have HLN := Lib.hid hln
    clear hps hfr hT hown hob htk hln
    by_cases hlt : (k : Int) < (m : Int)
    · obtain ⟨⟨tx, tl, td⟩, ht⟩ : ∃ t, tok b k = t := ⟨_, rfl⟩
      have HTT := Lib.hid ht
      have HWP := Lib.hid (wid_pos b k (by rw [HM.out]; omega))
      have HR : Hid (Room (n + 1)) := Lib.hid (Room.mk (by omega))
      have HW : Hid (wid (tx, tl, td) = wid (tok b k)) := Lib.hid (by rw [HTT.out])
      obtain ⟨wd, hwd⟩ : ∃ wd, wid (tx, tl, td) = wd := ⟨_, rfl⟩
      have HWD := Lib.hid hwd
      clear ht hwd
      go_wp2_with (first
        | (go_at_call 184; refine (token_any a bm p c b k T wr HPS.out (by rw [HM.out]; omega)).mono ?_; rintro _ w1 ⟨rfl, f1⟩; rw [HTT.out]; simp only [tkc]; have HF1 := Lib.hid f1; clear f1)
        | (at_builtin; refine app_one elTk (.tmp 15) (.tmp 17) (size_alloc _ _) ((HF1.out.owns HOWN.out (fun _ _ h => h)).alloc _) rfl rfl rfl rfl rfl (one_tk (tx, tl, td)) HR.out ?_; intro g cap w2 hown hgrow hat hlt2; have HLT := Lib.hid (fun g (hg : Value.ownBlock (.slice q n d) = some g) => (HF1.out.owns HOWN.out (fun _ _ h => h)).lt g hg); obtain ⟨k0, k1, k2, f2⟩ := app_after (fun g hg => (HLT.out g hg).2) hgrow; have HF2 := Lib.hid f2; have HOWN2 := Lib.hid hown; have HAT := Lib.hid hat; clear hown hgrow hat f2)
        | (go_at_call 186; refine (width_any (tx, tl, td) _).mono ?_; rintro _ w3 ⟨rfl, f3⟩; rw [HWD.out]; have HF3 := Lib.hid f3; clear f3; have HPS3 := Lib.hid (((HPS.out.fr0 HF1.out).fr HF2.out (fun j hj e => (HOB.out j e).2 hj) (fun hb ad he e => by have h1 := (HOB.out _ e).1; have h2 := H.out.lt hb ad he; have h3 := HBM.out; omega)).fr0 HF3.out))
        | (go_at_call 185; refine (pass_any a bm p c b k wd T w3 HPS3.out (by rw [← HWD.out, HW.out]; exact HWP.out.2)).mono ?_; rintro _ w4 ⟨rfl, T', hp4, ht4⟩; have HP4 := Lib.hid hp4; have HT4 := Lib.hid ht4; clear hp4 ht4))
      have HWP2 : Hid (0 < wd ∧ k + wd ≤ m) := Lib.hid (by have h1 := HWP.out; rw [← HW.out, HWD.out, HM.out] at h1; exact h1)
      have HTK2 : Hid (toks b 0 = (l ++ [(tx, tl, td)]) ++ toks b (k + wd)) := Lib.hid (by rw [HTK.out, toks_in b k (by rw [HM.out]; omega), HTT.out, HWD.out, List.append_assoc]; rfl)
      have e1 := HP4.out.is.c1
      have e2 := HWP2.out
      go_roundw
      case rel =>
        have f13 : Fr (fun j => Value.ownBlock (.slice q n d) = some j) wr w3 := ((HF1.out.mono (T := fun j => Value.ownBlock (.slice q n d) = some j) (fun _ _ h => h.elim)).trans HF2.out fun _ _ h => h).trans0 HF3.out
        have hsz := HFR.out.size
        have hs13 := f13.size
        have hs12 := HF1.out.size
        have hbm := HBM.out
        have hab := HA.out
        have f03 : Fr S0 w w3 := HFR.out.trans f13 fun j hj h => by have := (HOB.out j h).1; omega
        have own3 : w3.ownsRow 0 186 3 (.slice (some ⟨g, 0, none⟩) (n + 1) cap) (n + 1) (tkl l ++ [Value.int IntKind.u8 ↑tx, Value.int IntKind.i64 ↑tl, Value.int IntKind.i64 ↑td]) := HF3.out.owns HOWN2.out fun _ _ h => h
        have hg3 : bm ≤ g ∧ ¬ Own a bm T g ∧ g < w3.heap.size := by
          refine ⟨?_, ?_, (own3.lt g rfl).2⟩
          · rcases HAT.out with h | h
            · exact (HOB.out g h).1
            · omega
          · rcases HAT.out with h | h
            · exact (HOB.out g h).2
            · rintro (e | e | e)
              · have := (Array.getElem?_eq_some_iff.1 HPS.out.is.blk).1; omega
              · have := (Array.getElem?_eq_some_iff.1 HPS.out.is.blk).1; omega
              · have := HPS.out.lt g e; omega
        refine ⟨k + wd, T', some ⟨g, 0, none⟩, n + 1, cap, l ++ [(tx, tl, td)], rfl, HTK2.out, by simp [HLN.out], by omega, e2.2, HP4.out, f03.trans HT4.out.fr fun j hj h => ?_, fun j hj => ?_, ?_, fun j hj => ?_⟩
        · rcases h with h | h | h
          · omega
          · omega
          · have := HT.out j h; omega
        · rcases HT4.out.new j hj with h | h
          · exact HT.out j h
          · omega
        · rw [tkl_append, tkl_one]
          exact HT4.out.fr.owns own3 fun j hj => by cases hj; exact hg3.2.1
        · obtain rfl : g = j := Option.some.inj hj
          refine ⟨hg3.1, ?_⟩
          rintro (e | e | e)
          · exact hg3.2.1 (.inl e)
          · exact hg3.2.1 (.inr (.inl e))
          · rcases HT4.out.new _ e with h | h
            · exact hg3.2.1 (.inr (.inr h))
            · omega
      case measure => rw [e1, hc1]; simp [intOf]; omega
    · go_wp2
      go_ret
      exact ⟨q, n, d, rfl, by rw [HTK.out, toks_out b k (by rw [HM.out]; omega), List.append_nil, HLN.out], by rw [HTK.out, toks_out b k (by rw [HM.out]; omega), List.append_nil]; exact HOWN.out, HFR.out, fun g hg => by rw [HBM.out]; exact (HOB.out g hg).1⟩
end Go.Proofs.YtnndgpggjlhhpaaGreat.M
namespace Go.Proofs.YtnndgpggjlhhpaaGreat.M
open Go.RowKit Go.MapKept
def TkI (w : World) (q : Option Addr) (l : List Tk) : Prop :=
  l ≠ [] → ∃ g, q = some ⟨g, 0, none⟩ ∧ ∀ i, (h : i < l.length) → w.cell? ⟨g, i * 3, none⟩ = some (.int .u8 (l[i].1 : Nat)) ∧ w.cell? ⟨g, i * 3 + 1, none⟩ = some (.int .i64 (l[i].2.1 : Nat)) ∧ w.cell? ⟨g, i * 3 + 2, none⟩ = some (.int .i64 (l[i].2.2 : Nat))
theorem tkl_len (l : List Tk) : (tkl l).length = l.length * 3 := by
  induction l with
  | nil => rfl
  | cons t l ih => rw [show t :: l = [t] ++ l from rfl, tkl_append, List.length_append, ih, tkl_one, List.length_append]; simp [tkc]; omega
theorem tkl_at : ∀ (l : List Tk) (i : Nat) (h : i < l.length), (tkl l)[i * 3]? = some (.int .u8 (l[i].1 : Nat)) ∧ (tkl l)[i * 3 + 1]? = some (.int .i64 (l[i].2.1 : Nat)) ∧ (tkl l)[i * 3 + 2]? = some (.int .i64 (l[i].2.2 : Nat))
  | t :: l, 0, _ => by simp [tkl, tkc]
  | t :: l, i + 1, h => by
    have := tkl_at l i (by simpa using h)
    rw [show tkl (t :: l) = (tkc t).toList ++ tkl l from by rw [show t :: l = [t] ++ l from rfl, tkl_append, tkl_one]]
    have h3 : (tkc t).toList.length = 3 := rfl
    rw [List.getElem?_append_right (by omega), List.getElem?_append_right (by omega), List.getElem?_append_right (by omega), h3, show (i + 1) * 3 - 3 = i * 3 by omega, show (i + 1) * 3 + 1 - 3 = i * 3 + 1 by omega, show (i + 1) * 3 + 2 - 3 = i * 3 + 2 by omega]
    exact this
theorem TkI.ofOwns {w : World} {q : Option Addr} {n d : Nat} {l : List Tk} (h : w.ownsRow 0 186 3 (.slice q n d) n (tkl l)) : TkI w q l := by
  intro hl
  have hlen : l.length * 3 = n * 3 := by have h1 := h.1; rw [tkl_len] at h1; exact h1
  rcases h.2 with ⟨hv, hn⟩ | ⟨g, cap, cur, hv, _⟩
  · have : l.length = 0 := by omega
    exact absurd (List.eq_nil_of_length_eq_zero this) hl
  · simp only [Value.slice.injEq] at hv
    obtain ⟨rfl, -, rfl⟩ := hv
    refine ⟨g, rfl, fun i hi => ?_⟩
    obtain ⟨h1, h2, h3⟩ := tkl_at l i hi
    exact ⟨(h.cellAt _ (by omega)).trans h1, (h.cellAt _ (by omega)).trans h2, (h.cellAt _ (by omega)).trans h3⟩
theorem TkI.fr {S : Nat → Prop} {w w' : World} {q : Option Addr} {l : List Tk} (h : TkI w q l) (hf : Fr S w w') (ho : l ≠ [] → Off S q) : TkI w' q l := by
  intro hl
  obtain ⟨g, hq, hc⟩ := h hl
  have h0 : ¬ S g := ho hl ⟨g, 0, none⟩ hq
  exact ⟨g, hq, fun i hi => ⟨hf.cell (hc i hi).1 h0, hf.cell (hc i hi).2.1 h0, hf.cell (hc i hi).2.2 h0⟩⟩
theorem TkI.fr0 {w w' : World} {q : Option Addr} {l : List Tk} (h : TkI w q l) (hf : Fr S0 w w') : TkI w' q l := h.fr hf fun _ => Off.s0 _
theorem TkI.at {w : World} {q : Option Addr} {l : List Tk} (h : TkI w q l) (i : Nat) (hi : i < l.length) : ∃ g, q = some ⟨g, 0, none⟩ ∧ w.cell? ⟨g, i * 3, none⟩ = some (.int .u8 (l[i].1 : Nat)) ∧ w.cell? ⟨g, i * 3 + 1, none⟩ = some (.int .i64 (l[i].2.1 : Nat)) ∧ w.cell? ⟨g, i * 3 + 2, none⟩ = some (.int .i64 (l[i].2.2 : Nat)) := by
  obtain ⟨g, hq, hc⟩ := h (by intro e; simp [e] at hi)
  exact ⟨g, hq, hc i hi⟩
end Go.Proofs.YtnndgpggjlhhpaaGreat.M
namespace Go.Proofs.YtnndgpggjlhhpaaGreat.M
open Go.RowKit Go.MapKept
end Go.Proofs.YtnndgpggjlhhpaaGreat.M
