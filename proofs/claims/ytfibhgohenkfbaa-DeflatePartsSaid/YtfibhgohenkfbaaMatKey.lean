/- Keys of three bytes, and a map's entries at such keys: an entry sought, made, and written. -/
import Derived.Test.YtfibhgohenkfbaaBytes
import Derived.Test.YtfibhgohenkfbaaMany
import Derived.DeepKeys4
import Derived.WideKeyPair
import Derived.MapKept
import Derived.ChangeMaps
namespace Go.Proofs.Ytfibhgohenkfbaa.M
open Go.RowKit Go.WideMaps Go.MapKept

set_option maxRecDepth 100000 in
theorem laidOutP : laidOutB Try.prog = true := by kernel_rfl
set_option maxRecDepth 100000 in
theorem rowStart : (95 : TypeId) < Try.prog.types.size := of_decide_eq_true (by kernel_rfl)
theorem wideStart : (match Try.prog.underlying 95 with | some (.array _ _) | some (.struct _) => true | _ => false) = true := by rw [Try.underlying95]
set_option maxRecDepth 100000 in
theorem lawStart : KeyLaw Try.prog 95 := deep_law_laid laidOutP (m := 2) (by omega) rowStart (by kernel_rfl) wideStart
set_option maxRecDepth 100000 in
theorem cellsStart : Try.prog.cellsOf 95 = 3 := by kernel_rfl
set_option maxRecDepth 100000 in
theorem arrStart : ArrKey Try.prog 95 5 3 := ⟨Try.underlying95, by kernel_rfl, by kernel_rfl, cellsStart⟩
set_option maxRecDepth 100000 in
theorem typesSize : ∃ m, Try.prog.types.size = m + 1 := ⟨Try.prog.types.size - 1, (Nat.succ_pred_eq_of_pos (Nat.lt_of_le_of_lt (Nat.zero_le _) rowStart)).symm⟩

def key3 (x y z : Nat) : Value := .agg #[.int .u8 (x : Int), .int .u8 (y : Int), .int .u8 (z : Int)]
theorem keyOf_three {P : Program} {k e : TypeId} {q : IntKind} (A : ArrKey P k e 3) (he : P.underlying e = some (.int q)) (hsz : ∃ m, P.types.size = m + 1) {a b c : Int} (wa : (Lit.int q a).wf = true) (wb : (Lit.int q b).wf = true) (wc : (Lit.int q c).wf = true) :
    keyOf P k (.agg #[.int q a, .int q b, .int q c]) = some (.string (keyBytes [.int q a, .int q b, .int q c])) := by
  have hkt := A.keyType hsz
  obtain ⟨m, hm⟩ := hsz
  unfold keyOf
  simp only [A.hu]
  rw [if_pos (by simp [hkt, Value.formed, A.hu, A.size]), hm]
  unfold Program.keyLits
  simp only [A.hu, Value.cells]
  rw [if_pos (by rw [A.size]; rfl), show List.range 3 = [0, 1, 2] from rfl, List.mapM_cons, List.mapM_cons, List.mapM_cons, List.mapM_nil]
  simp [A.one, Program.keyLits, he, wa, wb, wc]
theorem key3_of (x y z : Nat) (hx : x < 256) (hy : y < 256) (hz : z < 256) : ∃ l, keyOf Try.prog 95 (key3 x y z) = some l :=
  ⟨_, keyOf_three arrStart Try.underlying5 typesSize (WalkArith.wf_u8 (by omega)) (WalkArith.wf_u8 (by omega)) (WalkArith.wf_u8 (by omega))⟩
theorem key3_inj {x y z x' y' z' : Nat} (h : key3 x y z = key3 x' y' z') : x = x' ∧ y = y' ∧ z = z' := by
  simp only [key3, Value.agg.injEq, Array.mk.injEq, List.cons.injEq, Value.int.injEq, Int.natCast_inj, true_and, and_true] at h
  exact h

section
variable {P : Program} {t k e : TypeId}
/-- one place alone holds a key -/
theorem one_place {es : Array MapEntry} {clock : Nat} (h : Stamped es clock) {i j : Nat} {x y : MapEntry} (hi : es.toList[i]? = some x) (hj : es.toList[j]? = some y) (hk : x.key = y.key) : i = j := by
  have hp := ((stamped_iff es clock).1 h).2.2
  obtain ⟨hil, rfl⟩ := List.getElem?_eq_some_iff.1 hi
  obtain ⟨hjl, rfl⟩ := List.getElem?_eq_some_iff.1 hj
  rcases Nat.lt_trichotomy i j with h1 | h1 | h1
  · exact absurd hk (List.pairwise_iff_getElem.1 hp i j hil hjl h1)
  · exact h1
  · exact absurd hk.symm (List.pairwise_iff_getElem.1 hp j i hjl hil h1)
theorem born_place {es : Array MapEntry} {clock : Nat} (h : Stamped es clock) {j : Nat} {x : MapEntry} (hj : es.toList[j]? = some x) : es.findIdx? (fun e => ((e.born : Nat) : Int) == ((x.born : Nat) : Int)) = some j := by
  obtain ⟨hjl, rfl⟩ := List.getElem?_eq_some_iff.1 hj
  have hjs : j < es.size := by simpa using hjl
  rw [Array.findIdx?_eq_some_iff_getElem]
  refine ⟨hjs, by simp, fun i hi => ?_⟩
  have hn := h.2.1
  have hil : i < es.size := Nat.lt_trans hi hjs
  have hp := List.pairwise_iff_getElem.1 hn i j (by simpa using Nat.lt_trans hi hjs) (by simpa using hjs) hi
  simp only [List.getElem_map, Array.getElem_toList] at hp
  simpa using fun e : (es[i].born : Int) = es[j].born => hp (by omega)

/-- THE ENTRY AT A KEY that is there: looked up, opened, written. -/
theorem entry_at (K : KeyLaw P k) (ht : P.underlying t = some (.map k e)) {es : Array MapEntry} {clock : Nat} (hs : Stamped es clock) (hks : ∀ x ∈ es.toList, ∃ l, keyOf P k x.key = some l) {key : Value} {kl : Lit} (hkey : keyOf P k key = some kl)
    {j : Nat} {x : MapEntry} (hj : es.toList[j]? = some x) (hx : x.key = key) (b : Nat) :
    (∀ w : World, w.heap[b]? = some (.map es clock) → (∀ z, (zeroValue e).run P w = .ok z w → (Instr.lookup t (.map (some b)) key false).run P w = .ok x.val w)) ∧
    (∀ w : World, w.heap[b]? = some (.map es clock) → (Instr.mapEntry t (.map (some b)) key).run P w = .ok (.tuple #[x.val, goInt x.born]) (ChangeMaps.setBlock w b (.map es clock))) ∧
    (∀ (w : World) (v : Value), w.heap[b]? = some (.map es clock) → (Instr.entryStore t (.map (some b)) (goInt x.born) v).run P w = .ok () (ChangeMaps.setBlock w b (.map (es.modify j fun e => { e with val := v }) clock))) := by
  have hjj : es[j]? = some x := by simpa using hj
  have hfind : ∀ w : World, (Instr.findKey k key es.toList).run P w = .ok (some (j, x.val)) w := by
    intro w
    rcases K.find w hkey es.toList hks with ⟨_, h2⟩ | ⟨j', y, h1, h2, h3⟩
    · exact absurd hx (h2 x (List.mem_of_getElem? hj))
    · obtain rfl := one_place hs h2 hj (h3.trans hx.symm)
      rw [h2] at hj
      obtain rfl := Option.some.inj hj
      exact h1
  have hsame : es.modify j (fun e => { e with key := key }) = es := by
    apply Array.ext
    · simp
    · intro i h1 h2
      rw [Array.getElem_modify]
      split
      · rename_i hij
        subst hij
        have : es[j] = x := by
          have := hjj
          rw [Array.getElem?_eq_getElem h2] at this
          exact Option.some.inj this
        rw [this, ← hx]
      · rfl
  refine ⟨fun w hb z hz => ?_, fun w hb => ?_, fun w v hb => ?_⟩
  · simp [Instr.lookup, run_underlying ht, MapKept.run_getObj_map hb, K.check w _ hkey, hfind, Result.andThen]
  · simp [Instr.mapEntry, run_underlying ht, MapKept.run_getObj_map hb, K.check w _ hkey, hfind, hjj, hx, K.stays w hkey, hsame, MapKept.run_setObj_map _ hb, Result.andThen, ChangeMaps.setBlock]
  · simp [Instr.entryStore, MapKept.run_getObj_map hb, asInt, asIntOf, goInt, born_place hs hj, MapKept.run_setObj_map _ hb, Result.andThen, ChangeMaps.setBlock]
/-- THE ENTRY AT A KEY that isn't there. -/
theorem entry_new (K : KeyLaw P k) (ht : P.underlying t = some (.map k e)) {es : Array MapEntry} {clock : Nat} (hs : Stamped es clock) (hks : ∀ x ∈ es.toList, ∃ l, keyOf P k x.key = some l) {key : Value} {kl : Lit} (hkey : keyOf P k key = some kl)
    (hno : ∀ x ∈ es.toList, x.key ≠ key) {z : Value} (hz : ∀ w : World, (zeroValue e).run P w = .ok z w) (b : Nat) :
    (∀ w : World, w.heap[b]? = some (.map es clock) → (Instr.lookup t (.map (some b)) key false).run P w = .ok z w) ∧
    (∀ w : World, w.heap[b]? = some (.map es clock) → (Instr.mapEntry t (.map (some b)) key).run P w = .ok (.tuple #[z, goInt clock]) (ChangeMaps.setBlock w b (.map (es.push ⟨key, z, clock⟩) (clock + 1)))) ∧
    (∀ (w : World) (v : Value), w.heap[b]? = some (.map (es.push ⟨key, z, clock⟩) (clock + 1)) → (Instr.entryStore t (.map (some b)) (goInt clock) v).run P w = .ok () (ChangeMaps.setBlock w b (.map (es.push ⟨key, v, clock⟩) (clock + 1)))) := by
  have hfind : ∀ w : World, (Instr.findKey k key es.toList).run P w = .ok none w := by
    intro w
    rcases K.find w hkey es.toList hks with ⟨h1, _⟩ | ⟨j', y, _, h2, h3⟩
    · exact h1
    · exact absurd h3 (hno y (List.mem_of_getElem? h2))
  refine ⟨fun w hb => ?_, fun w hb => ?_, fun w v hb => ?_⟩
  · simp [Instr.lookup, run_underlying ht, MapKept.run_getObj_map hb, K.check w _ hkey, hfind, hz, Result.andThen]
  · simp [Instr.mapEntry, run_underlying ht, MapKept.run_getObj_map hb, K.check w _ hkey, hfind, hz, MapKept.run_setObj_map _ hb, Result.andThen, ChangeMaps.setBlock]
  · have hs' := stamped_push hs (key := key) (val := z) hno
    have hidx := born_place hs' (j := es.size) (x := ⟨key, z, clock⟩) (by simp)
    have hmod : (es.push ⟨key, z, clock⟩).modify es.size (fun e => { e with val := v }) = es.push ⟨key, v, clock⟩ := by
      apply Array.ext
      · simp
      · intro i h1 h2
        rw [Array.getElem_modify]
        simp only [Array.getElem_push]
        split <;> split <;> first | rfl | omega | (exfalso; simp at h2; omega)
    simp [Instr.entryStore, MapKept.run_getObj_map hb, asInt, asIntOf, goInt, hidx, hmod, MapKept.run_setObj_map _ hb, Result.andThen, ChangeMaps.setBlock]
end
end Go.Proofs.Ytfibhgohenkfbaa.M
