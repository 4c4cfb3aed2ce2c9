/- The map of a text's past: where each start stands, in a row of its own. -/
import Derived.Test.YtfibhgohenkfbaaMatKey
import Derived.Test.YtfibhgohenkfbaaMatModel
namespace Go.Proofs.Ytfibhgohenkfbaa.M
open Go.RowKit Go.WideMaps Go.MapKept Go.ChangeMaps

theorem info_int : (Try.prog.info? 3).map (fun i => (i.zero, i.size, i.bytes)) = some (some (.int .i64 0), 1, 8) := by kernel_rfl
theorem elInt : ElemOk Try.prog 96 3 (.int .i64 0) 1 8 := ⟨Try.underlying96, info_int, rfl, by decide, by decide⟩
theorem zero_ints (w : World) : (zeroValue 96).run Try.prog w = .ok (.slice none 0 0) w := by kernel_rfl
def ints (l : List Nat) : List Value := l.map fun (x : Nat) => Value.int .i64 (x : Int)

/-- block bm is a map: at each start the places that f says, in a row among the blocks T -/
structure Grp (w : World) (bm : Nat) (T : Nat → Prop) (f : Nat → Nat → Nat → List Nat) (es : Array MapEntry) (clock : Nat) : Prop where
  row : w.heap[bm]? = some (.map es clock)
  st : Stamped es clock
  keys : ∀ e ∈ es.toList, ∃ x y z, x < 256 ∧ y < 256 ∧ z < 256 ∧ e.key = key3 x y z
  own : ∀ e ∈ es.toList, ∀ x y z, e.key = key3 x y z → w.ownsRow 0 3 1 e.val (f x y z).length (ints (f x y z))
  blk : ∀ e ∈ es.toList, ∀ g, e.val.ownBlock = some g → T g
  nil : ∀ x y z, (∀ e ∈ es.toList, e.key ≠ key3 x y z) → f x y z = []
  apart : ∀ e ∈ es.toList, ∀ e' ∈ es.toList, e.key ≠ e'.key → e.val.ownBlock = none ∨ e.val.ownBlock ≠ e'.val.ownBlock
  off : ¬ T bm

theorem Grp.law {w : World} {bm : Nat} {T : Nat → Prop} {f : Nat → Nat → Nat → List Nat} {es : Array MapEntry} {clock : Nat} (h : Grp w bm T f es clock) : ∀ x ∈ es.toList, ∃ l, keyOf Try.prog 95 x.key = some l := by
  intro e he
  obtain ⟨x, y, z, hx, hy, hz, hk⟩ := h.keys e he
  rw [hk]
  exact key3_of x y z hx hy hz
/-- nothing of it is touched -/
theorem Grp.fr {S : Nat → Prop} {w w' : World} {bm : Nat} {T : Nat → Prop} {f : Nat → Nat → Nat → List Nat} {es : Array MapEntry} {clock : Nat} (h : Grp w bm T f es clock) (hf : Fr S w w') (hb : ¬ S bm) (hT : ∀ g, T g → ¬ S g) : Grp w' bm T f es clock :=
  ⟨hf.row h.row hb, h.st, h.keys, fun e he x y z hk => hf.owns (h.own e he x y z hk) fun g hg => hT g (h.blk e he g hg), h.blk, h.nil, h.apart, h.off⟩
/-- m[k] -/
theorem Grp.look {w : World} {bm : Nat} {T : Nat → Prop} {f : Nat → Nat → Nat → List Nat} {es : Array MapEntry} {clock : Nat} (h : Grp w bm T f es clock) (x y z : Nat) (hx : x < 256) (hy : y < 256) (hz : z < 256) :
    ∃ v, w.ownsRow 0 3 1 v (f x y z).length (ints (f x y z)) ∧ ∀ w' : World, w'.heap[bm]? = some (.map es clock) → (Instr.lookup 70 (.map (some bm)) (key3 x y z) false).run Try.prog w' = .ok v w' := by
  obtain ⟨kl, hkl⟩ := key3_of x y z hx hy hz
  by_cases he : ∃ e ∈ es.toList, e.key = key3 x y z
  · obtain ⟨e, hm, hk⟩ := he
    obtain ⟨j, hj⟩ := List.mem_iff_getElem?.1 hm
    exact ⟨e.val, h.own e hm x y z hk, fun w' hw' => (entry_at lawStart Try.underlying70 h.st h.law hkl hj hk bm).1 w' hw' _ (zero_ints w')⟩
  · have hno : ∀ e ∈ es.toList, e.key ≠ key3 x y z := fun e hm hk => he ⟨e, hm, hk⟩
    rw [h.nil x y z hno]
    exact ⟨_, World.ownsRow_nil _ _ _ _, (entry_new lawStart Try.underlying70 h.st h.law hkl hno (zero_ints) bm).1⟩
theorem heap_setBlock {w : World} {b : Nat} {es : Array MapEntry} {clock : Nat} {o' : Obj} (h : w.heap[b]? = some (.map es clock)) : (setBlock w b o').heap[b]? = some o' ∧ Fr (· = b) w (setBlock w b o') :=
  ⟨heap_setBlock_same h _, ⟨rfl, rfl, rfl, by simp [setBlock], fun k _ hk => heap_setBlock_other h _ hk⟩⟩
/-- 'm[k] = append(m[k], p)': the entry is opened, its row may turn, and it is written -/
theorem Grp.add {w : World} {bm : Nat} {T : Nat → Prop} {f : Nat → Nat → Nat → List Nat} {es : Array MapEntry} {clock : Nat} (h : Grp w bm T f es clock) (x y z : Nat) (hx : x < 256) (hy : y < 256) (hz : z < 256) (p : Nat) :
    ∃ v st es1 clock1, w.ownsRow 0 3 1 v (f x y z).length (ints (f x y z)) ∧ (∀ g, v.ownBlock = some g → T g) ∧
      (∀ w' : World, w'.heap[bm]? = some (.map es clock) → (Instr.mapEntry 70 (.map (some bm)) (key3 x y z)).run Try.prog w' = .ok (.tuple #[v, goInt st]) (setBlock w' bm (.map es1 clock1))) ∧
      ∀ v' : Value, ∃ es2 clock2, (∀ w2 : World, w2.heap[bm]? = some (.map es1 clock1) → (Instr.entryStore 70 (.map (some bm)) (goInt st) v').run Try.prog w2 = .ok () (setBlock w2 bm (.map es2 clock2))) ∧
        ∀ w3 : World, Fr (fun g => g = bm ∨ v.ownBlock = some g) w w3 → w3.heap[bm]? = some (.map es2 clock2) → w3.ownsRow 0 3 1 v' (f x y z ++ [p]).length (ints (f x y z ++ [p])) → (∀ g, v'.ownBlock = some g → v.ownBlock = some g ∨ w.heap.size ≤ g) →
          ∀ f' : Nat → Nat → Nat → List Nat, (∀ a b c, f' a b c = if x = a ∧ y = b ∧ z = c then f x y z ++ [p] else f a b c) → Grp w3 bm (fun g => T g ∨ w.heap.size ≤ g) f' es2 clock2 := by
  obtain ⟨kl, hkl⟩ := key3_of x y z hx hy hz
  have hbm : bm < w.heap.size := (Array.getElem?_eq_some_iff.1 h.row).1
  by_cases he : ∃ e ∈ es.toList, e.key = key3 x y z
  · obtain ⟨e, hm, hk⟩ := he
    obtain ⟨j, hj⟩ := List.mem_iff_getElem?.1 hm
    obtain ⟨_, h2, h3⟩ := entry_at lawStart Try.underlying70 h.st h.law hkl hj hk bm
    refine ⟨e.val, e.born, es, clock, h.own e hm x y z hk, h.blk e hm, h2, fun v' => ⟨_, clock, fun w2 => h3 w2 v', fun w3 hf3 hr3 ho3 hb3 f' hf' => ?_⟩⟩
    have mem : ∀ e' ∈ (es.modify j fun e => { e with val := v' }).toList, (e' ∈ es.toList ∧ e'.key ≠ key3 x y z) ∨ (e'.key = key3 x y z ∧ e'.val = v') := by
      intro e' he'
      rw [Array.toList_modify] at he'
      obtain ⟨i, hi⟩ := List.mem_iff_getElem?.1 he'
      rw [List.getElem?_modify] at hi
      by_cases hij : j = i
      · subst hij
        rw [hj] at hi
        simp only [if_true, Option.map_eq_map, Option.map_some, Option.some.injEq] at hi
        subst hi
        exact .inr ⟨hk, rfl⟩
      · cases hes : es.toList[i]? with
        | none => rw [hes] at hi; simp at hi
        | some y0 =>
          rw [hes] at hi
          simp only [hij, if_false, Option.map_eq_map, Option.map_some, Option.some.injEq] at hi
          subst hi
          refine .inl ⟨List.mem_of_getElem? hes, fun e1 => hij (one_place h.st hj hes (hk.trans e1.symm))⟩
    have hkeys : (es.modify j fun e => { e with val := v' }).toList.map (·.key) = es.toList.map (·.key) := by
      apply List.ext_getElem?
      intro i
      simp only [List.getElem?_map, Array.toList_modify, List.getElem?_modify]
      cases es.toList[i]? <;> simp
      split <;> rfl
    have hborn : (es.modify j fun e => { e with val := v' }).toList.map (·.born) = es.toList.map (·.born) := by
      apply List.ext_getElem?
      intro i
      simp only [List.getElem?_map, Array.toList_modify, List.getElem?_modify]
      cases es.toList[i]? <;> simp
      split <;> rfl
    have old : ∀ e' ∈ es.toList, e'.key ≠ key3 x y z → ∀ g, e'.val.ownBlock = some g → ¬ (g = bm ∨ e.val.ownBlock = some g) := by
      intro e' he' hne g hg hor
      rcases hor with rfl | h1
      · exact h.off (h.blk e' he' g hg)
      · rcases h.apart e' he' e hm (by rw [hk]; exact hne) with h4 | h4
        · rw [h4] at hg; cases hg
        · exact h4 (by rw [hg, h1])
    have oldnew : ∀ e' ∈ es.toList, e'.key ≠ key3 x y z → e'.val.ownBlock = none ∨ e'.val.ownBlock ≠ v'.ownBlock := by
      intro e' he' hne
      cases hg : e'.val.ownBlock with
      | none => exact .inl rfl
      | some g =>
        refine .inr fun e1 => ?_
        rcases hb3 g e1.symm with h4 | h4
        · exact old e' he' hne g hg (.inr h4)
        · obtain ⟨a, b, c, _, _, _, hk'⟩ := h.keys e' he'
          have := ((h.own e' he' a b c hk').lt g hg).2
          omega
    refine ⟨hr3, ⟨fun e' he' => ?_, by rw [hborn]; exact h.st.2.1, by rw [hkeys]; exact h.st.2.2⟩, fun e' he' => ?_, fun e' he' a b c hk' => ?_, fun e' he' g hg => ?_, fun a b c hno => ?_, fun e1 he1 e2 he2 hne => ?_, fun hor => ?_⟩
    · have : e'.born ∈ es.toList.map (·.born) := by rw [← hborn]; exact List.mem_map.2 ⟨e', he', rfl⟩
      obtain ⟨y0, hy0, hy1⟩ := List.mem_map.1 this
      rw [← hy1]
      exact h.st.1 y0 hy0
    · rcases mem e' he' with ⟨h4, _⟩ | ⟨h4, _⟩
      · exact h.keys e' h4
      · exact ⟨x, y, z, hx, hy, hz, h4⟩
    · rw [hf']
      rcases mem e' he' with ⟨h4, h5⟩ | ⟨h4, h5⟩
      · rw [if_neg (fun h6 => h5 (by rw [hk', h6.1, h6.2.1, h6.2.2]))]
        exact hf3.owns (h.own e' h4 a b c hk') (old e' h4 h5)
      · have := key3_inj (h4.symm.trans hk')
        rw [if_pos this, h5]
        exact ho3
    · rcases mem e' he' with ⟨h4, _⟩ | ⟨_, h5⟩
      · exact .inl (h.blk e' h4 g hg)
      · rw [h5] at hg
        rcases hb3 g hg with h6 | h6
        · exact .inl (h.blk e hm g h6)
        · exact .inr h6
    · have hno' : ∀ e' ∈ es.toList, e'.key ≠ key3 a b c := by
        intro e' he' hk'
        have : key3 a b c ∈ es.toList.map (·.key) := List.mem_map.2 ⟨e', he', hk'⟩
        rw [← hkeys] at this
        obtain ⟨y0, hy0, hy1⟩ := List.mem_map.1 this
        exact hno y0 hy0 hy1
      rw [hf', if_neg (fun h6 => hno' e hm (by rw [hk, h6.1, h6.2.1, h6.2.2]))]
      exact h.nil a b c hno'
    · rcases mem e1 he1 with ⟨h4, h5⟩ | ⟨h4, h5⟩ <;> rcases mem e2 he2 with ⟨h6, h7⟩ | ⟨h6, h7⟩
      · exact h.apart e1 h4 e2 h6 hne
      · rw [h7]; exact oldnew e1 h4 h5
      · rw [h5]
        rcases oldnew e2 h6 h7 with h8 | h8
        · rw [h8]
          cases hv : v'.ownBlock with
          | none => exact .inl rfl
          | some g => exact .inr (by simp)
        · exact .inr fun h9 => h8 h9.symm
      · exact absurd (h4.trans h6.symm) hne
    · rcases hor with h4 | h4
      · exact h.off h4
      · omega
  · have hno : ∀ e ∈ es.toList, e.key ≠ key3 x y z := fun e hm hk => he ⟨e, hm, hk⟩
    have hnil := h.nil x y z hno
    obtain ⟨_, h2, h3⟩ := entry_new lawStart Try.underlying70 h.st h.law hkl hno (zero_ints) bm
    refine ⟨.slice none 0 0, clock, _, _, by rw [hnil]; exact World.ownsRow_nil _ _ _ _, fun g hg => by simp [Value.ownBlock] at hg, h2, fun v' => ⟨_, _, fun w2 => h3 w2 v', fun w3 hf3 hr3 ho3 hb3 f' hf' => ?_⟩⟩
    have mem : ∀ e' ∈ (es.push ⟨key3 x y z, v', clock⟩).toList, e' ∈ es.toList ∨ e' = ⟨key3 x y z, v', clock⟩ := by
      intro e' he'
      rw [Array.toList_push] at he'
      simpa using he'
    have old : ∀ e' ∈ es.toList, ∀ g, e'.val.ownBlock = some g → ¬ (g = bm ∨ (Value.slice none 0 0).ownBlock = some g) := by
      intro e' he' g hg hor
      rcases hor with rfl | h1
      · exact h.off (h.blk e' he' g hg)
      · simp [Value.ownBlock] at h1
    have oldnew : ∀ e' ∈ es.toList, e'.val.ownBlock = none ∨ e'.val.ownBlock ≠ v'.ownBlock := by
      intro e' he'
      cases hg : e'.val.ownBlock with
      | none => exact .inl rfl
      | some g =>
        refine .inr fun e1 => ?_
        rcases hb3 g e1.symm with h4 | h4
        · exact old e' he' g hg (.inr h4)
        · obtain ⟨a, b, c, _, _, _, hk'⟩ := h.keys e' he'
          have := ((h.own e' he' a b c hk').lt g hg).2
          omega
    refine ⟨hr3, stamped_push h.st hno, fun e' he' => ?_, fun e' he' a b c hk' => ?_, fun e' he' g hg => ?_, fun a b c hno' => ?_, fun e1 he1 e2 he2 hne => ?_, fun hor => ?_⟩
    · rcases mem e' he' with h4 | rfl
      · exact h.keys e' h4
      · exact ⟨x, y, z, hx, hy, hz, rfl⟩
    · rw [hf']
      rcases mem e' he' with h4 | rfl
      · rw [if_neg (fun h6 => hno e' h4 (by rw [hk', h6.1, h6.2.1, h6.2.2]))]
        exact hf3.owns (h.own e' h4 a b c hk') (old e' h4)
      · rw [if_pos (key3_inj hk')]
        exact ho3
    · rcases mem e' he' with h4 | rfl
      · exact .inl (h.blk e' h4 g hg)
      · rcases hb3 g hg with h6 | h6
        · simp [Value.ownBlock] at h6
        · exact .inr h6
    · rw [hf', if_neg (fun h6 => hno' ⟨key3 x y z, v', clock⟩ (by simp) (by rw [← h6.1, ← h6.2.1, ← h6.2.2]))]
      exact h.nil a b c fun e' he' => hno' e' (by rw [Array.toList_push]; simp [he'])
    · rcases mem e1 he1 with h4 | rfl <;> rcases mem e2 he2 with h6 | rfl
      · exact h.apart e1 h4 e2 h6 hne
      · exact oldnew e1 h4
      · rcases oldnew e2 h6 with h8 | h8
        · rw [h8]
          cases hv : v'.ownBlock with
          | none => exact .inl rfl
          | some g => exact .inr (by simp)
        · exact .inr fun h9 => h8 h9.symm
      · exact absurd rfl hne
    · rcases hor with h4 | h4
      · exact h.off h4
      · omega
end Go.Proofs.Ytfibhgohenkfbaa.M
