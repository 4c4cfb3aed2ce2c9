/- Maps from indexes to counts: looked up, counted up, gone through in whatever order. -/
import Derived.Test.YthfcfmnaiopogaaGreatDnAll
import Derived.Maps.RangeWalk
namespace Go.Proofs.YthfcfmnaiopogaaGreat
open Go.RowKit Go.MapKept Go.ChangeMaps Go.Maps

theorem mem_cnt {l : List Pr} (hs : Srt l) (hp : Pos l) (x : Pr) : x ∈ l ↔ x.2 ≠ 0 ∧ cnt l x.1 = x.2 := by
  constructor
  · intro h
    have := hp x h
    exact ⟨by omega, cnt_mem hs h⟩
  · rintro ⟨h1, h2⟩
    obtain ⟨y, hy, e⟩ := cnt_in (l := l) (k := x.1) (by omega)
    have h3 := cnt_mem hs hy
    rw [e, h2] at h3
    rw [show x = y from Prod.ext e.symm h3]
    exact hy
theorem nodup_srt {l : List Pr} (hs : Srt l) : l.Nodup := hs.imp fun h e => by rw [e] at h; omega

theorem intLaw : Keyed Tryz.prog 3 := int_keyed Tryz.underlying3
theorem keyI {k : Int} (h : 0 ≤ k ∧ k < 100000000) : keyOf Tryz.prog 3 (.int .i64 k) = some (.int .i64 k) := keyOf_int_mk Tryz.underlying3 (WalkArith.wf_i64 (by omega))

/-- these entries are the counts of l -/
structure MpE (l : List Pr) (es : Array MapEntry) (clock : Nat) : Prop where
  st : Stamped es clock
  key : ∀ e ∈ es.toList, ∃ x ∈ l, e.key = .int .i64 x.1 ∧ e.val = .int .u64 (x.2 : Nat)
  has : ∀ x ∈ l, ∃ e ∈ es.toList, e.key = .int .i64 x.1
  srt : Srt l
  pos : Pos l
  bd : ∀ x ∈ l, 0 ≤ x.1 ∧ x.1 < 100000000
/-- block h is a map of the counts of l -/
def MpI (w : World) (h : Nat) (l : List Pr) : Prop := ∃ es clock, w.heap[h]? = some (.map es clock) ∧ MpE l es clock

theorem MpE.empty : MpE [] #[] 0 := ⟨stamped_empty 0, (fun _ h => by simp at h), (fun _ h => by cases h), srt_nil, pos_nil, fun _ h => by cases h⟩
section
variable {l : List Pr} {es : Array MapEntry} {clock : Nat} (E : MpE l es clock)
include E
theorem MpE.law : ∀ e ∈ es.toList, ∃ k, keyOf Tryz.prog 3 e.key = some k := fun e he => by
  obtain ⟨x, hx, h1, -⟩ := E.key e he
  rw [h1]
  exact ⟨_, keyI (E.bd x hx)⟩
theorem MpE.at {e : MapEntry} (he : e ∈ es.toList) {k : Int} (hk : e.key = .int .i64 k) : e.val = .int .u64 (cnt l k : Nat) ∧ cnt l k ≠ 0 := by
  obtain ⟨x, hx, h1, h2⟩ := E.key e he
  rw [hk] at h1
  simp only [Value.int.injEq, true_and] at h1
  subst h1
  rw [cnt_mem E.srt hx]
  have := E.pos x hx
  exact ⟨h2, by omega⟩
theorem MpE.out {k : Int} (h : ∀ e ∈ es.toList, e.key ≠ .int .i64 k) : cnt l k = 0 := cnt_out fun x hx e => by
  obtain ⟨y, hy, h1⟩ := E.has x hx
  exact h y hy (by rw [h1, e])
theorem MpE.len : es.size = l.length := by
  have h1 : es.toList.Pairwise (fun x y => x.key ≠ y.key) := ((stamped_iff es clock).1 E.st).2.2
  have h2 : (es.toList.map (·.key)).Perm (l.map fun x => Value.int .i64 x.1) := by
    refine (List.perm_ext_iff_of_nodup (List.pairwise_map.2 h1) (List.pairwise_map.2 (E.srt.imp fun h e => by simp at e; omega))).2 fun v => ?_
    simp only [List.mem_map]
    constructor
    · rintro ⟨e, he, rfl⟩
      obtain ⟨x, hx, h3, -⟩ := E.key e he
      exact ⟨x, hx, h3.symm⟩
    · rintro ⟨x, hx, rfl⟩
      obtain ⟨e, he, h3⟩ := E.has x hx
      exact ⟨e, he, h3⟩
  have := h2.length_eq
  simpa using this
/-- m[k] -/
theorem MpE.look (h : Nat) (k : Int) (hk : 0 ≤ k ∧ k < 100000000) (w : World) (hb : w.heap[h]? = some (.map es clock)) :
    (Instr.lookup 108 (.map (some h)) (.int .i64 k) false).run Tryz.prog w = .ok (.int .u64 (cnt l k : Nat)) w := by
  rcases intLaw.find w (keyI hk) es.toList E.law with ⟨h1, h2⟩ | ⟨j, e0, h1, h2, h3⟩
  · rw [E.out h2]
    simp [Instr.lookup, run_underlying Tryz.underlying108, MapKept.run_getObj_map hb, intLaw.check w _ (keyI hk), h1, Result.andThen]
  · rw [← (E.at (List.mem_of_getElem? h2) h3).1]
    simp [Instr.lookup, run_underlying Tryz.underlying108, MapKept.run_getObj_map hb, intLaw.check w _ (keyI hk), h1, Result.andThen]
/-- len(m) -/
theorem MpE.size_run (h : Nat) (w : World) (hb : w.heap[h]? = some (.map es clock)) : (Builtin.len_ #[108] 3 #[.map (some h)]).run Tryz.prog w = .ok (.int .i64 (l.length : Nat)) w := by
  rw [← E.len]
  simp [Builtin.len_, run_underlying Tryz.underlying108, MapKept.run_getObj_map hb, Result.andThen, goInt]
/-- m[k] += n -/
theorem MpE.put (h : Nat) (k : Int) (n : Nat) (hk : 0 ≤ k ∧ k < 100000000) (hn : 0 < n) :
    ∃ es2 clock2, MpE (lput l k n) es2 clock2 ∧ ∀ (w : World) (v : Value), v = .int .u64 (cnt l k + n : Nat) → w.heap[h]? = some (.map es clock) → (Instr.mapUpdate 108 (.map (some h)) (.int .i64 k) v).run Tryz.prog w = .ok () (setBlock w h (.map es2 clock2)) := by
  have hs2 := put_srt (k := k) (n := n) E.srt
  have hp2 := put_pos (k := k) (n := n) E.pos hn
  have hbd : ∀ x ∈ lput l k n, 0 ≤ x.1 ∧ x.1 < 100000000 := fun x hx => by
    rcases put_mem hx with e | hx
    · rw [e]; exact hk
    · exact E.bd x hx
  have hnew : (k, cnt l k + n) ∈ lput l k n := (mem_cnt hs2 hp2 _).2 ⟨by simp only; omega, by simp only; rw [cnt_put k n k E.srt, if_pos rfl]⟩
  have hold : ∀ x ∈ l, x.1 ≠ k → x ∈ lput l k n := fun x hx hne => by
    have := E.pos x hx
    refine (mem_cnt hs2 hp2 _).2 ⟨by omega, ?_⟩
    rw [cnt_put k n x.1 E.srt, if_neg hne, cnt_mem E.srt hx, Nat.add_zero]
  have hK : ∀ w, ((Instr.findKey 3 (.int .i64 k) es.toList).run Tryz.prog w = .ok none w ∧ ∀ e ∈ es.toList, e.key ≠ .int .i64 k) ∨ ∃ j e, (Instr.findKey 3 (.int .i64 k) es.toList).run Tryz.prog w = .ok (some (j, e.val)) w ∧ es.toList[j]? = some e ∧ e.key = .int .i64 k := fun w => intLaw.find w (keyI hk) es.toList E.law
  have hst := (stamped_iff es clock).1 E.st
  by_cases hin : ∃ e ∈ es.toList, e.key = .int .i64 k
  · obtain ⟨e0, he0, hk0⟩ := hin
    obtain ⟨j, hj⟩ := List.mem_iff_getElem?.1 he0
    have hjj : es[j]? = some e0 := by simpa using hj
    have huniq : ∀ {i : Nat} {e : MapEntry}, es.toList[i]? = some e → e.key = .int .i64 k → i = j := fun {i e} hi hke => by
      obtain ⟨hil, rfl⟩ := List.getElem?_eq_some_iff.1 hi
      obtain ⟨hjl, rfl⟩ := List.getElem?_eq_some_iff.1 hj
      rcases Nat.lt_trichotomy i j with h1 | h1 | h1
      · exact absurd (hke.trans hk0.symm) (List.pairwise_iff_getElem.1 hst.2.2 i j hil hjl h1)
      · exact h1
      · exact absurd (hk0.trans hke.symm) (List.pairwise_iff_getElem.1 hst.2.2 j i hjl hil h1)
    have hkeyf : ∀ e', es[j]? = some e' → ({ e' with key := .int .i64 k, val := .int .u64 (cnt l k + n : Nat) } : MapEntry).key = e'.key := fun e' he' => by rw [hjj] at he'; cases he'; exact hk0.symm
    have hlist : (es.modify j (fun e' => { e' with key := .int .i64 k, val := .int .u64 (cnt l k + n : Nat) })).toList = es.toList.set j { e0 with key := .int .i64 k, val := .int .u64 (cnt l k + n : Nat) } := by rw [Array.toList_modify, modify_eq_set _ _ _ _ hj]
    have hjl : j < es.toList.length := (List.getElem?_eq_some_iff.1 hj).1
    refine ⟨es.modify j (fun e' => { e' with key := .int .i64 k, val := .int .u64 (cnt l k + n : Nat) }), clock, ⟨stamped_modify E.st _ _ (fun _ _ => rfl) (fun e' _ he' => hkeyf e' he'), fun e he => ?_, fun x hx => ?_, hs2, hp2, hbd⟩, fun w v hv hb => ?_⟩
    · rw [hlist] at he
      obtain ⟨i, hi, ex⟩ := List.getElem_of_mem he
      rw [List.getElem_set] at ex
      split at ex
      · exact ⟨_, hnew, by rw [← ex], by rw [← ex]⟩
      · rename_i hne
        have hi' : i < es.toList.length := by simpa using hi
        have hm : e ∈ es.toList := ex ▸ List.getElem_mem hi'
        obtain ⟨x, hx, h1, h2⟩ := E.key e hm
        refine ⟨x, hold x hx fun e1 => hne ?_, h1, h2⟩
        exact (huniq (i := i) (e := e) (by rw [List.getElem?_eq_getElem hi', ex]) (by rw [h1, e1])).symm
    · rw [hlist]
      rcases put_mem hx with e | hx
      · exact ⟨{ e0 with key := .int .i64 k, val := .int .u64 (cnt l k + n : Nat) }, List.mem_iff_getElem.2 ⟨j, by simpa using hjl, by simp⟩, by rw [e]⟩
      · obtain ⟨e, he, h1⟩ := E.has x hx
        by_cases hxk : x.1 = k
        · exact ⟨{ e0 with key := .int .i64 k, val := .int .u64 (cnt l k + n : Nat) }, List.mem_iff_getElem.2 ⟨j, by simpa using hjl, by simp⟩, by rw [hxk]⟩
        · obtain ⟨i, hi, ex⟩ := List.getElem_of_mem he
          have hne : j ≠ i := fun e1 => hxk (by
            subst e1
            obtain ⟨_, e2⟩ := List.getElem?_eq_some_iff.1 hj
            rw [ex] at e2
            rw [e2, hk0] at h1
            simpa using h1.symm)
          exact ⟨e, List.mem_iff_getElem.2 ⟨i, by simpa using hi, by rw [List.getElem_set_ne hne]; exact ex⟩, h1⟩
    · subst hv
      rcases hK w with ⟨-, h2⟩ | ⟨j', e1, h1, h2, h3⟩
      · exact absurd hk0 (h2 e0 he0)
      · obtain rfl := huniq h2 h3
        rw [hj] at h2
        obtain rfl := Option.some.inj h2
        simp [Instr.mapUpdate, run_underlying Tryz.underlying108, MapKept.run_getObj_map hb, intLaw.check w false (keyI hk), h1, hjj, hk0, intLaw.stays w (keyI hk), MapKept.run_setObj_map _ hb, Result.andThen, setBlock]
  · have hno : ∀ e ∈ es.toList, e.key ≠ .int .i64 k := fun e he hke => hin ⟨e, he, hke⟩
    have hc0 := E.out hno
    refine ⟨es.push ⟨.int .i64 k, .int .u64 (cnt l k + n : Nat), clock⟩, clock + 1, ⟨stamped_push E.st hno, fun e he => ?_, fun x hx => ?_, hs2, hp2, hbd⟩, fun w v hv hb => ?_⟩
    · simp only [Array.toList_push, List.mem_append, List.mem_singleton] at he
      rcases he with he | rfl
      · obtain ⟨x, hx, h1, h2⟩ := E.key e he
        exact ⟨x, hold x hx fun e1 => hno e he (by rw [h1, e1]), h1, h2⟩
      · exact ⟨_, hnew, rfl, rfl⟩
    · simp only [Array.toList_push, List.mem_append, List.mem_singleton]
      rcases put_mem hx with e | hx
      · exact ⟨_, .inr rfl, by rw [e]⟩
      · obtain ⟨e, he, h1⟩ := E.has x hx
        exact ⟨e, .inl he, h1⟩
    · subst hv
      rcases hK w with ⟨h1, -⟩ | ⟨j, e1, h1, h2, h3⟩
      · simp [Instr.mapUpdate, run_underlying Tryz.underlying108, MapKept.run_getObj_map hb, intLaw.check w false (keyI hk), h1, MapKept.run_setObj_map _ hb, Result.andThen, setBlock]
      · exact absurd h3 (hno e1 (List.mem_of_getElem? h2))
end
theorem fr_setMap {w : World} {b : Nat} {es : Array MapEntry} {clock : Nat} {o' : Obj} (h : w.heap[b]? = some (.map es clock)) : (setBlock w b o').heap[b]? = some o' ∧ Fr (· = b) w (setBlock w b o') :=
  ⟨heap_setBlock_same h _, ⟨rfl, rfl, rfl, by simp [setBlock], fun k _ hk => heap_setBlock_other h _ hk⟩⟩
theorem MpI.fr {S : Nat → Prop} {w w' : World} {h : Nat} {l : List Pr} (m : MpI w h l) (f : Fr S w w') (hs : ¬ S h) : MpI w' h l := let ⟨es, clock, hb, E⟩ := m; ⟨es, clock, f.row hb hs, E⟩
theorem MpI.lt {w : World} {h : Nat} {l : List Pr} (m : MpI w h l) : h < w.heap.size := let ⟨_, _, hb, _⟩ := m; (Array.getElem?_eq_some_iff.1 hb).1

/-- r goes through the map h, which has the counts of l; D have come, R are still to come -/
def Itr (w : World) (r h : Nat) (l D R : List Pr) : Prop := ∃ es clock seen, w.heap[h]? = some (.map es clock) ∧ MpE l es clock ∧ w.heap[r]? = some (.mapIter (some h) clock seen clock) ∧
  (∀ e ∈ es.toList, seen.contains e.born = true ↔ ∃ x ∈ D, e.key = .int .i64 x.1) ∧ (D ++ R).Perm l ∧ seen.size = D.length
theorem Itr.fr {S : Nat → Prop} {w w' : World} {r h : Nat} {l D R : List Pr} (i : Itr w r h l D R) (f : Fr S w w') (hr : ¬ S r) (hh : ¬ S h) : Itr w' r h l D R :=
  let ⟨es, clock, seen, h1, h2, h3, h4⟩ := i; ⟨es, clock, seen, f.row h1 hh, h2, f.row h3 hr, h4⟩
theorem Itr.fr0 {w w' : World} {r h : Nat} {l D R : List Pr} (i : Itr w r h l D R) (f : Fr S0 w w') : Itr w' r h l D R := i.fr f (fun h => h) fun h => h
theorem Itr.lt {w : World} {r h : Nat} {l D R : List Pr} (i : Itr w r h l D R) : r < w.heap.size := let ⟨_, _, _, _, _, h3, _⟩ := i; (Array.getElem?_eq_some_iff.1 h3).1
/-- how many have come, read off the world -/
def came (w : World) (r : Nat) : Nat := match w.heap[r]? with | some (.mapIter _ _ seen _) => seen.size | _ => 0
theorem Itr.came {w : World} {r h : Nat} {l D R : List Pr} (i : Itr w r h l D R) : came w r = D.length ∧ D.length + R.length = l.length := by
  obtain ⟨es, clock, seen, h1, h2, h3, h4, h5, h6⟩ := i
  have := h5.length_eq
  rw [List.length_append] at this
  exact ⟨by simp [Proofs.YthfcfmnaiopogaaGreat.came, h3, h6], this⟩
/-- range m -/
theorem MpI.range {w : World} {h : Nat} {l : List Pr} (m : MpI w h l) :
    ∃ w', (Instr.range 108 (.map (some h))).run Tryz.prog w = .ok (.pointer (some ⟨w.heap.size, 0, none⟩)) w' ∧ Itr w' w.heap.size h l [] l ∧ Fr S0 w w' := by
  have hlt := m.lt
  obtain ⟨es, clock, hb, E⟩ := m
  exact ⟨_, run_range_map w _ _ _ h es clock Tryz.underlying108 hb, ⟨es, clock, #[], ((MapKept.heap_alloc w _).2 h hlt).trans hb, E, (MapKept.heap_alloc w _).1, fun e _ => by simp, List.Perm.refl _, rfl⟩, Fr.alloc _ _ _⟩
/-- the step -/
theorem Itr.next {w : World} {r h : Nat} {l D R : List Pr} (i : Itr w r h l D R) (ty : TypeId) :
    (D.Perm l ∧ R = [] ∧ (Instr.next (.pointer (some ⟨r, 0, none⟩)) false ty).run Tryz.prog w = .ok (.tuple #[.bool false]) w) ∨
    ∃ x R' w', x ∈ l ∧ Itr w' r h l (D ++ [x]) R' ∧ Fr (· = r) w w' ∧ (Instr.next (.pointer (some ⟨r, 0, none⟩)) false ty).run Tryz.prog w = .ok (.tuple #[.bool true, .int .i64 x.1, .int .u64 (x.2 : Nat)]) w' ∧
      (Instr.entry (.pointer (some ⟨r, 0, none⟩))).run Tryz.prog w' = .ok (.tuple #[.int .i64 x.1, .int .u64 (x.2 : Nat)]) w' := by
  obtain ⟨es, clock, seen, h1, E, h3, h4, h5, h6⟩ := i
  have hst := (stamped_iff es clock).1 E.st
  have hnd := h5.symm.nodup (nodup_srt E.srt)
  have hne : r ≠ h := fun e => by rw [e, h1] at h3; cases h3
  rcases run_next_at (P := Tryz.prog) w ty r h clock clock seen es clock h3 h1 hst.1 (Nat.le_refl _) with ⟨h0, hrun⟩ | ⟨e, he, w1, hw1, hrun⟩
  · left
    have hall : ∀ x ∈ l, x ∈ D := fun x hx => by
      obtain ⟨e, he, hk⟩ := E.has x hx
      have : seen.contains e.born = true := by
        cases hc : seen.contains e.born with
        | true => rfl
        | false =>
          exfalso
          have : e ∈ (leftOf es seen).toList := by simp [leftOf] at he ⊢; exact ⟨he, by simpa using hc⟩
          have h7 := List.length_pos_of_mem this
          simp at h7
          omega
      obtain ⟨y, hy, hk2⟩ := (h4 e he).1 this
      rw [hk] at hk2
      simp only [Value.int.injEq, true_and] at hk2
      have hyl : y ∈ l := h5.mem_iff.1 (List.mem_append_left _ hy)
      have := cnt_mem E.srt hx
      rw [hk2, cnt_mem E.srt hyl] at this
      rw [show x = y from Prod.ext hk2 this.symm]
      exact hy
    have hR : R = [] := List.eq_nil_iff_forall_not_mem.2 fun x hx => by
      have := hall x (h5.mem_iff.1 (List.mem_append_right _ hx))
      exact (List.nodup_append.1 hnd).2.2 x this x hx rfl
    subst hR
    rw [List.append_nil] at h5
    exact ⟨h5, rfl, hrun⟩
  · right
    obtain ⟨hem, hes⟩ := mem_left he
    obtain ⟨x, hx, hk, hv⟩ := E.key e hem
    have hxD : x ∉ D := fun hm => by
      rw [(h4 e hem).2 ⟨x, hm, hk⟩] at hes
      cases hes
    have hxR : x ∈ R := (List.mem_append.1 (h5.mem_iff.2 hx)).resolve_left hxD
    have hp : (D ++ [x] ++ R.erase x).Perm l := by
      rw [List.append_assoc]
      exact ((List.perm_cons_erase hxR).symm.append_left D).trans h5
    have hf1 : Fr S0 w w1 := by
      rcases hw1 with e | e
      · rw [e]; exact Fr.refl _ _
      · rw [e]; exact Fr.drew _ _
    have k1 := hf1.row h1 fun h => h
    have k3 := hf1.row h3 fun h => h
    have ha : (setBlock w1 r (.mapIter (some h) clock (seen.push e.born) clock)).heap[r]? = some (.mapIter (some h) clock (seen.push e.born) clock) := by
      simp [setBlock, (Array.getElem?_eq_some_iff.1 k3).1]
    have hb : ∀ k, k ≠ r → (setBlock w1 r (.mapIter (some h) clock (seen.push e.born) clock)).heap[k]? = w1.heap[k]? := fun k hk => by
      simp only [setBlock, Array.getElem?_setIfInBounds]
      rw [if_neg fun e => hk e.symm]
    rw [hk, hv] at hrun
    refine ⟨x, R.erase x, _, hx, ⟨es, clock, seen.push e.born, (hb h (fun e => hne e.symm)).trans k1, E, ha, fun e' he' => ?_, hp, by simp [h6]⟩, ?_, hrun, ?_⟩
    · rw [Array.contains_push]
      simp only [Bool.or_eq_true, beq_iff_eq, List.mem_append, List.mem_singleton]
      rw [h4 e' he']
      constructor
      · rintro (⟨y, hy, h7⟩ | h7)
        · exact ⟨y, .inl hy, h7⟩
        · exact ⟨x, .inr rfl, by rw [born_inj hst.2.1 he' hem h7]; exact hk⟩
      · rintro ⟨y, hy | rfl, h7⟩
        · exact .inl ⟨y, hy, h7⟩
        · exact .inr (by rw [entry_eq_of_key hst.2.2 he' hem (h7.trans hk.symm)])
    · refine (hf1.mono fun _ _ h => h.elim).trans (T := (· = r)) ⟨rfl, rfl, rfl, by simp [setBlock], fun k _ hk => hb k hk⟩ fun _ _ h => h
    · rw [run_entry_at _ r h clock seen es clock e ha ((hb h (fun e => hne e.symm)).trans k1) hem hst.2.1, hk, hv]

section
variable (w : World) {ops : Array Oper} {rest : List Oper} {o : Oper} {a : Act} {Q : Exit → Act → World → Prop}
theorem wpList_range_mp (hg : o.guard = none) (m : Operand) (hop : o.op = Op.range 108 m) (h : Nat) (l : List Pr) (hm : a.eval m = .map (some h)) (mp : MpI w h l)
    (hK : ∀ w', Itr w' w.heap.size h l [] l → Fr S0 w w' → wpList Tryz.prog ops Q rest (a.put o.dst (.pointer (some ⟨w.heap.size, 0, none⟩))) w') : wpList Tryz.prog ops Q (o :: rest) a w := by
  refine wpList_plain hg fun K' hK' => ?_
  obtain ⟨w', hrun, r1, r2⟩ := mp.range
  unfold Oper.wp
  simp [execOp, hop, hm, hrun, Result.andThen]
  exact hK' _ _ (hK w' r1 r2)
theorem wpList_next_mp (hg : o.guard = none) (it : Operand) (hop : o.op = Op.next it false) (r h : Nat) (l D R : List Pr) (hit : a.eval it = .pointer (some ⟨r, 0, none⟩)) (i : Itr w r h l D R)
    (hDone : D.Perm l → R = [] → wpList Tryz.prog ops Q rest (a.put o.dst (.tuple #[.bool false])) w)
    (hMore : ∀ x R' w', x ∈ l → Itr w' r h l (D ++ [x]) R' → Fr (· = r) w w' → (Instr.entry (.pointer (some ⟨r, 0, none⟩))).run Tryz.prog w' = .ok (.tuple #[.int .i64 x.1, .int .u64 (x.2 : Nat)]) w' → wpList Tryz.prog ops Q rest (a.put o.dst (.tuple #[.bool true, .int .i64 x.1, .int .u64 (x.2 : Nat)])) w') :
    wpList Tryz.prog ops Q (o :: rest) a w := by
  refine wpList_plain hg fun K' hK' => ?_
  unfold Oper.wp
  rcases i.next o.type with ⟨h1, h2, hrun⟩ | ⟨x, R', w', hx, hi, hf, hrun, hen⟩
  · simp [execOp, hop, hit, hrun, Result.andThen]
    exact hK' _ _ (hDone h1 h2)
  · simp [execOp, hop, hit, hrun, Result.andThen]
    exact hK' _ _ (hMore x R' w' hx hi hf hen)
end
end Go.Proofs.YthfcfmnaiopogaaGreat
