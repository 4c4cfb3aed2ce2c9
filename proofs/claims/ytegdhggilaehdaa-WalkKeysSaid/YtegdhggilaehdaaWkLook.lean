/- lookUp; Part, Share, Parts. -/
import Derived.Test.YtegdhggilaehdaaWkKey
import Derived.Test.YtegdhggilaehdaaRkCut2
import Derived.Test.YtegdhggilaehdaaRkRef
namespace Go.Proofs.Ytegdhggilaehdaa
open Go.RowKit

def i64s (ks : List Int) : List Value := ks.map fun k => .int .i64 k
/-- a slice that holds these ints -/
def KsI (w : World) (q : Option Addr) (ks : List Int) : Prop := ks ≠ [] → ∃ b o, q = some ⟨b, o, none⟩ ∧ ∀ i, (h : i < ks.length) → w.cell? ⟨b, o + i, none⟩ = some (.int .i64 ks[i])
theorem KsI.fr0 {w w' : World} {q : Option Addr} {ks : List Int} (h : KsI w q ks) (f : Fr S0 w w') : KsI w' q ks := fun hk => let ⟨b, o, hp, hc⟩ := h hk; ⟨b, o, hp, fun i hi => f.cell (hc i hi) fun h => h⟩
theorem KsI.at {w : World} {q : Option Addr} {ks : List Int} (h : KsI w q ks) (i : Nat) (hi : i < ks.length) : ∃ b o, q = some ⟨b, o, none⟩ ∧ w.cell? ⟨b, o + i, none⟩ = some (.int .i64 ks[i]) :=
  let ⟨b, o, hp, hc⟩ := h (by intro e; simp [e] at hi); ⟨b, o, hp, hc i hi⟩
theorem info_int : (Try.prog.info? 3).map (fun i => (i.zero, i.size, i.bytes)) = some (some (.int .i64 0), 1, 8) := by kernel_rfl
def zeroz (n : Nat) : Array Value := madeCells #[.int .i64 0] n
theorem make_int (w : World) (n : Nat) (hn : n ≤ 100000) : (Instr.makeSlice 51 (.int .i64 (n : Nat)) (.int .i64 (n : Nat))).run Try.prog w = .ok (.slice (some ⟨w.heap.size, 0, none⟩) n n) (w.alloc (.cells (zeroz n) 3)) := by
  obtain ⟨i, hi, hz, hs, hb⟩ := info_parts info_int
  have := run_make w 51 3 i _ Try.underlying51 hi hz .i64 .i64 (n : Int) (n : Int) (by omega) (by omega) (by rw [hb]; omega) (by omega)
  rw [this, hs, Nat.mul_one, Int.toNat_natCast]
  rfl
theorem zeroz_own (w : World) (n : Nat) (hn : n ≤ 100000) : (w.alloc (.cells (zeroz n) 3)).ownsRow 0 3 1 (.slice (some ⟨w.heap.size, 0, none⟩) n n) n (i64s (List.replicate n 0)) := by
  refine ⟨by simp [i64s], .inr ⟨w.heap.size, n, zeroz n, rfl, Nat.zero_le _, heap_alloc_new w _, Nat.le_refl _, by unfold maxLen; omega, by simp [zeroz, size_madeCells], ?_⟩⟩
  unfold zeroz
  rw [toList_madeCells_one, List.take_of_length_le (by simp)]
  unfold i64s
  rw [List.map_replicate]
theorem rowi_len {w : World} {g c m : Nat} {ks : List Int} (own : w.ownsRow 0 3 1 (.slice (some ⟨g, 0, none⟩) m c) m (i64s ks)) : ks.length = m := by
  have := own.1
  unfold i64s at this
  simpa using this
theorem rowi_at {w : World} {g c m : Nat} {ks : List Int} (own : w.ownsRow 0 3 1 (.slice (some ⟨g, 0, none⟩) m c) m (i64s ks)) (j : Nat) (hj : j < ks.length) : w.cell? ⟨g, j, none⟩ = some (.int .i64 ks[j]) := by
  have hl := rowi_len own
  rw [own.cellAt j (by omega)]
  unfold i64s
  rw [List.getElem?_map, List.getElem?_eq_getElem hj]
  rfl
theorem rowi_set {w w0 : World} {g c m : Nat} {ks : List Int} (own : w.ownsRow 0 3 1 (.slice (some ⟨g, 0, none⟩) m c) m (i64s ks)) (f : Fr S0 w0 w) (hg : w0.heap.size ≤ g) (j : Nat) (v : Int) :
    (w.setCell ⟨g, j, none⟩ (.int .i64 v)).ownsRow 0 3 1 (.slice (some ⟨g, 0, none⟩) m c) m (i64s (ks.set j v)) ∧ Fr S0 w0 (w.setCell ⟨g, j, none⟩ (.int .i64 v)) := by
  obtain ⟨ho, hgr⟩ := own.stored j (.int .i64 v)
  refine ⟨?_, f.append hgr fun k hk => by simp only [Option.some.injEq] at hk; omega⟩
  unfold i64s at ho ⊢
  rw [List.map_set]
  exact ho
/-- the first j keys are looked up -/
def Look (l : List Pr) (rs : List Nat) (j : Nat) (ks : List Int) : Prop := ks.length = rs.length ∧ ∀ i, (h : i < rs.length) → i < j → ks[i]? = some (keyW l rs[i])
theorem Look.step {l : List Pr} {rs : List Nat} {j : Nat} {ks : List Int} (h : Look l rs j ks) (hj : j < rs.length) : Look l rs (j + 1) (ks.set j (keyW l rs[j])) := by
  obtain ⟨h1, h2⟩ := h
  refine ⟨by rw [List.length_set]; exact h1, fun i hi hij => ?_⟩
  rw [List.getElem?_set]
  by_cases e : j = i
  · subst e
    rw [if_pos rfl, if_pos (by omega)]
  · rw [if_neg e]
    exact h2 i hi (by omega)
theorem Look.done {l : List Pr} {rs : List Nat} {j : Nat} {ks : List Int} (h : Look l rs j ks) (hj : j = rs.length) : ks = rs.map (keyW l) := by
  subst hj
  refine List.ext_getElem? fun i => ?_
  by_cases hi : i < rs.length
  · rw [h.2 i hi hi, List.getElem?_map, List.getElem?_eq_getElem hi]
    rfl
  · rw [List.getElem?_eq_none (by rw [h.1]; omega), List.getElem?_eq_none (by rw [List.length_map]; omega)]
/-- a slice of ints that is new to w -/
def KsN (w w' : World) (v : Value) (ks : List Int) : Prop := ∃ q c, v = .slice q ks.length c ∧ KsI w' q ks ∧ Fr S0 w w'

theorem key_in (g r : Nat) (l : List Pr) (w : World) (s : TabIs w g l) (h1 : 1 ≤ r) (h2 : r ≤ ltot l) :
    Calls Try.prog 15 #[.pointer (some ⟨g, 0, none⟩), .int .u64 (r : Nat)] w fun e w' => e = .returned (.tuple #[.int .i64 (keyW l r), .int .i64 0]) ∧ Fr S0 w w' := by
  have ht := s.ok.tot
  have := key_any g r l w s (by omega)
  have hl : l ≠ [] := by rintro rfl; simp only [ltot] at h2; omega
  have e : keyE l r = 0 := by unfold keyE; rw [if_neg hl, if_neg (by omega)]
  have e2 : keyV l r = keyW l r := by unfold keyV; rw [if_pos e]
  rw [e, e2] at this
  exact this

set_option maxRecDepth 100000 in
set_option maxHeartbeats 1000000 in
theorem lookup_any (g m c : Nat) (p : Option Addr) (l : List Pr) (rs : List Nat) (w : World) (s : TabIs w g l) (hr : SlI w .u64 p rs) (hn : rs.length = m) (hm : m ≤ 1000) (hrs : ∀ r ∈ rs, 1 ≤ r ∧ r ≤ ltot l) :
    Calls Try.prog 34 #[.func (.func 15) #[.pointer (some ⟨g, 0, none⟩)] #[], .slice p m c] w fun e w' => ∃ v, e = .returned v ∧ KsN w w' v (rs.map (keyW l)) := by
  have HS := Lib.hid s
  have HR := Lib.hid hr
  have HN := Lib.hid hn
  have HRS := Lib.hid hrs
  have HMK := make_int w m (by omega)
  have HO := Lib.hid (zeroz_own w m (by omega))
  have HF : Hid (Fr S0 w (w.alloc (.cells (zeroz m) 3))) := Lib.hid (Fr.alloc _ _ _)
  obtain ⟨gk, hg⟩ : ∃ g, w.heap.size = g := ⟨_, rfl⟩
  have HG : Hid (w.heap.size ≤ gk) := Lib.hid (by omega)
  rw [hg] at HMK HO
  clear s hr hn hrs hg
  go_enter Try.func34, Try.ntmps34
  go_wp2_with fail
  generalize w.alloc (.cells (zeroz m) 3) = w1 at HO HF ⊢
  go_loopw [6, 7, 13, 18] (fun _ _ y _ wr => ∃ (j : Nat) (ks : List Int), j ≤ m ∧ y = .int .i64 (j : Int) ∧ Hid (Look l rs j ks) ∧ Hid (Fr S0 w wr) ∧ Hid (wr.ownsRow 0 3 1 (.slice (some ⟨gk, 0, none⟩) m m) m (i64s ks))) (fun _ _ y _ _ => m - (intOf y).toNat)
  case atStart => exact ⟨0, _, by omega, rfl, Lib.hid ⟨by rw [rowi_len HO.out, HN.out], fun i hi h => absurd h (Nat.not_lt_zero i)⟩, HF, HO⟩
  case round =>
    obtain ⟨j, ks, hj, rfl, ht, hf, ho⟩ := hrel
    by_cases hlt : (j : Int) < (m : Int)
    · have hjl : j < rs.length := by rw [HN.out]; omega
      obtain ⟨b, o, rfl, k0⟩ := (HR.out.fr0 hf.out).at j hjl
      have hrj := HRS.out _ (List.getElem_mem hjl)
      have HC := Lib.hid (key_in g rs[j] l wr (HS.out.fr0 hf.out) hrj.1 hrj.2)
      have HST := Lib.hid (ht.out.step hjl)
      obtain ⟨K, hK⟩ : ∃ K, keyW l rs[j] = K := ⟨_, rfl⟩
      obtain ⟨R, hR⟩ : ∃ R, rs[j] = R := ⟨_, rfl⟩
      rw [hK] at HC HST
      rw [hR] at HC k0
      clear ht hK hR hrj hjl
      go_wp2_with fail
      refine (HC.out).mono ?_
      rintro e w2 ⟨rfl, f2⟩
      have own := f2.owns ho.out fun _ _ h => h
      have z0 := own.frozenAt j
      have hkl := rowi_len own
      obtain ⟨V0, c0⟩ : ∃ V0, w2.cell? ⟨gk, j, none⟩ = some (.int .i64 V0) := ⟨_, rowi_at own j (by omega)⟩
      have HX := Lib.hid (rowi_set own (hf.out.trans0 f2) HG.out j K)
      clear HC ho hf own f2 k0 hkl
      go_wp2_with fail
      go_roundw
      case rel => exact ⟨j + 1, _, by omega, by go_num, HST, Lib.hid HX.out.2, Lib.hid HX.out.1⟩
      case measure => simp [intOf]; omega
    · obtain rfl : j = m := by omega
      have hd := ht.out.done HN.out.symm
      have HE : Hid (KsN w wr (.slice (some ⟨gk, 0, none⟩) j j) (rs.map (keyW l))) := Lib.hid ⟨_, j, by rw [List.length_map, HN.out], by rw [← hd]; exact fun _ => ⟨gk, 0, rfl, fun i hi => by rw [Nat.zero_add]; exact rowi_at ho.out i hi⟩, hf.out⟩
      clear ht hf ho hd
      go_wp2
      go_ret
      exact ⟨_, rfl, HE.out⟩
end Go.Proofs.Ytegdhggilaehdaa
