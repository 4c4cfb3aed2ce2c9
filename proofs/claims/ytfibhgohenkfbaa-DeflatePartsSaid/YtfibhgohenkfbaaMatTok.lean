/- What stands at a place, as a token; how many bytes a token tells. -/
import Derived.Test.YtfibhgohenkfbaaMatPass
namespace Go.Proofs.Ytfibhgohenkfbaa.M
open Go.RowKit Go.MapKept

def tkc (t : Tk) : Array Value := #[.int .u8 (t.1 : Nat), .int .i64 (t.2.1 : Nat), .int .i64 (t.2.2 : Nat)]
theorem szTok : (Try.prog.info? 45).map (·.size) = some 3 := by kernel_rfl

set_option maxRecDepth 100000 in
set_option maxHeartbeats 1000000 in
theorem width_any (t : Tk) (w : World) : Calls Try.prog 47 #[.agg (tkc t)] w fun r w' => r = .returned (.int .i64 (wid t : Nat)) ∧ Fr S0 w w' := by
  obtain ⟨x, l, d⟩ := t
  unfold tkc
  by_cases h : d = 0
  · have HW : Hid (wid (x, l, d) = 1) := Lib.hid (by simp [wid, h])
    subst h
    go_enter Try.func47, Try.ntmps47
    go_wp2
    go_ret
    exact ⟨congrArg (fun z : Nat => Ending.returned (Value.int .i64 (z : Int))) HW.out.symm, Fr.alloc _ _ _⟩
  · have HW : Hid (wid (x, l, d) = l) := Lib.hid (by simp [wid, h])
    have h1 : ¬ (d : Int) = 0 := by omega
    go_enter Try.func47, Try.ntmps47
    go_wp2
    go_ret
    exact ⟨congrArg (fun z : Nat => Ending.returned (Value.int .i64 (z : Int))) HW.out.symm, Fr.alloc _ _ _⟩

/-- the one result of a function is an aggregate in a block of its own -/
theorem results_row_one {P : Program} {fn : Func} {p : Tmp} {ty : TypeId} (h : fn.results = #[.cell p ty]) (tmps : Array Value) (w : World) {g : Nat} {t : TypeId} {cs : Array Value} {fr : Nat × Nat} {d : TypeDesc}
    (hp : tmps.getD p undef = .pointer (some ⟨g, 0, none⟩)) (hg : w.heap[g]? = some (.cells cs t fr)) (hu : P.underlying ty = some d) (hd : (match d with | .struct _ | .array _ _ => true | _ => false) = true) (hi : (P.info? ty).map (·.size) = some cs.size) :
    (results fn tmps).run P w = .ok (.agg cs) w := by
  have hp' : tmps[p]?.getD undef = .pointer (some ⟨g, 0, none⟩) := by simpa using hp
  simp only [results, h]
  simp [hp', asAddr, run_loadVar_row w g t ty cs fr d hg hu hd hi]
theorem tok_facts {w : World} {g : Nat} {x l d : Value} {t : TypeId} (h : w.heap[g]? = some (.cells #[x, l, d] t)) :
    w.cell? ⟨g, 0, none⟩ = some x ∧ w.cell? ⟨g, 1, none⟩ = some l ∧ w.cell? ⟨g, 2, none⟩ = some d ∧ w.frozen? ⟨g, 0, none⟩ = false ∧ w.frozen? ⟨g, 1, none⟩ = false ∧ w.frozen? ⟨g, 2, none⟩ = false :=
  ⟨by simp [World.cell?, h], by simp [World.cell?, h], by simp [World.cell?, h], by simp [World.frozen?, h], by simp [World.frozen?, h], by simp [World.frozen?, h]⟩
theorem tok_set {w : World} {g : Nat} {x l d x' l' d' : Value} {t : TypeId} (h : w.heap[g]? = some (.cells #[x, l, d] t)) :
    (((w.setCell ⟨g, 0, none⟩ x').setCell ⟨g, 1, none⟩ l').setCell ⟨g, 2, none⟩ d').heap[g]? = some (.cells #[x', l', d'] t) ∧ Fr (· = g) w (((w.setCell ⟨g, 0, none⟩ x').setCell ⟨g, 1, none⟩ l').setCell ⟨g, 2, none⟩ d') := by
  refine ⟨?_, ((Fr.setCell (· = g) w ⟨g, 0, none⟩ x' rfl).trans (Fr.setCell (· = g) _ ⟨g, 1, none⟩ l' rfl) fun _ _ e => e).trans (Fr.setCell (· = g) _ ⟨g, 2, none⟩ d' rfl) fun _ _ e => e⟩
  have h1 : (w.setCell ⟨g, 0, none⟩ x').heap[g]? = some (.cells #[x', l, d] t) := by rw [heap_setCell_same w g 0 _ _ _ h]; rfl
  have h2 : ((w.setCell ⟨g, 0, none⟩ x').setCell ⟨g, 1, none⟩ l').heap[g]? = some (.cells #[x', l', d] t) := by rw [heap_setCell_same _ g 1 _ _ _ h1]; rfl
  rw [heap_setCell_same _ g 2 _ _ _ h2]; rfl

set_option maxRecDepth 100000 in
set_option maxHeartbeats 1000000 in
theorem token_any (a bm : Nat) (p : Option Addr) (c : Nat) (b : List Nat) (k : Nat) (T : Nat → Prop) (w : World) (h : PsIs w a bm p c b k T) (hk : k < b.length) :
    Calls Try.prog 45 #[.pointer (some ⟨a, 0, none⟩)] w fun r w' => r = .returned (.agg (tkc (tok b k))) ∧ Fr S0 w w' := by
  have H := Lib.hid h
  obtain ⟨⟨sz, d⟩, hR⟩ : ∃ R, nrm (bst b k (min k 32768)) = R := ⟨_, rfl⟩
  have HRR := Lib.hid hR
  have HK := Lib.hid hk
  have hlen := h.is.len
  have hcap := h.is.cap
  obtain ⟨m, hm⟩ : ∃ m, b.length = m := ⟨_, rfl⟩
  have HM := Lib.hid hm
  rw [hm] at hlen hcap hk
  have hkm : (k : Int) < (m : Int) := by omega
  clear h hR hm
  go_enter Try.func45, Try.ntmps45
  go_wp2_with fail
  have F0 : Fr S0 w (w.alloc (.cells #[.int .u8 0, .int .i64 0, .int .i64 0] 45)) := Fr.alloc _ _ _
  have hg0 : (w.alloc (.cells #[.int .u8 0, .int .i64 0, .int .i64 0] 45)).heap[w.heap.size]? = some (.cells #[.int .u8 0, .int .i64 0, .int .i64 0] 45) := heap_alloc_new w _
  obtain ⟨w1, hw1⟩ : ∃ w1, w.alloc (.cells #[.int .u8 0, .int .i64 0, .int .i64 0] 45) = w1 := ⟨_, rfl⟩
  obtain ⟨g, hg⟩ : ∃ g, w.heap.size = g := ⟨_, rfl⟩
  rw [hw1] at F0 hg0
  rw [hg] at hg0
  rw [hw1, hg]
  have hga : a ≠ g := by have := (Array.getElem?_eq_some_iff.1 H.out.is.blk).1; omega
  obtain ⟨es, cl, hgr⟩ := (H.out.fr0 F0).grp
  have HG := Lib.hid hgr
  have HG0 := Lib.hid hg0
  have HF0 := Lib.hid F0
  clear hgr hg0 F0 hw1
  by_cases h3 : (sz : Int) < 3
  · have HT : Hid (tok b k = (b.getD k 0, 0, 0)) := Lib.hid (by unfold tok; rw [HRR.out, if_pos (by omega)])
    go_wp2_with (go_at_call 63; refine (longest_any a bm p c b k T es cl w1 (H.out.fr0 HF0.out).is HG.out HK.out).mono ?_; rintro _ w2 ⟨rfl, f2⟩; rw [HRR.out]; have HF2 := Lib.hid f2; clear f2)
    have hg2 := HF2.out.row HG0.out (fun h => h)
    have HP2 := Lib.hid (H.out.fr0 (HF0.out.trans0 HF2.out))
    obtain ⟨B, o, hpe, hx0⟩ := HP2.out.is.txt.at k HK.out
    subst hpe
    have hc0 := HP2.out.is.c0
    have hc1 := HP2.out.is.c1
    rw [HM.out] at hc0
    have HX := getD_at b k HK.out
    obtain ⟨x, hxe⟩ : ∃ x, b[k]'HK.out = x := ⟨_, rfl⟩
    rw [hxe] at hx0 HX
    have k0 : w2.cell? ⟨g, 0, none⟩ = some (.int .u8 0) := by simp [World.cell?, hg2]
    have k1 : w2.cell? ⟨g, 1, none⟩ = some (.int .i64 0) := by simp [World.cell?, hg2]
    have k2 : w2.cell? ⟨g, 2, none⟩ = some (.int .i64 0) := by simp [World.cell?, hg2]
    have f0 : w2.frozen? ⟨g, 0, none⟩ = false := by simp [World.frozen?, hg2]
    have f1 : w2.frozen? ⟨g, 1, none⟩ = false := by simp [World.frozen?, hg2]
    have f2 : w2.frozen? ⟨g, 2, none⟩ = false := by simp [World.frozen?, hg2]
    have HG2 := Lib.hid hg2
    clear hg2 hxe
    go_region
    go_wp2
    have hend := tok_set (x' := .int .u8 (x : Int)) (l' := .int .i64 0) (d' := .int .i64 0) HG2.out
    refine bodyPost_ret (v := .agg (tkc (tok b k))) ?_ rfl ⟨rfl, ?_⟩
    · rw [HT.out, HX]
      exact results_row_one Try.results45 _ _ rfl hend.1 Try.underlying45 rfl szTok
    · exact ((HF0.out.trans0 HF2.out).trans (hend.2.mono (T := fun j => w.heap.size ≤ j) fun j _ e => by omega) fun j _ e => by omega).trans0 (Fr.drew _ _)
  · have HT : Hid (tok b k = (0, sz, d)) := Lib.hid (by unfold tok; rw [HRR.out, if_neg (by omega)])
    go_wp2_with (go_at_call 63; refine (longest_any a bm p c b k T es cl w1 (H.out.fr0 HF0.out).is HG.out HK.out).mono ?_; rintro _ w2 ⟨rfl, f2⟩; rw [HRR.out]; have HF2 := Lib.hid f2; obtain ⟨k0, k1, k2, l0, l1, l2⟩ := tok_facts (f2.row HG0.out (fun h => h)); clear f2)
    have hend := tok_set (x' := .int .u8 0) (l' := .int .i64 (sz : Int)) (d' := .int .i64 (d : Int)) (HF2.out.row HG0.out (fun h => h))
    refine bodyPost_ret (v := .agg (tkc (tok b k))) ?_ rfl ⟨rfl, ?_⟩
    · rw [HT.out]
      exact results_row_one Try.results45 _ _ rfl hend.1 Try.underlying45 rfl szTok
    · exact (HF0.out.trans0 HF2.out).trans (hend.2.mono (T := fun j => w.heap.size ≤ j) fun j _ e => by omega) fun j _ e => by omega
end Go.Proofs.Ytfibhgohenkfbaa.M
