/- MatTwo -/
import Derived.Test.YtnndgpggjlhhpaaGreatPr1
import Derived.Test.YtnndgpggjlhhpaaGreatPr2
import Derived.Test.YtnndgpggjlhhpaaGreatPr25
import Derived.BigRegion
import Derived.IntWalk
import Derived.DeepKeys4
import Derived.WideKeyPair
import Derived.MapKept
import Derived.ChangeMaps
import Derived.Laws.Cover3
import Derived.Laws.BytesArg
import Derived.Lib.SlBytesConst
import Derived.Maps.AppendAt
import Derived.Laws.AppendOwnNone
import Derived.WalkKit
import Derived.WalkSpells
import Derived.WalkLawsBesides
import Derived.Deep.QuietTactic
import Derived.BigQuiet
import Derived.RegionTactic
import Derived.Deep.AppendLies
import Derived.Deep.RegionLaw
import Derived.Laws.ResultCell
import Derived.Laws.EntriesVeiled
import Derived.Lib.Hide
import Derived.Test.YtnndgpggjlhhpaaGreatRows
set_option maxRecDepth 100000
set_option maxHeartbeats 8000000
namespace Go.Proofs.YtnndgpggjlhhpaaGreat.M
open Go.RowKit Go.MapKept
def tkc (t : Tk) : Array Value := #[.int .u8 (t.1 : Nat), .int .i64 (t.2.1 : Nat), .int .i64 (t.2.2 : Nat)]
theorem szTok : (Tryz.prog.info? 186).map (·.size) = some 3 := by kernel_rfl
theorem width_any (t : Tk) (w : World) : Calls Tryz.prog 186 #[.agg (tkc t)] w fun r w' => r = .returned (.int .i64 (wid t : Nat)) ∧ Fr S0 w w' := by
  obtain ⟨x, l, d⟩ := t
  unfold tkc
  by_cases h : d = 0
  · have HW : Hid (wid (x, l, d) = 1) := Lib.hid (by simp [wid, h])
    subst h
    go_enter Tryz.func186, Tryz.ntmps186
    go_wp2
    go_ret
    exact ⟨congrArg (fun z : Nat => Ending.returned (Value.int .i64 (z : Int))) HW.out.symm, Fr.alloc _ _ _⟩
  · have HW : Hid (wid (x, l, d) = l) := Lib.hid (by simp [wid, h])
    have h1 : ¬ (d : Int) = 0 := by omega
    go_enter Tryz.func186, Tryz.ntmps186
    go_wp2
    go_ret
    exact ⟨congrArg (fun z : Nat => Ending.returned (Value.int .i64 (z : Int))) HW.out.symm, Fr.alloc _ _ _⟩
theorem results_row_one {P : Program} {fn : Func} {p : Tmp} {ty : TypeId} (h : fn.results = #[.cell p ty]) (tmps : Array Value) (w : World) {g : Nat} {t : TypeId} {cs : Array Value} {fr : Nat × Nat} {d : TypeDesc}
    (hp : tmps.getD p undef = .pointer (some ⟨g, 0, none⟩)) (hg : w.heap[g]? = some (.cells cs t fr)) (hu : P.underlying ty = some d) (hd : (match d with | .struct _ | .array _ _ => true | _ => false) = true) (hi : (P.info? ty).map (·.size) = some cs.size) :
    (results fn tmps).run P w = .ok (.agg cs) w := by
  have hp' : tmps[p]?.getD undef = .pointer (some ⟨g, 0, none⟩) := by simpa using hp
  simp only [results, h]
  simp [hp', asAddr, run_loadVar_row w g t ty cs fr d hg hu hd hi]
theorem tok_facts {w : World} {g : Nat} {x l d : Value} {t : TypeId} (h : w.heap[g]? = some (.cells #[x, l, d] t)) :
    w.cell? ⟨g, 0, none⟩ = some x ∧ w.cell? ⟨g, 1, none⟩ = some l ∧ w.cell? ⟨g, 2, none⟩ = some d ∧ w.frozen? ⟨g, 0, none⟩ = false ∧ w.frozen? ⟨g, 1, none⟩ = false ∧ w.frozen? ⟨g, 2, none⟩ = false :=
  ⟨by simp [World.cell?, h], by simp [World.cell?, h], by simp [World.cell?, h], by simp [World.frozen?, h], by simp [World.frozen?, h], by simp [World.frozen?, h]⟩
theorem tok_set {w : World} {g : Nat} {x l d x' l' d' : Value} {t : TypeId} (h : w.heap[g]? = some (.cells #[x, l, d] t)) :
    (((w.setCell ⟨g, 0, none⟩ x').setCell ⟨g, 1, none⟩ l').setCell ⟨g, 2, none⟩ d').heap[g]? = some (.cells #[x', l', d'] t) ∧ Fr (· = g) w (((w.setCell ⟨g, 0, none⟩ x').setCell ⟨g, 1, none⟩ l').setCell ⟨g, 2, none⟩ d') := by
  refine ⟨?_, ((Fr.setCell (· = g) w ⟨g, 0, none⟩ x' rfl).trans (Fr.setCell (· = g) _ ⟨g, 1, none⟩ l' rfl) fun _ _ e => e).trans (Fr.setCell (· = g) _ ⟨g, 2, none⟩ d' rfl) fun _ _ e => e⟩
  have h1 : (w.setCell ⟨g, 0, none⟩ x').heap[g]? = some (.cells #[x', l, d] t) := by rw [heap_setCell_same w g 0 _ _ _ h]; rfl
  have h2 : ((w.setCell ⟨g, 0, none⟩ x').setCell ⟨g, 1, none⟩ l').heap[g]? = some (.cells #[x', l', d] t) := by rw [heap_setCell_same _ g 1 _ _ _ h1]; rfl
  rw [heap_setCell_same _ g 2 _ _ _ h2]; rfl
theorem token_any (a bm : Nat) (p : Option Addr) (c : Nat) (b : List Nat) (k : Nat) (T : Nat → Prop) (w : World) (h : PsIs w a bm p c b k T) (hk : k < b.length) :
    Calls Tryz.prog 184 #[.pointer (some ⟨a, 0, none⟩)] w fun r w' => r = .returned (.agg (tkc (tok b k))) ∧ Fr S0 w w' := by
  have H := Lib.hid h
  obtain ⟨⟨sz, d⟩, hR⟩ : ∃ R, nrm (zbst b k (min k 32768)) = R := ⟨_, rfl⟩
  have HRR := Lib.hid hR
  have HK := Lib.hid hk
  have hlen := h.is.len
  have hcap := h.is.cap
  obtain ⟨m, hm⟩ : ∃ m, b.length = m := ⟨_, rfl⟩
  have HM := Lib.hid hm
  rw [hm] at hlen hcap hk
  have hkm : (k : Int) < (m : Int) := by omega
  clear h hR hm
  go_enter Tryz.func184, Tryz.ntmps184
  go_wp2_with fail
  have F0 : Fr S0 w (w.alloc (.cells #[.int .u8 0, .int .i64 0, .int .i64 0] 186)) := Fr.alloc _ _ _
  have hg0 : (w.alloc (.cells #[.int .u8 0, .int .i64 0, .int .i64 0] 186)).heap[w.heap.size]? = some (.cells #[.int .u8 0, .int .i64 0, .int .i64 0] 186) := heap_alloc_new w _
  obtain ⟨w1, hw1⟩ : ∃ w1, w.alloc (.cells #[.int .u8 0, .int .i64 0, .int .i64 0] 186) = w1 := ⟨_, rfl⟩
  obtain ⟨g, hg⟩ : ∃ g, w.heap.size = g := ⟨_, rfl⟩
  rw [hw1] at F0 hg0
  rw [hg] at hg0
  rw [hw1, hg]
  have hga : a ≠ g := by have := (Array.getElem?_eq_some_iff.1 H.out.is.blk).1; omega
  obtain ⟨es, cl, hgr⟩ := (H.out.fr0 F0).grp
  have HG := Lib.hid hgr
  have HG0 := Lib.hid hg0
  have HF0 := Lib.hid F0
  clear hgr hg0 F0 hw1
  by_cases h3 : (sz : Int) < 3
  · have HT : Hid (tok b k = (b.getD k 0, 0, 0)) := Lib.hid (by unfold tok; rw [HRR.out, if_pos (by omega)])
    go_wp2_with (go_at_call 205; refine (longest_any a bm p c b k T es cl w1 (H.out.fr0 HF0.out).is HG.out HK.out).mono ?_; rintro _ w2 ⟨rfl, f2⟩; rw [HRR.out]; have HF2 := Lib.hid f2; clear f2)
    have hg2 := HF2.out.row HG0.out (fun h => h)
    have HP2 := Lib.hid (H.out.fr0 (HF0.out.trans0 HF2.out))
    obtain ⟨B, o, hpe, hx0⟩ := HP2.out.is.txt.at k HK.out
    subst hpe
    have hc0 := HP2.out.is.c0
    have hc1 := HP2.out.is.c1
    rw [HM.out] at hc0
    have HX := getD_at b k HK.out
    obtain ⟨x, hxe⟩ : ∃ x, b[k]'HK.out = x := ⟨_, rfl⟩
    rw [hxe] at hx0 HX
    have k0 : w2.cell? ⟨g, 0, none⟩ = some (.int .u8 0) := by simp [World.cell?, hg2]
    have k1 : w2.cell? ⟨g, 1, none⟩ = some (.int .i64 0) := by simp [World.cell?, hg2]
    have k2 : w2.cell? ⟨g, 2, none⟩ = some (.int .i64 0) := by simp [World.cell?, hg2]
    have f0 : w2.frozen? ⟨g, 0, none⟩ = false := by simp [World.frozen?, hg2]
    have f1 : w2.frozen? ⟨g, 1, none⟩ = false := by simp [World.frozen?, hg2]
    have f2 : w2.frozen? ⟨g, 2, none⟩ = false := by simp [World.frozen?, hg2]
    have HG2 := Lib.hid hg2
    clear hg2 hxe
    go_region
    go_wp2
    have hend := tok_set (x' := .int .u8 (x : Int)) (l' := .int .i64 0) (d' := .int .i64 0) HG2.out
    refine bodyPost_ret (v := .agg (tkc (tok b k))) ?_ rfl ⟨rfl, ?_⟩
    · rw [HT.out, HX]
      exact results_row_one Tryz.results184 _ _ rfl hend.1 Tryz.underlying186 rfl szTok
    · exact ((HF0.out.trans0 HF2.out).trans (hend.2.mono (T := fun j => w.heap.size ≤ j) fun j _ e => by omega) fun j _ e => by omega).trans0 (Fr.drew _ _)
  · have HT : Hid (tok b k = (0, sz, d)) := Lib.hid (by unfold tok; rw [HRR.out, if_neg (by omega)])
    go_wp2_with (go_at_call 205; refine (longest_any a bm p c b k T es cl w1 (H.out.fr0 HF0.out).is HG.out HK.out).mono ?_; rintro _ w2 ⟨rfl, f2⟩; rw [HRR.out]; have HF2 := Lib.hid f2; obtain ⟨k0, k1, k2, l0, l1, l2⟩ := tok_facts (f2.row HG0.out (fun h => h)); clear f2)
    have hend := tok_set (x' := .int .u8 0) (l' := .int .i64 (sz : Int)) (d' := .int .i64 (d : Int)) (HF2.out.row HG0.out (fun h => h))
    refine bodyPost_ret (v := .agg (tkc (tok b k))) ?_ rfl ⟨rfl, ?_⟩
    · rw [HT.out]
      exact results_row_one Tryz.results184 _ _ rfl hend.1 Tryz.underlying186 rfl szTok
    · exact (HF0.out.trans0 HF2.out).trans (hend.2.mono (T := fun j => w.heap.size ≤ j) fun j _ e => by omega) fun j _ e => by omega
end Go.Proofs.YtnndgpggjlhhpaaGreat.M
namespace Go.Proofs.YtnndgpggjlhhpaaGreat.M
open Go.RowKit Go.MapKept
def tkl (l : List Tk) : List Value := l.flatMap fun t => (tkc t).toList
theorem tkl_append (a b : List Tk) : tkl (a ++ b) = tkl a ++ tkl b := by simp [tkl]
theorem tkl_one (t : Tk) : tkl [t] = (tkc t).toList := by simp [tkl]
theorem one_tk (t : Tk) : ∀ u ∈ (tkc t).toList, u.oneCell' = true := by
  intro u hu
  simp only [tkc, List.mem_cons, List.not_mem_nil, or_false] at hu
  rcases hu with rfl | rfl | rfl <;> rfl
theorem info_tk : (Tryz.prog.info? 186).map (fun i => (i.zero, i.size, i.bytes)) = some (some (.agg #[.int .u8 0, .int .i64 0, .int .i64 0]), 3, 24) := by kernel_rfl
theorem elTk : ElemOk Tryz.prog 183 186 (.agg #[.int .u8 0, .int .i64 0, .int .i64 0]) 3 24 := ⟨Tryz.underlying183, info_tk, rfl, by decide, by decide⟩
theorem toks_le (b : List Nat) : (toks b 0).length ≤ b.length := by have := toks_len b b.length 0 (by omega); omega
theorem ps_new (w : World) (p : Option Addr) (c : Nat) (b : List Nat) (h : SlI w .u8 p b) (hc : b.length ≤ c) (h8 : ∀ x ∈ b, x < 256) (hlen : b.length ≤ 1048576) :
    PsIs ((w.alloc (.map #[] 0)).alloc (.cells #[.slice p b.length c, .int .i64 0, .map (some w.heap.size)] 237)) (w.heap.size + 1) w.heap.size p c b 0 (fun _ => False) := by
  have f : Fr S0 w ((w.alloc (.map #[] 0)).alloc (.cells #[.slice p b.length c, .int .i64 0, .map (some w.heap.size)] 237)) := (Fr.alloc S0 _ _).trans0 (Fr.alloc _ _ _)
  refine ⟨⟨?_, h.fr0 f, hc, h8, hlen⟩, ⟨#[], 0, ⟨?_, stamped_empty 0, ?_, ?_, ?_, ?_, ?_, ?_⟩⟩, fun h => h, by omega, fun g h => h.elim, fun hb ad he e => ?_⟩
  · have := heap_alloc_new (w.alloc (.map #[] 0)) (.cells #[.slice p b.length c, .int .i64 0, .map (some w.heap.size)] 237)
    rw [show (w.alloc (.map #[] 0)).heap.size = w.heap.size + 1 by simp] at this
    exact this
  · exact (Fr.alloc S0 _ _).row (heap_alloc_new w (.map #[] 0)) (fun h => h)
  · intro e he; simp at he
  · intro e he; simp at he
  · intro e he; simp at he
  · intro x y z _; simp [lst]
  · intro e he; simp at he
  · exact fun h => h
  · have := h.lt hb ad he
    rcases e with e | e | e
    · omega
    · omega
    · exact e
theorem app_after {w1 w2 : World} {tx tl td : Value} {t : TypeId} {row : Option Nat} (ho : ∀ g, row = some g → g < w1.heap.size) (hgrow : ((w1.alloc (.cells #[tx, tl, td] t)).alloc (.cells #[tx, tl, td] t)).grownBy w2 row) :
    w2.cell? ⟨w1.heap.size, 0, none⟩ = some tx ∧ w2.cell? ⟨w1.heap.size, 1, none⟩ = some tl ∧ w2.cell? ⟨w1.heap.size, 2, none⟩ = some td ∧ Fr (fun j => row = some j) w1 w2 := by
  have h0 := (Fr.alloc S0 (w1.alloc (.cells #[tx, tl, td] t)) (.cells #[tx, tl, td] t)).row (heap_alloc_new w1 (.cells #[tx, tl, td] t)) (fun h => h)
  have h1 := (Fr.grown hgrow).row h0 (fun e => by have := ho _ e; omega)
  obtain ⟨k0, k1, k2, _⟩ := tok_facts h1
  exact ⟨k0, k1, k2, ((Fr.alloc S0 _ _).trans0 (Fr.alloc S0 _ _)).mono (T := fun j => row = some j) (fun _ _ h => h.elim) |>.trans (Fr.grown hgrow) fun _ _ h => h⟩
theorem find_any (p : Option Addr) (c : Nat) (b : List Nat) (w : World) (h : SlI w .u8 p b) (hc : b.length ≤ c) (h8 : ∀ x ∈ b, x < 256) (hlen : b.length ≤ 1048576) :
    Calls Tryz.prog 156 #[.slice p b.length c] w fun r w' => ∃ q n d, r = .returned (.slice q n d) ∧ n = (toks b 0).length ∧ w'.ownsRow 0 186 3 (.slice q n d) n (tkl (toks b 0)) ∧ Fr S0 w w' ∧ Fresh w (.slice q n d) := by
  have H := Lib.hid h
  have H8 := Lib.hid h8
  obtain ⟨m, hm⟩ : ∃ m, b.length = m := ⟨_, rfl⟩
  have HM := Lib.hid hm
  rw [hm] at hc hlen
  rw [hm]
  clear h h8 hm
  have hmm := @run_makeMap Tryz.prog
  go_enter Tryz.func156, Tryz.ntmps156
  go_wp2_with fail
  obtain ⟨W0, hW0⟩ : ∃ W0, (w.alloc (.map #[] 0)).alloc (.cells #[.slice p m c, .int .i64 0, .map (some w.heap.size)] 237) = W0 := ⟨_, rfl⟩
  have HP0 : Hid (PsIs W0 (w.heap.size + 1) w.heap.size p c b 0 (fun _ => False)) := Lib.hid (by rw [← hW0, ← HM.out]; exact ps_new w p c b H.out (by rw [HM.out]; exact hc) H8.out (by rw [HM.out]; exact hlen))
  have HF0 : Hid (Fr S0 w W0) := Lib.hid (by rw [← hW0]; exact (Fr.alloc S0 _ _).trans0 (Fr.alloc _ _ _))
  rw [hW0]
  obtain ⟨bm, hbm⟩ : ∃ bm, w.heap.size = bm := ⟨_, rfl⟩
  obtain ⟨a, ha⟩ : ∃ a, bm + 1 = a := ⟨_, rfl⟩
  have HBM := Lib.hid hbm
  have HA := Lib.hid ha
  rw [hbm, ha] at HP0
  rw [hbm, ha]
  clear hmm hW0 hbm ha
  go_loopw [3, 5] (fun s _ wr => ∃ (k : Nat) (T : Nat → Prop) (q : Option Addr) (n d : Nat) (l : List Tk), s = .slice q n d ∧ toks b 0 = l ++ toks b k ∧ l.length = n ∧ n ≤ k ∧ k ≤ m ∧ PsIs wr a bm p c b k T ∧ Fr S0 w wr ∧ (∀ g, T g → bm ≤ g) ∧ wr.ownsRow 0 186 3 (.slice q n d) n (tkl l) ∧ (∀ g, Value.ownBlock (.slice q n d) = some g → bm ≤ g ∧ ¬ Own a bm T g)) (fun _ _ wr => match wr.cell? ⟨a, 1, none⟩ with | some v => m - (intOf v).toNat | none => 0)
  case atStart => exact ⟨0, _, none, 0, 0, [], rfl, by simp, rfl, by omega, by omega, HP0.out, HF0.out, fun g h => h.elim, World.ownsRow_nil _ _ _ _, fun g h => by cases h⟩
  case round =>
    obtain ⟨k, T, q, n, d, l, rfl, htk, hln, hnk, hkm, hps, hfr, hT, hown, hob⟩ := hrel
    have hc0 := hps.is.c0
    have hc1 := hps.is.c1
    rw [HM.out] at hc0
    have HPS := Lib.hid hps
    have HFR := Lib.hid hfr
    have HT := Lib.hid hT
    have HOWN := Lib.hid hown
    have HOB := Lib.hid hob
    have HTK := Lib.hid htk
    have HLN := Lib.hid hln
    clear hps hfr hT hown hob htk hln
    by_cases hlt : (k : Int) < (m : Int)
    · obtain ⟨⟨tx, tl, td⟩, ht⟩ : ∃ t, tok b k = t := ⟨_, rfl⟩
      have HTT := Lib.hid ht
      have HWP := Lib.hid (wid_pos b k (by rw [HM.out]; omega))
      have HR : Hid (Room (n + 1)) := Lib.hid (Room.mk (by omega))
      have HW : Hid (wid (tx, tl, td) = wid (tok b k)) := Lib.hid (by rw [HTT.out])
      obtain ⟨wd, hwd⟩ : ∃ wd, wid (tx, tl, td) = wd := ⟨_, rfl⟩
      have HWD := Lib.hid hwd
      clear ht hwd
      go_wp2_with (first
        | (go_at_call 184; refine (token_any a bm p c b k T wr HPS.out (by rw [HM.out]; omega)).mono ?_; rintro _ w1 ⟨rfl, f1⟩; rw [HTT.out]; simp only [tkc]; have HF1 := Lib.hid f1; clear f1)
        | (at_builtin; refine app_one elTk (.tmp 15) (.tmp 17) (size_alloc _ _) ((HF1.out.owns HOWN.out (fun _ _ h => h)).alloc _) rfl rfl rfl rfl rfl (one_tk (tx, tl, td)) HR.out ?_; intro g cap w2 hown hgrow hat hlt2; have HLT := Lib.hid (fun g (hg : Value.ownBlock (.slice q n d) = some g) => (HF1.out.owns HOWN.out (fun _ _ h => h)).lt g hg); obtain ⟨k0, k1, k2, f2⟩ := app_after (fun g hg => (HLT.out g hg).2) hgrow; have HF2 := Lib.hid f2; have HOWN2 := Lib.hid hown; have HAT := Lib.hid hat; clear hown hgrow hat f2)
        | (go_at_call 186; refine (width_any (tx, tl, td) _).mono ?_; rintro _ w3 ⟨rfl, f3⟩; rw [HWD.out]; have HF3 := Lib.hid f3; clear f3; have HPS3 := Lib.hid (((HPS.out.fr0 HF1.out).fr HF2.out (fun j hj e => (HOB.out j e).2 hj) (fun hb ad he e => by have h1 := (HOB.out _ e).1; have h2 := H.out.lt hb ad he; have h3 := HBM.out; omega)).fr0 HF3.out))
        | (go_at_call 185; refine (pass_any a bm p c b k wd T w3 HPS3.out (by rw [← HWD.out, HW.out]; exact HWP.out.2)).mono ?_; rintro _ w4 ⟨rfl, T', hp4, ht4⟩; have HP4 := Lib.hid hp4; have HT4 := Lib.hid ht4; clear hp4 ht4))
      have HWP2 : Hid (0 < wd ∧ k + wd ≤ m) := Lib.hid (by have h1 := HWP.out; rw [← HW.out, HWD.out, HM.out] at h1; exact h1)
      have HTK2 : Hid (toks b 0 = (l ++ [(tx, tl, td)]) ++ toks b (k + wd)) := Lib.hid (by rw [HTK.out, toks_in b k (by rw [HM.out]; omega), HTT.out, HWD.out, List.append_assoc]; rfl)
      have e1 := HP4.out.is.c1
      have e2 := HWP2.out
      go_roundw
      case rel =>
        have f13 : Fr (fun j => Value.ownBlock (.slice q n d) = some j) wr w3 := ((HF1.out.mono (T := fun j => Value.ownBlock (.slice q n d) = some j) (fun _ _ h => h.elim)).trans HF2.out fun _ _ h => h).trans0 HF3.out
        have hsz := HFR.out.size
        have hs13 := f13.size
        have hs12 := HF1.out.size
        have hbm := HBM.out
        have hab := HA.out
        have f03 : Fr S0 w w3 := HFR.out.trans f13 fun j hj h => by have := (HOB.out j h).1; omega
        have own3 : w3.ownsRow 0 186 3 (.slice (some ⟨g, 0, none⟩) (n + 1) cap) (n + 1) (tkl l ++ [Value.int IntKind.u8 ↑tx, Value.int IntKind.i64 ↑tl, Value.int IntKind.i64 ↑td]) := HF3.out.owns HOWN2.out fun _ _ h => h
        have hg3 : bm ≤ g ∧ ¬ Own a bm T g ∧ g < w3.heap.size := by
          refine ⟨?_, ?_, (own3.lt g rfl).2⟩
          · rcases HAT.out with h | h
            · exact (HOB.out g h).1
            · omega
          · rcases HAT.out with h | h
            · exact (HOB.out g h).2
            · rintro (e | e | e)
              · have := (Array.getElem?_eq_some_iff.1 HPS.out.is.blk).1; omega
              · have := (Array.getElem?_eq_some_iff.1 HPS.out.is.blk).1; omega
              · have := HPS.out.lt g e; omega
        refine ⟨k + wd, T', some ⟨g, 0, none⟩, n + 1, cap, l ++ [(tx, tl, td)], rfl, HTK2.out, by simp [HLN.out], by omega, e2.2, HP4.out, f03.trans HT4.out.fr fun j hj h => ?_, fun j hj => ?_, ?_, fun j hj => ?_⟩
        · rcases h with h | h | h
          · omega
          · omega
          · have := HT.out j h; omega
        · rcases HT4.out.new j hj with h | h
          · exact HT.out j h
          · omega
        · rw [tkl_append, tkl_one]
          exact HT4.out.fr.owns own3 fun j hj => by cases hj; exact hg3.2.1
        · obtain rfl : g = j := Option.some.inj hj
          refine ⟨hg3.1, ?_⟩
          rintro (e | e | e)
          · exact hg3.2.1 (.inl e)
          · exact hg3.2.1 (.inr (.inl e))
          · rcases HT4.out.new _ e with h | h
            · exact hg3.2.1 (.inr (.inr h))
            · omega
      case measure => rw [e1, hc1]; simp [intOf]; omega
    · go_wp2
      go_ret
      exact ⟨q, n, d, rfl, by rw [HTK.out, toks_out b k (by rw [HM.out]; omega), List.append_nil, HLN.out], by rw [HTK.out, toks_out b k (by rw [HM.out]; omega), List.append_nil]; exact HOWN.out, HFR.out, fun g hg => by rw [HBM.out]; exact (HOB.out g hg).1⟩
end Go.Proofs.YtnndgpggjlhhpaaGreat.M
namespace Go.Proofs.YtnndgpggjlhhpaaGreat.M
open Go.RowKit Go.MapKept
def TkI (w : World) (q : Option Addr) (l : List Tk) : Prop :=
  l ≠ [] → ∃ g, q = some ⟨g, 0, none⟩ ∧ ∀ i, (h : i < l.length) → w.cell? ⟨g, i * 3, none⟩ = some (.int .u8 (l[i].1 : Nat)) ∧ w.cell? ⟨g, i * 3 + 1, none⟩ = some (.int .i64 (l[i].2.1 : Nat)) ∧ w.cell? ⟨g, i * 3 + 2, none⟩ = some (.int .i64 (l[i].2.2 : Nat))
theorem tkl_len (l : List Tk) : (tkl l).length = l.length * 3 := by
  induction l with
  | nil => rfl
  | cons t l ih => rw [show t :: l = [t] ++ l from rfl, tkl_append, List.length_append, ih, tkl_one, List.length_append]; simp [tkc]; omega
theorem tkl_at : ∀ (l : List Tk) (i : Nat) (h : i < l.length), (tkl l)[i * 3]? = some (.int .u8 (l[i].1 : Nat)) ∧ (tkl l)[i * 3 + 1]? = some (.int .i64 (l[i].2.1 : Nat)) ∧ (tkl l)[i * 3 + 2]? = some (.int .i64 (l[i].2.2 : Nat))
  | t :: l, 0, _ => by simp [tkl, tkc]
  | t :: l, i + 1, h => by
    have := tkl_at l i (by simpa using h)
    rw [show tkl (t :: l) = (tkc t).toList ++ tkl l from by rw [show t :: l = [t] ++ l from rfl, tkl_append, tkl_one]]
    have h3 : (tkc t).toList.length = 3 := rfl
    rw [List.getElem?_append_right (by omega), List.getElem?_append_right (by omega), List.getElem?_append_right (by omega), h3, show (i + 1) * 3 - 3 = i * 3 by omega, show (i + 1) * 3 + 1 - 3 = i * 3 + 1 by omega, show (i + 1) * 3 + 2 - 3 = i * 3 + 2 by omega]
    exact this
theorem TkI.ofOwns {w : World} {q : Option Addr} {n d : Nat} {l : List Tk} (h : w.ownsRow 0 186 3 (.slice q n d) n (tkl l)) : TkI w q l := by
  intro hl
  have hlen : l.length * 3 = n * 3 := by have h1 := h.1; rw [tkl_len] at h1; exact h1
  rcases h.2 with ⟨hv, hn⟩ | ⟨g, cap, cur, hv, _⟩
  · have : l.length = 0 := by omega
    exact absurd (List.eq_nil_of_length_eq_zero this) hl
  · simp only [Value.slice.injEq] at hv
    obtain ⟨rfl, -, rfl⟩ := hv
    refine ⟨g, rfl, fun i hi => ?_⟩
    obtain ⟨h1, h2, h3⟩ := tkl_at l i hi
    exact ⟨(h.cellAt _ (by omega)).trans h1, (h.cellAt _ (by omega)).trans h2, (h.cellAt _ (by omega)).trans h3⟩
theorem TkI.fr {S : Nat → Prop} {w w' : World} {q : Option Addr} {l : List Tk} (h : TkI w q l) (hf : Fr S w w') (ho : l ≠ [] → Off S q) : TkI w' q l := by
  intro hl
  obtain ⟨g, hq, hc⟩ := h hl
  have h0 : ¬ S g := ho hl ⟨g, 0, none⟩ hq
  exact ⟨g, hq, fun i hi => ⟨hf.cell (hc i hi).1 h0, hf.cell (hc i hi).2.1 h0, hf.cell (hc i hi).2.2 h0⟩⟩
theorem TkI.fr0 {w w' : World} {q : Option Addr} {l : List Tk} (h : TkI w q l) (hf : Fr S0 w w') : TkI w' q l := h.fr hf fun _ => Off.s0 _
theorem TkI.at {w : World} {q : Option Addr} {l : List Tk} (h : TkI w q l) (i : Nat) (hi : i < l.length) : ∃ g, q = some ⟨g, 0, none⟩ ∧ w.cell? ⟨g, i * 3, none⟩ = some (.int .u8 (l[i].1 : Nat)) ∧ w.cell? ⟨g, i * 3 + 1, none⟩ = some (.int .i64 (l[i].2.1 : Nat)) ∧ w.cell? ⟨g, i * 3 + 2, none⟩ = some (.int .i64 (l[i].2.2 : Nat)) := by
  obtain ⟨g, hq, hc⟩ := h (by intro e; simp [e] at hi)
  exact ⟨g, hq, hc i hi⟩
end Go.Proofs.YtnndgpggjlhhpaaGreat.M
namespace Go.Proofs.YtnndgpggjlhhpaaGreat.M
open Go.RowKit Go.MapKept
theorem rsame_any (p : Option Addr) (c : Nat) (b : List Nat) (i k : Nat) (w : World) (h : SlI w .u8 p b) (hlen : b.length ≤ 1048576) (hi : i < k) (hk : k < b.length) :
    Calls Tryz.prog 159 #[.slice p b.length c, .int .i64 (i : Nat), .int .i64 (k : Nat)] w fun r w' => r = .returned (.int .i64 (run b i k 258 : Nat)) ∧ Fr S0 w w' := by
  have H := Lib.hid h
  obtain ⟨m, hm⟩ : ∃ m, b.length = m := ⟨_, rfl⟩
  have HM := Lib.hid hm
  rw [hm] at hlen hk
  rw [hm]
  clear h hm
  go_enter Tryz.func159, Tryz.ntmps159
  go_wp2_with fail
  go_loopw [7] (fun n wr => ∃ j : Nat, j ≤ 258 ∧ k + j ≤ m ∧ n = .int .i64 j ∧ Fr S0 w wr ∧ ∀ q, q < j → b.getD (i + q) 0 = b.getD (k + q) 0) (fun n _ => 258 - (intOf n).toNat)
  case atStart => exact ⟨0, by omega, by omega, rfl, Fr.refl _ _, fun q hq => by omega⟩
  case round =>
    obtain ⟨j, hj, hkj, rfl, hfr, hq⟩ := hrel
    have HFR := Lib.hid hfr
    have HQ := Lib.hid hq
    clear hfr hq
    by_cases hj8 : (j : Int) < 258
    · by_cases hjm : (k : Int) + (j : Int) < (m : Int)
      · obtain ⟨B, o, rfl, hu⟩ := (H.out.fr0 HFR.out).at (i + j) (by rw [HM.out]; omega)
        obtain ⟨B', o', hp', hv⟩ := (H.out.fr0 HFR.out).at (k + j) (by rw [HM.out]; omega)
        obtain ⟨rfl, rfl⟩ : B = B' ∧ o = o' := by simpa using hp'
        have HU := getD_at b (i + j) (by rw [HM.out]; omega)
        have HV := getD_at b (k + j) (by rw [HM.out]; omega)
        obtain ⟨u, hue⟩ : ∃ u, b[i + j]'(by rw [HM.out]; omega) = u := ⟨_, rfl⟩
        obtain ⟨v, hve⟩ : ∃ v, b[k + j]'(by rw [HM.out]; omega) = v := ⟨_, rfl⟩
        rw [hue] at hu HU
        rw [hve] at hv HV
        have r1 : (i : Int) + (j : Int) < (m : Int) := by omega
        have hu' : wr.cell? ⟨B, o + (i + j), none⟩ = some (.int .u8 (u : Int)) := hu
        have hv' : wr.cell? ⟨B, o + (k + j), none⟩ = some (.int .u8 (v : Int)) := hv
        clear hp' hue hve hu hv
        by_cases huv : (u : Int) = (v : Int)
        · go_wp2_with fail
          go_quiet (fail)
          go_wp2_with fail
          go_roundw
          case rel => exact ⟨j + 1, by omega, by omega, by simp, HFR.out.trans0 (Fr.drewN _ _ _), fun q hq => by
            by_cases e1 : q = j
            · rw [e1, HU, HV]; omega
            · exact HQ.out q (by omega)⟩
          case measure => simp [intOf]; omega
        · have HR : Hid (run b i k 258 = j) := Lib.hid (run_unique b 258 i k j (by omega) (fun q h1 => ⟨by rw [HM.out]; omega, HQ.out q h1⟩) fun _ h2 => huv (by rw [← HU, ← HV, h2.2]))
          go_wp2_with fail
          go_quiet (fail)
          go_wp2
          go_ret
          exact ⟨congrArg (fun z : Nat => Ending.returned (Value.int .i64 (z : Int))) HR.out.symm, HFR.out.trans0 (Fr.drewN _ _ _)⟩
      · have HR : Hid (run b i k 258 = j) := Lib.hid (run_unique b 258 i k j (by omega) (fun q h1 => ⟨by rw [HM.out]; omega, HQ.out q h1⟩) fun _ h2 => by have := h2.1; rw [HM.out] at this; omega)
        have hd : decide ((k : Int) + (j : Int) < (m : Int)) = false := decide_eq_false hjm
        go_wp2_with fail
        go_quiet (fail)
        go_wp2
        go_ret
        exact ⟨congrArg (fun z : Nat => Ending.returned (Value.int .i64 (z : Int))) HR.out.symm, HFR.out.trans0 (Fr.drewN _ _ _)⟩
    · have HR : Hid (run b i k 258 = j) := Lib.hid (run_unique b 258 i k j (by omega) (fun q h1 => ⟨by rw [HM.out]; omega, HQ.out q h1⟩) fun h2 => by omega)
      have hd : decide ((j : Int) < 258) = false := decide_eq_false hj8
      go_wp2_with fail
      go_quiet (fail)
      go_wp2
      go_ret
      exact ⟨congrArg (fun z : Nat => Ending.returned (Value.int .i64 (z : Int))) HR.out.symm, HFR.out.trans0 (Fr.drewN _ _ _)⟩
theorem tok_ge (b : List Nat) (k S D : Nat) (h : zbst b k (min k 32768) = (S, D)) (h3 : 3 ≤ S) : tok b k = (0, S, D) := by
  have hn : nrm (zbst b k (min k 32768)) = (S, D) := by rw [h]; exact if_pos h3
  unfold tok
  rw [hn]
  exact if_neg (by simp only; omega)
theorem tok_lt (b : List Nat) (k S D : Nat) (h : zbst b k (min k 32768) = (S, D)) (h3 : ¬ 3 ≤ S) : tok b k = (b.getD k 0, 0, 0) := by
  have hn : nrm (zbst b k (min k 32768)) = (2, 0) := by rw [h]; exact if_neg h3
  unfold tok
  rw [hn]
  exact if_pos (by simp)
theorem rfind_any (p : Option Addr) (c : Nat) (b : List Nat) (w : World) (h : SlI w .u8 p b) (hlen : b.length ≤ 1048576) :
    Calls Tryz.prog 133 #[.slice p b.length c] w fun r w' => ∃ q n d, r = .returned (.slice q n d) ∧ n = (toks b 0).length ∧ w'.ownsRow 0 186 3 (.slice q n d) n (tkl (toks b 0)) ∧ Fr S0 w w' ∧ Fresh w (.slice q n d) := by
  have H := Lib.hid h
  obtain ⟨m, hm⟩ : ∃ m, b.length = m := ⟨_, rfl⟩
  have HM := Lib.hid hm
  rw [hm] at hlen
  rw [hm]
  clear h hm
  go_enter Tryz.func133, Tryz.ntmps133
  go_wp2_with fail
  go_loopw [3, 4, 5, 6, 7, 8] (fun s e _ _ _ _ wr => ∃ (k : Nat) (q : Option Addr) (n d : Nat) (l : List Tk), s = .slice q n d ∧ e = .int .i64 k ∧ toks b 0 = l ++ toks b k ∧ l.length = n ∧ n ≤ k ∧ k ≤ m ∧ Fr S0 w wr ∧ wr.ownsRow 0 186 3 (.slice q n d) n (tkl l) ∧ Fresh w (.slice q n d)) (fun _ e _ _ _ _ _ => m - (intOf e).toNat)
  case atStart => exact ⟨0, none, 0, 0, [], rfl, rfl, by simp, rfl, by omega, by omega, Fr.refl _ _, World.ownsRow_nil _ _ _ _, fresh_nil _ _⟩
  case round =>
    obtain ⟨k, q, n, d, l, rfl, rfl, htk, hln, hnk, hkm, hfr, hown, hnew⟩ := hrel
    have HFR := Lib.hid hfr
    have HOWN := Lib.hid hown
    have HNEW := Lib.hid hnew
    have HTK := Lib.hid htk
    have HLN := Lib.hid hln
    clear hfr hown hnew htk hln
    by_cases hlt : (k : Int) < (m : Int)
    · have HWP := Lib.hid (wid_pos b k (by rw [HM.out]; omega))
      have HR : Hid (Room (n + 1)) := Lib.hid (Room.mk (by omega))
      have HTIN := Lib.hid (toks_in b k (by rw [HM.out]; omega))
      go_wp2_with fail
      go_loopw [5, 6, 7, 8] (fun s u i _ wi => ∃ j S D : Nat, j ≤ min k 32768 ∧ i = .int .i64 ((k : Int) - 1 - (j : Int)) ∧ s = .int .i64 S ∧ u = .int .i64 D ∧ zbst b k j = (S, D) ∧ Fr S0 wr wi) (fun _ _ i _ _ => (intOf i + 1).toNat)
      case atStart => exact ⟨0, 0, 0, by omega, by simp, rfl, rfl, rfl, Fr.refl _ _⟩
      case round =>
        obtain ⟨j, S, D, hj, rfl, rfl, rfl, hb, hfi⟩ := hrel
        have HBJ := Lib.hid hb
        have HFI := Lib.hid hfi
        have HF := Lib.hid (HFR.out.trans0 hfi)
        have HOWN2 := Lib.hid (hfi.owns HOWN.out fun _ _ h => h)
        clear hb hfi
        by_cases hjk : j < min k 32768
        · obtain ⟨i, hi⟩ : ∃ i, k - 1 - j = i := ⟨_, rfl⟩
          have ei : (k : Int) - 1 - (j : Int) = (i : Int) := by omega
          have HNX : Hid (zbst b k (j + 1) = if S < run b i k 258 then (run b i k 258, j + 1) else (S, D)) := Lib.hid (by rw [zbst, HBJ.out, hi])
          obtain ⟨r, hr⟩ : ∃ r, run b i k 258 = r := ⟨_, rfl⟩
          have HRR := Lib.hid hr
          rw [hr] at HNX
          rw [ei]
          have q1 : (k : Int) - (i : Int) ≤ 32768 := by omega
          clear hr
          by_cases hrs : (S : Int) < (r : Int)
          · have HNX2 : Hid (zbst b k (j + 1) = (r, j + 1)) := Lib.hid (by rw [HNX.out, if_pos (by omega)])
            go_wp2_with (go_at_call 159; rw [← HM.out]; refine (rsame_any p c b i k _ (H.out.fr0 HF.out) (by rw [HM.out]; omega) (by omega) (by rw [HM.out]; omega)).mono ?_; rintro _ w1 ⟨rfl, hf1⟩; rw [HRR.out, HM.out]; have HF1 := Lib.hid hf1; clear hf1)
            go_roundw
            case rel => exact ⟨j + 1, r, j + 1, by omega, by congr 1; omega, rfl, by congr 1; omega, HNX2.out, HFI.out.trans0 HF1.out⟩
            case measure => simp [intOf]
          · have HNX2 : Hid (zbst b k (j + 1) = (S, D)) := Lib.hid (by rw [HNX.out, if_neg (by omega)])
            go_wp2_with (go_at_call 159; rw [← HM.out]; refine (rsame_any p c b i k _ (H.out.fr0 HF.out) (by rw [HM.out]; omega) (by omega) (by rw [HM.out]; omega)).mono ?_; rintro _ w1 ⟨rfl, hf1⟩; rw [HRR.out, HM.out]; have HF1 := Lib.hid hf1; clear hf1)
            go_roundw
            case rel => exact ⟨j + 1, S, D, by omega, by congr 1; omega, rfl, rfl, HNX2.out, HFI.out.trans0 HF1.out⟩
            case measure => simp [intOf]
        · have hje : j = min k 32768 := by omega
          have HB : Hid (zbst b k (min k 32768) = (S, D)) := Lib.hid (by rw [← hje]; exact HBJ.out)
          by_cases hk2 : k ≤ 32768
          · have ei : (k : Int) - 1 - (j : Int) = -1 := by omega
            rw [ei]
            clear hje hjk hj
            by_cases h3 : (3 : Int) ≤ (S : Int)
            · have HT : Hid (tok b k = (0, S, D)) := Lib.hid (tok_ge b k S D HB.out (by omega))
              have HW : Hid (wid (tok b k) = S) := Lib.hid (by
                rcases tok_is b k (by rw [HM.out]; omega) with ⟨h1, _⟩ | ⟨s, e, h1, _, _, h2, _⟩
                · rw [HT.out] at h1; simp only [Prod.mk.injEq] at h1; omega
                · rw [HT.out] at h1 ⊢; simp only [Prod.mk.injEq] at h1; simp only [wid]; rw [if_neg (by omega)])
              have hkS : k + S ≤ m := by have h1 := HWP.out.2; rw [HW.out, HM.out] at h1; exact h1
              skip
              go_wp2_with (at_builtin; refine app_one elTk (.tmp 38) (.tmp 42) rfl HOWN2.out rfl rfl rfl rfl rfl (one_tk (0, S, D)) HR.out ?_; intro g cap w2 hown hgrow hat hlt2; have HO3 := Lib.hid hown; have HG3 := Lib.hid hgrow; have HA3 := Lib.hid hat; clear hown hgrow hat)
              go_roundw
              case rel => exact ⟨k + S, some ⟨g, 0, none⟩, n + 1, cap, l ++ [(0, S, D)], rfl, by simp, by rw [HTK.out, HTIN.out, HT.out, List.append_assoc, ← HT.out, HW.out]; rfl, by simp [HLN.out], by omega, hkS, (HF.out.trans0 (Fr.alloc _ _ _)).append HG3.out HNEW.out, by rw [tkl_append, tkl_one]; exact HO3.out, fresh_app HF.out HNEW.out HA3.out⟩
              case measure => simp [intOf]; omega
            · have HT : Hid (tok b k = (b.getD k 0, 0, 0)) := Lib.hid (tok_lt b k S D HB.out (by omega))
              have HW : Hid (wid (tok b k) = 1) := Lib.hid (by rw [HT.out]; rfl)
              obtain ⟨B, o, rfl, hx0⟩ := (H.out.fr0 HF.out).at k (by rw [HM.out]; omega)
              have HX := getD_at b k (by rw [HM.out]; omega)
              obtain ⟨x, hxe⟩ : ∃ x, b[k]'(by rw [HM.out]; omega) = x := ⟨_, rfl⟩
              rw [hxe] at hx0 HX
              have HTX : Hid (tok b k = (x, 0, 0)) := Lib.hid (by rw [HT.out, HX])
              clear hxe HT
              skip
              go_wp2_with (at_builtin; refine app_one elTk (.tmp 47) (.tmp 53) rfl HOWN2.out rfl rfl rfl rfl rfl (one_tk (x, 0, 0)) HR.out ?_; intro g cap w2 hown hgrow hat hlt2; have HO3 := Lib.hid hown; have HG3 := Lib.hid hgrow; have HA3 := Lib.hid hat; clear hown hgrow hat)
              go_roundw
              case rel => exact ⟨k + 1, some ⟨g, 0, none⟩, n + 1, cap, l ++ [(x, 0, 0)], rfl, by simp, by rw [HTK.out, HTIN.out, HW.out, HTX.out, List.append_assoc]; rfl, by simp [HLN.out], by omega, by omega, (HF.out.trans0 (Fr.alloc _ _ _)).append HG3.out HNEW.out, by rw [tkl_append, tkl_one]; exact HO3.out, fresh_app HF.out HNEW.out HA3.out⟩
              case measure => simp [intOf]; omega
          · have ei : (k : Int) - 1 - (j : Int) = ((k - 32769 : Nat) : Int) := by omega
            obtain ⟨i, hi⟩ : ∃ i, k - 32769 = i := ⟨_, rfl⟩
            rw [ei, hi]
            have hd : ¬ (k : Int) - (i : Int) ≤ 32768 := by omega
            clear hje hjk hj ei
            by_cases h3 : (3 : Int) ≤ (S : Int)
            · have HT : Hid (tok b k = (0, S, D)) := Lib.hid (tok_ge b k S D HB.out (by omega))
              have HW : Hid (wid (tok b k) = S) := Lib.hid (by
                rcases tok_is b k (by rw [HM.out]; omega) with ⟨h1, _⟩ | ⟨s, e, h1, _, _, h2, _⟩
                · rw [HT.out] at h1; simp only [Prod.mk.injEq] at h1; omega
                · rw [HT.out] at h1 ⊢; simp only [Prod.mk.injEq] at h1; simp only [wid]; rw [if_neg (by omega)])
              have hkS : k + S ≤ m := by have h1 := HWP.out.2; rw [HW.out, HM.out] at h1; exact h1
              skip
              go_wp2_with (at_builtin; refine app_one elTk (.tmp 38) (.tmp 42) rfl HOWN2.out rfl rfl rfl rfl rfl (one_tk (0, S, D)) HR.out ?_; intro g cap w2 hown hgrow hat hlt2; have HO3 := Lib.hid hown; have HG3 := Lib.hid hgrow; have HA3 := Lib.hid hat; clear hown hgrow hat)
              go_roundw
              case rel => exact ⟨k + S, some ⟨g, 0, none⟩, n + 1, cap, l ++ [(0, S, D)], rfl, by simp, by rw [HTK.out, HTIN.out, HT.out, List.append_assoc, ← HT.out, HW.out]; rfl, by simp [HLN.out], by omega, hkS, (HF.out.trans0 (Fr.alloc _ _ _)).append HG3.out HNEW.out, by rw [tkl_append, tkl_one]; exact HO3.out, fresh_app HF.out HNEW.out HA3.out⟩
              case measure => simp [intOf]; omega
            · have HT : Hid (tok b k = (b.getD k 0, 0, 0)) := Lib.hid (tok_lt b k S D HB.out (by omega))
              have HW : Hid (wid (tok b k) = 1) := Lib.hid (by rw [HT.out]; rfl)
              obtain ⟨B, o, rfl, hx0⟩ := (H.out.fr0 HF.out).at k (by rw [HM.out]; omega)
              have HX := getD_at b k (by rw [HM.out]; omega)
              obtain ⟨x, hxe⟩ : ∃ x, b[k]'(by rw [HM.out]; omega) = x := ⟨_, rfl⟩
              rw [hxe] at hx0 HX
              have HTX : Hid (tok b k = (x, 0, 0)) := Lib.hid (by rw [HT.out, HX])
              clear hxe HT
              skip
              go_wp2_with (at_builtin; refine app_one elTk (.tmp 47) (.tmp 53) rfl HOWN2.out rfl rfl rfl rfl rfl (one_tk (x, 0, 0)) HR.out ?_; intro g cap w2 hown hgrow hat hlt2; have HO3 := Lib.hid hown; have HG3 := Lib.hid hgrow; have HA3 := Lib.hid hat; clear hown hgrow hat)
              go_roundw
              case rel => exact ⟨k + 1, some ⟨g, 0, none⟩, n + 1, cap, l ++ [(x, 0, 0)], rfl, by simp, by rw [HTK.out, HTIN.out, HW.out, HTX.out, List.append_assoc]; rfl, by simp [HLN.out], by omega, by omega, (HF.out.trans0 (Fr.alloc _ _ _)).append HG3.out HNEW.out, by rw [tkl_append, tkl_one]; exact HO3.out, fresh_app HF.out HNEW.out HA3.out⟩
              case measure => simp [intOf]; omega
    · go_wp2
      go_ret
      exact ⟨q, n, d, rfl, by rw [HTK.out, toks_out b k (by rw [HM.out]; omega), List.append_nil, HLN.out], by rw [HTK.out, toks_out b k (by rw [HM.out]; omega), List.append_nil]; exact HOWN.out, HFR.out, HNEW.out⟩
end Go.Proofs.YtnndgpggjlhhpaaGreat.M
