/- A text's tokens. -/
import Derived.Test.YtfibhgohenkfbaaMatTok
namespace Go.Proofs.Ytfibhgohenkfbaa.M
open Go.RowKit Go.MapKept

def tkl (l : List Tk) : List Value := l.flatMap fun t => (tkc t).toList
theorem tkl_append (a b : List Tk) : tkl (a ++ b) = tkl a ++ tkl b := by simp [tkl]
theorem tkl_one (t : Tk) : tkl [t] = (tkc t).toList := by simp [tkl]
theorem one_tk (t : Tk) : ∀ u ∈ (tkc t).toList, u.oneCell' = true := by
  intro u hu
  simp only [tkc, List.mem_cons, List.not_mem_nil, or_false] at hu
  rcases hu with rfl | rfl | rfl <;> rfl
theorem info_tk : (Try.prog.info? 45).map (fun i => (i.zero, i.size, i.bytes)) = some (some (.agg #[.int .u8 0, .int .i64 0, .int .i64 0]), 3, 24) := by kernel_rfl
theorem elTk : ElemOk Try.prog 42 45 (.agg #[.int .u8 0, .int .i64 0, .int .i64 0]) 3 24 := ⟨Try.underlying42, info_tk, rfl, by decide, by decide⟩

theorem toks_le (b : List Nat) : (toks b 0).length ≤ b.length := by have := toks_len b b.length 0 (by omega); omega
theorem ps_new (w : World) (p : Option Addr) (c : Nat) (b : List Nat) (h : SlI w .u8 p b) (hc : b.length ≤ c) (h8 : ∀ x ∈ b, x < 256) (hlen : b.length ≤ 1048576) :
    PsIs ((w.alloc (.map #[] 0)).alloc (.cells #[.slice p b.length c, .int .i64 0, .map (some w.heap.size)] 72)) (w.heap.size + 1) w.heap.size p c b 0 (fun _ => False) := by
  have f : Fr S0 w ((w.alloc (.map #[] 0)).alloc (.cells #[.slice p b.length c, .int .i64 0, .map (some w.heap.size)] 72)) := (Fr.alloc S0 _ _).trans0 (Fr.alloc _ _ _)
  refine ⟨⟨?_, h.fr0 f, hc, h8, hlen⟩, ⟨#[], 0, ⟨?_, stamped_empty 0, ?_, ?_, ?_, ?_, ?_, ?_⟩⟩, fun h => h, by omega, fun g h => h.elim, fun hb ad he e => ?_⟩
  · have := heap_alloc_new (w.alloc (.map #[] 0)) (.cells #[.slice p b.length c, .int .i64 0, .map (some w.heap.size)] 72)
    rw [show (w.alloc (.map #[] 0)).heap.size = w.heap.size + 1 by simp] at this
    exact this
  · exact (Fr.alloc S0 _ _).row (heap_alloc_new w (.map #[] 0)) (fun h => h)
  · intro e he; simp at he
  · intro e he; simp at he
  · intro e he; simp at he
  · intro x y z _; simp [lst]
  · intro e he; simp at he
  · exact fun h => h
  · have := h.lt hb ad he
    rcases e with e | e | e
    · omega
    · omega
    · exact e

theorem app_after {w1 w2 : World} {tx tl td : Value} {t : TypeId} {row : Option Nat} (ho : ∀ g, row = some g → g < w1.heap.size) (hgrow : ((w1.alloc (.cells #[tx, tl, td] t)).alloc (.cells #[tx, tl, td] t)).grownBy w2 row) :
    w2.cell? ⟨w1.heap.size, 0, none⟩ = some tx ∧ w2.cell? ⟨w1.heap.size, 1, none⟩ = some tl ∧ w2.cell? ⟨w1.heap.size, 2, none⟩ = some td ∧ Fr (fun j => row = some j) w1 w2 := by
  have h0 := (Fr.alloc S0 (w1.alloc (.cells #[tx, tl, td] t)) (.cells #[tx, tl, td] t)).row (heap_alloc_new w1 (.cells #[tx, tl, td] t)) (fun h => h)
  have h1 := (Fr.grown hgrow).row h0 (fun e => by have := ho _ e; omega)
  obtain ⟨k0, k1, k2, _⟩ := tok_facts h1
  exact ⟨k0, k1, k2, ((Fr.alloc S0 _ _).trans0 (Fr.alloc S0 _ _)).mono (T := fun j => row = some j) (fun _ _ h => h.elim) |>.trans (Fr.grown hgrow) fun _ _ h => h⟩

set_option maxRecDepth 100000 in
set_option maxHeartbeats 2000000 in
theorem find_any (p : Option Addr) (c : Nat) (b : List Nat) (w : World) (h : SlI w .u8 p b) (hc : b.length ≤ c) (h8 : ∀ x ∈ b, x < 256) (hlen : b.length ≤ 1048576) :
    Calls Try.prog 23 #[.slice p b.length c] w fun r w' => ∃ q n d, r = .returned (.slice q n d) ∧ n = (toks b 0).length ∧ w'.ownsRow 0 45 3 (.slice q n d) n (tkl (toks b 0)) ∧ Fr S0 w w' ∧ Fresh w (.slice q n d) := by
  have H := Lib.hid h
  have H8 := Lib.hid h8
  obtain ⟨m, hm⟩ : ∃ m, b.length = m := ⟨_, rfl⟩
  have HM := Lib.hid hm
  rw [hm] at hc hlen
  rw [hm]
  clear h h8 hm
  have hmm := @run_makeMap Try.prog
  go_enter Try.func23, Try.ntmps23
  go_wp2_with fail
  obtain ⟨W0, hW0⟩ : ∃ W0, (w.alloc (.map #[] 0)).alloc (.cells #[.slice p m c, .int .i64 0, .map (some w.heap.size)] 72) = W0 := ⟨_, rfl⟩
  have HP0 : Hid (PsIs W0 (w.heap.size + 1) w.heap.size p c b 0 (fun _ => False)) := Lib.hid (by rw [← hW0, ← HM.out]; exact ps_new w p c b H.out (by rw [HM.out]; exact hc) H8.out (by rw [HM.out]; exact hlen))
  have HF0 : Hid (Fr S0 w W0) := Lib.hid (by rw [← hW0]; exact (Fr.alloc S0 _ _).trans0 (Fr.alloc _ _ _))
  rw [hW0]
  obtain ⟨bm, hbm⟩ : ∃ bm, w.heap.size = bm := ⟨_, rfl⟩
  obtain ⟨a, ha⟩ : ∃ a, bm + 1 = a := ⟨_, rfl⟩
  have HBM := Lib.hid hbm
  have HA := Lib.hid ha
  rw [hbm, ha] at HP0
  rw [hbm, ha]
  clear hmm hW0 hbm ha
  go_loopw [3, 5] (fun s _ wr => ∃ (k : Nat) (T : Nat → Prop) (q : Option Addr) (n d : Nat) (l : List Tk), s = .slice q n d ∧ toks b 0 = l ++ toks b k ∧ l.length = n ∧ n ≤ k ∧ k ≤ m ∧ PsIs wr a bm p c b k T ∧ Fr S0 w wr ∧ (∀ g, T g → bm ≤ g) ∧ wr.ownsRow 0 45 3 (.slice q n d) n (tkl l) ∧ (∀ g, Value.ownBlock (.slice q n d) = some g → bm ≤ g ∧ ¬ Own a bm T g)) (fun _ _ wr => match wr.cell? ⟨a, 1, none⟩ with | some v => m - (intOf v).toNat | none => 0)
  case atStart => exact ⟨0, _, none, 0, 0, [], rfl, by simp, rfl, by omega, by omega, HP0.out, HF0.out, fun g h => h.elim, World.ownsRow_nil _ _ _ _, fun g h => by cases h⟩
  case round =>
    obtain ⟨k, T, q, n, d, l, rfl, htk, hln, hnk, hkm, hps, hfr, hT, hown, hob⟩ := hrel
    have hc0 := hps.is.c0
    have hc1 := hps.is.c1
    rw [HM.out] at hc0
    have HPS := Lib.hid hps
    have HFR := Lib.hid hfr
    have HT := Lib.hid hT
    have HOWN := Lib.hid hown
    have HOB := Lib.hid hob
    have HTK := Lib.hid htk
    have HLN := Lib.hid hln
    clear hps hfr hT hown hob htk hln
    by_cases hlt : (k : Int) < (m : Int)
    · obtain ⟨⟨tx, tl, td⟩, ht⟩ : ∃ t, tok b k = t := ⟨_, rfl⟩
      have HTT := Lib.hid ht
      have HWP := Lib.hid (wid_pos b k (by rw [HM.out]; omega))
      have HR : Hid (Room (n + 1)) := Lib.hid (Room.mk (by omega))
      have HW : Hid (wid (tx, tl, td) = wid (tok b k)) := Lib.hid (by rw [HTT.out])
      obtain ⟨wd, hwd⟩ : ∃ wd, wid (tx, tl, td) = wd := ⟨_, rfl⟩
      have HWD := Lib.hid hwd
      clear ht hwd
      go_wp2_with (first
        | (go_at_call 45; refine (token_any a bm p c b k T wr HPS.out (by rw [HM.out]; omega)).mono ?_; rintro _ w1 ⟨rfl, f1⟩; rw [HTT.out]; simp only [tkc]; have HF1 := Lib.hid f1; clear f1)
        | (at_builtin; refine app_one elTk (.tmp 15) (.tmp 17) (size_alloc _ _) ((HF1.out.owns HOWN.out (fun _ _ h => h)).alloc _) rfl rfl rfl rfl rfl (one_tk (tx, tl, td)) HR.out ?_; intro g cap w2 hown hgrow hat hlt2; have HLT := Lib.hid (fun g (hg : Value.ownBlock (.slice q n d) = some g) => (HF1.out.owns HOWN.out (fun _ _ h => h)).lt g hg); obtain ⟨k0, k1, k2, f2⟩ := app_after (fun g hg => (HLT.out g hg).2) hgrow; have HF2 := Lib.hid f2; have HOWN2 := Lib.hid hown; have HAT := Lib.hid hat; clear hown hgrow hat f2)
        | (go_at_call 47; refine (width_any (tx, tl, td) _).mono ?_; rintro _ w3 ⟨rfl, f3⟩; rw [HWD.out]; have HF3 := Lib.hid f3; clear f3; have HPS3 := Lib.hid (((HPS.out.fr0 HF1.out).fr HF2.out (fun j hj e => (HOB.out j e).2 hj) (fun hb ad he e => by have h1 := (HOB.out _ e).1; have h2 := H.out.lt hb ad he; have h3 := HBM.out; omega)).fr0 HF3.out))
        | (go_at_call 46; refine (pass_any a bm p c b k wd T w3 HPS3.out (by rw [← HWD.out, HW.out]; exact HWP.out.2)).mono ?_; rintro _ w4 ⟨rfl, T', hp4, ht4⟩; have HP4 := Lib.hid hp4; have HT4 := Lib.hid ht4; clear hp4 ht4))
      have HWP2 : Hid (0 < wd ∧ k + wd ≤ m) := Lib.hid (by have h1 := HWP.out; rw [← HW.out, HWD.out, HM.out] at h1; exact h1)
      have HTK2 : Hid (toks b 0 = (l ++ [(tx, tl, td)]) ++ toks b (k + wd)) := Lib.hid (by rw [HTK.out, toks_in b k (by rw [HM.out]; omega), HTT.out, HWD.out, List.append_assoc]; rfl)
      have e1 := HP4.out.is.c1
      have e2 := HWP2.out
      go_roundw
      case rel =>
        have f13 : Fr (fun j => Value.ownBlock (.slice q n d) = some j) wr w3 := ((HF1.out.mono (T := fun j => Value.ownBlock (.slice q n d) = some j) (fun _ _ h => h.elim)).trans HF2.out fun _ _ h => h).trans0 HF3.out
        have hsz := HFR.out.size
        have hs13 := f13.size
        have hs12 := HF1.out.size
        have hbm := HBM.out
        have hab := HA.out
        have f03 : Fr S0 w w3 := HFR.out.trans f13 fun j hj h => by have := (HOB.out j h).1; omega
        have own3 : w3.ownsRow 0 45 3 (.slice (some ⟨g, 0, none⟩) (n + 1) cap) (n + 1) (tkl l ++ [Value.int IntKind.u8 ↑tx, Value.int IntKind.i64 ↑tl, Value.int IntKind.i64 ↑td]) := HF3.out.owns HOWN2.out fun _ _ h => h
        have hg3 : bm ≤ g ∧ ¬ Own a bm T g ∧ g < w3.heap.size := by
          refine ⟨?_, ?_, (own3.lt g rfl).2⟩
          · rcases HAT.out with h | h
            · exact (HOB.out g h).1
            · omega
          · rcases HAT.out with h | h
            · exact (HOB.out g h).2
            · rintro (e | e | e)
              · have := (Array.getElem?_eq_some_iff.1 HPS.out.is.blk).1; omega
              · have := (Array.getElem?_eq_some_iff.1 HPS.out.is.blk).1; omega
              · have := HPS.out.lt g e; omega
        refine ⟨k + wd, T', some ⟨g, 0, none⟩, n + 1, cap, l ++ [(tx, tl, td)], rfl, HTK2.out, by simp [HLN.out], by omega, e2.2, HP4.out, f03.trans HT4.out.fr fun j hj h => ?_, fun j hj => ?_, ?_, fun j hj => ?_⟩
        · rcases h with h | h | h
          · omega
          · omega
          · have := HT.out j h; omega
        · rcases HT4.out.new j hj with h | h
          · exact HT.out j h
          · omega
        · rw [tkl_append, tkl_one]
          exact HT4.out.fr.owns own3 fun j hj => by cases hj; exact hg3.2.1
        · obtain rfl : g = j := Option.some.inj hj
          refine ⟨hg3.1, ?_⟩
          rintro (e | e | e)
          · exact hg3.2.1 (.inl e)
          · exact hg3.2.1 (.inr (.inl e))
          · rcases HT4.out.new _ e with h | h
            · exact hg3.2.1 (.inr (.inr h))
            · omega
      case measure => rw [e1, hc1]; simp [intOf]; omega
    · go_wp2
      go_ret
      exact ⟨q, n, d, rfl, by rw [HTK.out, toks_out b k (by rw [HM.out]; omega), List.append_nil, HLN.out], by rw [HTK.out, toks_out b k (by rw [HM.out]; omega), List.append_nil]; exact HOWN.out, HFR.out, fun g hg => by rw [HBM.out]; exact (HOB.out g hg).1⟩
end Go.Proofs.Ytfibhgohenkfbaa.M
