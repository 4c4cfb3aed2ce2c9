/- RegCalls, RegStay -/
import Derived.Deep.RegionHeld3
set_option maxRecDepth 100000
set_option maxHeartbeats 8000000
namespace Go.Proofs.Ytbpfmjekpjfceaa
open Go
section
variable {P : Program} {ops : Array Oper} {Q : Exit → Act → World → Prop} {md : Region.Mode} {S : World → Prop}
def Near (o : Oper) (a b : Act) : Prop := ∃ (u : Value) (ds : List Deferred), b = ({ a with defers := ds } : Act).put o.dst u
theorem near_put (o : Oper) (a : Act) (u : Value) : Near o a (a.put o.dst u) := ⟨u, a.defers, rfl⟩
theorem wpOp_near {j : Nat} {oj : Oper} (hj : ops[j]? = some oj) {K : Act → World → Prop} {a : Act} {w : World} (h : wpOp P ops Q j K a w) : wpOp P ops Q j (fun b w' => Near oj a b ∧ K b w') a w := by
  unfold wpOp at h ⊢
  rw [hj] at h ⊢
  by_cases hw : Region.wanted oj (yielded ops a.tmps) = true
  · simp only [hw, if_true] at h ⊢
    refine h.imp (fun h => ?_) id
    unfold Oper.wp at h ⊢
    cases hr : (execOp a.eval oj).run P w with
    | halt x w' => cases x <;> simp only [hr, Oper.upon] at h ⊢; exact h
    | ok n w' =>
      cases n <;> simp only [hr, Oper.upon] at h ⊢
      · exact ⟨near_put _ _ _, h⟩
      · exact ⟨near_put _ _ _, h⟩
      · exact h.mono fun e w2 he => by cases e <;> first | exact ⟨near_put _ _ _, he⟩ | exact he
      · exact ⟨⟨_, _, rfl⟩, h⟩
      · exact Rows.mono h fun u w2 he => ⟨near_put _ _ _, he⟩
  · simp only [hw] at h ⊢
    exact ⟨near_put _ _ _, h⟩
def GoesTo (P : Program) (ops : Array Oper) (S : World → Prop) (o : Oper) (v : Value) (a : Act) : Prop :=
  (Region.wanted o (yielded ops a.tmps) = true ∧ ∃ f args, ∀ w, S w → (execOp a.eval o).run P w = .ok (.enter f args) w ∧ Calls P f args w fun e w' => e = .returned v ∧ S w') ∨ YieldsIf P ops S o v a
theorem GoesTo.near {oi oj : Oper} {v : Value} {a b : Act} (hy : GoesTo P ops S oi v a) (hs : ∀ cs b, oi.op ≠ .select cs b) (hap : oi.apart ops oj = true) (hn : Near oj a b) : GoesTo P ops S oi v b := by
  obtain ⟨u, ds, rfl⟩ := hn
  have h3 := (Oper.apart_spec hap).2.2
  have e1 := execOp_put oi hs { a with defers := ds } oj.dst u h3
  have e2 := wanted_put oi { a with defers := ds } oj.dst u h3
  rcases hy with hy | hy
  · exact .inl (by rw [e1, e2]; exact hy)
  · exact .inr (hy.of_same e1 e2)
theorem GoesTo.runs {i : Nat} {o : Oper} {v : Value} {a : Act} (hi : ops[i]? = some o) (hy : GoesTo P ops S o v a) {K : Act → World → Prop} {w : World} (hS : S w) (h : ∀ w', S w' → K (a.put o.dst v) w') : wpOp P ops Q i K a w := by
  rcases hy with ⟨hw, f, args, hc⟩ | hy
  · unfold wpOp
    simp only [hi, hw, if_true]
    refine .inl ?_
    unfold Oper.wp
    rw [(hc w hS).1]
    exact Calls.mono (hc w hS).2 fun e w' he => by
      obtain ⟨rfl, h2⟩ := he
      exact h w' h2
  · exact hy.wpOp hi hS (h w hS)
theorem GoesTo.blind {o : Oper} {v : Value} {a : Act} (hy : GoesTo P ops S o v a) : YieldsIf P ops (fun _ => False) o v a := by
  rcases hy with ⟨hw, -⟩ | ⟨hw, -⟩ | hy
  · exact .inl ⟨hw, fun _ h => h.elim⟩
  · exact .inl ⟨hw, fun _ h => h.elim⟩
  · exact .inr hy
theorem GoesTo.across {j : Nat} {oi oj : Oper} {v : Value} (hj : ops[j]? = some oj) (hap : oi.apart ops oj = true) (hsi : ∀ cs b, oi.op ≠ .select cs b) (hsj : ∀ cs b, oj.op ≠ .select cs b)
    (hQ : ∀ c a w, Q (.panic c) (a.put oi.dst v) w → Q (.panic c) a w) {K : Act → World → Prop} {a : Act} {w : World}
    (hy : GoesTo P ops S oi v a) (h : wpOp P ops Q j K (a.put oi.dst v) w) : wpOp P ops Q j (fun b w' => GoesTo P ops S oi v b ∧ K (b.put oi.dst v) w') a w :=
  wpOp_mono (fun _ _ hb => ⟨hy.near hsi hap hb.1, hb.2.2⟩) (wpOp_near hj (wpOp_putIf hj hap hsi hsj hQ hy.blind h))
def Lone (md : Region.Mode) (ops : Array Oper) (oi : Oper) (i : Nat) (listed : Array Bool) : Prop :=
  ∀ j oj, ops[j]? = some oj → j ≠ i → listed.getD j true = false → (∀ e ∈ oj.after, Region.binds md e = true → e.on ≠ i) → oi.apart ops oj = true
theorem Lone.step {oi : Oper} {i j : Nat} {listed : Array Bool} (h : Lone md ops oi i listed) (hj : listed.getD j true = false) : Lone md ops oi i (listed.setIfInBounds j true) := fun k ok hk hki hun hno => by
  refine h k ok hk hki ?_ hno
  by_cases hjk : j = k
  · rw [← hjk]; exact hj
  · rw [getD_set_ne true hjk] at hun; exact hun
theorem ready_apart {oi oj : Oper} {i j : Nat} {listed : Array Bool} (h : Lone md ops oi i listed) (hi : i ∈ Region.ready md ops listed) (hj : j ∈ Region.ready md ops listed) (hji : j ≠ i) (hoj : ops[j]? = some oj) : oi.apart ops oj = true := by
  obtain ⟨hjun, o, ho, hall⟩ := mem_ready.1 hj
  obtain rfl : oj = o := Option.some.inj (hoj.symm.trans ho)
  refine h j oj hoj hji hjun fun e he hb heq => ?_
  have h1 := hall e he hb
  have h0 := (mem_ready.1 hi).1
  rw [heq] at h1
  rcases Nat.lt_or_ge i listed.size with hl | hl
  · rw [Array.getD_eq_getD_getElem?, Array.getElem?_eq_getElem hl] at h0 h1
    rw [Option.getD_some] at h0 h1
    rw [h0] at h1
    cases h1
  · rw [Array.getD_eq_getD_getElem?, Array.getElem?_eq_none hl] at h1
    cases h1
end
end Go.Proofs.Ytbpfmjekpjfceaa

namespace Go.Proofs.Ytbpfmjekpjfceaa
open Go
section
variable {P : Program} {ops : Array Oper} {Q : Exit → Act → World → Prop} {md : Region.Mode} {S : World → Prop}
def Stays (P : Program) (ops : Array Oper) (S : World → Prop) (o : Oper) (v : Value) (a : Act) : Prop := ∀ w, S w → GoesTo P ops (fun x => x = w) o v a
theorem Stays.across {j : Nat} {oi oj : Oper} {v : Value} (hj : ops[j]? = some oj) (hap : oi.apart ops oj = true) (hsi : ∀ cs b, oi.op ≠ .select cs b) (hsj : ∀ cs b, oj.op ≠ .select cs b)
    (hQ : ∀ c a w, Q (.panic c) (a.put oi.dst v) w → Q (.panic c) a w) {K : Act → World → Prop} {a : Act} {w : World} (hS : S w)
    (hy : Stays P ops S oi v a) (h : wpOp P ops Q j K (a.put oi.dst v) w) : wpOp P ops Q j (fun b w' => Stays P ops S oi v b ∧ K (b.put oi.dst v) w') a w :=
  wpOp_mono (fun _ _ hb => ⟨fun x hx => (hy x hx).near hsi hap hb.1, hb.2.2⟩) (wpOp_near hj (wpOp_putIf hj hap hsi hsj hQ (hy w hS).blind h))
theorem anyH_first {i : Nat} {oi : Oper} {v : Value} (hi : ops[i]? = some oi) (hsel : ∀ (j : Nat) (o : Oper) cs b, ops[j]? = some o → o.op ≠ .select cs b) (hQ : ∀ c a w, Q (.panic c) (a.put oi.dst v) w → Q (.panic c) a w) :
    ∀ (fuel : Nat) (listed : Array Bool) (a : Act) (w : World), Lone md ops oi i listed → i ∈ Region.ready md ops listed → Stays P ops S oi v a → S w → wpAnyH P md ops Q S fuel (listed.setIfInBounds i true) (a.put oi.dst v) w → wpAnyH P md ops Q S (fuel + 1) listed a w
  | fuel, listed, a, w, hl, hr, hy, hS, H => by
    refine ⟨fun h => (by rw [h] at hr; cases hr), fun j hj => ?_⟩
    by_cases hji : j = i
    · subst hji
      exact (hy w hS).runs hi rfl fun w' h' => by
        subst h'
        exact ⟨hS, H⟩
    · have hjr := ready_mono hj hji
      cases fuel with
      | zero => rw [H.1] at hjr; cases hjr
      | succ fuel =>
        obtain ⟨hjun, oj, hoj, -⟩ := mem_ready.1 hj
        refine wpOp_mono (fun b w' k => ⟨k.2.1, anyH_first hi hsel hQ fuel (listed.setIfInBounds j true) b w' (hl.step hjun) (ready_mono hr (Ne.symm hji)) k.1 k.2.1 ?_⟩)
          (Stays.across hoj (ready_apart hl hr hj hji hoj) (fun cs b => hsel i oi cs b hi) (fun cs b => hsel j oj cs b hoj) hQ hS hy (H.2 j hjr))
        rw [Array.setIfInBounds_comm _ _ hji]
        exact k.2.2
theorem anyH_stay {i : Nat} {oi : Oper} {v : Value} {fuel : Nat} {listed : Array Bool} {a : Act} {w : World} (f : FuncId) (args : Array Value) (hi : ops[i]? = some oi)
    (hs : Region.noSelect ops = true) (hf : Region.free md ops listed i = true) (hr : (Region.ready md ops listed).contains i = true)
    (hQ : ∀ c a w, Q (.panic c) (a.put oi.dst v) w → Q (.panic c) a w) (hw : Region.wanted oi (yielded ops a.tmps) = true)
    (he : ∀ w, (execOp a.eval oi).run P w = .ok (.enter f args) w) (hc : ∀ w, S w → Calls P f args w fun e w' => e = .returned v ∧ w' = w) (hS : S w)
    (h : wpAnyH P md ops Q S fuel (listed.setIfInBounds i true) (a.put oi.dst v) w) : wpAnyH P md ops Q S (fuel + 1) listed a w :=
  anyH_first hi (Region.noSelect_spec hs) hQ fuel listed a w (fun j oj h1 h2 h3 h4 => Region.free_spec hi hf j oj h1 h2 h3 h4) (by simpa using hr) (fun x hx => .inl ⟨hw, f, args, fun y hy => by
    subst hy
    exact ⟨he y, hc y hx⟩⟩) hS h
end
end Go.Proofs.Ytbpfmjekpjfceaa
