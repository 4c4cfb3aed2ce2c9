/- A limit cuts what is more, and nothing else. -/
import Derived.Test.YtmcmchldjfnneaaInfAlive
namespace Go.Proofs.Ytmcmchldjfnneaa

/-- of what is told from t on -/
structure LimOK {α : Type} (len : α → Nat) (p : Nat → Res α) (t : Nat) : Prop where
  of : ∀ lim a j, p lim = .ok a j → t ≤ lim → t ≤ len a ∧ len a ≤ lim ∧ (∀ m, len a ≤ m → p m = .ok a j) ∧ (∀ m, t ≤ m → m < len a → p m = .no 64)
theorem LimOK.pure {α : Type} {len : α → Nat} {t : Nat} (a : α) (j : Nat) (h : len a = t) : LimOK len (fun _ => Res.ok a j) t := ⟨fun lim a' j' e hl => by
  simp only [Res.ok.injEq] at e
  obtain ⟨rfl, rfl⟩ := e
  exact ⟨by omega, by omega, fun _ _ => rfl, fun m h1 h2 => by omega⟩⟩
theorem LimOK.fail {α : Type} {len : α → Nat} {t e : Nat} : LimOK len (fun _ => (Res.no e : Res α)) t := ⟨fun lim a j h => by cases h⟩
theorem LimOK.then {α β : Type} {len : β → Nat} {t : Nat} {q : Res α} {r : α → Nat → Nat → Res β} (h : ∀ a j, LimOK len (r a j) t) : LimOK len (fun lim => q.then fun a j => r a j lim) t := by
  cases q with
  | no e => exact LimOK.fail
  | ok a j => exact h a j
theorem LimOK.ite {α : Type} {len : α → Nat} {t : Nat} {p q : Nat → Res α} (c : Prop) [Decidable c] (hp : LimOK len p t) (hq : LimOK len q t) : LimOK len (fun lim => if c then p lim else q lim) t := by
  by_cases h : c
  · simp only [if_pos h]; exact hp
  · simp only [if_neg h]; exact hq
theorem LimOK.post {α β : Type} {len : α → Nat} {len2 : β → Nat} {t : Nat} {p : Nat → Res α} (f : α → β) (hf : ∀ a, len2 (f a) = len a) (hp : LimOK len p t) : LimOK len2 (fun lim => (p lim).then fun a j => .ok (f a) j) t := ⟨fun lim b j e hl => by
  cases hx : p lim with
  | no m => rw [hx] at e; cases e
  | ok a i =>
    rw [hx, Res.then_ok] at e
    simp only [Res.ok.injEq] at e
    obtain ⟨rfl, rfl⟩ := e
    obtain ⟨h1, h2, h3, h4⟩ := hp.of lim a i hx hl
    rw [hf]
    exact ⟨h1, h2, fun m hm => by rw [h3 m hm, Res.then_ok], fun m q1 q2 => by rw [h4 m q1 q2]; rfl⟩⟩
theorem LimOK.lim {α : Type} {len : α → Nat} {t t1 k : Nat} {q : Nat → Res α} (hq : ∀ k a j, q k = .ok a j → len a = t1) (h : t ≤ t1) : LimOK len (fun lim => (rIf (decide (t1 ≤ lim)) 64 k).then fun _ k => q k) t := ⟨fun lim a j e hl => by
  by_cases hc : t1 ≤ lim
  · rw [rIf_yes (decide_eq_true hc), Res.then_ok] at e
    have := hq _ _ _ e
    refine ⟨by omega, by omega, fun m hm => ?_, fun m q1 q2 => ?_⟩
    · rw [rIf_yes (decide_eq_true (by omega)), Res.then_ok, e]
    · rw [rIf_no (decide_eq_false (by omega))]; rfl
  · rw [rIf_no (decide_eq_false hc)] at e; cases e⟩
theorem LimOK.loop {step F : Nat → List Nat → Nat → Res (Bool × List Nat)} {G : Nat → List Nat → Nat → Res (List Nat)} (N : Nat) (hF : F = step) (hs : ∀ T k, LimOK (fun x => x.2.length) (fun lim => step lim T k) T.length)
    (h1 : ∀ lim T k e, step lim T k = .no e → G lim T k = .no e) (h2 : ∀ lim T k T1 k1, step lim T k = .ok (true, T1) k1 → G lim T k = .ok T1 k1)
    (h3 : ∀ lim T k T1 k1, step lim T k = .ok (false, T1) k1 → G lim T k = if k < k1 ∧ k1 ≤ N then G lim T1 k1 else .no 0) : ∀ T k, LimOK List.length (fun lim => G lim T k) T.length := by
  subst hF
  have key : ∀ (m : Nat) (T : List Nat) (k : Nat), N - k ≤ m → ∀ lim a j, G lim T k = .ok a j → T.length ≤ lim → T.length ≤ a.length ∧ a.length ≤ lim ∧ (∀ m, a.length ≤ m → G m T k = .ok a j) ∧ (∀ m, T.length ≤ m → m < a.length → G m T k = .no 64) := by
    intro m
    induction m with
    | zero =>
      intro T k hm lim a j e hl
      cases hx : F lim T k with
      | no c => rw [h1 _ _ _ _ hx] at e; cases e
      | ok lt k1 =>
        obtain ⟨last, T1⟩ := lt
        obtain ⟨p1, p2, p3, p4⟩ := (hs T k).of lim _ k1 hx hl
        cases last with
        | true =>
          rw [h2 _ _ _ _ _ hx] at e
          simp only [Res.ok.injEq] at e
          obtain ⟨rfl, rfl⟩ := e
          exact ⟨p1, p2, fun m hm => h2 _ _ _ _ _ (p3 m hm), fun m q1 q2 => h1 _ _ _ _ (p4 m q1 q2)⟩
        | false =>
          rw [h3 _ _ _ _ _ hx, if_neg (by omega)] at e
          cases e
    | succ m ih =>
      intro T k hm lim a j e hl
      cases hx : F lim T k with
      | no c => rw [h1 _ _ _ _ hx] at e; cases e
      | ok lt k1 =>
        obtain ⟨last, T1⟩ := lt
        obtain ⟨p1, p2, p3, p4⟩ := (hs T k).of lim _ k1 hx hl
        cases last with
        | true =>
          rw [h2 _ _ _ _ _ hx] at e
          simp only [Res.ok.injEq] at e
          obtain ⟨rfl, rfl⟩ := e
          exact ⟨p1, p2, fun m hm => h2 _ _ _ _ _ (p3 m hm), fun m q1 q2 => h1 _ _ _ _ (p4 m q1 q2)⟩
        | false =>
          rw [h3 _ _ _ _ _ hx] at e
          by_cases hc : k < k1 ∧ k1 ≤ N
          · rw [if_pos hc] at e
            simp only at p1 p2 p3 p4
            obtain ⟨r1, r2, r3, r4⟩ := ih T1 k1 (by omega) lim a j e p2
            refine ⟨by omega, r2, fun m hm => ?_, fun m q1 q2 => ?_⟩
            · rw [h3 _ _ _ _ _ (p3 m (by omega)), if_pos hc]
              exact r3 m hm
            · by_cases hn : m < T1.length
              · exact h1 _ _ _ _ (p4 m q1 hn)
              · rw [h3 _ _ _ _ _ (p3 m (by omega)), if_pos hc]
                exact r4 m (by omega) q2
          · rw [if_neg hc] at e; cases e
  exact fun T k => ⟨fun lim a j e hl => key _ T k (Nat.le_refl _) lim a j e hl⟩

theorem LimOK.back (b spn T : List Nat) (s k : Nat) : LimOK List.length (fun lim => rBack b lim spn T s k) T.length :=
  LimOK.then fun _ _ => LimOK.then fun n _ => LimOK.then fun d _ => LimOK.then fun _ _ => LimOK.then fun f _ => LimOK.then fun _ _ =>
    LimOK.lim (t1 := T.length + (baseN s + n)) (q := fun k => .ok (again (farN d + f) (baseN s + n) T) k) (fun k a j e => by
      simp only [Res.ok.injEq] at e
      rw [← e.1, again_length]) (by omega)
theorem LimOK.step (b lit spn T : List Nat) (k : Nat) : LimOK (fun x : Bool × List Nat => x.2.length) (fun lim => rStep b lim lit spn T k) T.length :=
  LimOK.then fun s j => LimOK.ite _ (LimOK.lim (t1 := T.length + 1) (q := fun k => .ok (false, T ++ [s]) k) (fun k a j e => by
      simp only [Res.ok.injEq] at e
      rw [← e.1]
      simp) (by omega))
    (LimOK.ite _ (LimOK.pure _ _ rfl) (LimOK.post (fun T1 => (false, T1)) (fun _ => rfl) (LimOK.back b spn T s j)))
theorem LimOK.syms (b lit spn : List Nat) : ∀ T k, LimOK List.length (fun lim => rSyms b lim lit spn T k) T.length :=
  LimOK.loop (step := fun lim T k => rStep b lim lit spn T k) (8 * b.length) rfl (fun T k => LimOK.step b lit spn T k) (fun lim T k e h => by rw [rSyms, h]) (fun lim T k T1 k1 h => by rw [rSyms, h]) (fun lim T k T1 k1 h => by
    rw [rSyms, h]
    show (if _h : k < k1 ∧ k1 ≤ 8 * b.length then _ else _) = _
    split <;> rfl)
theorem LimOK.stored (b T : List Nat) (k : Nat) : LimOK List.length (fun lim => rStored b lim T k) T.length :=
  LimOK.then fun n _ => LimOK.then fun _ _ => LimOK.then fun _ _ => LimOK.lim (t1 := T.length + n) (q := fun k => (rIf (decide (k + 8 * n ≤ 8 * b.length)) 20 k).then fun _ k2 => .ok (T ++ (b.drop (k2 / 8)).take n) (k2 + 8 * n)) (fun k a j e => by
    by_cases hc : k + 8 * n ≤ 8 * b.length
    · rw [rIf_yes (decide_eq_true hc), Res.then_ok] at e
      simp only [Res.ok.injEq] at e
      rw [← e.1, List.length_append, List.length_take, List.length_drop]
      omega
    · rw [rIf_no (decide_eq_false hc)] at e; cases e) (by omega)
theorem LimOK.kind (b T : List Nat) (n k : Nat) : LimOK List.length (fun lim => rKind b lim T n k) T.length :=
  LimOK.ite _ (LimOK.stored b T k) (LimOK.ite _ (LimOK.syms b _ _ T k) (LimOK.ite _ (LimOK.then fun c j => LimOK.syms b c.1 c.2 T j) LimOK.fail))
theorem LimOK.block (b T : List Nat) (k : Nat) : LimOK (fun x : Bool × List Nat => x.2.length) (fun lim => rBlock b lim T k) T.length :=
  LimOK.then fun last _ => LimOK.then fun n j => LimOK.post (fun T1 => (decide (last = 1), T1)) (fun _ => rfl) (LimOK.kind b T n j)
theorem LimOK.blocks (b : List Nat) : ∀ T k, LimOK List.length (fun lim => rBlocks b lim T k) T.length :=
  LimOK.loop (step := fun lim T k => rBlock b lim T k) (8 * b.length) rfl (fun T k => LimOK.block b T k) (fun lim T k e h => by rw [rBlocks, h]) (fun lim T k T1 k1 h => by rw [rBlocks, h]) (fun lim T k T1 k1 h => by
    rw [rBlocks, h]
    show (if _h : k < k1 ∧ k1 ≤ 8 * b.length then _ else _) = _
    split <;> rfl)
/-- P6.4 -/
theorem infl_lim {b T : List Nat} {lim k : Nat} (h : infl b lim = .ok T k) : T.length ≤ lim ∧ (∀ m, T.length ≤ m → infl b m = .ok T k) ∧ ∀ m, m < T.length → infl b m = .no 64 := by
  obtain ⟨-, h2, h3, h4⟩ := (LimOK.blocks b [] 0).of lim T k h (Nat.zero_le _)
  exact ⟨h2, h3, fun m hm => h4 m (Nat.zero_le _) hm⟩
/-- P6.4 -/
theorem infl_behind {b T : List Nat} {lim k : Nat} (h : infl b lim = .ok T k) : k ≤ 8 * b.length ∧ (∀ x, infl (b.take (upN k / 8) ++ x) lim = .ok T k) ∧ ∀ n, n < upN k / 8 → infl (b.take n) lim = .no 20 := by
  obtain ⟨-, h2, h3, h4⟩ := (Loc.blocks lim []).of b 0 T k h (Nat.zero_le _)
  have hu : upN k / 8 ≤ b.length := by unfold upN; omega
  refine ⟨h2, fun x => h3 _ ⟨upN k / 8, by unfold upN; omega, hu, by rw [List.length_append, List.length_take]; omega, ?_⟩, fun n hn => h4 n (Nat.zero_le _) (by unfold upN at hn; omega)⟩
  rw [List.take_append_of_le_length (by rw [List.length_take]; omega), List.take_take, Nat.min_self]
end Go.Proofs.Ytmcmchldjfnneaa
