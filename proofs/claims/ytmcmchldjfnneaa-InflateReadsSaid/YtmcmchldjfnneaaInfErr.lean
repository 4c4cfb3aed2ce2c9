/- Every error has a number. -/
import Derived.Test.YtmcmchldjfnneaaInfLim
namespace Go.Proofs.Ytmcmchldjfnneaa

/-- never the number nought -/
structure Nz {α : Type} (p : List Nat → Nat → Res α) : Prop where
  loc : Loc p
  of : ∀ b k, k ≤ 8 * b.length → p b k ≠ .no 0
theorem Nz.pure {α : Type} (a : α) : Nz (fun _ k => Res.ok a k) := ⟨Loc.pure a, fun _ _ _ h => by cases h⟩
theorem Nz.fail {α : Type} (e : Nat) (he : e ≠ 0) : Nz (fun _ _ => (Res.no e : Res α)) := ⟨Loc.fail e, fun _ _ _ h => by injection h; omega⟩
theorem Nz.rIf (c : Bool) (e : Nat) (he : e ≠ 0) : Nz (fun _ k => rIf c e k) := ⟨Loc.rIf c e, fun b k _ h => by
  cases c with
  | false => rw [rIf_no rfl] at h; injection h; omega
  | true => rw [rIf_yes rfl] at h; cases h⟩
theorem Nz.then {α β : Type} {p : List Nat → Nat → Res α} {q : α → List Nat → Nat → Res β} (hp : Nz p) (hq : ∀ a, Nz (q a)) : Nz (fun b k => (p b k).then fun a j => q a b j) := ⟨hp.loc.then fun a => (hq a).loc, fun b k hk h => by
  cases hx : p b k with
  | no e =>
    have h' : (p b k).then (fun a j => q a b j) = .no 0 := h
    rw [hx] at h'
    injection h' with h'
    subst h'
    exact hp.of b k hk hx
  | ok a i =>
    have h' : (p b k).then (fun a j => q a b j) = .no 0 := h
    rw [hx, Res.then_ok] at h'
    exact (hq a).of b i (hp.loc.of b k a i hx hk).2.1 h'⟩
theorem Nz.ite {α : Type} {p q : List Nat → Nat → Res α} (c : Prop) [Decidable c] (hp : Nz p) (hq : Nz q) : Nz (fun b k => if c then p b k else q b k) := by
  by_cases h : c
  · simp only [if_pos h]; exact hp
  · simp only [if_neg h]; exact hq
theorem Nz.grp (c : Nat) : Nz (fun b k => rGrp b c k) := ⟨Loc.grp c, fun b k _ h => by
  unfold rGrp at h
  split at h
  · cases h
  · injection h with h; cases h⟩
theorem Nz.sym (l : List Nat) : Nz (fun b k => rSym b l k) := ⟨Loc.sym l, fun b k _ h => by
  unfold rSym at h
  split at h
  · cases h
  · split at h
    · injection h with h; cases h
    · injection h with h; cases h⟩
theorem Nz.congr {α : Type} {p q : List Nat → Nat → Res α} (h : Nz p) (e : ∀ b k, q b k = p b k) : Nz q := by
  have : q = p := funext fun b => funext fun k => e b k
  rw [this]; exact h
theorem Nz.align : Nz (fun _ k => Res.ok () (upN k)) := ⟨Loc.align, fun _ _ _ h => by cases h⟩
theorem Nz.text (n : Nat) : Nz (fun b k => rText b n k) := ⟨Loc.text n, fun b k _ h => by
  unfold rText at h
  by_cases hc : k + 8 * n ≤ 8 * b.length
  · rw [rIf_yes (decide_eq_true hc), Res.then_ok] at h; cases h
  · rw [rIf_no (decide_eq_false hc)] at h; injection h with h; cases h⟩
theorem Nz.loop {σ : Type} {step : List Nat → σ → Nat → Res (Bool × σ)} {F : List Nat → σ → Nat → Res σ} (hs : ∀ s, Nz (fun b k => step b s k)) (up : ∀ b s k s1 k1, step b s k = .ok (false, s1) k1 → k ≤ 8 * b.length → k < k1)
    (h1 : ∀ b s k e, step b s k = .no e → F b s k = .no e) (h2 : ∀ b s k s1 k1, step b s k = .ok (true, s1) k1 → F b s k = .ok s1 k1)
    (h3 : ∀ b s k s1 k1, step b s k = .ok (false, s1) k1 → F b s k = if k < k1 ∧ k1 ≤ 8 * b.length then F b s1 k1 else .no 0) : ∀ s, Nz (fun b k => F b s k) := by
  have key : ∀ (m : Nat) (b : List Nat) (s : σ) (k : Nat), 8 * b.length - k ≤ m → k ≤ 8 * b.length → F b s k ≠ .no 0 := by
    intro m
    induction m with
    | zero =>
      intro b s k hm hk h
      cases hx : step b s k with
      | no e =>
        rw [h1 _ _ _ _ hx] at h
        injection h with h
        subst h
        exact (hs s).of b k hk hx
      | ok lt k1 =>
        obtain ⟨last, s1⟩ := lt
        cases last with
        | true => rw [h2 _ _ _ _ _ hx] at h; cases h
        | false =>
          have := up _ _ _ _ _ hx hk
          have := ((hs s).loc.of b k _ k1 hx hk).2.1
          omega
    | succ m ih =>
      intro b s k hm hk h
      cases hx : step b s k with
      | no e =>
        rw [h1 _ _ _ _ hx] at h
        injection h with h
        subst h
        exact (hs s).of b k hk hx
      | ok lt k1 =>
        obtain ⟨last, s1⟩ := lt
        cases last with
        | true => rw [h2 _ _ _ _ _ hx] at h; cases h
        | false =>
          have q1 := up _ _ _ _ _ hx hk
          have q2 := ((hs s).loc.of b k _ k1 hx hk).2.1
          rw [h3 _ _ _ _ _ hx, if_pos ⟨q1, q2⟩] at h
          exact ih b s1 k1 (by omega) q2 h
  exact fun s => ⟨Loc.loop (fun s => (hs s).loc) h1 h2 h3 s, fun b k hk => key _ b s k (Nat.le_refl _) hk⟩

theorem Nz.short : ∀ (syms l : List Nat), Nz (fun b k => rShort b syms l k)
  | [], l => Nz.pure l
  | s :: r, l => (Nz.grp 3).then fun x => Nz.short r (l.set s x)
theorem Nz.code (many : Nat) : Nz (fun b k => rCode b many k) :=
  (Nz.short (order.take many) (List.replicate 19 0)).then fun cl => (Nz.rIf (decide (ful cl)) 62 (by decide)).then fun _ => Nz.pure cl
theorem Nz.run (cl l : List Nat) : Nz (fun b k => rRun b cl l k) :=
  (Nz.sym cl).then fun _ => Nz.ite _ ((Nz.rIf _ 62 (by decide)).then fun _ => (Nz.grp 2).then fun _ => Nz.pure _)
    (Nz.ite _ ((Nz.grp 3).then fun _ => Nz.pure _) (Nz.ite _ ((Nz.grp 7).then fun _ => Nz.pure _) (Nz.pure _)))
theorem Nz.lens (cl : List Nat) (many : Nat) : ∀ (d : Nat) (l : List Nat), many - l.length ≤ d → Nz (fun b k => rLens b cl many l k) := by
  intro d
  induction d with
  | zero =>
    intro l hd
    refine (Nz.pure l).congr fun b k => ?_
    rw [rLens, dif_pos (by omega)]
  | succ d ih =>
    intro l hd
    by_cases hm : many ≤ l.length
    · refine (Nz.pure l).congr fun b k => ?_
      rw [rLens, dif_pos hm]
    · refine ((Nz.run cl l).then (q := fun xt b k => if many < l.length + xt.2 + 1 then .no 62 else rLens b cl many (l ++ List.replicate (xt.2 + 1) xt.1) k) fun xt => Nz.ite _ (Nz.fail 62 (by decide)) (ih _ ?_)).congr fun b k => ?_
      · rw [List.length_append, List.length_replicate]; omega
      · rw [rLens, dif_neg hm]
        cases rRun b cl l k <;> rfl
theorem Nz.codes : Nz (fun b k => rCodes b k) :=
  (Nz.grp 5).then fun n1 => (Nz.grp 5).then fun n2 => (Nz.grp 4).then fun n3 => (Nz.rIf _ 62 (by decide)).then fun _ => (Nz.code (4 + n3)).then fun cl =>
    (Nz.lens cl (257 + n1 + (1 + n2)) _ [] (Nat.le_refl _)).then fun _ => (Nz.rIf _ 62 (by decide)).then fun _ => Nz.pure _
theorem Nz.back (lim : Nat) (spn T : List Nat) (s : Nat) : Nz (fun b k => rBack b lim spn T s k) :=
  (Nz.rIf _ 62 (by decide)).then fun _ => (Nz.grp _).then fun _ => (Nz.sym spn).then fun _ => (Nz.rIf _ 62 (by decide)).then fun _ => (Nz.grp _).then fun _ => (Nz.rIf _ 63 (by decide)).then fun _ => (Nz.rIf _ 64 (by decide)).then fun _ => Nz.pure _
theorem Nz.step (lim : Nat) (lit spn T : List Nat) : Nz (fun b k => rStep b lim lit spn T k) :=
  (Nz.sym lit).then fun s => Nz.ite _ ((Nz.rIf _ 64 (by decide)).then fun _ => Nz.pure _) (Nz.ite _ (Nz.pure _) ((Nz.back lim spn T s).then fun _ => Nz.pure _))
theorem step_up {b lit spn T : List Nat} {lim k k1 : Nat} {x : Bool × List Nat} (h : rStep b lim lit spn T k = .ok x k1) (hk : k ≤ 8 * b.length) : k < k1 := by
  unfold rStep at h
  cases h1 : rSym b lit k with
  | no e => rw [h1] at h; cases h
  | ok s j =>
    obtain ⟨hh, hj⟩ := rSym_in h1
    have hp := hh.1
    have hj2 := ((Loc.sym lit).of b k s j h1 hk).2.1
    rw [h1, Res.then_ok] at h
    have L : Loc (fun b k => if s < 256 then (rIf (decide (T.length + 1 ≤ lim)) 64 k).then fun _ k2 => .ok (false, T ++ [s]) k2
      else if s = 256 then .ok (true, T) k
      else (rBack b lim spn T s k).then fun T1 k2 => .ok (false, T1) k2) :=
      Loc.ite _ ((Loc.rIf _ 64).then fun _ => Loc.pure _) (Loc.ite _ (Loc.pure _) ((Loc.back lim spn T s).then fun _ => Loc.pure _))
    have := (L.of b j x k1 h hj2).1
    omega
theorem Nz.syms (lim : Nat) (lit spn : List Nat) : ∀ T, Nz (fun b k => rSyms b lim lit spn T k) :=
  Nz.loop (step := fun b T k => rStep b lim lit spn T k) (fun T => Nz.step lim lit spn T) (fun b T k s1 k1 h hk => step_up h hk) (fun b s k e h => by rw [rSyms, h]) (fun b s k s1 k1 h => by rw [rSyms, h]) (fun b s k s1 k1 h => by
    rw [rSyms, h]
    show (if _h : k < k1 ∧ k1 ≤ 8 * b.length then _ else _) = _
    split <;> rfl)
theorem Nz.stored (lim : Nat) (T : List Nat) : Nz (fun b k => rStored b lim T k) := by
  refine (Nz.align.then fun _ => (Nz.grp 16).then fun n => (Nz.grp 16).then fun m => (Nz.rIf (decide (n + m = 65535)) 61 (by decide)).then fun _ => (Nz.rIf (decide (T.length + n ≤ lim)) 64 (by decide)).then fun _ => (Nz.text n).then fun x => Nz.pure (T ++ x)).congr fun b k => ?_
  unfold rStored rText
  simp only [Res.then_ok]
  congr 1
  funext n k1
  congr 1
  funext m k2
  congr 1
  funext u k2
  congr 1
  funext u k2
  by_cases hc : k2 + 8 * n ≤ 8 * b.length
  · rw [rIf_yes (decide_eq_true hc)]; rfl
  · rw [rIf_no (decide_eq_false hc)]; rfl
theorem Nz.kind (lim : Nat) (T : List Nat) (n : Nat) : Nz (fun b k => rKind b lim T n k) :=
  Nz.ite _ (Nz.stored lim T) (Nz.ite _ (Nz.syms lim _ _ T) (Nz.ite _ (Nz.codes.then fun c => Nz.syms lim c.1 c.2 T) (Nz.fail 60 (by decide))))
theorem Nz.block (lim : Nat) (T : List Nat) : Nz (fun b k => rBlock b lim T k) :=
  (Nz.grp 1).then fun _ => (Nz.grp 2).then fun n => (Nz.kind lim T n).then fun _ => Nz.pure _
theorem Nz.blocks (lim : Nat) : ∀ T, Nz (fun b k => rBlocks b lim T k) :=
  Nz.loop (step := fun b T k => rBlock b lim T k) (fun T => Nz.block lim T) (fun b T k s1 k1 h _ => block_up h) (fun b s k e h => by rw [rBlocks, h]) (fun b s k s1 k1 h => by rw [rBlocks, h]) (fun b s k s1 k1 h => by
    rw [rBlocks, h]
    show (if _h : k < k1 ∧ k1 ≤ 8 * b.length then _ else _) = _
    split <;> rfl)
theorem infl_nz (b : List Nat) (lim m : Nat) (h : infl b lim = .no m) : m ≠ 0 := by
  intro hm
  subst hm
  exact (Nz.blocks lim []).of b 0 (Nat.zero_le _) h
/-- the limit is passed -/
theorem infl_64 {b T : List Nat} {lim k : Nat} (h : infl b lim = .ok T k) : infl b (T.length - 1) = if T = [] then .ok T k else .no 64 := by
  obtain ⟨h1, h2, h3⟩ := infl_lim h
  split
  · rename_i e; subst e; exact h2 _ (Nat.le_refl _)
  · rename_i e
    have : T.length ≠ 0 := fun h => e (List.length_eq_zero_iff.1 h)
    exact h3 _ (by omega)
end Go.Proofs.Ytmcmchldjfnneaa
