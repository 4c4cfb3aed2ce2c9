/- What stands behind what is read makes no difference; where it is cut off, it ends. -/
import Derived.Test.YtmcmchldjfnneaaInfRead
import Derived.Test.YtmcmchldjfnneaaInfStored
namespace Go.Proofs.Ytmcmchldjfnneaa

theorem bits_take (b : List Nat) (n : Nat) : bts (b.take n) = (bts b).take (8 * n) := by
  induction b generalizing n with
  | nil => simp [bts]
  | cons x r ih =>
    cases n with
    | zero => simp [bts]
    | succ n =>
      have h := ih n
      unfold bts at h ⊢
      rw [List.take_succ_cons, List.flatMap_cons, List.flatMap_cons, h, List.take_append, grp_length, List.take_of_length_le (l := grp x 8) (by rw [grp_length]; omega), show 8 * (n + 1) - 8 = 8 * n by omega]
/-- the first j bits are the same -/
def Same (b b' : List Nat) (j : Nat) : Prop := ∃ n, j ≤ 8 * n ∧ n ≤ b.length ∧ n ≤ b'.length ∧ b'.take n = b.take n
theorem Same.mono {b b' : List Nat} {i j : Nat} (h : Same b b' j) (hi : i ≤ j) : Same b b' i := by
  obtain ⟨n, h1, h2, h3, h4⟩ := h
  exact ⟨n, by omega, h2, h3, h4⟩
theorem Same.le {b b' : List Nat} {j : Nat} (h : Same b b' j) : j ≤ 8 * b'.length := by
  obtain ⟨n, h1, h2, h3, h4⟩ := h
  omega
theorem Same.bits {b b' : List Nat} {j : Nat} (h : Same b b' j) : (bts b').take j = (bts b).take j := by
  obtain ⟨n, h1, h2, h3, h4⟩ := h
  have e := congrArg bts h4
  rw [bits_take, bits_take] at e
  have e2 := congrArg (List.take j) e
  rw [List.take_take, List.take_take, Nat.min_eq_left h1] at e2
  exact e2
theorem take_drop_of {A B : List Nat} {j : Nat} (h : A.take j = B.take j) {k c : Nat} (hc : k + c ≤ j) : (A.drop k).take c = (B.drop k).take c := by
  have e : A.take (k + c) = B.take (k + c) := by
    have e1 : (A.take j).take (k + c) = A.take (k + c) := by rw [List.take_take, Nat.min_eq_left hc]
    have e2 : (B.take j).take (k + c) = B.take (k + c) := by rw [List.take_take, Nat.min_eq_left hc]
    rw [← e1, ← e2, h]
  rw [List.take_drop, List.take_drop, e]

/-- a reading hangs on what it reads alone -/
structure Loc {α : Type} (p : List Nat → Nat → Res α) : Prop where
  of : ∀ b k a j, p b k = .ok a j → k ≤ 8 * b.length → k ≤ j ∧ j ≤ 8 * b.length ∧ (∀ b', Same b b' j → p b' k = .ok a j) ∧ (∀ n, k ≤ 8 * n → 8 * n < j → p (b.take n) k = .no 20)

theorem same_take {b : List Nat} {j n : Nat} (h : j ≤ 8 * n) (hn : n ≤ b.length) : Same b (b.take n) j := ⟨n, h, hn, by rw [List.length_take]; omega, by rw [List.take_take, Nat.min_self]⟩
theorem cut_len {b : List Nat} {n j : Nat} (h : 8 * n < j) (hj : j ≤ 8 * b.length) : (b.take n).length = n := by rw [List.length_take]; omega

theorem Loc.pure {α : Type} (a : α) : Loc (fun _ k => Res.ok a k) := ⟨fun b k a' j h hk => by
  simp only [Res.ok.injEq] at h
  obtain ⟨rfl, rfl⟩ := h
  exact ⟨Nat.le_refl _, hk, fun _ _ => rfl, fun n h1 h2 => by omega⟩⟩
theorem Loc.fail {α : Type} (e : Nat) : Loc (fun _ _ => (Res.no e : Res α)) := ⟨fun b k a j h => by cases h⟩
theorem Loc.rIf (c : Bool) (e : Nat) : Loc (fun _ k => rIf c e k) := ⟨fun b k a j h hk => by
  cases c with
  | false => rw [rIf_no rfl] at h; cases h
  | true =>
    rw [rIf_yes rfl] at h
    simp only [Res.ok.injEq] at h
    obtain ⟨-, rfl⟩ := h
    exact ⟨Nat.le_refl _, hk, fun _ _ => rIf_yes rfl, fun n h1 h2 => by omega⟩⟩
theorem Loc.then {α β : Type} {p : List Nat → Nat → Res α} {q : α → List Nat → Nat → Res β} (hp : Loc p) (hq : ∀ a, Loc (q a)) : Loc (fun b k => (p b k).then fun a j => q a b j) := ⟨fun b k c j h hk => by
  cases hx : p b k with
  | no e => rw [hx] at h; cases h
  | ok a i =>
    rw [hx, Res.then_ok] at h
    obtain ⟨p1, p2, p3, p4⟩ := hp.of b k a i hx hk
    obtain ⟨q1, q2, q3, q4⟩ := (hq a).of b i c j h p2
    refine ⟨by omega, q2, fun b' hs => ?_, fun n h1 h2 => ?_⟩
    · show (p b' k).then _ = _
      rw [p3 b' (hs.mono q1), Res.then_ok, q3 b' hs]
    · show (p (b.take n) k).then _ = _
      by_cases hn : 8 * n < i
      · rw [p4 n h1 hn]; rfl
      · rw [p3 (b.take n) (same_take (by omega) (by omega)), Res.then_ok, q4 n (by omega) h2]⟩
theorem Loc.ite {α : Type} {p q : List Nat → Nat → Res α} (c : Prop) [Decidable c] (hp : Loc p) (hq : Loc q) : Loc (fun b k => if c then p b k else q b k) := by
  by_cases h : c
  · simp only [if_pos h]; exact hp
  · simp only [if_neg h]; exact hq

theorem Loc.grp (c : Nat) : Loc (fun b k => rGrp b c k) := ⟨fun b k a j h hk => by
  have hj := (rGrp_lt h).2
  unfold rGrp at h
  split at h
  · rename_i hc
    simp only [Res.ok.injEq] at h
    obtain ⟨ha, -⟩ := h
    subst hj
    refine ⟨by omega, hc, fun b' hs => ?_, fun n h1 h2 => ?_⟩
    · rw [rGrp_yes hs.le]
      unfold bitsAt at ha ⊢
      rw [take_drop_of hs.bits (Nat.le_refl _), ha]
    · rw [rGrp_no (by rw [cut_len h2 hc]; omega)]
  · cases h⟩
theorem hits_of {l A B : List Nat} {i m : Nat} (h : hits l A i) (hm : len l i ≤ m) (e : A.take m = B.take m) (hB : m ≤ B.length) : hits l B i := by
  obtain ⟨h1, h2, h3⟩ := h
  refine ⟨h1, by omega, ?_⟩
  have e1 : (A.take m).take (len l i) = A.take (len l i) := by rw [List.take_take, Nat.min_eq_left hm]
  have e2 : (B.take m).take (len l i) = B.take (len l i) := by rw [List.take_take, Nat.min_eq_left hm]
  rw [← e2, ← e, e1, h3]
theorem Loc.sym (l : List Nat) : Loc (fun b k => rSym b l k) := ⟨fun b k a j h hk => by
  obtain ⟨hh, rfl⟩ := rSym_in h
  have hl := hh.2.1
  rw [List.length_drop, bts_length] at hl
  refine ⟨by omega, by omega, fun b' hs => ?_, fun n h1 h2 => ?_⟩
  · refine rSym_hit (hits_of hh (Nat.le_refl _) (take_drop_of hs.bits (Nat.le_refl _)).symm ?_)
    have := hs.le
    rw [List.length_drop, bts_length]; omega
  · have hcut := cut_len (b := b) h2 (by omega)
    have hb : Bit01 ((bts b).drop k) := (bts_bit b).sub fun _ hx => List.mem_of_mem_drop hx
    have hno : ∀ i, ¬ hits l ((bts (b.take n)).drop k) i := by
      intro i hi
      have hil := hi.2.1
      rw [List.length_drop, bts_length, hcut] at hil
      have hi' : hits l ((bts b).drop k) i := by
        refine hits_of hi (m := 8 * n - k) hil ?_ (by rw [List.length_drop, bts_length]; omega)
        rw [bits_take]
        exact take_drop_of (j := 8 * n) (by rw [List.take_take, Nat.min_self]) (by omega)
      have := hits_one hb hi' hh
      subst this
      omega
    rw [rSym_none hno, if_pos]
    rw [List.length_drop, bts_length, hcut]
    have := mx_len l a
    omega⟩
theorem Loc.congr {α : Type} {p q : List Nat → Nat → Res α} (h : Loc p) (e : ∀ b k, q b k = p b k) : Loc q := by
  have : q = p := funext fun b => funext fun k => e b k
  rw [this]; exact h
theorem Loc.align : Loc (fun _ k => Res.ok () (upN k)) := ⟨fun b k a j h hk => by
  simp only [Res.ok.injEq] at h
  obtain ⟨-, rfl⟩ := h
  refine ⟨by unfold upN; omega, upN_le hk, fun _ _ => rfl, fun n h1 h2 => ?_⟩
  unfold upN at h2
  omega⟩
/-- so many bytes -/
def rText (b : List Nat) (n k : Nat) : Res (List Nat) := (rIf (decide (k + 8 * n ≤ 8 * b.length)) 20 k).then fun _ k => .ok ((b.drop (k / 8)).take n) (k + 8 * n)
theorem Loc.text (n : Nat) : Loc (fun b k => rText b n k) := ⟨fun b k a j h hk => by
  unfold rText at h
  by_cases hc : k + 8 * n ≤ 8 * b.length
  · rw [rIf_yes (decide_eq_true hc), Res.then_ok] at h
    simp only [Res.ok.injEq] at h
    obtain ⟨rfl, rfl⟩ := h
    refine ⟨by omega, hc, fun b' hs => ?_, fun m h1 h2 => ?_⟩
    · unfold rText
      rw [rIf_yes (decide_eq_true hs.le), Res.then_ok]
      obtain ⟨q, s1, s2, s3, s4⟩ := hs
      rw [take_drop_of (j := q) s4 (by omega)]
    · unfold rText
      rw [rIf_no (decide_eq_false (by rw [cut_len h2 hc]; omega))]; rfl
  · rw [rIf_no (decide_eq_false hc)] at h; cases h⟩

/-- a loop of readings -/
theorem Loc.loop {σ : Type} {step : List Nat → σ → Nat → Res (Bool × σ)} {F : List Nat → σ → Nat → Res σ} (hs : ∀ s, Loc (fun b k => step b s k))
    (h1 : ∀ b s k e, step b s k = .no e → F b s k = .no e) (h2 : ∀ b s k s1 k1, step b s k = .ok (true, s1) k1 → F b s k = .ok s1 k1)
    (h3 : ∀ b s k s1 k1, step b s k = .ok (false, s1) k1 → F b s k = if k < k1 ∧ k1 ≤ 8 * b.length then F b s1 k1 else .no 0) : ∀ s, Loc (fun b k => F b s k) := by
  have key : ∀ (m : Nat) (b : List Nat) (s : σ) (k : Nat), 8 * b.length - k ≤ m → ∀ a j, F b s k = .ok a j → k ≤ 8 * b.length → k ≤ j ∧ j ≤ 8 * b.length ∧ (∀ b', Same b b' j → F b' s k = .ok a j) ∧ (∀ n, k ≤ 8 * n → 8 * n < j → F (b.take n) s k = .no 20) := by
    intro m
    induction m with
    | zero =>
      intro b s k hm a j h hk
      cases hx : step b s k with
      | no e => rw [h1 _ _ _ _ hx] at h; cases h
      | ok lt k1 =>
        obtain ⟨last, s1⟩ := lt
        obtain ⟨p1, p2, p3, p4⟩ := (hs s).of b k _ k1 hx hk
        cases last with
        | true =>
          rw [h2 _ _ _ _ _ hx] at h
          simp only [Res.ok.injEq] at h
          obtain ⟨rfl, rfl⟩ := h
          exact ⟨p1, p2, fun b' hb => h2 _ _ _ _ _ (p3 b' hb), fun n q1 q2 => h1 _ _ _ _ (p4 n q1 q2)⟩
        | false =>
          rw [h3 _ _ _ _ _ hx, if_neg (by omega)] at h
          cases h
    | succ m ih =>
      intro b s k hm a j h hk
      cases hx : step b s k with
      | no e => rw [h1 _ _ _ _ hx] at h; cases h
      | ok lt k1 =>
        obtain ⟨last, s1⟩ := lt
        obtain ⟨p1, p2, p3, p4⟩ := (hs s).of b k _ k1 hx hk
        cases last with
        | true =>
          rw [h2 _ _ _ _ _ hx] at h
          simp only [Res.ok.injEq] at h
          obtain ⟨rfl, rfl⟩ := h
          exact ⟨p1, p2, fun b' hb => h2 _ _ _ _ _ (p3 b' hb), fun n q1 q2 => h1 _ _ _ _ (p4 n q1 q2)⟩
        | false =>
          rw [h3 _ _ _ _ _ hx] at h
          by_cases hc : k < k1 ∧ k1 ≤ 8 * b.length
          · rw [if_pos hc] at h
            obtain ⟨r1, r2, r3, r4⟩ := ih b s1 k1 (by omega) a j h p2
            refine ⟨by omega, r2, fun b' hb => ?_, fun n q1 q2 => ?_⟩
            · rw [h3 _ _ _ _ _ (p3 b' (hb.mono r1)), if_pos ⟨hc.1, (hb.mono r1).le⟩]
              exact r3 b' hb
            · by_cases hn : 8 * n < k1
              · exact h1 _ _ _ _ (p4 n q1 hn)
              · have sm : Same b (b.take n) k1 := same_take (by omega) (by omega)
                rw [h3 _ _ _ _ _ (p3 _ sm), if_pos ⟨hc.1, sm.le⟩]
                exact r4 n (by omega) q2
          · rw [if_neg hc] at h; cases h
  exact fun s => ⟨fun b k a j h hk => key _ b s k (Nat.le_refl _) a j h hk⟩

theorem Loc.short : ∀ (syms l : List Nat), Loc (fun b k => rShort b syms l k)
  | [], l => Loc.pure l
  | s :: r, l => (Loc.grp 3).then fun x => Loc.short r (l.set s x)
theorem Loc.code (many : Nat) : Loc (fun b k => rCode b many k) :=
  (Loc.short (order.take many) (List.replicate 19 0)).then fun cl => (Loc.rIf (decide (ful cl)) 62).then fun _ => Loc.pure cl
theorem Loc.run (cl l : List Nat) : Loc (fun b k => rRun b cl l k) :=
  (Loc.sym cl).then fun _ => Loc.ite _ ((Loc.rIf _ 62).then fun _ => (Loc.grp 2).then fun _ => Loc.pure _)
    (Loc.ite _ ((Loc.grp 3).then fun _ => Loc.pure _) (Loc.ite _ ((Loc.grp 7).then fun _ => Loc.pure _) (Loc.pure _)))
theorem Loc.lens (cl : List Nat) (many : Nat) : ∀ (d : Nat) (l : List Nat), many - l.length ≤ d → Loc (fun b k => rLens b cl many l k) := by
  intro d
  induction d with
  | zero =>
    intro l hd
    refine (Loc.pure l).congr fun b k => ?_
    rw [rLens, dif_pos (by omega)]
  | succ d ih =>
    intro l hd
    by_cases hm : many ≤ l.length
    · refine (Loc.pure l).congr fun b k => ?_
      rw [rLens, dif_pos hm]
    · refine ((Loc.run cl l).then (q := fun xt b k => if many < l.length + xt.2 + 1 then .no 62 else rLens b cl many (l ++ List.replicate (xt.2 + 1) xt.1) k) fun xt => Loc.ite _ (Loc.fail 62) (ih _ ?_)).congr fun b k => ?_
      · rw [List.length_append, List.length_replicate]; omega
      · rw [rLens, dif_neg hm]
        cases rRun b cl l k <;> rfl
theorem Loc.codes : Loc (fun b k => rCodes b k) :=
  (Loc.grp 5).then fun n1 => (Loc.grp 5).then fun n2 => (Loc.grp 4).then fun n3 => (Loc.rIf _ 62).then fun _ => (Loc.code (4 + n3)).then fun cl =>
    (Loc.lens cl (257 + n1 + (1 + n2)) _ [] (Nat.le_refl _)).then fun _ => (Loc.rIf _ 62).then fun _ => Loc.pure _
theorem Loc.back (lim : Nat) (spn T : List Nat) (s : Nat) : Loc (fun b k => rBack b lim spn T s k) :=
  (Loc.rIf _ 62).then fun _ => (Loc.grp _).then fun _ => (Loc.sym spn).then fun _ => (Loc.rIf _ 62).then fun _ => (Loc.grp _).then fun _ => (Loc.rIf _ 63).then fun _ => (Loc.rIf _ 64).then fun _ => Loc.pure _
theorem Loc.step (lim : Nat) (lit spn T : List Nat) : Loc (fun b k => rStep b lim lit spn T k) :=
  (Loc.sym lit).then fun s => Loc.ite _ ((Loc.rIf _ 64).then fun _ => Loc.pure _) (Loc.ite _ (Loc.pure _) ((Loc.back lim spn T s).then fun _ => Loc.pure _))
theorem Loc.syms (lim : Nat) (lit spn : List Nat) : ∀ T, Loc (fun b k => rSyms b lim lit spn T k) :=
  Loc.loop (step := fun b T k => rStep b lim lit spn T k) (fun T => Loc.step lim lit spn T) (fun b s k e h => by rw [rSyms, h]) (fun b s k s1 k1 h => by rw [rSyms, h]) (fun b s k s1 k1 h => by
    rw [rSyms, h]
    show (if _h : k < k1 ∧ k1 ≤ 8 * b.length then _ else _) = _
    split <;> rfl)
theorem Loc.stored (lim : Nat) (T : List Nat) : Loc (fun b k => rStored b lim T k) := by
  refine (Loc.align.then fun _ => (Loc.grp 16).then fun n => (Loc.grp 16).then fun m => (Loc.rIf (decide (n + m = 65535)) 61).then fun _ => (Loc.rIf (decide (T.length + n ≤ lim)) 64).then fun _ => (Loc.text n).then fun x => Loc.pure (T ++ x)).congr fun b k => ?_
  unfold rStored rText
  simp only [Res.then_ok]
  congr 1
  funext n k1
  congr 1
  funext m k2
  congr 1
  funext u k2
  congr 1
  funext u k2
  by_cases hc : k2 + 8 * n ≤ 8 * b.length
  · rw [rIf_yes (decide_eq_true hc)]; rfl
  · rw [rIf_no (decide_eq_false hc)]; rfl
theorem Loc.kind (lim : Nat) (T : List Nat) (n : Nat) : Loc (fun b k => rKind b lim T n k) :=
  Loc.ite _ (Loc.stored lim T) (Loc.ite _ (Loc.syms lim _ _ T) (Loc.ite _ (Loc.codes.then fun c => Loc.syms lim c.1 c.2 T) (Loc.fail 60)))
theorem Loc.block (lim : Nat) (T : List Nat) : Loc (fun b k => rBlock b lim T k) :=
  (Loc.grp 1).then fun _ => (Loc.grp 2).then fun n => (Loc.kind lim T n).then fun _ => Loc.pure _
theorem Loc.blocks (lim : Nat) : ∀ T, Loc (fun b k => rBlocks b lim T k) :=
  Loc.loop (step := fun b T k => rBlock b lim T k) (fun T => Loc.block lim T) (fun b s k e h => by rw [rBlocks, h]) (fun b s k s1 k1 h => by rw [rBlocks, h]) (fun b s k s1 k1 h => by
    rw [rBlocks, h]
    show (if _h : k < k1 ∧ k1 ≤ 8 * b.length then _ else _) = _
    split <;> rfl)
/-- a block reads three bits at least -/
theorem block_up {b : List Nat} {lim : Nat} {T : List Nat} {k k1 : Nat} {lt : Bool × List Nat} (h : rBlock b lim T k = .ok lt k1) : k < k1 := by
  unfold rBlock at h
  cases h1 : rGrp b 1 k with
  | no e => rw [h1] at h; cases h
  | ok n j1 =>
    have e1 := (rGrp_lt h1).2
    rw [h1, Res.then_ok] at h
    cases h2 : rGrp b 2 j1 with
    | no e => rw [h2] at h; cases h
    | ok n2 j2 =>
      have e2 := (rGrp_lt h2).2
      have hj2 : j2 ≤ 8 * b.length := by
        have := (Loc.grp 2).of b j1 n2 j2 h2
        unfold rGrp at h2
        split at h2
        · rename_i hc; omega
        · cases h2
      rw [h2, Res.then_ok] at h
      cases h3 : rKind b lim T n2 j2 with
      | no e => rw [h3] at h; cases h
      | ok T1 j3 =>
        have := ((Loc.kind lim T n2).of b j2 T1 j3 h3 hj2).1
        rw [h3, Res.then_ok] at h
        simp only [Res.ok.injEq] at h
        omega
end Go.Proofs.Ytmcmchldjfnneaa
