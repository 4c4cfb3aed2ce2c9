/- What Take does, another store's or its own. -/
import Derived.Test.YtocdjklgfmkbfaaDnTake
namespace Go.Proofs.Ytocdjklgfmkbfaa
open Go.RowKit

theorem tot_split {m done rest : List Pr} {k : Int} {n : Nat} (e : m = done ++ (k, n) :: rest) : ltot done + n ≤ ltot m := by
  subst e
  induction done with
  | nil => simp only [List.nil_append, ltot]; omega
  | cons x d ih => rw [List.cons_append, ltot, ltot]; omega
/-- all pairs of a list are put into a store, one by one -/
theorem give_step (g h : Nat) (A B F : Int) (p : Option Addr) (m : Nat) (l q done rest : List Pr) (k : Int) (n : Nat) (w W : World) (e : q = done ++ (k, n) :: rest) (hp : Pos q) (hin : ∀ x ∈ q, A ≤ x.1 ∧ x.1 ≤ B) (ht : ltot l + ltot q ≤ 4611686018427387904)
    (h1 : F ≤ A) (h2 : B < F + (m : Int)) (s : Sto W g h A B F p m (lputs l done)) (f : Fr (fun x => x = g ∨ x = h) w W) :
    Calls Try.prog 23 #[.pointer (some ⟨g, 0, none⟩), .int .i64 k, .int .u64 (n : Nat)] W fun e w' => e = .returned (.tuple #[]) ∧ Sto w' g h A B F p m (lputs l (done ++ [(k, n)])) ∧ Fr (fun x => x = g ∨ x = h) w w' := by
  have hm : (k, n) ∈ q := by rw [e]; simp
  have hk := hin _ hm
  have hn := hp _ hm
  have := tot_split e
  have e2 := putAll_snoc l done (k, n)
  rw [e2]
  exact (put_any g h A B F k p m n (lputs l done) W s hn (by rw [tot_putAll]; omega) h1 h2 hk.1 hk.2).mono fun _ _ he => ⟨he.1, he.2.1, f.trans he.2.2 fun _ _ h => h⟩

theorem give_other (g h g2 h2 : Nat) (a2 b2 F2 A B F : Int) (p2 p : Option Addr) (m2 m : Nat) (l q : List Pr) (W : World) (t : Sto W g2 h2 a2 b2 F2 p2 m2 q) (hq : q ≠ []) (s : Sto W g h A B F p m l) (d1 : g2 ≠ g) (d2 : g2 ≠ h) (d3 : h2 ≠ g) (d4 : p2 ≠ none → h2 ≠ h)
    (hin : ∀ x ∈ q, A ≤ x.1 ∧ x.1 ≤ B) (ht : ltot l + ltot q ≤ 4611686018427387904) (h1 : F ≤ A) (h3 : B < F + (m : Int)) :
    Calls Try.prog 27 #[.pointer (some ⟨g2, 0, none⟩), .func (.func 23) #[.pointer (some ⟨g, 0, none⟩)] #[]] W fun e w' => e = .returned (.tuple #[]) ∧ Sto w' g h A B F p m (lputs l q) ∧ Fr (fun x => x = g ∨ x = h) W w' := by
  refine (each_meth 23 g2 h2 _ a2 b2 F2 p2 m2 q (fun done W' => Sto W' g h A B F p m (lputs l done) ∧ Fr (fun x => x = g ∨ x = h) W W') W has_put t.lo t.hi t.ab t.srt t.pos t.all ⟨s, Fr.refl _ _⟩ t.raw.c4 hq ?_ ?_ ?_)
  · rintro done W' ⟨_, f⟩
    exact (t.fr f (by omega) fun hp e => by have := d4 hp; omega).sees done
  · rintro done W' W'' ⟨k, f⟩ f2
    exact ⟨k.fr0 f2, f.trans0 f2⟩
  · rintro done k n rest W' e ⟨s', f⟩
    exact give_step g h A B F p m l q done rest k n W W' e t.pos hin ht h1 h3 s' f

theorem give_self (g h : Nat) (A B F : Int) (p : Option Addr) (m : Nat) (l : List Pr) (W : World) (s : Sto W g h A B F p m l) (hl : l ≠ []) (ht : ltot l + ltot l ≤ 4611686018427387904) (h1 : F ≤ A) (h3 : B < F + (m : Int)) :
    Calls Try.prog 27 #[.pointer (some ⟨g, 0, none⟩), .func (.func 23) #[.pointer (some ⟨g, 0, none⟩)] #[]] W fun e w' => e = .returned (.tuple #[]) ∧ Sto w' g h A B F p m (lputs l l) ∧ Fr (fun x => x = g ∨ x = h) W w' := by
  refine (each_meth 23 g h _ A B F p m l (fun done W' => (∃ rest, l = done ++ rest) ∧ Sto W' g h A B F p m (lputs l done) ∧ Fr (fun x => x = g ∨ x = h) W W') W has_put s.lo s.hi s.ab s.srt s.pos s.all ⟨⟨l, rfl⟩, s, Fr.refl _ _⟩ s.raw.c4 hl ?_ ?_ ?_).mono fun _ _ he => ⟨he.1, he.2.2.1, he.2.2.2⟩
  · rintro done W' ⟨⟨rest, e⟩, s', _⟩
    have hd : Srt done := (List.pairwise_append.1 (e ▸ s.srt : Srt (done ++ rest))).1
    exact ⟨s'.raw.c0, s'.raw.c1, s'.raw.c2, s'.raw.c3, _, s'.cel, fun k hk => by rw [s'.tell, cnt_putAll _ _ _ s.srt hd, cnt_out (l := done) fun x hx e => by have := hk x hx; omega]; rfl⟩
  · rintro done W' W'' ⟨e, k, f⟩ f2
    exact ⟨e, k.fr0 f2, f.trans0 f2⟩
  · rintro done k n rest W' e ⟨-, s', f⟩
    exact (give_step g h A B F p m l l done rest k n W W' e s.pos s.all ht h1 h3 s' f).mono fun _ _ he => ⟨he.1, ⟨rest, by rw [e]; simp⟩, he.2⟩

theorem take_self (g h : Nat) (l : List Pr) (w : World) (s : StIs w g h l) :
    Calls Try.prog 10 #[.pointer (some ⟨g, 0, none⟩), .pointer (some ⟨g, 0, none⟩)] w fun e w' => e = .returned (.int .i64 (takeE l l : Nat)) ∧ ∃ h', Turned w w' g h h' (takeL l l) := by
  have hs := s
  obtain ⟨a, b, F, p, m, s, he⟩ := s
  by_cases hl : l = []
  · subst hl
    rw [takeL_nil]
    exact (take_empty g g w s.raw.c4).mono fun _ _ e => ⟨e.1, h, Turned.same hs e.2⟩
  have hE := he hl
  have hN : 0 < l.length := List.length_pos_iff.2 hl
  have h1 := s.lo
  have h2 := s.hi
  have h3 := s.ab
  have h4 := s.win
  have ew : wids l l = b - a + 1 := by rw [wids_ends s.srt s.srt hE hE]; omega
  have eE : takeE l l = if 4611686018427387904 - ltot l < ltot l then 6 else 0 := by unfold takeE; rw [if_neg hl, ew, if_neg (by omega)]
  unfold takeL
  by_cases hc : 4611686018427387904 - ltot l < ltot l
  · rw [if_pos hc] at eE
    rw [eE, if_neg (by decide)]
    exact (take_no g g w a b F p m _ _ 6 s.raw hN (by decide) fun W f => admit_cap_some g a b F a b a b p m _ _ _ W (s.raw.fr0 f) s.tot hN (by omega) (by omega) (by omega) (by omega) (by omega) (by omega) (by omega) hc).mono fun _ _ e => ⟨e.1, h, Turned.same hs e.2⟩
  · rw [if_neg hc] at eE
    rw [eE, if_pos rfl]
    have hq := hE.putAll hE s.srt s.srt
    rw [show min a a = a by omega, show max b b = b by omega] at hq
    exact take_yes g h g l w a b F a b p m _ _ (lputs l l) s.raw hN
      (fun W f => admit_ok_some g a b F a b a b p m _ _ _ W (s.raw.fr0 f) s.tot hN (by omega) (by omega) (by omega) (by omega) (by omega) (by omega) (by omega) (by omega))
      (fun W f => reach_any g h a b F a b p m l W (s.fr0 f) s.all h1 h2 h3 h4)
      (fun W W' h' F' p' m' f r => give_self g h' a b F' p' m' l W' r.sto hl (by have := s.tot; omega) r.lo r.hi) hq

theorem take_other (g h g2 h2 : Nat) (l q : List Pr) (w : World) (s : StIs w g h l) (t : StIs w g2 h2 q) (d1 : g2 ≠ g) (d2 : g2 ≠ h) (d3 : h2 ≠ g) (d4 : h2 ≠ h) :
    Calls Try.prog 10 #[.pointer (some ⟨g, 0, none⟩), .pointer (some ⟨g2, 0, none⟩)] w fun e w' => e = .returned (.int .i64 (takeE l q : Nat)) ∧ ∃ h', Turned w w' g h h' (takeL l q) := by
  have hs := s
  obtain ⟨a, b, F, p, m, s, he⟩ := s
  obtain ⟨c, d, F2, p2, m2, t, ht⟩ := t
  by_cases hq : q = []
  · subst hq
    rw [takeL_nil]
    exact (take_empty g g2 w t.raw.c4).mono fun _ _ e => ⟨by rw [e.1]; rfl, h, Turned.same hs e.2⟩
  have hQ := ht hq
  have hN2 : 0 < q.length := List.length_pos_iff.2 hq
  have h1 := s.lo
  have h2' := s.hi
  have h3 := s.ab
  have h4 := s.win
  have k1 := t.lo
  have k2 := t.hi
  have k3 := t.ab
  have k4 := t.win
  have hst := s.tot
  have htt := t.tot
  have hgive : ∀ (A B : Int), (∀ x ∈ q, A ≤ x.1 ∧ x.1 ≤ B) → ltot l + ltot q ≤ 4611686018427387904 → ∀ W W' h' F' p' m', Fr S0 w W → Reached W W' g h h' A B F' p' m' l →
      Calls Try.prog 27 #[.pointer (some ⟨g2, 0, none⟩), .func (.func 23) #[.pointer (some ⟨g, 0, none⟩)] #[]] W' fun e w' => e = .returned (.tuple #[]) ∧ Sto w' g h' A B F' p' m' (lputs l q) ∧ Fr (fun x => x = g ∨ x = h') W' w' := by
    intro A B hin htot W W' h' F' p' m' f r
    have e1 := t.raw.lt
    have e2 := f.size
    have e3 := r.row
    refine give_other g h' g2 h2 c d F2 A B F' p2 p' m2 m' l q W' ((t.fr0 f).fr r.fr d1 fun _ => d3) hq r.sto d1 (by omega) d3 (fun hp => ?_) hin htot r.lo r.hi
    have := t.cel.below hp
    omega
  unfold takeL
  by_cases hl : l = []
  · have ew : wids l q = 0 := by rw [hl]; exact wids_nil q
    have e0 : ltot l = 0 := by rw [hl]; rfl
    have eE : takeE l q = 0 := by unfold takeE; rw [if_neg hq, ew, if_neg (by decide), e0, if_neg (by omega)]
    rw [eE, if_pos rfl]
    have hq2 : Ends (lputs l q) c d := by rw [hl, putAll_of_nil t.srt t.pos]; exact hQ
    exact take_yes g h g2 l w c d F2 c d p2 m2 _ _ (lputs l q) t.raw hN2
      (fun W f => admit_ok_none g a b F c d p m _ _ _ W (s.raw.fr0 f) s.tot (by rw [hl]; rfl) (by omega) (by omega) (by omega) (by omega) (by omega) (by omega))
      (fun W f => reach_any g h a b F c d p m l W (s.fr0 f) (fun x hx => by rw [hl] at hx; cases hx) k1 k2 k3 k4)
      (hgive c d t.all (by omega)) hq2
  · have hE := he hl
    have hN : 0 < l.length := List.length_pos_iff.2 hl
    obtain ⟨A, hA⟩ : ∃ A, min a c = A := ⟨_, rfl⟩
    obtain ⟨B, hB⟩ : ∃ B, max b d = B := ⟨_, rfl⟩
    have ew : wids l q = B - A + 1 := by rw [wids_ends s.srt t.srt hE hQ, hA, hB]
    have eE : takeE l q = if 8192 < B - A + 1 then 130 else if 4611686018427387904 - ltot l < ltot q then 6 else 0 := by unfold takeE; rw [if_neg hq, ew]
    by_cases hw : 8192 < B - A + 1
    · rw [if_pos hw] at eE
      rw [eE, if_neg (by decide)]
      exact (take_no g g2 w c d F2 p2 m2 _ _ 130 t.raw hN2 (by decide) fun W f => admit_full_some g a b F c d A B p m _ _ _ W (s.raw.fr0 f) s.tot hN hA hB (by omega) (by omega) (by omega) (by omega) hw).mono fun _ _ e => ⟨e.1, h, Turned.same hs e.2⟩
    rw [if_neg hw] at eE
    by_cases hc : 4611686018427387904 - ltot l < ltot q
    · rw [if_pos hc] at eE
      rw [eE, if_neg (by decide)]
      exact (take_no g g2 w c d F2 p2 m2 _ _ 6 t.raw hN2 (by decide) fun W f => admit_cap_some g a b F c d A B p m _ _ _ W (s.raw.fr0 f) s.tot hN hA hB (by omega) (by omega) (by omega) (by omega) (by omega) hc).mono fun _ _ e => ⟨e.1, h, Turned.same hs e.2⟩
    · rw [if_neg hc] at eE
      rw [eE, if_pos rfl]
      have hq2 := hE.putAll hQ s.srt t.srt
      rw [hA, hB] at hq2
      exact take_yes g h g2 l w c d F2 A B p2 m2 _ _ (lputs l q) t.raw hN2
        (fun W f => admit_ok_some g a b F c d A B p m _ _ _ W (s.raw.fr0 f) s.tot hN hA hB (by omega) (by omega) (by omega) (by omega) (by omega) (by omega))
        (fun W f => reach_any g h a b F A B p m l W (s.fr0 f) (fun x hx => by have := s.all x hx; omega) (by omega) (by omega) (by omega) (by omega))
        (hgive A B (fun x hx => by have := t.all x hx; omega) (by omega)) hq2
end Go.Proofs.Ytocdjklgfmkbfaa
