/- The law that no number has two forms: true for all patterns and bytes. -/
import Derived.Test.YtgjiepbaagmmiaaLawBack
namespace Go.Proofs.Ytgjiepbaagmmiaa
open Go.RowKit

theorem getS_err (s l : List Nat) (x : Nat) (h : getS s l = .error x) (hk : ∀ ks l x, getRows ks l = .error x → x = 20 ∨ x = 21) : x ≠ 0 := by
  unfold getS at h
  cases hs : formsS s with
  | none => rw [hs] at h; simp only [Except.error.injEq] at h; omega
  | some ks => rw [hs] at h; have := hk _ _ _ h; omega
theorem fDec_err (m : Nat) (l : List Nat) (x : Nat) (h : fDec m l = .error x) : x = 20 ∨ x = 21 := by
  unfold fDec at h
  split at h
  · cases h
  · simp only [Except.error.injEq] at h; omega
theorem vDec_err (room : Nat) : ∀ (f : Nat) (first : Bool) (l : List Nat) (x : Nat), vDec room f first l = .error x → x = 20 ∨ x = 21
  | f, first, [], x, h => by cases f <;> (simp only [vDec, Except.error.injEq] at h; omega)
  | 0, first, c :: l, x, h => by
    rw [vDec] at h
    split at h
    · simp only [Except.error.injEq] at h; omega
    · cases h
  | f + 1, first, c :: l, x, h => by
    rw [vDec] at h
    split at h
    · simp only [Except.error.injEq] at h; omega
    · split at h
      · cases h
      · cases hd : vDec room f false l with
        | ok a => rw [hd] at h; cases h
        | error y => rw [hd] at h; simp only [Except.error.injEq] at h; subst h; exact vDec_err room f false l y hd
theorem rmap_err {f : Nat → Nat} {r : Except Nat (Nat × Nat)} {x : Nat} (h : rmap f r = .error x) : r = .error x := by
  rcases r with y | ⟨a, b⟩
  · simpa [rmap] using h
  · cases h
theorem dec_err (k : Nat) (l : List Nat) (x : Nat) (h : dec k l = .error x) : x = 20 ∨ x = 21 := by
  unfold dec at h
  split at h
  all_goals first | exact fDec_err _ _ _ h | exact fDec_err _ _ _ (rmap_err h) | exact vDec_err _ _ _ _ _ h | exact vDec_err _ _ _ _ _ (rmap_err h)
theorem getRows_err : ∀ (ks l : List Nat) (x : Nat), getRows ks l = .error x → x = 20 ∨ x = 21
  | [], l, x, h => by rw [getRows] at h; cases h
  | k :: ks, l, x, h => by
    rw [getRows_cons] at h
    cases hd : dec k l with
    | error y => rw [hd] at h; simp only [Except.error.injEq] at h; subst h; exact dec_err k l y hd
    | ok a =>
      obtain ⟨n, u⟩ := a
      rw [hd] at h
      dsimp only at h
      cases hg : getRows ks (l.drop u) with
      | error y => rw [hg] at h; simp only [preG, Except.error.injEq] at h; subst h; exact getRows_err ks _ y hg
      | ok b => rw [hg] at h; cases h
theorem getS_ne (s l : List Nat) (x : Nat) (h : getS s l = .error x) : x ≠ 0 := getS_err s l x h getRows_err

theorem conv_sl {w : World} {p : Option Addr} {l : List Nat} (h : SlI w .u8 p l) (n c : Nat) (hn : n ≤ l.length) (hc : p = none → c = 0) : (convert 24 9 (.slice p n c)).run Try.prog w = .ok (.string (strB (l.take n))) w := by
  cases p with
  | none =>
    have : l = [] := by
      by_cases hl : l = []
      · exact hl
      · obtain ⟨b, off, hp, _⟩ := h.2 hl
        cases hp
    subst this
    rw [List.take_nil]
    exact run_convert_bytes_nil w 24 5 Try.underlying24 Try.underlying5 n c 9 Try.underlying9
  | some ad =>
    by_cases hl : l = []
    · subst hl
      obtain rfl : n = 0 := by simpa using hn
      obtain ⟨b, off, sp⟩ := ad
      rw [run_convert_bytes_string w 24 9 5 (some ⟨b, off, sp⟩) 0 c Try.underlying24 Try.underlying5 Try.underlying9]
      simp [Conv.bytesToString, loadCells, loadCellsFrom, strB]
      rfl
    · obtain ⟨b, off, hp, hcell⟩ := h.2 hl
      obtain rfl := Option.some.inj hp
      refine run_convert_bytes_arg w 24 5 Try.underlying24 Try.underlying5 b off n c _ (by simp; omega) ?_ 9 Try.underlying9
      intro i hi
      rw [hcell i (by omega)]
      simp [List.getD, show i < n from hi, show i < l.length by omega]

set_option maxRecDepth 100000 in
set_option maxHeartbeats 1000000 in
theorem law_one (s : ByteArray) (q : Option Addr) (d : Nat) (b2 : List Nat) (w : World) (hs : s.size ≤ maxLen)
    (h2 : SlI w .u8 q b2) (hb2 : ∀ x ∈ b2, x < 256) (hd : q = none → d = 0) (hcap : b2.length ≤ d) :
    Calls Try.prog 5 #[.string s, .slice q b2.length d] w fun e w' => e = .returned (.bool true) ∧ Fr S0 w w' := by
  have hlen2 := h2.1
  have HB2 := Lib.hid hb2
  have HS := Lib.hid hs
  unfold maxLen at hlen2 hs
  clear hb2
  have start : ∀ R, (∀ w1, Fr S0 w w1 → R (.returned (.bool true)) w1) → Calls Try.prog 8 #[] w R := fun R h => (alive_any w).mono fun e w1 he => by rw [he.1]; exact h w1 he.2
  by_cases k1 : (200 : Int) < (s.size : Int)
  · go_enter Try.func5, Try.ntmps5
    go_wp2_with (go_at_call 8; refine start _ ?_; intro w1 hf)
    go_ret
    exact ⟨rfl, hf⟩
  · by_cases k2 : (5000 : Int) < (b2.length : Int)
    · go_enter Try.func5, Try.ntmps5
      go_wp2_with (go_at_call 8; refine start _ ?_; intro w1 hf)
      go_ret
      exact ⟨rfl, hf⟩
    · go_enter Try.func5, Try.ntmps5
      go_wp2_with fail
      refine start _ ?_
      intro w1 hf
      go_wp2_with fail
      refine (get_any s q d b2 w1 HS.out (h2.fr0 hf) HB2.out).mono ?_
      rintro e w2 ⟨hf2, hr⟩
      cases hp : getS (pat s) b2 with
      | error x =>
        rw [hp] at hr
        subst hr
        have hx : ((x : Int) != 0) = true := by
          have := getS_ne _ _ _ hp
          rw [bne_iff_ne]; omega
        clear hp
        go_wp2
        go_ret
        exact ⟨rfl, hf.trans0 hf2⟩
      | ok a =>
        obtain ⟨ns, u⟩ := a
        rw [hp] at hr
        obtain ⟨v, rfl, own, -, hns⟩ := hr
        obtain ⟨pv, cv, rfl, -⟩ := slForm own
        obtain ⟨hu, hput⟩ := putS_getS _ _ _ _ HB2.out hp
        have HPUT := Lib.hid hput
        have HNS := Lib.hid hns
        clear hp hput hns
        have f02 : Fr S0 w w2 := hf.trans0 hf2
        go_wp2_with fail
        refine (put_any s pv cv ns w2 HS.out (SlI.ofOwns own) HNS.out).mono ?_
        rintro e w3 ⟨hf3, hr⟩
        rw [HPUT.out] at hr
        obtain ⟨v3, rfl, own3, -⟩ := hr
        have f03 : Fr S0 w w3 := f02.trans0 hf3
        obtain ⟨X, hX⟩ : ∃ X, strB (b2.take u) = X := ⟨_, rfl⟩
        have e1 : ∀ k, (convert 24 9 v3).run Try.prog (w3.drewN k) = .ok (.string X) (w3.drewN k) := fun k => by rw [← hX]; exact conv_own (w := w3.drewN k) own3
        have e2 : ∀ k, (convert 24 9 (.slice q u d)).run Try.prog (w3.drewN k) = .ok (.string X) (w3.drewN k) := fun k => by rw [← hX]; exact conv_sl ((h2.fr0 f03).fr0 (Fr.drewN S0 w3 k)) u d hu hd
        clear hX own3 own
        go_wp2
        go_quiet (fail)
        go_wp2
        go_ret
        exact ⟨rfl, f03.trans0 (Fr.drewN S0 _ _)⟩
end Go.Proofs.Ytgjiepbaagmmiaa
