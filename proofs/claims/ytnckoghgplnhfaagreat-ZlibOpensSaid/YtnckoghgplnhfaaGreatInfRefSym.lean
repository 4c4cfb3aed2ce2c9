/- The reference's symbols. -/
import Derived.Test.YtnckoghgplnhfaaGreatInfRef
namespace Go.Proofs.YtnckoghgplnhfaaGreat
open Go.RowKit

section
variable {g : Nat} {pb : Option Addr} {cb : Nat} {t : Option Nat} {b : List Nat} {k lim : Nat} {T : List Nat} {E : Nat}
set_option maxRecDepth 100000 in
set_option maxHeartbeats 400000 in
theorem ssym_err (p : Option Addr) (m d : Nat) (w : World) (h : RfIs w g pb cb t b k lim T E) (hE : E ≠ 0) :
    Calls Tryz.prog 68 #[.pointer (some ⟨g, 0, none⟩), .slice p m d] w fun e w' => e = .returned (.int .i64 0) ∧ w = w' := by
  have h4 := h.c4
  have hE2 : ¬ (E : Int) = 0 := by omega
  clear h hE
  go_enter Tryz.func68, Tryz.ntmps68
  go_wp2_with fail
  go_ret
  exact ⟨rfl, rfl⟩
set_option maxRecDepth 100000 in
set_option maxHeartbeats 2000000 in
theorem ssym_of (s n f : Nat) (p : Option Addr) (m d : Nat) (w : World) (hne : b ≠ []) (h : RfIs w g pb cb t b k lim T 0) (hn : k + n ≤ 8 * b.length)
    (R : ∀ W q e, SlI W .u8 q ((bts b).drop k) → Fr S0 w W → (q = none → e = 0) → 8 * b.length - k ≤ e → e ≤ maxLen → Calls Tryz.prog 91 #[.slice p m d, .slice q (8 * b.length - k) e] W fun e w' => e = .returned (.tuple #[.int .i64 (s : Nat), .int .i64 (n : Nat), .int .i64 (f : Nat)]) ∧ Fr S0 W w') :
    Calls Tryz.prog 68 #[.pointer (some ⟨g, 0, none⟩), .slice p m d] w fun e w' => e = .returned (.int .i64 (s : Nat)) ∧ RfIs w' g pb cb t b (k + n) lim T f ∧ Fr (· = g) w w' := by
  have hfew := h.few
  have hins := h.ins
  have hcap := h.cap
  have hcapm := h.capm
  unfold maxLen at hcapm
  have h0 := h.c0
  have h1 := h.c1
  have h4 : w.cell? ⟨g, 4, none⟩ = some (.int .i64 0) := h.c4
  obtain ⟨bk, off, rfl, -⟩ := h.bits.2 (fun e => hne (List.length_eq_zero_iff.1 (by have := bts_length b; rw [e] at this; simp at this; omega)))
  have FIN : Hid (∀ W x, Fr S0 w W → x = (k : Int) + (n : Int) → RfIs ((W.setCell ⟨g, 1, none⟩ (.int .i64 x)).setCell ⟨g, 4, none⟩ (.int .i64 (f : Nat))) g (some ⟨bk, off, none⟩) cb t b (k + n) lim T f ∧ Fr (· = g) w ((W.setCell ⟨g, 1, none⟩ (.int .i64 x)).setCell ⟨g, 4, none⟩ (.int .i64 (f : Nat)))) := Lib.hid (fun W x fr hx => by
    subst hx
    exact ⟨((h.fr0 fr).setAt (k + n) hn).setE f, ((fr.mono (fun _ _ h => h.elim)).trans (Fr.setCell (· = g) _ _ _ rfl) (fun _ _ h => h)).trans (Fr.setCell (· = g) _ _ _ rfl) (fun _ _ h => h)⟩)
  have CEL : Hid (∀ W, Fr S0 w W → W.cell? ⟨g, 1, none⟩ = some (.int .i64 (k : Nat)) ∧ W.cell? ⟨g, 4, none⟩ = some (.int .i64 0) ∧ (∀ i, W.frozen? ⟨g, i, none⟩ = false) ∧ ∀ v, (W.setCell ⟨g, 1, none⟩ v).frozen? ⟨g, 4, none⟩ = false) := Lib.hid (fun W fr => ⟨(h.fr0 fr).c1, (h.fr0 fr).c4, (h.fr0 fr).fz, fun v => by
    obtain ⟨p, c, h1, -⟩ := (h.fr0 fr).ex
    simp [World.frozen?, heap_setCell_same W g 1 _ _ _ h1]⟩)
  have RA : Hid (∀ W q e, q = some ⟨bk, off + k, none⟩ ∨ k = 8 * b.length → Fr S0 w W → (q = none → e = 0) → 8 * b.length - k ≤ e → e ≤ maxLen → Calls Tryz.prog 91 #[.slice p m d, .slice q (8 * b.length - k) e] W fun e w' => e = .returned (.tuple #[.int .i64 (s : Nat), .int .i64 (n : Nat), .int .i64 (f : Nat)]) ∧ Fr S0 W w') := Lib.hid (fun W q e hq fr => R W q e (by
    rcases hq with rfl | hq
    · exact (h.bits.fr0 fr).drop k
    · rw [List.drop_eq_nil_of_le (by rw [bts_length]; omega)]; exact SlI.nil _ _ _) fr)
  obtain ⟨N, hN⟩ : ∃ N, 8 * b.length = N := ⟨_, rfl⟩
  rw [hN] at h0 hfew hins hn hcap RA
  have hw : IntKind.i64.wrap ((k : Int) + (n : Int)) = (k : Int) + (n : Int) := IntWalk.i64_in _ (by omega)
  have hkN : (k : Int) ≤ (N : Int) := by omega
  have hNc : (N : Int) ≤ (cb : Int) := by omega
  clear h R hN
  by_cases hkc : cb = k
  · have hkN2 : N = k := by omega
    have HNK := Lib.hid hkN2
    have hn0 : n = 0 := by omega
    subst hn0
    have RB : Hid (∀ W, Fr S0 w W → Calls Tryz.prog 91 #[.slice p m d, .slice (some ⟨bk, off, none⟩) 0 0] W fun e w' => e = .returned (.tuple #[.int .i64 (s : Nat), .int .i64 0, .int .i64 (f : Nat)]) ∧ Fr S0 W w') := Lib.hid (fun W fr => by
      have := RA.out W (some ⟨bk, off, none⟩) 0 (.inr hkN2.symm) fr (fun h => by cases h) (by omega) (by decide)
      rw [show N - k = 0 by omega] at this
      exact this)
    have hkc2 : k = cb := hkc.symm
    have hN2 : N = cb := by omega
    clear RA hkN2 hkc hins hkN hNc hcap hw
    have hw : IntKind.i64.wrap (cb : Int) = (cb : Int) := IntWalk.i64_in _ (by omega)
    go_enter Tryz.func68, Tryz.ntmps68
    go_wp2_with fail
    have fd := Fr.drew S0 w
    go_region_law (go_simp; go_at_call 91; refine (RB.out _ fd).mono ?_; rintro e w5 ⟨rfl, f5⟩; have F5 := Lib.hid (fd.trans0 f5); have c5 := (CEL.out w5 F5.out).1; have c6 := (CEL.out w5 F5.out).2.1; have z5 := (CEL.out w5 F5.out).2.2.1; have z6 := (CEL.out w5 F5.out).2.2.2; clear f5 fd; dsimp only)
    all_goals
      go_wp2_with fail
      go_ret
      exact ⟨rfl, FIN.out _ _ F5.out (by omega)⟩
  · have RB : Hid (∀ W, Fr S0 w W → Calls Tryz.prog 91 #[.slice p m d, .slice (some ⟨bk, off + k, none⟩) (N - k) (cb - k)] W fun e w' => e = .returned (.tuple #[.int .i64 (s : Nat), .int .i64 (n : Nat), .int .i64 (f : Nat)]) ∧ Fr S0 W w') := Lib.hid (fun W fr => RA.out W _ _ (.inl rfl) fr (fun h => by cases h) (by omega) (by unfold maxLen; omega))
    clear RA
    go_enter Tryz.func68, Tryz.ntmps68
    go_wp2_with fail
    have fd := Fr.drew S0 w
    go_region_law (go_simp; go_at_call 91; refine (RB.out _ fd).mono ?_; rintro e w5 ⟨rfl, f5⟩; have F5 := Lib.hid (fd.trans0 f5); have c5 := (CEL.out w5 F5.out).1; have c6 := (CEL.out w5 F5.out).2.1; have z5 := (CEL.out w5 F5.out).2.2.1; have z6 := (CEL.out w5 F5.out).2.2.2; clear f5 fd; dsimp only)
    all_goals
      go_wp2_with fail
      go_ret
      exact ⟨rfl, FIN.out _ _ F5.out (by omega)⟩
theorem ssym_ok (p : Option Addr) (d i j : Nat) (l : List Nat) (w : World) (hne : b ≠ []) (h : RfIs w g pb cb t b k lim T 0) (hl : SlI w .u8 p l) (h15 : ∀ x ∈ l, x ≤ 15) (hL : l.length ≤ 320) (ok : okl l) (hx : rSym b l k = .ok i j) :
    Calls Tryz.prog 68 #[.pointer (some ⟨g, 0, none⟩), .slice p l.length d] w fun e w' => e = .returned (.int .i64 (i : Nat)) ∧ RfIs w' g pb cb t b j lim T 0 ∧ Fr (· = g) w w' := by
  obtain ⟨hi, rfl⟩ := rSym_in hx
  have hb : Bit01 ((bts b).drop k) := (bts_bit b).sub fun _ hx => List.mem_of_mem_drop hx
  have hlen : ((bts b).drop k).length = 8 * b.length - k := by rw [List.length_drop, bts_length]
  have hin := h.ins
  have hil := hi.2.1
  refine ssym_of i (len l i) 0 p l.length d w hne h (by omega) fun W q e hq fr hz he hem => ?_
  have := rread_any p q d e l ((bts b).drop k) W (hl.fr0 fr) h15 hL ok hq hz (by omega) hem hb
  rw [hlen] at this
  refine this.mono ?_
  rintro e w' ⟨hf, f⟩
  refine ⟨?_, f⟩
  rcases hf with ⟨i2, h2, he⟩ | ⟨h2, -⟩ | ⟨h2, -⟩ | ⟨h2, -⟩
  · obtain rfl := hits_one hb h2 hi
    exact he
  · exact absurd hi (h2 _)
  · exact absurd hi (h2 _)
  · exact absurd hi (h2 _)
theorem ssym_no (p : Option Addr) (d m : Nat) (l : List Nat) (w : World) (hne : b ≠ []) (h : RfIs w g pb cb t b k lim T 0) (hl : SlI w .u8 p l) (h15 : ∀ x ∈ l, x ≤ 15) (hL : l.length ≤ 320) (ok : okl l) (hx : rSym b l k = .no m) :
    Calls Tryz.prog 68 #[.pointer (some ⟨g, 0, none⟩), .slice p l.length d] w fun e w' => ∃ j, e = .returned (.int .i64 0) ∧ RfIs w' g pb cb t b j lim T m ∧ Fr (· = g) w w' := by
  have hb : Bit01 ((bts b).drop k) := (bts_bit b).sub fun _ hx => List.mem_of_mem_drop hx
  have hlen : ((bts b).drop k).length = 8 * b.length - k := by rw [List.length_drop, bts_length]
  have hin := h.ins
  have hm15 : mx l ≤ 15 := mx_le h15
  have hno : ∀ i, ¬ hits l ((bts b).drop k) i := by
    intro i hi
    rw [rSym_hit hi] at hx
    cases hx
  rw [rSym_none hno] at hx
  have hlon : ¬ ful l → mx l ≠ 0 → mx l = 1 := fun h1 h2 => by
    rcases ok with h | h | h
    · exact absurd h h1
    · exact h.1
    · exact absurd h h2
  have key : ∃ n, k + n ≤ 8 * b.length ∧ ∀ e, RefFound l ((bts b).drop k) e → e = .returned (.tuple #[.int .i64 ((0 : Nat) : Int), .int .i64 (n : Nat), .int .i64 (m : Nat)]) := by
    by_cases h0 : mx l = 0
    · rw [if_neg (by omega)] at hx
      injection hx with hx
      subst hx
      refine ⟨0, by omega, fun e he => ?_⟩
      rcases he with ⟨i2, h2, -⟩ | ⟨-, -, he⟩ | ⟨-, h2, -⟩ | ⟨-, h2, -⟩
      · exact absurd h2 (hno _)
      · exact he
      · exact absurd h0 h2
      · exact absurd h0 h2
    · by_cases h1 : ful l ∨ ((bts b).drop k).length = 0
      · have hlt : ((bts b).drop k).length < mx l := by
          rcases h1 with h1 | h1
          · rcases Nat.lt_or_ge ((bts b).drop k).length (mx l) with q | q
            · exact q
            · obtain ⟨i, hi⟩ := ful_hit hb h1 hm15 q
              exact absurd hi (hno i)
          · omega
        rw [if_pos hlt] at hx
        injection hx with hx
        subst hx
        refine ⟨((bts b).drop k).length, by omega, fun e he => ?_⟩
        rcases he with ⟨i2, h2, -⟩ | ⟨-, h2, -⟩ | ⟨-, -, -, he⟩ | ⟨-, -, h2, -⟩
        · exact absurd h2 (hno _)
        · exact absurd h2 h0
        · exact he
        · exact absurd h1 h2
      · have h2 := hlon (fun q => h1 (.inl q)) h0
        have h3 : ((bts b).drop k).length ≠ 0 := fun q => h1 (.inr q)
        rw [if_neg (by omega)] at hx
        injection hx with hx
        subst hx
        refine ⟨1, by omega, fun e he => ?_⟩
        rcases he with ⟨i2, h2, -⟩ | ⟨-, h2, -⟩ | ⟨-, -, h2, -⟩ | ⟨-, -, -, he⟩
        · exact absurd h2 (hno _)
        · exact absurd h2 h0
        · exact absurd h2 h1
        · exact he
  obtain ⟨n, hn, hk⟩ := key
  refine (ssym_of 0 n m p l.length d w hne h hn fun W q e hq fr hz he hem => ?_).mono fun e w' h => ⟨k + n, h⟩
  have := rread_any p q d e l ((bts b).drop k) W (hl.fr0 fr) h15 hL ok hq hz (by omega) hem hb
  rw [hlen] at this
  exact this.mono fun e w' h => ⟨hk e h.1, h.2⟩
theorem sgroup_at (c n j : Nat) (w : World) (hne : b ≠ []) (h : RfIs w g pb cb t b k lim T 0) (hc : c ≤ 16) (hx : rGrp b c k = .ok n j) :
    Calls Tryz.prog 42 #[.pointer (some ⟨g, 0, none⟩), .int .i64 (c : Nat)] w fun e w' => e = .returned (.int .i64 (n : Nat)) ∧ RfIs w' g pb cb t b j lim T 0 ∧ Fr (· = g) w w' := by
  by_cases hk : k + c ≤ 8 * b.length
  · rw [rGrp_yes hk] at hx
    simp only [Res.ok.injEq] at hx
    obtain ⟨rfl, rfl⟩ := hx
    exact sgroup_ok c w hne h hc hk
  · rw [rGrp_no hk] at hx
    cases hx
theorem sgroup_not (c m : Nat) (w : World) (h : RfIs w g pb cb t b k lim T 0) (hc : c ≤ 16) (hx : rGrp b c k = .no m) :
    Calls Tryz.prog 42 #[.pointer (some ⟨g, 0, none⟩), .int .i64 (c : Nat)] w fun e w' => e = .returned (.int .i64 0) ∧ RfIs w' g pb cb t b k lim T m ∧ Fr (· = g) w w' := by
  by_cases hk : k + c ≤ 8 * b.length
  · rw [rGrp_yes hk] at hx
    cases hx
  · rw [rGrp_no hk] at hx
    injection hx with hx
    subst hx
    exact sgroup_no c w h hc hk
end
end Go.Proofs.YtnckoghgplnhfaaGreat
