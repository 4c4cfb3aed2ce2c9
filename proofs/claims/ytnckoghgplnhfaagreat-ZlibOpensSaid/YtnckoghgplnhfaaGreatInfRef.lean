/- The reference's stream, its groups and its symbols. -/
import Derived.Test.YtnckoghgplnhfaaGreatInfTwo
import Derived.Test.YtnckoghgplnhfaaGreatHufRefs
namespace Go.Proofs.YtnckoghgplnhfaaGreat
open Go.RowKit

/-- the reference's stream -/
structure RfIs (w : World) (g : Nat) (pb : Option Addr) (cb : Nat) (t : Option Nat) (b : List Nat) (k lim : Nat) (T : List Nat) (E : Nat) : Prop where
  ex : ∃ p c, w.heap[g]? = some (.cells #[.slice pb (8 * b.length) cb, .int .i64 (k : Nat), .slice p T.length c, .int .i64 (lim : Nat), .int .i64 (E : Nat)] 65 (0, 0)) ∧
    w.ownsRow 0 5 1 (.slice p T.length c) T.length (u8s T) ∧ Value.ownBlock (.slice p T.length c) = t
  bits : SlI w .u8 pb (bts b)
  pbz : pb = none → cb = 0
  cap : 8 * b.length ≤ cb
  capm : cb ≤ maxLen
  few : 8 * b.length ≤ 32000
  ins : k ≤ 8 * b.length
  lims : T.length ≤ lim ∧ lim ≤ 1048576
  ap1 : t ≠ some g
  ap2 : ∀ a, pb = some a → a.block ≠ g ∧ t ≠ some a.block
/-- what a stream's call writes -/
def RfB (g : Nat) (t : Option Nat) (j : Nat) : Prop := j = g ∨ t = some j
def RfTo (w w' : World) (g : Nat) (pb : Option Addr) (cb : Nat) (t : Option Nat) (b : List Nat) (k lim : Nat) (T : List Nat) (E : Nat) : Prop :=
  ∃ t', RfIs w' g pb cb t' b k lim T E ∧ Fr (RfB g t) w w' ∧ (t' = t ∨ ∀ j, t' = some j → w.heap.size ≤ j)

section
variable {w w' : World} {g : Nat} {pb : Option Addr} {cb : Nat} {t : Option Nat} {b : List Nat} {k lim : Nat} {T : List Nat} {E : Nat}
theorem RfIs.lt (h : RfIs w g pb cb t b k lim T E) : g < w.heap.size := by
  obtain ⟨p, c, h1, -⟩ := h.ex
  exact (Array.getElem?_eq_some_iff.1 h1).1
theorem RfIs.fr {S : Nat → Prop} (h : RfIs w g pb cb t b k lim T E) (hf : Fr S w w') (hg : ¬ S g) (ht : ∀ j, t = some j → ¬ S j) (hp : ∀ a, pb = some a → ¬ S a.block) : RfIs w' g pb cb t b k lim T E := by
  obtain ⟨p, c, h1, h2, h3⟩ := h.ex
  exact ⟨⟨p, c, hf.row h1 hg, hf.owns h2 (fun j hj => ht j (h3 ▸ hj)), h3⟩, h.bits.fr hf (fun _ => hp), h.pbz, h.cap, h.capm, h.few, h.ins, h.lims, h.ap1, h.ap2⟩
theorem RfIs.fr0 (h : RfIs w g pb cb t b k lim T E) (hf : Fr S0 w w') : RfIs w' g pb cb t b k lim T E := h.fr hf (fun h => h) (fun _ _ h => h) (fun _ _ h => h)
theorem RfIs.setAt (h : RfIs w g pb cb t b k lim T E) (j : Nat) (hj : j ≤ 8 * b.length) : RfIs (w.setCell ⟨g, 1, none⟩ (.int .i64 (j : Nat))) g pb cb t b j lim T E := by
  obtain ⟨p, c, h1, h2, h3⟩ := h.ex
  have hf := Fr.setCell (· = g) w ⟨g, 1, none⟩ (.int .i64 (j : Nat)) rfl
  refine ⟨⟨p, c, by rw [heap_setCell_same w g 1 _ _ _ h1]; rfl, hf.owns h2 (fun i hi e => h.ap1 (by rw [← h3, hi, e])), h3⟩, h.bits.fr hf (fun _ a ha => (h.ap2 a ha).1), h.pbz, h.cap, h.capm, h.few, hj, h.lims, h.ap1, h.ap2⟩
theorem RfIs.setE (h : RfIs w g pb cb t b k lim T E) (j : Nat) : RfIs (w.setCell ⟨g, 4, none⟩ (.int .i64 (j : Nat))) g pb cb t b k lim T j := by
  obtain ⟨p, c, h1, h2, h3⟩ := h.ex
  have hf := Fr.setCell (· = g) w ⟨g, 4, none⟩ (.int .i64 (j : Nat)) rfl
  refine ⟨⟨p, c, by rw [heap_setCell_same w g 4 _ _ _ h1]; rfl, hf.owns h2 (fun i hi e => h.ap1 (by rw [← h3, hi, e])), h3⟩, h.bits.fr hf (fun _ a ha => (h.ap2 a ha).1), h.pbz, h.cap, h.capm, h.few, h.ins, h.lims, h.ap1, h.ap2⟩
theorem RfIs.setFr (h : RfIs w g pb cb t b k lim T E) (i : Nat) (v : Value) : Fr (RfB g t) w (w.setCell ⟨g, i, none⟩ v) := have := h; Fr.setCell _ _ _ _ (.inl rfl)
theorem RfIs.c0 (h : RfIs w g pb cb t b k lim T E) : w.cell? ⟨g, 0, none⟩ = some (.slice pb (8 * b.length) cb) := by
  obtain ⟨p, c, h1, -⟩ := h.ex
  simp [World.cell?, h1]
theorem RfIs.c1 (h : RfIs w g pb cb t b k lim T E) : w.cell? ⟨g, 1, none⟩ = some (.int .i64 (k : Nat)) := by
  obtain ⟨p, c, h1, -⟩ := h.ex
  simp [World.cell?, h1]
theorem RfIs.c2 (h : RfIs w g pb cb t b k lim T E) : ∃ p c, w.cell? ⟨g, 2, none⟩ = some (.slice p T.length c) ∧ w.ownsRow 0 5 1 (.slice p T.length c) T.length (u8s T) ∧ Value.ownBlock (.slice p T.length c) = t := by
  obtain ⟨p, c, h1, h2, h3⟩ := h.ex
  exact ⟨p, c, by simp [World.cell?, h1], h2, h3⟩
theorem RfIs.c3 (h : RfIs w g pb cb t b k lim T E) : w.cell? ⟨g, 3, none⟩ = some (.int .i64 (lim : Nat)) := by
  obtain ⟨p, c, h1, -⟩ := h.ex
  simp [World.cell?, h1]
theorem RfIs.c4 (h : RfIs w g pb cb t b k lim T E) : w.cell? ⟨g, 4, none⟩ = some (.int .i64 (E : Nat)) := by
  obtain ⟨p, c, h1, -⟩ := h.ex
  simp [World.cell?, h1]
theorem RfIs.fz (h : RfIs w g pb cb t b k lim T E) (i : Nat) : w.frozen? ⟨g, i, none⟩ = false := by
  obtain ⟨p, c, h1, -⟩ := h.ex
  simp [World.frozen?, h1]
theorem RfTo.refl (h : RfIs w g pb cb t b k lim T E) : RfTo w w g pb cb t b k lim T E := ⟨t, h, Fr.refl _ _, .inl rfl⟩
theorem RfTo.trans {w0 : World} {t0 : Option Nat} {k1 : Nat} {T1 : List Nat} {E1 : Nat} (hf : Fr (RfB g t0) w0 w) (ht : t = t0 ∨ ∀ j, t = some j → w0.heap.size ≤ j) (h : RfTo w w' g pb cb t b k1 lim T1 E1) : RfTo w0 w' g pb cb t0 b k1 lim T1 E1 := by
  obtain ⟨t2, h1, h2, h3⟩ := h
  refine ⟨t2, h1, hf.trans h2 (fun j hj e => ?_), ?_⟩
  · rcases e with e | e
    · exact .inl e
    · rcases ht with ht | ht
      · exact .inr (ht ▸ e)
      · have := ht j e; omega
  · rcases h3 with h3 | h3
    · subst h3
      exact ht
    · exact .inr fun j hj => Nat.le_trans hf.size (h3 j hj)

set_option maxRecDepth 100000 in
set_option maxHeartbeats 400000 in
theorem sgroup_err (c : Int) (w : World) (h : RfIs w g pb cb t b k lim T E) (hE : E ≠ 0) :
    Calls Tryz.prog 42 #[.pointer (some ⟨g, 0, none⟩), .int .i64 c] w fun e w' => e = .returned (.int .i64 0) ∧ w = w' := by
  have h4 := h.c4
  have hE2 : ¬ (E : Int) = 0 := by omega
  clear h hE
  go_enter Tryz.func42, Tryz.ntmps42
  go_wp2_with fail
  go_ret
  exact ⟨rfl, rfl⟩
set_option maxRecDepth 100000 in
set_option maxHeartbeats 400000 in
theorem sgroup_no (c : Nat) (w : World) (h : RfIs w g pb cb t b k lim T 0) (hc : c ≤ 16) (hn : ¬ k + c ≤ 8 * b.length) :
    Calls Tryz.prog 42 #[.pointer (some ⟨g, 0, none⟩), .int .i64 (c : Nat)] w fun e w' => e = .returned (.int .i64 0) ∧ RfIs w' g pb cb t b k lim T 20 ∧ Fr (· = g) w w' := by
  have hfew := h.few
  have hins := h.ins
  have h0 := h.c0
  have h1 := h.c1
  have h4 : w.cell? ⟨g, 4, none⟩ = some (.int .i64 0) := h.c4
  have hfz := h.fz 4
  have HS := Lib.hid (fun n => (h.fr0 (Fr.drewN S0 w n)).setE 20)
  obtain ⟨N, hN⟩ : ∃ N, 8 * b.length = N := ⟨_, rfl⟩
  rw [hN] at h0 hfew hins hn
  have hn2 : (c : Int) > (N : Int) - (k : Int) := by omega
  clear h hN
  go_enter Tryz.func42, Tryz.ntmps42
  go_wp2_with fail
  go_quiet (fail)
  go_wp2_with fail
  go_ret
  exact ⟨rfl, HS.out _, (Fr.drewN (· = g) w _).trans (Fr.setCell (· = g) _ _ _ rfl) (fun _ _ h => h)⟩
set_option maxRecDepth 100000 in
set_option maxHeartbeats 1000000 in
theorem sgroup_ok (c : Nat) (w : World) (hne : b ≠ []) (h : RfIs w g pb cb t b k lim T 0) (hc : c ≤ 16) (hn : k + c ≤ 8 * b.length) :
    Calls Tryz.prog 42 #[.pointer (some ⟨g, 0, none⟩), .int .i64 (c : Nat)] w fun e w' => e = .returned (.int .i64 (num (bitsAt b k c) : Nat)) ∧ RfIs w' g pb cb t b (k + c) lim T 0 ∧ Fr (· = g) w w' := by
  have hfew := h.few
  have hins := h.ins
  have hcap := h.cap
  have hcapm := h.capm
  unfold maxLen at hcapm
  have h0 := h.c0
  have h1 := h.c1
  have h4 : w.cell? ⟨g, 4, none⟩ = some (.int .i64 0) := h.c4
  have hfz := h.fz 1
  have HS := Lib.hid (fun n => (h.fr0 (Fr.drewN S0 w n)).setAt (k + c) hn)
  obtain ⟨bk, off, rfl, -⟩ := h.bits.2 (fun e => hne (List.length_eq_zero_iff.1 (by have := bts_length b; rw [e] at this; simp at this; omega)))
  have hlen : (bitsAt b k c).length = c := by unfold bitsAt; rw [List.length_take, List.length_drop, bts_length]; omega
  have h01 : Bit01 (bitsAt b k c) := (bts_bit b).sub fun _ hx => List.mem_of_mem_drop (List.mem_of_mem_take hx)
  have HSB : Hid (∀ W, Fr S0 w W → SlI W .u8 (some ⟨bk, off + k, none⟩) (bitsAt b k c)) := Lib.hid (fun W f => ((h.bits.fr0 f).drop k).take c)
  have HNUM : Hid (∀ n, Calls Tryz.prog 66 #[.slice (some ⟨bk, off + k, none⟩) c (cb - k)] (w.drewN n) fun e w' => e = .returned (.int .u32 (num (bitsAt b k c) : Nat)) ∧ w' = w.drewN n) := Lib.hid (fun n => by
    have := rnumber_any (some ⟨bk, off + k, none⟩) (cb - k) (bitsAt b k c) (w.drewN n) (HSB.out _ (Fr.drewN _ _ _)) h01 (by omega)
    rw [hlen] at this
    exact this.mono fun _ _ h => ⟨h.1, h.2.symm⟩)
  have hb32 : num (bitsAt b k c) < 65536 := Nat.lt_of_lt_of_le (bitsAt_lt b k c) (Nat.pow_le_pow_right (n := 2) (by decide) hc)
  obtain ⟨V, hV⟩ : ∃ V, num (bitsAt b k c) = V := ⟨_, rfl⟩
  rw [hV] at HNUM hb32
  rw [hV]
  obtain ⟨N, hN⟩ : ∃ N, 8 * b.length = N := ⟨_, rfl⟩
  rw [hN] at h0 hfew hins hn hcap
  have hn2 : ¬ (c : Int) > (N : Int) - (k : Int) := by omega
  have hn3 : (k : Int) + (c : Int) ≤ (cb : Int) := by omega
  have HV := Lib.hid hV
  clear h hN HSB h01 hlen hV
  have fin : ∀ n (x : Int), x = (k : Int) + (c : Int) → RfIs ((w.drewN n).setCell ⟨g, 1, none⟩ (.int .i64 x)) g (some ⟨bk, off, none⟩) cb t b (k + c) lim T 0 ∧ Fr (· = g) w ((w.drewN n).setCell ⟨g, 1, none⟩ (.int .i64 x)) := fun n x hx => by
    subst hx
    exact ⟨HS.out n, (Fr.drewN (· = g) w n).trans (Fr.setCell (· = g) _ _ _ rfl) (fun _ _ h => h)⟩
  have FIN := Lib.hid fin
  clear fin HS
  have hw : IntKind.i64.wrap ((k : Int) + (c : Int)) = (k : Int) + (c : Int) := IntWalk.i64_in _ (by omega)
  by_cases hkc : cb = k
  · have HN0 : Hid (∀ p' d' n, Calls Tryz.prog 66 #[.slice p' 0 d'] (w.drewN n) fun e w' => e = .returned (.int .u32 (V : Nat)) ∧ w' = w.drewN n) := Lib.hid (fun p' d' n => by
      have := rnumber_any p' d' [] (w.drewN n) (SlI.nil _ _ _) (fun x hx => by cases hx) (by decide)
      have h0 : num [] = V := by rw [← HV.out, show c = 0 by omega]; rfl
      rw [h0] at this
      exact this.mono fun _ _ h => ⟨h.1, h.2.symm⟩)
    have HCK := Lib.hid hkc
    have hc0 : c = 0 := by omega
    subst hc0
    clear hkc HNUM HV
    have hkc : k = cb := HCK.out.symm
    have hw2 : IntKind.i64.wrap (cb : Int) = (cb : Int) := IntWalk.i64_in _ (by omega)
    clear HCK hw
    go_enter Tryz.func42, Tryz.ntmps42
    go_wp2_with fail
    go_quiet (fail)
    go_wp2_with fail
    go_quiet ((go_at_call 66; exact (HN0.out _ _ _).mono fun _ _ h => ⟨h.1, _, h.2⟩))
    go_wp2_with fail
    go_ret
    exact ⟨rfl, FIN.out _ _ (by omega)⟩
  · clear HV
    go_enter Tryz.func42, Tryz.ntmps42
    go_wp2_with fail
    go_quiet (fail)
    go_wp2_with fail
    go_quiet ((go_at_call 66; exact (HNUM.out _).mono fun _ _ h => ⟨h.1, _, h.2⟩))
    go_wp2_with fail
    go_ret
    exact ⟨rfl, FIN.out _ _ (by omega)⟩
set_option maxRecDepth 100000 in
theorem sfail_err (m : Nat) (w : World) (h : RfIs w g pb cb t b k lim T E) (hE : E ≠ 0) :
    Calls Tryz.prog 71 #[.pointer (some ⟨g, 0, none⟩), .int .i64 (m : Nat)] w fun e w' => e = .returned (.tuple #[]) ∧ w = w' := by
  have h4 := h.c4
  have hE2 : ¬ (E : Int) = 0 := by omega
  clear h hE
  go_enter Tryz.func71, Tryz.ntmps71
  go_wp2_with fail
  go_end0
  exact ⟨rfl, rfl⟩
set_option maxRecDepth 100000 in
theorem sfail_ok (m : Nat) (w : World) (h : RfIs w g pb cb t b k lim T 0) :
    Calls Tryz.prog 71 #[.pointer (some ⟨g, 0, none⟩), .int .i64 (m : Nat)] w fun e w' => e = .returned (.tuple #[]) ∧ RfIs w' g pb cb t b k lim T m ∧ Fr (· = g) w w' := by
  have h4 : w.cell? ⟨g, 4, none⟩ = some (.int .i64 0) := h.c4
  have hfz := h.fz 4
  have HS := Lib.hid (h.setE m)
  clear h
  go_enter Tryz.func71, Tryz.ntmps71
  go_wp2_with fail
  go_end0
  exact ⟨rfl, HS.out, Fr.setCell _ _ _ _ rfl⟩
end
end Go.Proofs.YtnckoghgplnhfaaGreat
