/- A store's block: its budget, its list, what is folded; the functions that read it. -/
import Derived.Test.YtibgjmlgjmnheaaClMath
import Derived.Test.YtibgjmlgjmnheaaSpCut
import Derived.Test.YtibgjmlgjmnheaaSpTake
namespace Go.Proofs.Ytibgjmlgjmnheaa
open Go.RowKit
section
variable {X : Sx} {w w' : World} {g h : Nat} {p : Option Addr} {n c T : Nat} {l : List Pr}
theorem Raw.cb (r : Raw X w g p n c T) : w.cell? ⟨g, 0, none⟩ = some (.int .i64 (X.b : Int)) := by simp [World.cell?, r.blk]
theorem Raw.ck (r : Raw X w g p n c T) : w.cell? ⟨g, 3, none⟩ = some (.int .i64 X.k) := by simp [World.cell?, r.blk]
theorem Raw.cf (r : Raw X w g p n c T) : w.cell? ⟨g, 4, none⟩ = some (.int .u64 (X.f : Int)) := by simp [World.cell?, r.blk]
theorem Raw.setk (r : Raw X w g p n c T) (k : Int) : Raw ⟨X.b, k, X.f⟩ (w.setCell ⟨g, 3, none⟩ (.int .i64 k)) g p n c T := ⟨by rw [heap_setCell_same w g 3 _ _ _ r.blk]; rfl⟩
theorem Raw.setf (r : Raw X w g p n c T) (f : Nat) : Raw ⟨X.b, X.k, f⟩ (w.setCell ⟨g, 4, none⟩ (.int .u64 (f : Int))) g p n c T := ⟨by rw [heap_setCell_same w g 4 _ _ _ r.blk]; rfl⟩
/-- a list whose store's other cells are others -/
theorem StIs.other {Y : Sx} (s : StIs X w g h l) (f : Fr (· = g) w w') (hr : ∀ p n c T, Raw X w g p n c T → Raw Y w' g p n c T) : StIs Y w' g h l := by
  obtain ⟨p, n, c, s⟩ := s
  exact ⟨p, n, c, hr _ _ _ _ s.raw, f.owns s.own fun b hb e => by
    cases p with
    | none => cases hb
    | some a => exact s.apart (by simp) ((s.row a rfl).symm.trans ((Option.some.inj hb).trans e)), s.row, s.apart, s.ok⟩
theorem StIs.setkf (s : StIs X w g h l) (k : Int) (f : Nat) : StIs ⟨X.b, k, f⟩ ((w.setCell ⟨g, 3, none⟩ (.int .i64 k)).setCell ⟨g, 4, none⟩ (.int .u64 (f : Int))) g h l :=
  s.other ((Fr.setCell (· = g) _ _ _ rfl).trans (Fr.setCell (· = g) _ _ _ rfl) fun _ _ h => h) fun _ _ _ _ r => (r.setk k).setf f
theorem StIs.cells (s : StIs X w g h l) : ∃ p n c T, Raw X w g p n c T := let ⟨p, n, c, s⟩ := s; ⟨p, n, c, _, s.raw⟩
theorem StIs.cb (s : StIs X w g h l) : w.cell? ⟨g, 0, none⟩ = some (.int .i64 (X.b : Int)) := let ⟨_, _, _, _, r⟩ := s.cells; r.cb
theorem StIs.ck (s : StIs X w g h l) : w.cell? ⟨g, 3, none⟩ = some (.int .i64 X.k) := let ⟨_, _, _, _, r⟩ := s.cells; r.ck
theorem StIs.cf (s : StIs X w g h l) : w.cell? ⟨g, 4, none⟩ = some (.int .u64 (X.f : Int)) := let ⟨_, _, _, _, r⟩ := s.cells; r.cf
theorem StIs.fz (s : StIs X w g h l) (i : Nat) : w.frozen? ⟨g, i, none⟩ = false := let ⟨_, _, _, _, r⟩ := s.cells; r.fz i
end

/-- block g is a store of budget m to which all of a was counted; its row is block h -/
structure ColK (w : World) (g h m : Nat) (k : Int) (a : List Pr) : Prop where
  is : StIs ⟨m, k, cutA a m⟩ w g h (cutN a m)
  key : cutA a m ≠ 0 → k = hk (cutN a m)
  ok : Good a
  m2 : 2 ≤ m
  m3 : m ≤ 4096
def Col (w : World) (g h m : Nat) (a : List Pr) : Prop := ∃ k, ColK w g h m k a
theorem Col.fr {S : Nat → Prop} {w w' : World} {g h m : Nat} {a : List Pr} (s : Col w g h m a) (f : Fr S w w') (h1 : ¬ S g) (h2 : ¬ S h) : Col w' g h m a :=
  let ⟨k, s⟩ := s; ⟨k, s.is.fr f h1 h2, s.key, s.ok, s.m2, s.m3⟩
theorem Col.fr0 {w w' : World} {g h m : Nat} {a : List Pr} (s : Col w g h m a) (f : Fr S0 w w') : Col w' g h m a := s.fr f (fun h => h) fun h => h
theorem Col.ok {w : World} {g h m : Nat} {a : List Pr} (s : Col w g h m a) : Good a := let ⟨_, s⟩ := s; s.ok
theorem Col.lt {w : World} {g h m : Nat} {a : List Pr} (s : Col w g h m a) : g < w.heap.size := let ⟨_, s⟩ := s; s.is.lt
theorem Col.m2 {w : World} {g h m : Nat} {a : List Pr} (s : Col w g h m a) : 2 ≤ m := let ⟨_, s⟩ := s; s.m2
theorem Col.m3 {w : World} {g h m : Nat} {a : List Pr} (s : Col w g h m a) : m ≤ 4096 := let ⟨_, s⟩ := s; s.m3
/-- a store that has come to count a -/
structure TurnC (w w' : World) (g h h' m : Nat) (a : List Pr) : Prop where
  sto : Col w' g h' m a
  row : h' = h ∨ (w.heap.size ≤ h' ∧ h' < w'.heap.size)
  fr : Fr (fun x => x = g ∨ x = h) w w'
theorem TurnC.same {w w' : World} {g h m : Nat} {a : List Pr} (s : Col w g h m a) (f : Fr S0 w w') : TurnC w w' g h h m a := ⟨s.fr0 f, .inl rfl, f.mono fun _ _ h => h.elim⟩

section
variable (g h m : Nat) (a : List Pr) (w : World)
set_option maxRecDepth 100000 in
set_option maxHeartbeats 400000 in
theorem ctotal_any (s : Col w g h m a) : Calls Try.prog 17 #[.pointer (some ⟨g, 0, none⟩)] w fun e w' => e = .returned (.int .u64 (ltot a : Nat)) ∧ Fr S0 w w' := by
  obtain ⟨k, s⟩ := s
  have H := total_any g h _ w s.is
  rw [cut_tot s.ok.srt s.ok.pos (by have := s.m2; omega)] at H
  have H := Lib.hid H
  clear s
  go_enter Try.func17, Try.ntmps17
  go_wp2_with fail
  refine H.out.mono ?_
  rintro e w1 ⟨rfl, f1⟩
  have F := Lib.hid f1
  clear f1
  go_wp2_with fail
  go_ret
  exact ⟨rfl, F.out⟩
set_option maxRecDepth 100000 in
set_option maxHeartbeats 400000 in
theorem clen_any (s : Col w g h m a) : Calls Try.prog 34 #[.pointer (some ⟨g, 0, none⟩)] w fun e w' => e = .returned (.int .i64 ((cutN a m).length : Nat)) ∧ Fr S0 w w' := by
  obtain ⟨k, s⟩ := s
  have H := Lib.hid (len_any g h _ w s.is)
  clear s
  go_enter Try.func34, Try.ntmps34
  go_wp2_with fail
  refine H.out.mono ?_
  rintro e w1 ⟨rfl, f1⟩
  have F := Lib.hid f1
  clear f1
  go_wp2_with fail
  go_ret
  exact ⟨rfl, F.out⟩
set_option maxRecDepth 100000 in
set_option maxHeartbeats 400000 in
theorem cpairs_any (s : Col w g h m a) : Calls Try.prog 22 #[.pointer (some ⟨g, 0, none⟩)] w fun e w' => ∃ p c n, e = .returned (.slice p n c) ∧ PrsNew w w' p c n (cutN a m) := by
  obtain ⟨k, s⟩ := s
  have H := Lib.hid (pairs_any g h _ w s.is)
  clear s
  go_enter Try.func22, Try.ntmps22
  go_wp2_with fail
  refine H.out.mono ?_
  rintro e w1 ⟨p, c, n, rfl, f1⟩
  have F := Lib.hid f1
  clear f1
  go_wp2_with fail
  go_ret
  exact ⟨p, c, n, rfl, F.out⟩
set_option maxRecDepth 100000 in
set_option maxHeartbeats 400000 in
theorem cfolded_any (s : Col w g h m a) : Calls Try.prog 23 #[.pointer (some ⟨g, 0, none⟩)] w fun e w' => e = .returned (.int .u64 (cutA a m : Nat)) ∧ Fr S0 w w' := by
  obtain ⟨k, s⟩ := s
  have c4 : w.cell? ⟨g, 4, none⟩ = some (.int .u64 (cutA a m : Nat)) := s.is.cf
  clear s
  obtain ⟨F, hF⟩ : ∃ F, cutA a m = F := ⟨_, rfl⟩
  rw [hF] at c4 ⊢
  clear hF
  go_enter Try.func23, Try.ntmps23
  go_wp2_with fail
  go_ret
  exact ⟨rfl, Fr.refl _ _⟩
set_option maxRecDepth 100000 in
set_option maxHeartbeats 400000 in
theorem cbudget_any (s : Col w g h m a) : Calls Try.prog 10 #[.pointer (some ⟨g, 0, none⟩)] w fun e w' => e = .returned (.int .i64 (m : Nat)) ∧ Fr S0 w w' := by
  obtain ⟨k, s⟩ := s
  have c0 : w.cell? ⟨g, 0, none⟩ = some (.int .i64 (m : Nat)) := s.is.cb
  clear s
  go_enter Try.func10, Try.ntmps10
  go_wp2_with fail
  go_ret
  exact ⟨rfl, Fr.refl _ _⟩
set_option maxRecDepth 100000 in
set_option maxHeartbeats 400000 in
theorem cbelow_any (k : Int) (s : Col w g h m a) : Calls Try.prog 35 #[.pointer (some ⟨g, 0, none⟩), .int .i64 k] w fun e w' => e = .returned (.int .u64 (bel (cutN a m) k : Nat)) ∧ Fr S0 w w' := by
  obtain ⟨k', s⟩ := s
  have H := Lib.hid (below_any g k _ w h s.is)
  clear s
  go_enter Try.func35, Try.ntmps35
  go_wp2_with fail
  refine H.out.mono ?_
  rintro e w1 ⟨rfl, f1⟩
  have F := Lib.hid f1
  clear f1
  go_wp2_with fail
  go_ret
  exact ⟨rfl, F.out⟩
set_option maxRecDepth 100000 in
set_option maxHeartbeats 400000 in
theorem cupto_any (k : Int) (s : Col w g h m a) : Calls Try.prog 37 #[.pointer (some ⟨g, 0, none⟩), .int .i64 k] w fun e w' => e = .returned (.int .u64 (upt (cutN a m) k : Nat)) ∧ Fr S0 w w' := by
  obtain ⟨k', s⟩ := s
  have H := Lib.hid (upto_any g k _ w h s.is)
  clear s
  go_enter Try.func37, Try.ntmps37
  go_wp2_with fail
  refine H.out.mono ?_
  rintro e w1 ⟨rfl, f1⟩
  have F := Lib.hid f1
  clear f1
  go_wp2_with fail
  go_ret
  exact ⟨rfl, F.out⟩
end

/-- is a rank's key vague -/
def vag (a : List Pr) (m r : Nat) : Bool := decide (keyE (cutN a m) r = 0 ∧ cutA a m ≠ 0 ∧ keyW (cutN a m) r = hk (cutN a m))
section
variable (g h m r : Nat) (a : List Pr) (w : World)
set_option maxRecDepth 100000 in
set_option maxHeartbeats 1000000 in
theorem ckey_any (s : Col w g h m a) (hr : r < 18446744073709551616) : Calls Try.prog 18 #[.pointer (some ⟨g, 0, none⟩), .int .u64 (r : Nat)] w fun e w' => e = .returned (.tuple #[.int .i64 (keyV (cutN a m) r), .bool (vag a m r), .int .i64 (keyE (cutN a m) r : Nat)]) ∧ Fr S0 w w' := by
  obtain ⟨k', s⟩ := s
  have H := key_any g h r _ w s.is hr
  have c3 : w.cell? ⟨g, 3, none⟩ = some (.int .i64 k') := s.is.ck
  have c4 : w.cell? ⟨g, 4, none⟩ = some (.int .u64 (cutA a m : Nat)) := s.is.cf
  have hkey := s.key
  clear s
  obtain ⟨F, hF⟩ : ∃ F, cutA a m = F := ⟨_, rfl⟩
  obtain ⟨E, hE⟩ : ∃ E, keyE (cutN a m) r = E := ⟨_, rfl⟩
  obtain ⟨V, hV⟩ : ∃ V, keyV (cutN a m) r = V := ⟨_, rfl⟩
  rw [hE, hV] at H ⊢
  rw [hF] at c4 hkey
  by_cases h0 : E = 0
  · subst h0
    have eV : keyW (cutN a m) r = V := by rw [← hV]; unfold keyV; rw [if_pos hE]
    have HV : Hid (vag a m r = decide (F ≠ 0 ∧ V = hk (cutN a m))) := Lib.hid (by unfold vag; rw [hE, hF, eV]; simp)
    by_cases hf : F = 0
    · subst hf
      have HV2 : Hid (vag a m r = false) := Lib.hid (by rw [HV.out]; simp)
      have H := Lib.hid H
      clear hkey HV eV hE hV hF
      go_enter Try.func18, Try.ntmps18
      go_wp2_with fail
      refine H.out.mono ?_
      rintro e w1 ⟨rfl, f1⟩
      have F1 := Lib.hid f1
      have d3 := f1.cell c3 (fun h => h)
      have d4 := f1.cell c4 (fun h => h)
      clear f1 c3 c4 H
      go_wp2_with fail
      go_quiet (fail)
      go_wp2_with fail
      go_ret3
      exact ⟨by rw [HV2.out]; rfl, F1.out.trans0 (Fr.drewN _ _ _)⟩
    · have hfp : decide (0 < (F : Int)) = true := decide_eq_true (by omega)
      have hfp2 : decide (0 < F) = true := decide_eq_true (by omega)
      have hfb : (0 : Int) < (F : Int) := by omega
      have ek := hkey hf
      obtain ⟨B, hB⟩ : ∃ B, (V == k') = B := ⟨_, rfl⟩
      have HV2 : Hid (vag a m r = B) := Lib.hid (by
        rw [HV.out, ← ek, ← hB]
        by_cases e : V = k' <;> simp [e, hf])
      have H := Lib.hid H
      clear hkey HV eV hE hV hF ek hf
      go_enter Try.func18, Try.ntmps18
      go_wp2_with fail
      refine H.out.mono ?_
      rintro e w1 ⟨rfl, f1⟩
      have F1 := Lib.hid f1
      have d3 := f1.cell c3 (fun h => h)
      have d4 := f1.cell c4 (fun h => h)
      clear f1 c3 c4 H
      go_wp2_with fail
      go_quiet (fail)
      go_wp2_with fail
      go_ret3
      exact ⟨by rw [HV2.out]; rfl, F1.out.trans0 (Fr.drewN _ _ _)⟩
  · have eV : V = 0 := by rw [← hV]; unfold keyV; rw [hE, if_neg h0]
    subst eV
    have HV2 : Hid (vag a m r = false) := Lib.hid (by unfold vag; rw [hE]; simp [h0])
    have hEb : ((E : Int) == 0) = false := by rw [beq_eq_false_iff_ne]; omega
    have H := Lib.hid H
    clear hkey hE hV hF h0
    go_enter Try.func18, Try.ntmps18
    go_wp2_with fail
    refine H.out.mono ?_
    rintro e w1 ⟨rfl, f1⟩
    have F1 := Lib.hid f1
    clear f1 H
    go_wp2_with fail
    go_ret3
    exact ⟨by rw [HV2.out]; rfl, F1.out⟩
end
end Go.Proofs.Ytibgjmlgjmnheaa
