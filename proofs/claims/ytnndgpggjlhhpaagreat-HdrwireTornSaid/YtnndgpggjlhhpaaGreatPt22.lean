/- InfOne -/
import Derived.Test.YtnndgpggjlhhpaaGreatPt1
import Derived.Test.YtnndgpggjlhhpaaGreatPt2
import Derived.Test.YtnndgpggjlhhpaaGreatPt15
import Derived.Test.YtnndgpggjlhhpaaGreatPt20
import Derived.StillTailTactics
import Derived.BigRegion
import Derived.Deep.RegionHeld3
import Derived.Laws.MakeOwn
import Derived.Laws.OwnMore
import Derived.IntWalk
import Derived.Lib.MakeNoZero
import Derived.Laws.CopyOwn
import Derived.WalkKit
import Derived.WalkSpells
import Derived.WalkLawsBesides
import Derived.Deep.QuietTactic
import Derived.BigQuiet
import Derived.RegionTactic
import Derived.Deep.AppendLies
import Derived.Deep.RegionLaw
import Derived.Laws.ResultCell
import Derived.Laws.EntriesVeiled
import Derived.Lib.Hide
import Derived.Test.YtnndgpggjlhhpaaGreatRows
import Derived.Laws.BytesArg
import Derived.Lib.SlBytesConst
import Derived.Maps.AppendAt
import Derived.Laws.AppendOwnNone
set_option maxRecDepth 100000
set_option maxHeartbeats 8000000
namespace Go.Proofs.YtnndgpggjlhhpaaGreat
open Go.RowKit
def chn (n : Nat) : List PanicEntry := [{ v := .iface 222 (.agg #[.int .i64 (n : Nat)]), recovered := false }]
theorem demand_yes (n : Nat) (w : World) :
    Calls Tryz.prog 234 #[.bool true, .int .i64 (n : Nat)] w fun e w' => e = .returned (.tuple #[]) ∧ w = w' := by
  go_enter Tryz.func234, Tryz.ntmps234
  go_wp2
  go_end0
  exact ⟨rfl, rfl⟩
theorem demand_no (n : Nat) (w : World) :
    Calls Tryz.prog 234 #[.bool false, .int .i64 (n : Nat)] w fun e w' => e = Ending.panicked (chn n) ∧ w = w' := by
  go_enter Tryz.func234, Tryz.ntmps234
  go_wp2
  exact ⟨rfl, rfl, rfl⟩
theorem got32_yes (n : Nat) (w : World) :
    Calls Tryz.prog 211 #[.int .u32 (n : Nat), .int .i64 0] w fun e w' => e = .returned (.int .u32 (n : Nat)) ∧ w = w' := by
  have HD := Lib.hid (demand_yes 0 w)
  go_enter Tryz.func211, Tryz.ntmps211
  go_wp2_with fail
  refine HD.out.mono ?_
  rintro e w' ⟨rfl, rfl⟩
  go_wp2_with fail
  go_ret
  exact ⟨rfl, rfl⟩
theorem got32_no (n m : Nat) (hm : m ≠ 0) (w : World) :
    Calls Tryz.prog 211 #[.int .u32 (n : Nat), .int .i64 (m : Nat)] w fun e w' => e = Ending.panicked (chn m) ∧ w = w' := by
  have HD := Lib.hid (demand_no m w)
  have h0 : ((m : Int) == 0) = false := by rw [beq_eq_false_iff_ne]; omega
  clear hm
  go_enter Tryz.func211, Tryz.ntmps211
  go_wp2_with fail
  refine HD.out.mono ?_
  rintro e w' ⟨rfl, rfl⟩
  go_wp2_with fail
  exact ⟨rfl, rfl, rfl⟩
theorem gotInt_yes (n : Nat) (w : World) :
    Calls Tryz.prog 250 #[.int .i64 (n : Nat), .int .i64 0] w fun e w' => e = .returned (.int .i64 (n : Nat)) ∧ w = w' := by
  have HD := Lib.hid (demand_yes 0 w)
  go_enter Tryz.func250, Tryz.ntmps250
  go_wp2_with fail
  refine HD.out.mono ?_
  rintro e w' ⟨rfl, rfl⟩
  go_wp2_with fail
  go_ret
  exact ⟨rfl, rfl⟩
theorem gotInt_no (v : Value) (m : Nat) (hm : m ≠ 0) (w : World) :
    Calls Tryz.prog 250 #[v, .int .i64 (m : Nat)] w fun e w' => e = .panicked (chn m) ∧ w = w' := by
  have HD := Lib.hid (demand_no m w)
  have h0 : ((m : Int) == 0) = false := by rw [beq_eq_false_iff_ne]; omega
  clear hm
  go_enter Tryz.func250, Tryz.ntmps250
  go_wp2_with fail
  refine HD.out.mono ?_
  rintro e w' ⟨rfl, rfl⟩
  go_wp2_with fail
  exact ⟨rfl, rfl, rfl⟩
theorem gotText_yes (v : Value) (w : World) :
    Calls Tryz.prog 239 #[v, .int .i64 0] w fun e w' => e = .returned v ∧ w = w' := by
  have HD := Lib.hid (demand_yes 0 w)
  go_enter Tryz.func239, Tryz.ntmps239
  go_wp2_with fail
  refine HD.out.mono ?_
  rintro e w' ⟨rfl, rfl⟩
  go_wp2_with fail
  go_ret
  exact ⟨rfl, rfl⟩
theorem gotText_no (v : Value) (m : Nat) (hm : m ≠ 0) (w : World) :
    Calls Tryz.prog 239 #[v, .int .i64 (m : Nat)] w fun e w' => e = .panicked (chn m) ∧ w = w' := by
  have HD := Lib.hid (demand_no m w)
  have h0 : ((m : Int) == 0) = false := by rw [beq_eq_false_iff_ne]; omega
  clear hm
  go_enter Tryz.func239, Tryz.ntmps239
  go_wp2_with fail
  refine HD.out.mono ?_
  rintro e w' ⟨rfl, rfl⟩
  go_wp2_with fail
  exact ⟨rfl, rfl, rfl⟩
theorem gotSet_yes (v : Value) (w : World) :
    Calls Tryz.prog 241 #[v, .int .i64 0] w fun e w' => e = .returned v ∧ w = w' := by
  have HD := Lib.hid (demand_yes 0 w)
  go_enter Tryz.func241, Tryz.ntmps241
  go_wp2_with fail
  refine HD.out.mono ?_
  rintro e w' ⟨rfl, rfl⟩
  go_wp2_with fail
  go_ret
  exact ⟨rfl, rfl⟩
theorem gotSet_no (v : Value) (m : Nat) (hm : m ≠ 0) (w : World) :
    Calls Tryz.prog 241 #[v, .int .i64 (m : Nat)] w fun e w' => e = .panicked (chn m) ∧ w = w' := by
  have HD := Lib.hid (demand_no m w)
  have h0 : ((m : Int) == 0) = false := by rw [beq_eq_false_iff_ne]; omega
  clear hm
  go_enter Tryz.func241, Tryz.ntmps241
  go_wp2_with fail
  refine HD.out.mono ?_
  rintro e w' ⟨rfl, rfl⟩
  go_wp2_with fail
  exact ⟨rfl, rfl, rfl⟩
structure StIs (w : World) (g gr : Nat) (r t : Option Nat) (b : List Nat) (k lim : Nat) (T : List Nat) (L S : Value) : Prop where
  ex : ∃ p c, w.heap[g]? = some (.cells #[.pointer (some ⟨gr, 0, none⟩), .int .i64 (lim : Nat), .slice p T.length c, L, S] 228 (0, 0)) ∧
    w.ownsRow 0 5 1 (.slice p T.length c) T.length (u8s T) ∧ Value.ownBlock (.slice p T.length c) = t
  rd : RdIs w gr r b k
  bytes : ∀ x ∈ T, x < 256
  few : T.length ≤ 1048576 ∧ lim ≤ 1048576 ∧ b.length ≤ 140737488355328
  apart : g ≠ gr ∧ r ≠ some g ∧ t ≠ some g ∧ t ≠ some gr ∧ ∀ j, t = some j → r ≠ some j
def StB (g gr : Nat) (t : Option Nat) : Nat → Prop := fun j => j = g ∨ j = gr ∨ t = some j
def StTo (w w' : World) (g gr : Nat) (r t : Option Nat) (b : List Nat) (k lim : Nat) (T : List Nat) (L S : Value) : Prop :=
  ∃ t', StIs w' g gr r t' b k lim T L S ∧ Fr (StB g gr t) w w' ∧ (t' = t ∨ ∀ j, t' = some j → w.heap.size ≤ j)
section
variable {w w' : World} {g gr : Nat} {r t : Option Nat} {b : List Nat} {k lim : Nat} {T : List Nat} {L S : Value}
theorem StIs.lt (h : StIs w g gr r t b k lim T L S) : g < w.heap.size := by
  obtain ⟨p, c, h1, -, -⟩ := h.ex
  exact (Array.getElem?_eq_some_iff.1 h1).1
theorem StIs.tlt (h : StIs w g gr r t b k lim T L S) : ∀ j, t = some j → j < w.heap.size := by
  obtain ⟨p, c, -, h2, h3⟩ := h.ex
  intro j hj
  exact (h2.lt j (h3.trans hj)).2
theorem StIs.fr {D : Nat → Prop} (h : StIs w g gr r t b k lim T L S) (hf : Fr D w w') (hg : ¬ D g) (hgr : ¬ D gr) (hr : ∀ j, r = some j → ¬ D j) (ht : ∀ j, t = some j → ¬ D j) : StIs w' g gr r t b k lim T L S := by
  obtain ⟨p, c, h1, h2, h3⟩ := h.ex
  exact ⟨⟨p, c, hf.row h1 hg, hf.owns h2 (fun k hk => ht k (h3.symm.trans hk)), h3⟩, h.rd.fr hf hgr hr, h.bytes, h.few, h.apart⟩
theorem StIs.fr0 (h : StIs w g gr r t b k lim T L S) (hf : Fr S0 w w') : StIs w' g gr r t b k lim T L S := h.fr hf (fun h => h) (fun h => h) (fun _ _ h => h) (fun _ _ h => h)
theorem StIs.self (h : StIs w g gr r t b k lim T L S) : StTo w w g gr r t b k lim T L S := ⟨t, h, Fr.refl _ _, .inl rfl⟩
theorem StIs.read (h : StIs w g gr r t b k lim T L S) {j : Nat} (hr : RdTo w w' gr r b j) : StIs w' g gr r t b j lim T L S := by
  obtain ⟨p, c, h1, h2, h3⟩ := h.ex
  have a := h.apart
  exact ⟨⟨p, c, hr.2.row h1 a.1, hr.2.owns h2 (fun k hk e => a.2.2.2.1 (by rw [← h3, hk, e])), h3⟩, hr.1, h.bytes, h.few, h.apart⟩
theorem StIs.c0 (h : StIs w g gr r t b k lim T L S) : w.cell? ⟨g, 0, none⟩ = some (.pointer (some ⟨gr, 0, none⟩)) := by
  obtain ⟨p, c, h1, -⟩ := h.ex
  simp [World.cell?, h1]
theorem StIs.c1 (h : StIs w g gr r t b k lim T L S) : w.cell? ⟨g, 1, none⟩ = some (.int .i64 (lim : Nat)) := by
  obtain ⟨p, c, h1, -⟩ := h.ex
  simp [World.cell?, h1]
theorem StIs.c3 (h : StIs w g gr r t b k lim T L S) : w.cell? ⟨g, 3, none⟩ = some L := by
  obtain ⟨p, c, h1, -⟩ := h.ex
  simp [World.cell?, h1]
theorem StIs.c4 (h : StIs w g gr r t b k lim T L S) : w.cell? ⟨g, 4, none⟩ = some S := by
  obtain ⟨p, c, h1, -⟩ := h.ex
  simp [World.cell?, h1]
theorem StIs.fz (h : StIs w g gr r t b k lim T L S) (i : Nat) : w.frozen? ⟨g, i, none⟩ = false := by
  obtain ⟨p, c, h1, -⟩ := h.ex
  simp [World.frozen?, h1]
theorem StTo.trans {w0 : World} {t0 : Option Nat} {k1 : Nat} {T1 : List Nat} {L1 S1 : Value} (hf : Fr (StB g gr t0) w0 w) (ht : t = t0 ∨ ∀ j, t = some j → w0.heap.size ≤ j) (h : StTo w w' g gr r t b k1 lim T1 L1 S1) : StTo w0 w' g gr r t0 b k1 lim T1 L1 S1 := by
  obtain ⟨t2, h1, h2, h3⟩ := h
  refine ⟨t2, h1, hf.trans h2 (fun j hj e => ?_), ?_⟩
  · rcases e with e | e | e
    · exact .inl e
    · exact .inr (.inl e)
    · rcases ht with ht | ht
      · exact .inr (.inr (ht ▸ e))
      · have := ht j e; omega
  · rcases h3 with h3 | h3
    · subst h3
      exact ht
    · exact .inr fun j hj => Nat.le_trans hf.size (h3 j hj)
def Away (w : World) (A B g gr : Nat) (t : Option Nat) : Prop := B ≤ w.heap.size ∧ ∀ j, A ≤ j → j < B → ¬ StB g gr t j
theorem Away.to {A B : Nat} {w1 : World} {t1 : Option Nat} (h : Away w A B g gr t) (hs : w.heap.size ≤ w1.heap.size) (ht : t1 = t ∨ ∀ j, t1 = some j → w.heap.size ≤ j) : Away w1 A B g gr t1 := by
  refine ⟨Nat.le_trans h.1 hs, fun j h1 h2 h3 => ?_⟩
  rcases h3 with h3 | h3 | h3
  · exact h.2 j h1 h2 (.inl h3)
  · exact h.2 j h1 h2 (.inr (.inl h3))
  · rcases ht with ht | ht
    · exact h.2 j h1 h2 (.inr (.inr (ht ▸ h3)))
    · have := ht j h3; have := h.1; omega
theorem Away.rd {A B : Nat} (h : Away w A B g gr t) : gr < A ∨ B ≤ gr := by
  by_cases h1 : gr < A
  · exact .inl h1
  · by_cases h2 : gr < B
    · exact absurd (.inr (.inl rfl)) (h.2 gr (by omega) h2)
    · exact .inr (by omega)
end
end Go.Proofs.YtnndgpggjlhhpaaGreat
namespace Go.Proofs.YtnndgpggjlhhpaaGreat
open Go.RowKit
def RdEnds (x : Res Nat) (w : World) (gr : Nat) (r : Option Nat) (b : List Nat) (e : Ending) (w' : World) : Prop :=
  match x with
  | .ok n j => e = .returned (.int .i64 (n : Nat)) ∧ RdTo w w' gr r b j
  | .no m => e = .panicked (chn m) ∧ Fr (· = gr) w w'
theorem RdEnds.of {x y : Res Nat} {w : World} {gr : Nat} {r : Option Nat} {b : List Nat} {e : Ending} {w' : World} (h : x = y) (k : RdEnds y w gr r b e w') : RdEnds x w gr r b e w' := by rw [h]; exact k
theorem rGrp_yes {b : List Nat} {c k : Nat} (h : k + c ≤ 8 * b.length) : rGrp b c k = .ok (num (bitsAt b k c)) (k + c) := by unfold rGrp; rw [if_pos h]
theorem rGrp_no {b : List Nat} {c k : Nat} (h : ¬ k + c ≤ 8 * b.length) : rGrp b c k = .no 20 := by unfold rGrp; rw [if_neg h]
section
variable {g gr : Nat} {r t : Option Nat} {b : List Nat} {k lim : Nat} {T : List Nat} {L S : Value}
theorem group_any (c : Nat) (w : World) (h : StIs w g gr r t b k lim T L S) (hc : c ≤ 16) :
    Calls Tryz.prog 197 #[.pointer (some ⟨g, 0, none⟩), .int .i64 (c : Nat)] w (RdEnds (rGrp b c k) w gr r b) := by
  have h0 := h.c0
  have hr := h.rd
  have hs := h.few.2.2
  by_cases hk : k + c ≤ 8 * b.length
  · have HG := Lib.hid (rgroup_ok gr r b k c w hr (by omega) hk hs)
    have hb : num (bitsAt b k c) < 65536 := Nat.lt_of_lt_of_le (bitsAt_lt b k c) (Nat.pow_le_pow_right (n := 2) (by decide) hc)
    rw [rGrp_yes hk]
    obtain ⟨n, hn⟩ : ∃ n, num (bitsAt b k c) = n := ⟨_, rfl⟩
    rw [hn] at HG hb ⊢
    have HY := Lib.hid (fun W => got32_yes n W)
    clear h hr hs hk hn hc
    go_enter Tryz.func197, Tryz.ntmps197
    go_wp2_with fail
    refine HG.out.mono ?_
    rintro e w1 ⟨rfl, t1⟩
    go_wp2_with fail
    refine (HY.out w1).mono ?_
    rintro e w' ⟨rfl, rfl⟩
    go_wp2_with fail
    go_ret
    exact ⟨rfl, t1⟩
  · have HG := Lib.hid (rgroup_end gr r b k c w hr (by omega) (by omega) hs)
    have HY := Lib.hid (fun W => got32_no 0 20 (by decide) W)
    rw [rGrp_no hk]
    clear h hr hs hk hc
    go_enter Tryz.func197, Tryz.ntmps197
    go_wp2_with fail
    refine HG.out.mono ?_
    rintro e w1 ⟨rfl, f1⟩
    go_wp2_with fail
    refine (HY.out w1).mono ?_
    rintro e w' ⟨rfl, rfl⟩
    go_wp2_with fail
    exact ⟨rfl, rfl, f1.mono fun _ _ h => h.elim⟩
theorem rSym_hit {b l : List Nat} {k i : Nat} (h : hits l ((bts b).drop k) i) : rSym b l k = .ok i (k + len l i) := by
  have hb : Bit01 ((bts b).drop k) := (bts_bit b).sub fun _ hx => List.mem_of_mem_drop hx
  unfold rSym
  cases hf : (List.range l.length).find? (fun i => decide (hits l ((bts b).drop k) i)) with
  | none =>
    have := List.find?_eq_none.1 hf i (List.mem_range.2 (len_in h.1))
    simp only [decide_eq_true_eq] at this
    exact absurd h this
  | some j =>
    have := List.find?_some hf
    simp only [decide_eq_true_eq] at this
    rw [hits_one hb this h]
theorem rSym_none {b l : List Nat} {k : Nat} (h : ∀ i, ¬ hits l ((bts b).drop k) i) : rSym b l k = if ((bts b).drop k).length < mx l then .no 20 else .no 62 := by
  unfold rSym
  rw [List.find?_eq_none.2 (fun i _ => by simpa using h i)]
theorem rSym_in {b l : List Nat} {k i j : Nat} (h : rSym b l k = .ok i j) : hits l ((bts b).drop k) i ∧ j = k + len l i := by
  unfold rSym at h
  split at h
  · rename_i i' hf
    have := List.find?_some hf
    simp only [decide_eq_true_eq] at this
    simp only [Res.ok.injEq] at h
    obtain ⟨rfl, rfl⟩ := h
    exact ⟨this, rfl⟩
  · split at h <;> cases h
theorem rSym_lt {b l : List Nat} {k i j : Nat} (h : rSym b l k = .ok i j) : i < l.length := len_in (rSym_in h).1.1
theorem symbol_any (A B gs : Nat) (l : List Nat) (w : World) (h : StIs w g gr r t b k lim T L S) (hs : SetIs w A B gs l) (hw : gr < A ∨ B ≤ gr) :
    Calls Tryz.prog 247 #[.pointer (some ⟨g, 0, none⟩), .pointer (some ⟨gs, 0, none⟩)] w (RdEnds (rSym b l k) w gr r b) := by
  have h0 := h.c0
  have HR := Lib.hid (read_any A B gs l gr r b k w hs h.rd hw h.few.2.2)
  clear h hs hw
  go_enter Tryz.func247, Tryz.ntmps247
  go_wp2_with fail
  refine HR.out.mono ?_
  rintro e w1 ⟨n, hn, hto⟩
  rcases hn with ⟨i, hi, rfl, e1⟩ | ⟨hi, hm, rfl, e1⟩ | ⟨hi, hm, rfl, e1⟩
  · have HY := Lib.hid (gotInt_yes i w1)
    have HE : Hid (rSym b l k = .ok i (k + n)) := Lib.hid (by rw [rSym_hit hi, ← e1])
    clear hi e1
    go_wp2_with fail
    refine HY.out.mono ?_
    rintro e w' ⟨rfl, rfl⟩
    go_wp2_with fail
    go_ret
    exact RdEnds.of HE.out ⟨rfl, hto⟩
  · have HY := Lib.hid (gotInt_no (.int .i64 0) 20 (by decide) w1)
    have HE : Hid (rSym b l k = .no 20) := Lib.hid (by rw [rSym_none hi, if_pos hm])
    clear hi e1 hm
    go_wp2_with fail
    refine HY.out.mono ?_
    rintro e w' ⟨rfl, rfl⟩
    go_wp2_with fail
    exact ⟨rfl, RdEnds.of HE.out ⟨rfl, hto.2⟩⟩
  · have HY := Lib.hid (gotInt_no (.int .i64 0) 62 (by decide) w1)
    have HE : Hid (rSym b l k = .no 62) := Lib.hid (by rw [rSym_none hi, if_neg (by omega)])
    clear hi e1 hm
    go_wp2_with fail
    refine HY.out.mono ?_
    rintro e w' ⟨rfl, rfl⟩
    go_wp2_with fail
    exact ⟨rfl, RdEnds.of HE.out ⟨rfl, hto.2⟩⟩
def rMore (b : List Nat) (least c k : Nat) : Res Nat := (rGrp b c k).then fun n j => .ok (least + n) j
theorem more_any (least c : Nat) (w : World) (h : StIs w g gr r t b k lim T L S) (hc : c ≤ 16) (hl : least ≤ 1000000) :
    Calls Tryz.prog 252 #[.pointer (some ⟨g, 0, none⟩), .int .i64 (least : Nat), .int .i64 (c : Nat)] w (RdEnds (rMore b least c k) w gr r b) := by
  have HG := Lib.hid (group_any c w h hc)
  have hb : num (bitsAt b k c) < 65536 := Nat.lt_of_lt_of_le (bitsAt_lt b k c) (Nat.pow_le_pow_right (n := 2) (by decide) hc)
  unfold rMore
  unfold rGrp at HG ⊢
  obtain ⟨n, hn⟩ : ∃ n, num (bitsAt b k c) = n := ⟨_, rfl⟩
  rw [hn] at HG hb ⊢
  clear h hc hn
  go_enter Tryz.func252, Tryz.ntmps252
  go_wp2_with fail
  refine HG.out.mono ?_
  intro e w1 h1
  clear HG
  split at h1
  · obtain ⟨rfl, t1⟩ := h1
    go_wp2_with fail
    go_ret
    exact ⟨by go_num, t1⟩
  · obtain ⟨rfl, t1⟩ := h1
    go_wp2_with fail
    exact ⟨rfl, rfl, t1⟩
end
theorem spread_few (n m : Nat) (w : World) (h : n < m) :
    Calls Tryz.prog 233 #[.int .i64 (n : Nat), .int .i64 (m : Nat)] w fun e w' => e = .returned (.tuple #[.int .i64 (n : Nat), .int .i64 0]) ∧ w = w' := by
  have h1 : (n : Int) < (m : Int) := by omega
  clear h
  go_enter Tryz.func233, Tryz.ntmps233
  go_wp2_with fail
  go_ret2
  exact ⟨rfl, rfl⟩
theorem spread_more (n m c x : Nat) (w : World) (h : m ≤ n) (hm : m ≤ 4) (h0 : 0 < m) (hc : c = n / m - 1) (hcs : c ≤ 30) (hx : x = (m + n % m) * 2 ^ c) (hn : n ≤ 1000) :
    Calls Tryz.prog 233 #[.int .i64 (n : Nat), .int .i64 (m : Nat)] w fun e w' => e = .returned (.tuple #[.int .i64 (x : Nat), .int .i64 (c : Nat)]) ∧ w = w' := by
  have h1 : ¬ (n : Int) < (m : Int) := by omega
  have h2 : ¬ (m : Int) = 0 := by omega
  have h3 : 1 ≤ n / m := Nat.div_pos h h0
  have h5 := Nat.div_le_self n m
  have h6 := Nat.mod_lt n h0
  have q1 : (n : Int).tdiv (m : Int) = ((n / m : Nat) : Int) := by rw [Int.ofNat_tdiv]
  have q2 : (n : Int).tmod (m : Int) = ((n % m : Nat) : Int) := by rw [Int.ofNat_tmod]
  have q3 : ((n / m : Nat) : Int) - 1 = (c : Int) := by omega
  obtain ⟨D, hD⟩ : ∃ D, n / m = D := ⟨_, rfl⟩
  obtain ⟨R, hR⟩ : ∃ R, n % m = R := ⟨_, rfl⟩
  rw [hD] at q1 q3 h3 h5
  rw [hR] at q2 h6 hx
  have hp : 2 ^ c ≤ 1073741824 := Nat.le_trans (Nat.pow_le_pow_right (n := 2) (by decide) hcs) (by decide)
  have hxs : x ≤ 8 * 1073741824 := by rw [hx]; exact Nat.mul_le_mul (by omega) hp
  have q4 : ((m : Int) + (R : Int)) * 2 ^ c = (x : Int) := by rw [hx]; simp
  have q5 : ((c : Nat) : Int).toNat = c := by omega
  clear h hc hD hR hx hp
  go_enter Tryz.func233, Tryz.ntmps233
  go_wp2_with fail
  go_ret2
  exact ⟨rfl, rfl⟩
theorem base_few {s n : Nat} (hs : s = 257 + n) (h : n < 4) : baseN s = 3 + n ∧ baseC s = 0 := by
  subst hs
  unfold baseN baseC
  rw [if_neg (by omega), if_pos (by omega), if_neg (by omega), if_pos (by omega)]
  exact ⟨by omega, rfl⟩
theorem base_more {s n : Nat} (hs : s = 257 + n) (h : ¬ n < 4) (h8 : n < 28) : baseN s = 3 + (4 + n % 4) * 2 ^ (n / 4 - 1) ∧ baseC s = n / 4 - 1 := by
  subst hs
  unfold baseN baseC
  rw [if_neg (by omega), if_neg (by omega), if_neg (by omega), if_neg (by omega), show 257 + n - 257 = n by omega]
  exact ⟨rfl, rfl⟩
theorem baseN_le (s : Nat) (h : 257 ≤ s) (h2 : s ≤ 285) : baseN s ≤ 258 ∧ baseC s ≤ 5 := by
  have key : ∀ n : Fin 29, baseN (257 + n.val) ≤ 258 ∧ baseC (257 + n.val) ≤ 5 := by decide
  have := key ⟨s - 257, by omega⟩
  simpa [show 257 + (s - 257) = s by omega] using this
theorem farN_le (n : Nat) (h : n ≤ 29) : farN n ≤ 24577 ∧ farC n ≤ 13 := by
  have key : ∀ n : Fin 30, farN n.val ≤ 24577 ∧ farC n.val ≤ 13 := by decide
  exact key ⟨n, by omega⟩
theorem far_few {n : Nat} (h : n < 2) : farN n = 1 + n ∧ farC n = 0 := by
  unfold farN farC
  rw [if_pos h, if_pos h]
  exact ⟨by omega, rfl⟩
theorem zfar_more {n : Nat} (h : ¬ n < 2) : farN n = 1 + (2 + n % 2) * 2 ^ (n / 2 - 1) ∧ farC n = n / 2 - 1 := by
  unfold farN farC
  rw [if_neg h, if_neg h]
  exact ⟨rfl, rfl⟩
theorem base_any (s : Nat) (w : World) (h : 257 ≤ s) (h' : s ≤ 285) :
    Calls Tryz.prog 208 #[.int .i64 (s : Nat)] w fun e w' => e = .returned (.tuple #[.int .i64 (baseN s : Nat), .int .i64 (baseC s : Nat)]) ∧ w = w' := by
  by_cases h8 : s = 285
  · subst h8
    go_enter Tryz.func208, Tryz.ntmps208
    go_wp2_with fail
    go_ret2
    exact ⟨rfl, rfl⟩
  · have hs := baseN_le s h h'
    obtain ⟨n, hn⟩ : ∃ n, s = 257 + n := ⟨s - 257, by omega⟩
    have q1 : (s : Int) - 257 = (n : Int) := by omega
    have q2 : ¬ (s : Int) < 257 := by omega
    have q3 : ¬ (s : Int) > 285 := by omega
    have q4 : ((s : Int) == 285) = false := by rw [beq_eq_false_iff_ne]; omega
    have q5 : ¬ (s : Int) = 285 := by omega
    by_cases h4 : n < 4
    · obtain ⟨e1, e2⟩ := base_few hn h4
      have HS : Hid (Calls Tryz.prog 233 #[.int .i64 (n : Nat), .int .i64 4] w fun e w' => e = .returned (.tuple #[.int .i64 (n : Nat), .int .i64 0]) ∧ w = w') := Lib.hid (spread_few n 4 w h4)
      have HE : Hid ((3 : Int) + (n : Int) = (baseN s : Nat)) := Lib.hid (by omega)
      have hns : n ≤ 28 := by omega
      rw [e2]
      clear h h' h8 hs e1 e2 h4 hn
      go_enter Tryz.func208, Tryz.ntmps208
      go_wp2_with fail
      refine HS.out.mono ?_
      rintro e w' ⟨rfl, rfl⟩
      go_wp2_with fail
      go_ret2
      exact ⟨by rw [← HE.out]; rfl, rfl⟩
    · obtain ⟨e1, e2⟩ := base_more hn h4 (by omega)
      obtain ⟨X, hX⟩ : ∃ X, (4 + n % 4) * 2 ^ (n / 4 - 1) = X := ⟨_, rfl⟩
      obtain ⟨C, hC⟩ : ∃ C, n / 4 - 1 = C := ⟨_, rfl⟩
      have HS : Hid (Calls Tryz.prog 233 #[.int .i64 (n : Nat), .int .i64 4] w fun e w' => e = .returned (.tuple #[.int .i64 (X : Nat), .int .i64 (C : Nat)]) ∧ w = w') := Lib.hid (spread_more n 4 C X w (by omega) (by omega) (by omega) hC.symm (by omega) (by rw [← hX, hC]) (by omega))
      rw [hX] at e1
      rw [hC] at e2
      have HE : Hid ((3 : Int) + (X : Int) = (baseN s : Nat)) := Lib.hid (by omega)
      have hxs : X ≤ 300 := by omega
      rw [e2]
      clear h h' h8 hs e1 e2 h4 hn hX hC
      go_enter Tryz.func208, Tryz.ntmps208
      go_wp2_with fail
      refine HS.out.mono ?_
      rintro e w' ⟨rfl, rfl⟩
      go_wp2_with fail
      go_ret2
      exact ⟨by rw [← HE.out]; rfl, rfl⟩
theorem zfar_any (n : Nat) (w : World) (h : n ≤ 29) :
    Calls Tryz.prog 209 #[.int .i64 (n : Nat)] w fun e w' => e = .returned (.tuple #[.int .i64 (farN n : Nat), .int .i64 (farC n : Nat)]) ∧ w = w' := by
  have hs := farN_le n h
  have q2 : ¬ (n : Int) < 0 := by omega
  have q3 : ¬ (n : Int) > 29 := by omega
  by_cases h4 : n < 2
  · obtain ⟨e1, e2⟩ := far_few h4
    have HS : Hid (Calls Tryz.prog 233 #[.int .i64 (n : Nat), .int .i64 2] w fun e w' => e = .returned (.tuple #[.int .i64 (n : Nat), .int .i64 0]) ∧ w = w') := Lib.hid (spread_few n 2 w h4)
    have HE : Hid ((1 : Int) + (n : Int) = (farN n : Nat)) := Lib.hid (by omega)
    rw [e2]
    clear hs e1 e2 h4
    go_enter Tryz.func209, Tryz.ntmps209
    go_wp2_with fail
    refine HS.out.mono ?_
    rintro e w' ⟨rfl, rfl⟩
    go_wp2_with fail
    go_ret2
    exact ⟨by rw [← HE.out]; rfl, rfl⟩
  · obtain ⟨e1, e2⟩ := zfar_more h4
    obtain ⟨X, hX⟩ : ∃ X, (2 + n % 2) * 2 ^ (n / 2 - 1) = X := ⟨_, rfl⟩
    obtain ⟨C, hC⟩ : ∃ C, n / 2 - 1 = C := ⟨_, rfl⟩
    have HS : Hid (Calls Tryz.prog 233 #[.int .i64 (n : Nat), .int .i64 2] w fun e w' => e = .returned (.tuple #[.int .i64 (X : Nat), .int .i64 (C : Nat)]) ∧ w = w') := Lib.hid (spread_more n 2 C X w (by omega) (by omega) (by omega) hC.symm (by omega) (by rw [← hX, hC]) (by omega))
    rw [hX] at e1
    rw [hC] at e2
    have HE : Hid ((1 : Int) + (X : Int) = (farN n : Nat)) := Lib.hid (by omega)
    have hxs : X ≤ 30000 := by omega
    rw [e2]
    clear hs e1 e2 h4 hX hC
    go_enter Tryz.func209, Tryz.ntmps209
    go_wp2_with fail
    refine HS.out.mono ?_
    rintro e w' ⟨rfl, rfl⟩
    go_wp2_with fail
    go_ret2
    exact ⟨by rw [← HE.out]; rfl, rfl⟩
end Go.Proofs.YtnndgpggjlhhpaaGreat
namespace Go.Proofs.YtnndgpggjlhhpaaGreat
open Go.RowKit
section
variable {g gr : Nat} {r t : Option Nat} {b : List Nat} {k lim : Nat} {T : List Nat} {L S : Value}
theorem StIs.c2 {w : World} (h : StIs w g gr r t b k lim T L S) : ∃ p c, w.heap[g]? = some (.cells #[.pointer (some ⟨gr, 0, none⟩), .int .i64 (lim : Nat), .slice p T.length c, L, S] 228 (0, 0)) ∧ w.cell? ⟨g, 2, none⟩ = some (.slice p T.length c) ∧
    w.ownsRow 0 5 1 (.slice p T.length c) T.length (u8s T) ∧ Value.ownBlock (.slice p T.length c) = t := by
  obtain ⟨p, c, h1, h2, h3⟩ := h.ex
  exact ⟨p, c, h1, by simp [World.cell?, h1], h2, h3⟩
theorem drewFr (w : World) : ∃ w2, w.drew = w2 ∧ Fr S0 w w2 := ⟨_, rfl, Fr.drew _ _⟩
theorem room_yes (m : Nat) (w : World) (h : StIs w g gr r t b k lim T L S) (hm : T.length + m ≤ lim) :
    Calls Tryz.prog 237 #[.pointer (some ⟨g, 0, none⟩), .int .i64 (m : Nat)] w fun e w' => e = .returned (.tuple #[]) ∧ Fr S0 w w' := by
  have k1 := h.c1
  obtain ⟨p, c, -, k2, -, -⟩ := h.c2
  have hs := h.few
  have q1 : IntKind.i64.wrap ((lim : Int) - (T.length : Int)) = (lim : Int) - (T.length : Int) := IntWalk.i64_in _ (by omega)
  have hle : decide ((m : Int) ≤ (lim : Int) - (T.length : Int)) = true := decide_eq_true (by omega)
  have HD := Lib.hid (fun W => demand_yes 64 W)
  clear h hs hm
  go_enter Tryz.func237, Tryz.ntmps237
  go_wp2_with fail
  go_still_tail 12, (by kernel_rfl)
  obtain ⟨w2, hw2, f2⟩ := drewFr w
  change wpList _ _ _ _ _ w.drew
  rw [hw2]
  clear q1 hle hw2 k1 k2
  go_wp2_with fail
  refine (HD.out w2).mono ?_
  rintro e w' ⟨rfl, rfl⟩
  go_wp2_with fail
  go_end0
  exact ⟨rfl, f2⟩
theorem room_no (m : Nat) (w : World) (h : StIs w g gr r t b k lim T L S) (hm : ¬ T.length + m ≤ lim) (hms : m ≤ 1048576) :
    Calls Tryz.prog 237 #[.pointer (some ⟨g, 0, none⟩), .int .i64 (m : Nat)] w fun e w' => e = .panicked (chn 64) ∧ Fr S0 w w' := by
  have k1 := h.c1
  obtain ⟨p, c, -, k2, -, -⟩ := h.c2
  have hs := h.few
  have q1 : IntKind.i64.wrap ((lim : Int) - (T.length : Int)) = (lim : Int) - (T.length : Int) := IntWalk.i64_in _ (by omega)
  have hle : decide ((m : Int) ≤ (lim : Int) - (T.length : Int)) = false := decide_eq_false (by omega)
  have HD := Lib.hid (fun W => demand_no 64 W)
  clear h hs hm hms
  go_enter Tryz.func237, Tryz.ntmps237
  go_wp2_with fail
  go_still_tail 12, (by kernel_rfl)
  obtain ⟨w2, hw2, f2⟩ := drewFr w
  change wpList _ _ _ _ _ w.drew
  rw [hw2]
  clear q1 hle hw2 k1 k2
  go_wp2_with fail
  refine (HD.out w2).mono ?_
  rintro e w' ⟨rfl, rfl⟩
  go_wp2_with fail
  exact ⟨rfl, rfl, f2⟩
theorem told_grown {w w1 : World} {p p1 : Option Addr} {c c1 N : Nat} {m : List Nat} (h : StIs w g gr r t b k lim T L S) (hN : T.length + m.length = N) (hb : w.heap[g]? = some (.cells #[.pointer (some ⟨gr, 0, none⟩), .int .i64 (lim : Nat), .slice p T.length c, L, S] 228 (0, 0)))
    (ht : Value.ownBlock (.slice p T.length c) = t) (hm : ∀ x ∈ m, x < 256) (hfit : N ≤ lim)
    (own : w1.ownsRow 0 5 1 (.slice p1 N c1) N (u8s T ++ u8s m)) (hgrow : w.grownBy w1 (Value.ownBlock (.slice p T.length c))) (hat : Value.ownBlock (.slice p1 N c1) = Value.ownBlock (.slice p T.length c) ∨ Value.ownBlock (.slice p1 N c1) = some w.heap.size) :
    (∀ i, w1.frozen? ⟨g, i, none⟩ = false) ∧ w1.cell? ⟨g, 2, none⟩ = some (.slice p T.length c) ∧ StTo w (w1.setCell ⟨g, 2, none⟩ (.slice p1 N c1)) g gr r t b k lim (T ++ m) L S := by
  have a := h.apart
  rw [ht] at hgrow hat
  have hg := h.lt
  have hgr := h.rd.lt
  have hrl := h.rd.rlt
  have f : Fr (fun k => t = some k) w w1 := Fr.grown hgrow
  have hb1 := f.row hb a.2.2.1
  have hlen : (T ++ m).length = N := by rw [List.length_append, hN]
  have htn : Value.ownBlock (.slice p1 N c1) ≠ some g := by
    rcases hat with e | e
    · rw [e]; exact a.2.2.1
    · rw [e, Ne, Option.some.injEq]; omega
  have htr : Value.ownBlock (.slice p1 N c1) ≠ some gr := by
    rcases hat with e | e
    · rw [e]; exact a.2.2.2.1
    · rw [e, Ne, Option.some.injEq]; omega
  have hrd := (h.rd.fr f a.2.2.2.1 (fun j hj e => a.2.2.2.2 j e hj)).fr (Fr.setCell (· = g) w1 ⟨g, 2, none⟩ (.slice p1 N c1) rfl) (fun e => a.1 e.symm) (fun j hj e => a.2.1 (by rw [hj, e]))
  refine ⟨fun i => by simp [World.frozen?, hb1], by simp [World.cell?, hb1], Value.ownBlock (.slice p1 N c1), ⟨⟨p1, c1, ?_, ?_, ?_⟩, hrd, ?_, ?_, a.1, a.2.1, htn, htr, ?_⟩, ?_, ?_⟩
  · rw [heap_setCell_same w1 g 2 _ _ _ hb1, hlen]; rfl
  · rw [hlen, ← u8s_append]
    exact (Fr.setCell (· = g) w1 ⟨g, 2, none⟩ _ rfl).owns own (fun k hk e => htn (by rw [hk, e]))
  · rw [hlen]
  · intro x hx
    rcases List.mem_append.1 hx with hx | hx
    · exact h.bytes x hx
    · exact hm x hx
  · have := h.few; rw [hlen]; exact ⟨by omega, this.2⟩
  · intro j hj e
    rcases hat with e2 | e2
    · exact a.2.2.2.2 j (e2 ▸ hj) e
    · rw [e2, Option.some.injEq] at hj; have := hrl j e; omega
  · exact (f.mono (fun j _ e => .inr (.inr e))).trans (Fr.setCell (· = g) w1 ⟨g, 2, none⟩ (.slice p1 N c1) rfl) (fun j _ e => .inl e)
  · rcases hat with e | e
    · exact .inl e
    · exact .inr fun j hj => by rw [e, Option.some.injEq] at hj; omega
theorem tell_yes (q : Option Addr) (d : Nat) (m : List Nat) (w : World) (h : StIs w g gr r t b k lim T L S) (hsrc : SrcIs w (.slice q m.length d) m.length (u8s m)) (hm : ∀ x ∈ m, x < 256) (hfit : T.length + m.length ≤ lim) :
    Calls Tryz.prog 238 #[.pointer (some ⟨g, 0, none⟩), .slice q m.length d] w fun e w' => e = .returned (.tuple #[]) ∧ StTo w w' g gr r t b k lim (T ++ m) L S := by
  have HRM := Lib.hid (room_yes m.length w h hfit)
  obtain ⟨N, hN⟩ : ∃ N, T.length + m.length = N := ⟨_, rfl⟩
  have HN := Lib.hid hN
  have HR : Hid (Room N) := Lib.hid (Room.mk (by have := h.few; omega))
  have H := Lib.hid h
  have HSRC := Lib.hid hsrc
  have HM := Lib.hid hm
  have HFIT : Hid (N ≤ lim) := Lib.hid (by omega)
  clear h hsrc hm hfit hN
  go_enter Tryz.func238, Tryz.ntmps238
  go_wp2_with fail
  refine HRM.out.mono ?_
  rintro e w1 ⟨rfl, f1⟩
  have H1 := Lib.hid (H.out.fr0 f1)
  have src := HSRC.out.fr f1 (fun _ _ h => h)
  obtain ⟨p, c, hb, k2, own, ht⟩ := H1.out.c2
  have kf := H1.out.fz 2
  have F1 := Lib.hid f1
  have HB := Lib.hid hb
  clear f1 hb HRM
  go_wp2_with (first
    | ((with_reducible show wpList _ _ _ (Oper.mk (some 14) _ _ _ _ _ :: _) _ _); refine app_many el8 (.tmp 12) (.tmp 13) own src HN.out rfl rfl rfl rfl (one8s _) HR.out ?_; intro p1 c1 w2 own1 g1 at1; obtain ⟨z1, z2, z3⟩ := told_grown H1.out HN.out HB.out ht HM.out HFIT.out own1 g1 at1; have Z3 := Lib.hid z3; have y2 := z1 2; clear g1 at1 own1 z3 z1 k2 kf)
    | fail)
  go_end0
  exact ⟨rfl, StTo.trans (F1.out.mono fun _ _ h => h.elim) (.inl rfl) Z3.out⟩
theorem tell_no (q : Option Addr) (d m : Nat) (w : World) (h : StIs w g gr r t b k lim T L S) (hfit : ¬ T.length + m ≤ lim) (hms : m ≤ 1048576) :
    Calls Tryz.prog 238 #[.pointer (some ⟨g, 0, none⟩), .slice q m d] w fun e w' => e = .panicked (chn 64) ∧ Fr S0 w w' := by
  have HRM := Lib.hid (room_no m w h hfit hms)
  clear h hfit hms
  go_enter Tryz.func238, Tryz.ntmps238
  go_wp2_with fail
  refine HRM.out.mono ?_
  rintro e w1 ⟨rfl, f1⟩
  go_wp2_with fail
  exact ⟨rfl, rfl, f1⟩
end
end Go.Proofs.YtnndgpggjlhhpaaGreat
namespace Go.Proofs.YtnndgpggjlhhpaaGreat
open Go.RowKit
theorem again_succ (far : Nat) : ∀ (n : Nat) (T : List Nat), again far (n + 1) T = again far n T ++ [(again far n T).getD ((again far n T).length - far) 0]
  | 0, T => rfl
  | n + 1, T => by rw [again, again_succ far n, again]
theorem again_length (far : Nat) : ∀ (n : Nat) (T : List Nat), (again far n T).length = T.length + n
  | 0, T => rfl
  | n + 1, T => by rw [again, again_length far n, List.length_append, List.length_singleton]; omega
theorem again_256 (far : Nat) : ∀ (n : Nat) (T : List Nat), (∀ x ∈ T, x < 256) → ∀ x ∈ again far n T, x < 256
  | 0, T, h => h
  | n + 1, T, h => by
    rw [again]
    refine again_256 far n _ fun x hx => ?_
    rcases List.mem_append.1 hx with hx | hx
    · exact h x hx
    · rw [List.mem_singleton.1 hx]
      by_cases e : T.length - far < T.length
      · rw [getD_at _ _ e]; exact h _ (List.getElem_mem e)
      · simp only [List.getD]
        rw [List.getElem?_eq_none (by omega)]; decide
theorem baseN_pos (s : Nat) (h : 257 ≤ s) (h2 : s ≤ 285) : 3 ≤ baseN s := by
  have key : ∀ n : Fin 29, 3 ≤ baseN (257 + n.val) := by decide
  have := key ⟨s - 257, by omega⟩
  simpa [show 257 + (s - 257) = s by omega] using this
theorem more_cases {b : List Nat} {least c k gr : Nat} {r : Option Nat} {w w' : World} {e : Ending} (h : RdEnds (rMore b least c k) w gr r b e w') :
    (∃ n j, rGrp b c k = .ok n j ∧ n < 2 ^ c ∧ e = .returned (.int .i64 (least + n : Nat)) ∧ RdTo w w' gr r b j) ∨ (∃ m, rGrp b c k = .no m ∧ e = .panicked (chn m) ∧ Fr (· = gr) w w') := by
  unfold rMore rGrp at h
  unfold rGrp
  by_cases hk : k + c ≤ 8 * b.length
  · rw [if_pos hk] at h ⊢
    exact .inl ⟨_, _, rfl, bitsAt_lt b k c, h.1, h.2⟩
  · rw [if_neg hk] at h ⊢
    exact .inr ⟨_, rfl, h.1, h.2⟩
theorem rd_cases {x : Res Nat} {gr : Nat} {r : Option Nat} {b : List Nat} {w w' : World} {e : Ending} (h : RdEnds x w gr r b e w') :
    (∃ n j, x = .ok n j ∧ e = .returned (.int .i64 (n : Nat)) ∧ RdTo w w' gr r b j) ∨ (∃ m, x = .no m ∧ e = .panicked (chn m) ∧ Fr (· = gr) w w') := by
  cases x with
  | ok n j => exact .inl ⟨n, j, rfl, h.1, h.2⟩
  | no m => exact .inr ⟨m, rfl, h.1, h.2⟩
theorem rIf_yes {c : Bool} {e k : Nat} (h : c = true) : rIf c e k = .ok () k := by unfold rIf; rw [if_pos h]
theorem rIf_no {c : Bool} {e k : Nat} (h : c = false) : rIf c e k = .no e := by unfold rIf; rw [if_neg (by rw [h]; decide)]
def StEnds (x : Res (List Nat)) (w : World) (g gr : Nat) (r t : Option Nat) (b : List Nat) (lim : Nat) (L S : Value) (e : Ending) (w' : World) : Prop :=
  match x with
  | .ok T k => e = .returned (.tuple #[]) ∧ StTo w w' g gr r t b k lim T L S
  | .no m => e = .panicked (chn m) ∧ Fr (StB g gr t) w w'
section
variable {g gr : Nat} {r t : Option Nat} {b : List Nat} {k lim : Nat} {T : List Nat} {L S : Value}
theorem StEnds.of {x y : Res (List Nat)} {w w' : World} {e : Ending} (h : x = y) (q : StEnds y w g gr r t b lim L S e w') : StEnds x w g gr r t b lim L S e w' := by rw [h]; exact q
theorem one_src (w : World) (x : Nat) : SrcIs (w.alloc (.cells #[.int .u8 (x : Nat)] 5)) (.slice (some ⟨w.heap.size, 0, none⟩) [x].length 1) [x].length (u8s [x]) := SrcIs.ofOwns (own_one w _ _)
theorem frSt {w w' : World} {m : Nat} {t : Option Nat} (hf : Fr (· = gr) w w') : Fr (StB m gr t) w w' := hf.mono fun _ _ e => .inr (.inl e)
theorem frTo {w w1 w2 : World} {t1 : Option Nat} (hf : Fr (StB g gr t) w w1) (ht : t1 = t ∨ ∀ j, t1 = some j → w.heap.size ≤ j) (h2 : Fr (StB g gr t1) w1 w2) : Fr (StB g gr t) w w2 := by
  refine hf.trans h2 fun j hj e => ?_
  rcases e with e | e | e
  · exact .inl e
  · exact .inr (.inl e)
  · rcases ht with ht | ht
    · exact .inr (.inr (ht ▸ e))
    · have := ht j e; omega
theorem back_any (A B gs s : Nat) (spn : List Nat) (w : World) (h : StIs w g gr r t b k lim T L S) (hs : SetIs w A B gs spn) (hw : gr < A ∨ B ≤ gr) (h257 : 257 ≤ s) (hss : s ≤ 1000) :
    Calls Tryz.prog 248 #[.pointer (some ⟨g, 0, none⟩), .int .i64 (s : Nat), .pointer (some ⟨gs, 0, none⟩)] w (StEnds (rBack b lim spn T s k) w g gr r t b lim L S) := by
  by_cases h285 : s ≤ 285
  · have hle : decide ((s : Int) ≤ 285) = true := decide_eq_true (by omega)
    have HD := Lib.hid (demand_yes 62 w)
    have HB := Lib.hid (base_any s w h257 h285)
    have hbl := baseN_le s h257 h285
    have HM := Lib.hid (more_any (baseN s) (baseC s) w h (by omega) (by omega))
    have HW := Lib.hid hw
    have HS := Lib.hid hs
    have H := Lib.hid h
    have HE : Hid (∀ y, ((rGrp b (baseC s) k).then fun n k2 => (rSym b spn k2).then fun d k3 =>
      (rIf (decide (d ≤ 29)) 62 k3).then fun _ k3 => (rGrp b (farC d) k3).then fun f k4 =>
      (rIf (decide (farN d + f ≤ T.length)) 63 k4).then fun _ k4 => (rIf (decide (T.length + (baseN s + n) ≤ lim)) 64 k4).then fun _ k4 =>
      .ok (again (farN d + f) (baseN s + n) T) k4) = y → rBack b lim spn T s k = y) := Lib.hid (fun y hy => by unfold rBack; rw [rIf_yes (decide_eq_true h285), Res.then_ok]; exact hy)
    have HP := Lib.hid (baseN_pos s h257 h285)
    clear h hs hw h257 hss
    go_enter Tryz.func248, Tryz.ntmps248
    go_wp2_with fail
    refine HD.out.mono ?_
    rintro e w' ⟨rfl, rfl⟩
    go_wp2_with fail
    refine HB.out.mono ?_
    rintro e w' ⟨rfl, rfl⟩
    go_wp2_with fail
    refine HM.out.mono ?_
    intro e w1 h1
    clear HD HB HM hle
    rcases more_cases h1 with ⟨n, k2, hx, hn, rfl, t1⟩ | ⟨m, hx, rfl, f1⟩
    rotate_left
    · have K := Lib.hid (HE.out (.no m) (by rw [hx]; rfl))
      clear hx h1 HE
      go_wp2_with fail
      exact ⟨rfl, StEnds.of K.out ⟨rfl, frSt f1⟩⟩
    have HE1 := Lib.hid (fun y hy => HE.out y (by rw [hx, Res.then_ok]; exact hy))
    have hn' : n < 32 := Nat.lt_of_lt_of_le hn (Nat.pow_le_pow_right (n := 2) (by decide) hbl.2)
    obtain ⟨ℓ, hl⟩ : ∃ ℓ, baseN s + n = ℓ := ⟨_, rfl⟩
    have HL := Lib.hid hl
    have hls : ℓ ≤ 300 := by omega
    have HF1 := Lib.hid t1.2
    have H1 := Lib.hid (H.out.read t1)
    have HS1 := Lib.hid (HS.out.fr t1.2 (fun q h1 h2 e => by have := HW.out; omega))
    have HSY := Lib.hid (symbol_any A B gs spn w1 H1.out HS1.out HW.out)
    rw [hl]
    clear hx h1 HE hn hbl t1 hl hn'
    go_wp2_with fail
    refine HSY.out.mono ?_
    intro e w2 h2
    rcases rd_cases h2 with ⟨d, k3, hx, rfl, t2⟩ | ⟨m, hx, rfl, f2⟩
    rotate_left
    · have K := Lib.hid (HE1.out (.no m) (by rw [hx]; rfl))
      clear hx h2 HE1
      go_wp2_with fail
      exact ⟨rfl, StEnds.of K.out ⟨rfl, frSt (HF1.out.trans f2 (fun _ _ h => h))⟩⟩
    have HE2 := Lib.hid (fun y hy => HE1.out y (by rw [hx, Res.then_ok]; exact hy))
    have hds : d < 320 := Nat.lt_of_lt_of_le (rSym_lt hx) HS1.out.small
    have HF2 : Hid (Fr (· = gr) w w2) := Lib.hid (HF1.out.trans t2.2 (fun _ _ h => h))
    have H2 := Lib.hid (H1.out.read t2)
    clear hx h2 HE1 t2 HSY HF1 H1 HS1 HS
    by_cases hd29 : d ≤ 29
    rotate_left
    · have K := Lib.hid (HE2.out (.no 62) (by rw [rIf_no (decide_eq_false hd29)]; rfl))
      have hle : decide ((d : Int) ≤ 29) = false := decide_eq_false (by omega)
      have HD := Lib.hid (demand_no 62 w2)
      clear HE2
      go_wp2_with fail
      refine HD.out.mono ?_
      rintro e w' ⟨rfl, rfl⟩
      go_wp2_with fail
      exact ⟨rfl, StEnds.of K.out ⟨rfl, frSt HF2.out⟩⟩
    have HE3 := Lib.hid (fun y hy => HE2.out y (by rw [rIf_yes (decide_eq_true hd29), Res.then_ok]; exact hy))
    have hle : decide ((d : Int) ≤ 29) = true := decide_eq_true (by omega)
    have HD := Lib.hid (demand_yes 62 w2)
    have HFA := Lib.hid (zfar_any d w2 hd29)
    have hfl := farN_le d hd29
    have HM := Lib.hid (more_any (farN d) (farC d) w2 H2.out (by omega) (by omega))
    clear HE2 hd29
    go_wp2_with fail
    refine HD.out.mono ?_
    rintro e w' ⟨rfl, rfl⟩
    go_wp2_with fail
    refine HFA.out.mono ?_
    rintro e w' ⟨rfl, rfl⟩
    go_wp2_with fail
    refine HM.out.mono ?_
    intro e w3 h3
    clear HD HFA HM hle
    rcases more_cases h3 with ⟨f, k4, hx, hf, rfl, t3⟩ | ⟨m, hx, rfl, f3⟩
    rotate_left
    · have K := Lib.hid (HE3.out (.no m) (by rw [hx]; rfl))
      clear hx h3 HE3
      go_wp2_with fail
      exact ⟨rfl, StEnds.of K.out ⟨rfl, frSt (HF2.out.trans f3 (fun _ _ h => h))⟩⟩
    have HE4 := Lib.hid (fun y hy => HE3.out y (by rw [hx, Res.then_ok]; exact hy))
    have hf' : f < 8192 := Nat.lt_of_lt_of_le hf (Nat.pow_le_pow_right (n := 2) (by decide) hfl.2)
    have hfp : 1 ≤ farN d := by unfold farN; split <;> omega
    obtain ⟨F, hF⟩ : ∃ F, farN d + f = F := ⟨_, rfl⟩
    rw [hF] at HE4 ⊢
    have hFs : F ≤ 40000 := by omega
    have HFP : Hid (1 ≤ F) := Lib.hid (by omega)
    have HF3 : Hid (Fr (· = gr) w w3) := Lib.hid (HF2.out.trans t3.2 (fun _ _ h => h))
    have H3 := Lib.hid (H2.out.read t3)
    rw [HL.out] at HE4
    clear hx h3 HE3 t3 HF2 H2 hF hf hf' hfl hfp hds
    obtain ⟨p, c, -, e2, -, -⟩ := H3.out.c2
    obtain ⟨M, hM⟩ : ∃ M, T.length = M := ⟨_, rfl⟩
    have hMs : M ≤ 1048576 := by have := H3.out.few.1; omega
    rw [hM] at e2
    have HMM := Lib.hid hM
    by_cases hfar : F ≤ M
    rotate_left
    · have K := Lib.hid (HE4.out (.no 63) (by rw [rIf_no (decide_eq_false (by rw [hM]; exact hfar))]; rfl))
      have hle : decide (F ≤ M) = false := decide_eq_false hfar
      have HD := Lib.hid (demand_no 63 w3)
      clear HE4 hM hfar
      go_wp2_with fail
      refine HD.out.mono ?_
      rintro e w' ⟨rfl, rfl⟩
      go_wp2_with fail
      exact ⟨rfl, StEnds.of K.out ⟨rfl, frSt HF3.out⟩⟩
    have HE5 := Lib.hid (fun y hy => HE4.out y (by rw [rIf_yes (decide_eq_true (by rw [hM]; exact hfar)), Res.then_ok]; exact hy))
    have hle : decide (F ≤ M) = true := decide_eq_true hfar
    have HD := Lib.hid (demand_yes 63 w3)
    have HFAR := Lib.hid hfar
    clear HE4 hM hfar
    go_wp2_with fail
    refine HD.out.mono ?_
    rintro e w' ⟨rfl, rfl⟩
    clear HD hle e2
    go_wp2_with fail
    go_loopw [39] (fun i wr => ∃ j : Nat, j ≤ ℓ ∧ i = .int .i64 j ∧ (j = 0 ∨ M + j ≤ lim) ∧ StTo w3 wr g gr r t b k4 lim (again F j T) L S) (fun i _ => ℓ - (intOf i).toNat)
    case atStart => exact ⟨0, by omega, rfl, .inl rfl, H3.out.self⟩
    case round =>
      obtain ⟨j, hj, rfl, hfit, hto⟩ := hrel
      have HTO := Lib.hid hto
      have HFIT := Lib.hid hfit
      clear hto hfit
      by_cases hjc : (j : Int) < (ℓ : Int)
      · obtain ⟨t1, st, ft, ht⟩ := HTO.out
        have HST := Lib.hid st
        have HFT := Lib.hid ft
        have HT1 := Lib.hid ht
        have HAL := Lib.hid (again_length F j T)
        have HAS := Lib.hid (again_succ F j T)
        obtain ⟨p, c, -, e2, own, -⟩ := st.c2
        clear st ft ht
        obtain ⟨U, hU⟩ : ∃ U, again F j T = U := ⟨_, rfl⟩
        rw [hU] at e2 own HAL HAS HST HTO
        obtain ⟨X, hX⟩ : ∃ X, U.length = X := ⟨_, rfl⟩
        have hXM : X = M + j := by rw [← hX, HAL.out, HMM.out]
        obtain ⟨D, hD⟩ : ∃ D, X = F + D := ⟨X - F, by have := HFAR.out; omega⟩
        have hDl : D < U.length := by have := HFP.out; omega
        obtain ⟨bb, oo, hpe, hcl⟩ := (SlI.ofOwns own).at D hDl
        have hx8 := HST.out.bytes _ (List.getElem_mem hDl)
        have HX1 : Hid (again F (j + 1) T = U ++ [U[D]]) := Lib.hid (by rw [HAS.out, hX, show X - F = D by omega, getD_at _ _ hDl])
        obtain ⟨x, hx⟩ : ∃ x, U[D] = x := ⟨_, rfl⟩
        rw [hx] at hcl hx8 HX1
        rw [hX] at e2
        subst hpe
        have q1 : IntKind.i64.wrap ((X : Int) - (F : Int)) = (D : Int) := by rw [IntWalk.i64_in _ (by omega)]; omega
        have q2 : (D : Int) < (X : Int) := by have := HFP.out; omega
        have q3 : (0 : Int) ≤ (D : Int) := by omega
        have HXL : Hid (U.length = X ∧ X = M + j) := Lib.hid ⟨hX, hXM⟩
        clear own hU hX hXM hD hDl hx HAS HAL
        go_wp2_with fail
        have HST2 : Hid (∀ W, Fr S0 wr W → StIs W g gr r t1 b k4 lim U L S) := Lib.hid (fun W f => HST.out.fr0 f)
        have HFT2 : Hid (∀ W, Fr S0 wr W → Fr (StB g gr t) w3 W) := Lib.hid (fun W f => HFT.out.trans0 f)
        by_cases hroom : X + 1 ≤ lim
        · have HT : Hid (∀ W, Fr S0 wr W → W.heap[wr.heap.size]? = some (.cells #[.int .u8 (x : Nat)] 5 (0, 0)) → Calls Tryz.prog 238 #[.pointer (some ⟨g, 0, none⟩), .slice (some ⟨wr.heap.size, 0, none⟩) 1 1] W fun e w' => e = .returned (.tuple #[]) ∧ StTo w3 w' g gr r t b k4 lim (U ++ [x]) L S) :=
            Lib.hid (fun W f hb => (tell_yes (some ⟨wr.heap.size, 0, none⟩) 1 [x] W (HST2.out W f) (SrcIs.ofSl (k := .u8) (l := [x]) (SlI.ofBlock (k := .u8) (l := [x]) hb rfl (by simp [maxLen])) (fun h => by cases h)) (fun y hy => by rw [List.mem_singleton.1 hy]; exact hx8) (by rw [HXL.out.1]; exact hroom)).mono (fun e w' ⟨h1, h2⟩ => ⟨h1, StTo.trans (HFT2.out W f) HT1.out h2⟩))
          have HROOM := Lib.hid hroom
          clear hroom
          go_region_law (first
              | (go_simp; go_at_call 238; refine (HT.out _ ((Fr.alloc S0 wr _).trans0 (Fr.drew _ _)) (heap_alloc_new wr _)).mono ?_; rintro e w4 ⟨rfl, hto⟩; have HN := Lib.hid hto; clear hto))
          all_goals (
            go_wp2_with fail
            go_roundw
            · exact ⟨j + 1, by omega, by go_num, .inr (by have := HXL.out.2; have := HROOM.out; omega), by rw [HX1.out]; exact HN.out⟩
            · simp [intOf]; omega)
        · have HT : Hid (∀ W, Fr S0 wr W → Calls Tryz.prog 238 #[.pointer (some ⟨g, 0, none⟩), .slice (some ⟨wr.heap.size, 0, none⟩) 1 1] W fun e w' => (∃ v, e = .returned v ∧ False) ∨ e = .panicked (chn 64) ∧ Fr (StB g gr t) w w') :=
            Lib.hid (fun W f => (tell_no (some ⟨wr.heap.size, 0, none⟩) 1 1 _ (HST2.out W f) (by rw [HXL.out.1]; exact hroom) (by decide)).mono (fun e w' ⟨h1, h2⟩ => .inr ⟨h1, (frSt HF3.out).trans ((HFT2.out W f).trans0 h2) (fun _ _ h => h)⟩))
          have K := Lib.hid (HE5.out (.no 64) (by rw [rIf_no (decide_eq_false (by rw [HMM.out]; have := HXL.out.2; omega))]; rfl))
          have HROOM := Lib.hid hroom
          clear hroom
          go_region_law (first
              | (go_simp; go_at_call 238; refine (HT.out _ ((Fr.alloc S0 wr _).trans0 (Fr.drew _ _))).mono ?_; rintro e w4 (⟨v, rfl, hF⟩ | ⟨rfl, f4⟩); rotate_left; exact ⟨rfl, StEnds.of K.out ⟨rfl, f4⟩⟩))
          all_goals exact hF.elim
      · obtain rfl : j = ℓ := by omega
        have K := Lib.hid (HE5.out (.ok (again F j T) k4) (by rw [rIf_yes (decide_eq_true (by rw [HMM.out]; rcases HFIT.out with q | q <;> have := HL.out <;> have := HP.out <;> omega))]; rfl))
        go_wp2_with fail
        go_end0
        exact StEnds.of K.out ⟨rfl, StTo.trans (frSt HF3.out) (.inl rfl) HTO.out⟩
  · have hle : decide ((s : Int) ≤ 285) = false := decide_eq_false (by omega)
    have HD := Lib.hid (demand_no 62 w)
    have HE : Hid (rBack b lim spn T s k = .no 62) := Lib.hid (by unfold rBack; rw [rIf_no (decide_eq_false h285)]; rfl)
    clear h hs hw h285 h257 hss
    go_enter Tryz.func248, Tryz.ntmps248
    go_wp2_with fail
    refine HD.out.mono ?_
    rintro e w' ⟨rfl, rfl⟩
    go_wp2_with fail
    exact ⟨rfl, StEnds.of HE.out ⟨rfl, Fr.refl _ _⟩⟩
end
end Go.Proofs.YtnndgpggjlhhpaaGreat
namespace Go.Proofs.YtnndgpggjlhhpaaGreat
open Go.RowKit
theorem rSyms_no {b : List Nat} {lim : Nat} {lit spn T : List Nat} {k e : Nat} (h : rStep b lim lit spn T k = .no e) : rSyms b lim lit spn T k = .no e := by
  rw [rSyms, h]
theorem rSyms_end {b : List Nat} {lim : Nat} {lit spn T T1 : List Nat} {k k1 : Nat} (h : rStep b lim lit spn T k = .ok (true, T1) k1) : rSyms b lim lit spn T k = .ok T1 k1 := by
  rw [rSyms, h]
theorem rSyms_go {b : List Nat} {lim : Nat} {lit spn T T1 : List Nat} {k k1 : Nat} (h : rStep b lim lit spn T k = .ok (false, T1) k1) (h1 : k < k1) (h2 : k1 ≤ 8 * b.length) : rSyms b lim lit spn T k = rSyms b lim lit spn T1 k1 := by
  rw [rSyms, h]
  show (if _h : k < k1 ∧ k1 ≤ 8 * b.length then rSyms b lim lit spn T1 k1 else .no 0) = _
  rw [dif_pos ⟨h1, h2⟩]
def atOf (w : World) (gr : Nat) : Nat := match w.cell? ⟨gr, 1, none⟩ with
  | some (.int _ n) => n.toNat
  | _ => 0
theorem RdIs.atOf {w : World} {gr : Nat} {r : Option Nat} {b : List Nat} {k : Nat} (h : RdIs w gr r b k) : atOf w gr = k := by
  obtain ⟨p, c, hb, -⟩ := h.ex
  unfold Go.Proofs.YtnndgpggjlhhpaaGreat.atOf
  simp [World.cell?, hb]
theorem rBack_up {b : List Nat} {lim : Nat} {spn T T1 : List Nat} {s k k1 : Nat} (h : rBack b lim spn T s k = .ok T1 k1) : k ≤ k1 := by
  unfold rBack rIf rGrp at h
  by_cases h1 : decide (s ≤ 285) = true
  · rw [if_pos h1, Res.then_ok] at h
    by_cases h2 : k + baseC s ≤ 8 * b.length
    · rw [if_pos h2, Res.then_ok] at h
      cases h3 : rSym b spn (k + baseC s) with
      | no e => rw [h3] at h; cases h
      | ok d k3 =>
        have hk3 := (rSym_in h3).2
        rw [h3, Res.then_ok] at h
        by_cases h4 : decide (d ≤ 29) = true
        · rw [if_pos h4, Res.then_ok] at h
          by_cases h5 : k3 + farC d ≤ 8 * b.length
          · rw [if_pos h5, Res.then_ok] at h
            split at h
            · rw [Res.then_ok] at h
              split at h
              · rw [Res.then_ok] at h
                simp only [Res.ok.injEq] at h
                omega
              · cases h
            · cases h
          · rw [if_neg h5] at h; cases h
        · rw [if_neg h4] at h; cases h
    · rw [if_neg h2] at h; cases h
  · rw [if_neg h1] at h; cases h
section
variable {g gr : Nat} {r t : Option Nat} {b : List Nat} {k lim : Nat} {T : List Nat} {L S : Value}
theorem symbols_any (A B A2 B2 gl gs : Nat) (lit spn : List Nat) (w : World) (h : StIs w g gr r t b k lim T L S) (hl : SetIs w A B gl lit) (hs : SetIs w A2 B2 gs spn) (al : Away w A B g gr t) (as2 : Away w A2 B2 g gr t) :
    Calls Tryz.prog 242 #[.pointer (some ⟨g, 0, none⟩), .pointer (some ⟨gl, 0, none⟩), .pointer (some ⟨gs, 0, none⟩)] w (StEnds (rSyms b lim lit spn T k) w g gr r t b lim L S) := by
  have H := Lib.hid h
  have HL := Lib.hid hl
  have HS := Lib.hid hs
  have AL := Lib.hid al
  have AS := Lib.hid as2
  clear h hl hs al as2
  go_enter Tryz.func242, Tryz.ntmps242
  go_wp2_with fail
  go_loopw [6, 14, 22] (fun _ _ _ wr => ∃ k1 T1, StTo w wr g gr r t b k1 lim T1 L S ∧ rSyms b lim lit spn T k = rSyms b lim lit spn T1 k1) (fun _ _ _ wr => 8 * b.length - atOf wr gr)
  case atStart => exact ⟨k, T, H.out.self, rfl⟩
  case round =>
    obtain ⟨k1, T1, ⟨t1, hst, hfr, ht1⟩, heq⟩ := hrel
    have H1 := Lib.hid hst
    have HF := Lib.hid hfr
    have HT := Lib.hid ht1
    have HE := Lib.hid heq
    have HAT := Lib.hid hst.rd.atOf
    have HK := Lib.hid hst.rd.inside
    have HL1 := Lib.hid (HL.out.fr hfr (fun j h1 h2 h3 => AL.out.2 j h1 h2 h3))
    have HS1 := Lib.hid (HS.out.fr hfr (fun j h1 h2 h3 => AS.out.2 j h1 h2 h3))
    have HSY := Lib.hid (symbol_any A B gl lit wr hst HL1.out AL.out.rd)
    clear hst hfr ht1 heq
    go_wp2_with fail
    refine HSY.out.mono ?_
    intro e w2 h2
    rcases rd_cases h2 with ⟨s, k2, hx, rfl, t2⟩ | ⟨m, hx, rfl, f2⟩
    rotate_left
    · have K : Hid (rSyms b lim lit spn T k = .no m) := Lib.hid (by rw [HE.out]; exact rSyms_no (by unfold rStep; rw [hx]; rfl))
      have HFF : Hid (Fr (StB g gr t) w w2) := Lib.hid (frTo HF.out HT.out (frSt f2))
      clear hx h2
      go_wp2_with fail
      exact ⟨rfl, StEnds.of K.out ⟨rfl, HFF.out⟩⟩
    have HSI := Lib.hid (rSym_in hx)
    have hss : s < 320 := Nat.lt_of_lt_of_le (rSym_lt hx) HL1.out.small
    have HX := Lib.hid hx
    have H2 := Lib.hid (H1.out.read t2)
    have HF2 : Hid (Fr (StB g gr t) w w2) := Lib.hid (frTo HF.out HT.out (frSt t2.2))
    have HS2 := Lib.hid (HS1.out.fr t2.2 (fun j q1 q2 e => AS.out.2 j q1 q2 (.inr (.inl e))))
    have hk2 : k1 < k2 ∧ k2 ≤ 8 * b.length := ⟨by have := HSI.out.2; have := HSI.out.1.1; omega, t2.1.inside⟩
    have HK2 := Lib.hid hk2
    clear hx h2 t2 hk2 HSY
    by_cases h256 : s < 256
    · have hlt : (s : Int) < 256 := by omega
      have hmod : (s : Int) % 256 = (s : Int) := by omega
      by_cases hroom : T1.length + 1 ≤ lim
      · have K : Hid (rSyms b lim lit spn T k = rSyms b lim lit spn (T1 ++ [s]) k2) := Lib.hid (by
          rw [HE.out]
          refine rSyms_go ?_ HK2.out.1 HK2.out.2
          unfold rStep
          rw [HX.out, Res.then_ok, if_pos h256, rIf_yes (decide_eq_true hroom), Res.then_ok])
        have HTL : Hid (Calls Tryz.prog 238 #[.pointer (some ⟨g, 0, none⟩), .slice (some ⟨w2.heap.size, 0, none⟩) 1 1] (w2.alloc (.cells #[.int .u8 (s : Nat)] 5)) fun e w' => e = .returned (.tuple #[]) ∧ StTo w w' g gr r t b k2 lim (T1 ++ [s]) L S) :=
          Lib.hid ((tell_yes (some ⟨w2.heap.size, 0, none⟩) 1 [s] _ (H2.out.fr0 (Fr.alloc _ _ _)) (one_src w2 s) (fun y hy => by rw [List.mem_singleton.1 hy]; exact h256) hroom).mono (fun e w' ⟨h1, h2⟩ => ⟨h1, StTo.trans (HF2.out.trans0 (Fr.alloc _ _ _)) HT.out h2⟩))
        clear h256 hroom
        go_wp2_with fail
        refine HTL.out.mono ?_
        rintro e w3 ⟨rfl, hto⟩
        have HN := Lib.hid hto
        have HA3 : Hid (atOf w3 gr = k2) := Lib.hid (by obtain ⟨t3, h3, -⟩ := hto; exact h3.rd.atOf)
        clear hto HTL
        go_wp2_with fail
        go_roundw
        case rel => exact ⟨k2, _, HN.out, K.out⟩
        case measure => have := HA3.out; have := HAT.out; have := HK2.out; show _ < _; omega
      · have K : Hid (rSyms b lim lit spn T k = .no 64) := Lib.hid (by
          rw [HE.out]
          refine rSyms_no ?_
          unfold rStep
          rw [HX.out, Res.then_ok, if_pos h256, rIf_no (decide_eq_false hroom)]
          rfl)
        have HTL : Hid (Calls Tryz.prog 238 #[.pointer (some ⟨g, 0, none⟩), .slice (some ⟨w2.heap.size, 0, none⟩) 1 1] (w2.alloc (.cells #[.int .u8 (s : Nat)] 5)) fun e w' => e = .panicked (chn 64) ∧ Fr (StB g gr t) w w') :=
          Lib.hid ((tell_no (some ⟨w2.heap.size, 0, none⟩) 1 1 _ (H2.out.fr0 (Fr.alloc _ _ _)) hroom (by decide)).mono (fun e w' ⟨h1, h2⟩ => ⟨h1, (HF2.out.trans0 (Fr.alloc _ _ _)).trans0 h2⟩))
        clear h256 hroom
        go_wp2_with fail
        refine HTL.out.mono ?_
        rintro e w3 ⟨rfl, f3⟩
        have HN := Lib.hid f3
        clear f3 HTL
        go_wp2_with fail
        exact ⟨rfl, StEnds.of K.out ⟨rfl, HN.out⟩⟩
    · by_cases h56 : s = 256
      · subst h56
        have K : Hid (rSyms b lim lit spn T k = .ok T1 k2) := Lib.hid (by
          rw [HE.out]
          refine rSyms_end ?_
          unfold rStep
          rw [HX.out, Res.then_ok, if_neg h256, if_pos rfl])
        have HN : Hid (StTo w w2 g gr r t b k2 lim T1 L S) := Lib.hid ⟨t1, H2.out, HF2.out, HT.out⟩
        clear h256
        go_wp2_with fail
        go_end0
        exact StEnds.of K.out ⟨rfl, HN.out⟩
      · have hlt : ¬ (s : Int) < 256 := by omega
        have hne : ((s : Int) == 256) = false := by rw [beq_eq_false_iff_ne]; omega
        have hne2 : ¬ (s : Int) = 256 := by omega
        have HB := Lib.hid (back_any A2 B2 gs s spn w2 H2.out HS2.out AS.out.rd (by omega) (by omega))
        have K : Hid (∀ T2 k3, rBack b lim spn T1 s k2 = .ok T2 k3 → k3 ≤ 8 * b.length → rSyms b lim lit spn T k = rSyms b lim lit spn T2 k3) := Lib.hid (fun T2 k3 q q2 => by
          rw [HE.out]
          refine rSyms_go ?_ (Nat.lt_of_lt_of_le HK2.out.1 (rBack_up q)) q2
          unfold rStep
          rw [HX.out, Res.then_ok, if_neg h256, if_neg h56, q, Res.then_ok])
        have KN : Hid (∀ m, rBack b lim spn T1 s k2 = .no m → rSyms b lim lit spn T k = .no m) := Lib.hid (fun m q => by
          rw [HE.out]
          refine rSyms_no ?_
          unfold rStep
          rw [HX.out, Res.then_ok, if_neg h256, if_neg h56, q]
          rfl)
        clear h256 h56
        go_wp2_with fail
        refine HB.out.mono ?_
        intro e w3 h3
        cases hx : rBack b lim spn T1 s k2 with
        | no m =>
          rw [hx] at h3
          obtain ⟨rfl, f3⟩ := h3
          have K1 := Lib.hid (KN.out m hx)
          have HN : Hid (Fr (StB g gr t) w w3) := Lib.hid (frTo HF2.out HT.out f3)
          clear hx f3 K KN HB
          go_wp2_with fail
          exact ⟨rfl, StEnds.of K1.out ⟨rfl, HN.out⟩⟩
        | ok T2 k3 =>
          rw [hx] at h3
          obtain ⟨rfl, hto⟩ := h3
          have HKK : Hid (k3 ≤ 8 * b.length ∧ atOf w3 gr = k3 ∧ k2 ≤ k3) := Lib.hid (by obtain ⟨t3, h3, -⟩ := hto; exact ⟨h3.rd.inside, h3.rd.atOf, rBack_up hx⟩)
          have K1 := Lib.hid (K.out T2 k3 hx HKK.out.1)
          have HN := Lib.hid (StTo.trans HF2.out HT.out hto)
          clear hx hto K KN HB
          go_wp2_with fail
          go_roundw
          case rel => exact ⟨k3, T2, HN.out, K1.out⟩
          case measure => have := HKK.out; have := HAT.out; have := HK2.out; show _ < _; omega
end
end Go.Proofs.YtnndgpggjlhhpaaGreat
namespace Go.Proofs.YtnndgpggjlhhpaaGreat
open Go.RowKit
theorem ofInt_i64 (a : Nat) (ha : a < 65536) : (BitVec.ofInt 64 (a : Int)).toNat = a := by
  rw [BitVec.toNat_ofInt]; omega
theorem i64_xor16 (a b : Nat) (ha : a < 65536) (hb : b < 65536) : bits .xor .i64 (a : Int) (b : Int) = ((a ^^^ b : Nat) : Int) := by
  have h : a ^^^ b < 2 ^ 16 := Nat.xor_lt_two_pow (n := 16) ha hb
  show IntKind.i64.wrap ((BitVec.ofInt 64 (a : Int) ^^^ BitVec.ofInt 64 (b : Int)).toNat : Int) = _
  rw [BitVec.toNat_xor, ofInt_i64 a ha, ofInt_i64 b hb, IntKind.wrap_i64]
  omega
theorem xor_all (a b : Nat) (ha : a < 65536) (hb : b < 65536) : a ^^^ b = 65535 ↔ a + b = 65535 := by
  have key : a ^^^ b = (BitVec.ofNat 16 a ^^^ BitVec.ofNat 16 b).toNat := by
    rw [BitVec.toNat_xor, BitVec.toNat_ofNat, BitVec.toNat_ofNat, Nat.mod_eq_of_lt ha, Nat.mod_eq_of_lt hb]
  have not_a : (~~~ (BitVec.ofNat 16 a)).toNat = 65535 - a := by
    rw [BitVec.toNat_not, BitVec.toNat_ofNat, Nat.mod_eq_of_lt ha]
  constructor
  · intro h
    have e : BitVec.ofNat 16 b = ~~~ (BitVec.ofNat 16 a) := by
      have h1 : BitVec.ofNat 16 a ^^^ BitVec.ofNat 16 b = BitVec.allOnes 16 := by
        apply BitVec.eq_of_toNat_eq
        rw [← key, h]; rfl
      rw [← BitVec.xor_allOnes, ← h1, ← BitVec.xor_assoc, BitVec.xor_self, BitVec.zero_xor]
    have := congrArg BitVec.toNat e
    rw [not_a, BitVec.toNat_ofNat, Nat.mod_eq_of_lt hb] at this
    omega
  · intro h
    have e : BitVec.ofNat 16 b = ~~~ (BitVec.ofNat 16 a) := by
      apply BitVec.eq_of_toNat_eq
      rw [not_a, BitVec.toNat_ofNat, Nat.mod_eq_of_lt hb]; omega
    rw [key, e, ← BitVec.xor_allOnes, ← BitVec.xor_assoc, BitVec.xor_self, BitVec.zero_xor]
    rfl
theorem rGrp_lt {b : List Nat} {c k n j : Nat} (h : rGrp b c k = .ok n j) : n < 2 ^ c ∧ j = k + c := by
  unfold rGrp at h
  split at h
  · simp only [Res.ok.injEq] at h
    exact ⟨h.1 ▸ bitsAt_lt b k c, h.2.symm⟩
  · cases h
section
variable {g gr : Nat} {r t : Option Nat} {b : List Nat} {k lim : Nat} {T : List Nat} {L S : Value}
theorem stored_any (w : World) (h : StIs w g gr r t b k lim T L S) :
    Calls Tryz.prog 213 #[.pointer (some ⟨g, 0, none⟩)] w (StEnds (rStored b lim T k) w g gr r t b lim L S) := by
  have k0 := h.c0
  have HA := Lib.hid (ralign_any gr r b k w h.rd h.few.2.2)
  have HE : Hid (∀ y, ((rGrp b 16 (upN k)).then fun n k1 => (rGrp b 16 k1).then fun m k2 =>
    (rIf (decide (n + m = 65535)) 61 k2).then fun _ k2 => (rIf (decide (T.length + n ≤ lim)) 64 k2).then fun _ k2 =>
    (rIf (decide (k2 + 8 * n ≤ 8 * b.length)) 20 k2).then fun _ k2 => .ok (T ++ (b.drop (k2 / 8)).take n) (k2 + 8 * n)) = y → rStored b lim T k = y) := Lib.hid (fun y hy => hy)
  obtain ⟨U, hU⟩ : ∃ U, upN k = U := ⟨_, rfl⟩
  have HU8 : Hid (U % 8 = 0) := Lib.hid (by rw [← hU]; unfold upN; omega)
  rw [hU] at HA HE
  have H := Lib.hid h
  clear h hU
  go_enter Tryz.func213, Tryz.ntmps213
  go_wp2_with fail
  refine HA.out.mono ?_
  rintro e w1 ⟨rfl, t1⟩
  have H1 := Lib.hid (H.out.read t1)
  have HF1 := Lib.hid t1.2
  have HG := Lib.hid (group_any 16 w1 H1.out (by decide))
  clear t1 HA k0
  go_wp2_with fail
  refine HG.out.mono ?_
  intro e w2 h2
  rcases rd_cases h2 with ⟨n, k2, hx, rfl, t2⟩ | ⟨m, hx, rfl, f2⟩
  rotate_left
  · have K := Lib.hid (HE.out (.no m) (by rw [hx]; rfl))
    have HFF : Hid (Fr (StB g gr t) w w2) := Lib.hid (frSt (HF1.out.trans f2 (fun _ _ h => h)))
    clear hx h2
    go_wp2_with fail
    exact ⟨rfl, StEnds.of K.out ⟨rfl, HFF.out⟩⟩
  have HE1 := Lib.hid (fun y hy => HE.out y (by rw [hx, Res.then_ok]; exact hy))
  have HN := rGrp_lt hx
  have H2 := Lib.hid (H1.out.read t2)
  have HF2 : Hid (Fr (· = gr) w w2) := Lib.hid (HF1.out.trans t2.2 (fun _ _ h => h))
  have HK2 : Hid (k2 = U + 16) := Lib.hid HN.2
  have hn : n < 65536 := HN.1
  have HG := Lib.hid (group_any 16 w2 H2.out (by decide))
  clear hx h2 t2 HE H1 HF1 HN
  go_wp2_with fail
  refine HG.out.mono ?_
  intro e w3 h3
  rcases rd_cases h3 with ⟨m, k3, hx, rfl, t3⟩ | ⟨m, hx, rfl, f3⟩
  rotate_left
  · have K := Lib.hid (HE1.out (.no m) (by rw [hx]; rfl))
    have HFF : Hid (Fr (StB g gr t) w w3) := Lib.hid (frSt (HF2.out.trans f3 (fun _ _ h => h)))
    clear hx h3
    go_wp2_with fail
    exact ⟨rfl, StEnds.of K.out ⟨rfl, HFF.out⟩⟩
  have HE2 := Lib.hid (fun y hy => HE1.out y (by rw [hx, Res.then_ok]; exact hy))
  have HN := rGrp_lt hx
  have H3 := Lib.hid (H2.out.read t3)
  have HF3 : Hid (Fr (· = gr) w w3) := Lib.hid (HF2.out.trans t3.2 (fun _ _ h => h))
  have HK3 : Hid (k3 % 8 = 0) := Lib.hid (by have := HN.2; have := HK2.out; have := HU8.out; omega)
  have hm : m < 65536 := HN.1
  have hxor := i64_xor16 n m hn hm
  clear hx h3 t3 HE1 H2 HF2 HN HK2 HU8
  by_cases hc : n + m = 65535
  rotate_left
  · have K := Lib.hid (HE2.out (.no 61) (by rw [rIf_no (decide_eq_false hc)]; rfl))
    have hd : (((n ^^^ m : Nat) : Int) == 65535) = false := by
      rw [beq_eq_false_iff_ne]
      intro q
      exact hc ((xor_all n m hn hm).1 (by omega))
    have HD := Lib.hid (demand_no 61 w3)
    clear hc HE2 hn hm
    obtain ⟨X, hX⟩ : ∃ X : Int, ((n ^^^ m : Nat) : Int) = X := ⟨_, rfl⟩
    rw [hX] at hxor hd
    clear hX
    go_wp2_with fail
    refine HD.out.mono ?_
    rintro e w' ⟨rfl, rfl⟩
    go_wp2_with fail
    exact ⟨rfl, StEnds.of K.out ⟨rfl, frSt HF3.out⟩⟩
  have HE3 := Lib.hid (fun y hy => HE2.out y (by rw [rIf_yes (decide_eq_true hc), Res.then_ok]; exact hy))
  have hd : (((n ^^^ m : Nat) : Int) == 65535) = true := by
    rw [beq_iff_eq]
    have := (xor_all n m hn hm).2 hc
    omega
  have HD := Lib.hid (demand_yes 61 w3)
  clear hc HE2 hm
  obtain ⟨X, hX⟩ : ∃ X : Int, ((n ^^^ m : Nat) : Int) = X := ⟨_, rfl⟩
  rw [hX] at hxor hd
  clear hX
  by_cases hroom : T.length + n ≤ lim
  rotate_left
  · have K := Lib.hid (HE3.out (.no 64) (by rw [rIf_no (decide_eq_false hroom)]; rfl))
    have HR := Lib.hid (room_no n w3 H3.out hroom (by omega))
    clear hroom HE3 hn
    go_wp2_with fail
    refine HD.out.mono ?_
    rintro e w' ⟨rfl, rfl⟩
    go_wp2_with fail
    refine HR.out.mono ?_
    rintro e w4 ⟨rfl, f4⟩
    have HFF : Hid (Fr (StB g gr t) w w4) := Lib.hid ((frSt HF3.out).trans0 f4)
    clear f4
    go_wp2_with fail
    exact ⟨rfl, StEnds.of K.out ⟨rfl, HFF.out⟩⟩
  have HE4 := Lib.hid (fun y hy => HE3.out y (by rw [rIf_yes (decide_eq_true hroom), Res.then_ok]; exact hy))
  have HR := Lib.hid (room_yes n w3 H3.out hroom)
  have HROOM := Lib.hid hroom
  clear hroom HE3
  go_wp2_with fail
  refine HD.out.mono ?_
  rintro e w' ⟨rfl, rfl⟩
  go_wp2_with fail
  refine HR.out.mono ?_
  rintro e w4 ⟨rfl, f4⟩
  have H4 := Lib.hid (H3.out.fr0 f4)
  have HF4 : Hid (Fr (· = gr) w w4) := Lib.hid (HF3.out.trans0 f4)
  have c0 := H4.out.c0
  clear f4 H3 HF3 HR HD hxor hd
  have hup : upN k3 = k3 := by have := HK3.out; unfold upN; omega
  by_cases hend : k3 + 8 * n ≤ 8 * b.length
  rotate_left
  · have K := Lib.hid (HE4.out (.no 20) (by rw [rIf_no (decide_eq_false hend)]; rfl))
    have HT := Lib.hid (rtext_no gr r b k3 n w4 H4.out.rd (by rw [hup]; omega) H4.out.few.2.2)
    clear hend HE4 hup
    go_wp2_with fail
    refine HT.out.mono ?_
    rintro e w5 ⟨rfl, t5⟩
    have HG := Lib.hid (gotText_no (.slice none 0 0) 20 (by decide) w5)
    have HFF : Hid (Fr (StB g gr t) w w5) := Lib.hid (frSt (HF4.out.trans t5.2 (fun _ _ h => h)))
    clear t5
    go_wp2_with fail
    refine HG.out.mono ?_
    rintro e w' ⟨rfl, rfl⟩
    go_wp2_with fail
    exact ⟨rfl, StEnds.of K.out ⟨rfl, HFF.out⟩⟩
  have HE5 := Lib.hid (HE4.out _ (by rw [rIf_yes (decide_eq_true hend), Res.then_ok]))
  have HT := rtext_yes gr r b k3 n w4 H4.out.rd (by rw [hup]; exact hend) H4.out.few.2.2
  rw [hup] at HT
  have HTT := Lib.hid HT
  have HML : Hid (((b.drop (k3 / 8)).take n).length = n) := Lib.hid (by rw [List.length_take, List.length_drop]; omega)
  have HM8 : Hid (∀ x ∈ (b.drop (k3 / 8)).take n, x < 256) := Lib.hid (fun x hx => H4.out.rd.bytes x (List.mem_of_mem_drop (List.mem_of_mem_take hx)))
  obtain ⟨M, hM⟩ : ∃ M, (b.drop (k3 / 8)).take n = M := ⟨_, rfl⟩
  rw [hM] at HTT HML HM8 HE5
  clear hend HE4 hup HT hM
  go_wp2_with fail
  refine HTT.out.mono ?_
  rintro e w5 ⟨v, rfl, t5, hv⟩
  obtain ⟨p, c, rfl, -, -, -⟩ := slForm hv.own
  have HV := Lib.hid hv.own
  have H5 := Lib.hid (H4.out.read t5)
  have HF5 : Hid (Fr (StB g gr t) w w5) := Lib.hid (frSt (HF4.out.trans t5.2 (fun _ _ h => h)))
  have HG := Lib.hid (gotText_yes (.slice p M.length c) w5)
  have HTL := Lib.hid (tell_yes p c M w5 H5.out (SrcIs.ofOwns HV.out) HM8.out (by rw [HML.out]; exact HROOM.out))
  clear t5 hv H4 HF4
  go_wp2_with fail
  refine HG.out.mono ?_
  rintro e w' ⟨rfl, rfl⟩
  go_wp2_with fail
  refine HTL.out.mono ?_
  rintro e w6 ⟨rfl, hto⟩
  have HTO := Lib.hid (StTo.trans HF5.out (.inl rfl) hto)
  clear hto
  go_wp2_with fail
  go_end0
  exact StEnds.of HE5.out ⟨rfl, HTO.out⟩
end
end Go.Proofs.YtnndgpggjlhhpaaGreat
namespace Go.Proofs.YtnndgpggjlhhpaaGreat
open Go.RowKit
theorem fix_eq : fixLs' = fixLs := by decide +kernel
theorem fix_ful : ful fixLs := by decide +kernel
theorem five_ful : ful (List.replicate 32 5) := by decide +kernel
theorem fix_15 : ∀ x ∈ fixLs, x ≤ 15 := by decide +kernel
def FixIs (w : World) (g gr : Nat) (t : Option Nat) (L S : Value) : Prop :=
  (L = .pointer none ∧ S = .pointer none) ∨ ∃ A B A2 B2 gl gs, L = .pointer (some ⟨gl, 0, none⟩) ∧ S = .pointer (some ⟨gs, 0, none⟩) ∧ SetIs w A B gl fixLs ∧ SetIs w A2 B2 gs (List.replicate 32 5) ∧ Away w A B g gr t ∧ Away w A2 B2 g gr t
def BlkTo (w w' : World) (g gr : Nat) (r t : Option Nat) (b : List Nat) (k lim : Nat) (T : List Nat) : Prop :=
  ∃ t' L S, StIs w' g gr r t' b k lim T L S ∧ FixIs w' g gr t' L S ∧ Fr (StB g gr t) w w' ∧ (t' = t ∨ ∀ j, t' = some j → w.heap.size ≤ j)
def BlkEnds (x : Res (List Nat)) (w : World) (g gr : Nat) (r t : Option Nat) (b : List Nat) (lim : Nat) (e : Ending) (w' : World) : Prop :=
  match x with
  | .ok T k => e = .returned (.tuple #[]) ∧ BlkTo w w' g gr r t b k lim T
  | .no m => e = .panicked (chn m) ∧ Fr (StB g gr t) w w'
section
variable {g gr : Nat} {r t : Option Nat} {b : List Nat} {k lim : Nat} {T : List Nat} {L S : Value}
theorem BlkEnds.of {x y : Res (List Nat)} {w w' : World} {e : Ending} (h : x = y) (q : BlkEnds y w g gr r t b lim e w') : BlkEnds x w g gr r t b lim e w' := by rw [h]; exact q
theorem FixIs.to {w w' : World} {t' : Option Nat} (h : FixIs w g gr t L S) (hf : Fr (StB g gr t) w w') (ht : t' = t ∨ ∀ j, t' = some j → w.heap.size ≤ j) : FixIs w' g gr t' L S := by
  rcases h with h | ⟨A, B, A2, B2, gl, gs, h1, h2, h3, h4, h5, h6⟩
  · exact .inl h
  · exact .inr ⟨A, B, A2, B2, gl, gs, h1, h2, h3.fr hf h5.2, h4.fr hf h6.2, h5.to hf.size ht, h6.to hf.size ht⟩
theorem StEnds.blk {x : Res (List Nat)} {w0 w w' : World} {t0 : Option Nat} {e : Ending} (hx : FixIs w g gr t L S) (hf : Fr (StB g gr t0) w0 w) (ht : t = t0 ∨ ∀ j, t = some j → w0.heap.size ≤ j)
    (h : StEnds x w g gr r t b lim L S e w') : BlkEnds x w0 g gr r t0 b lim e w' := by
  cases x with
  | no m => exact ⟨h.1, frTo hf ht h.2⟩
  | ok T k =>
    obtain ⟨h1, t', h2, h3, h4⟩ := h
    refine ⟨h1, t', L, S, h2, hx.to h3 h4, frTo hf ht h3, ?_⟩
    rcases h4 with h4 | h4
    · subst h4; exact ht
    · exact .inr fun j hj => Nat.le_trans hf.size (h4 j hj)
theorem StIs.set3 {w : World} (h : StIs w g gr r t b k lim T L S) (v : Value) : StIs (w.setCell ⟨g, 3, none⟩ v) g gr r t b k lim T v S := by
  obtain ⟨p, c, h1, h2, h3⟩ := h.ex
  have a := h.apart
  have f : Fr (· = g) w (w.setCell ⟨g, 3, none⟩ v) := Fr.setCell _ _ _ _ rfl
  exact ⟨⟨p, c, by rw [heap_setCell_same w g 3 _ _ _ h1]; rfl, f.owns h2 (fun k hk e => a.2.2.1 (by rw [← h3, hk, e])), h3⟩, h.rd.fr f (fun e => a.1 e.symm) (fun j hj e => a.2.1 (by rw [hj, e])), h.bytes, h.few, h.apart⟩
theorem StIs.set4 {w : World} (h : StIs w g gr r t b k lim T L S) (v : Value) : StIs (w.setCell ⟨g, 4, none⟩ v) g gr r t b k lim T L v := by
  obtain ⟨p, c, h1, h2, h3⟩ := h.ex
  have a := h.apart
  have f : Fr (· = g) w (w.setCell ⟨g, 4, none⟩ v) := Fr.setCell _ _ _ _ rfl
  exact ⟨⟨p, c, by rw [heap_setCell_same w g 4 _ _ _ h1]; rfl, f.owns h2 (fun k hk e => a.2.2.1 (by rw [← h3, hk, e])), h3⟩, h.rd.fr f (fun e => a.1 e.symm) (fun j hj e => a.2.1 (by rw [hj, e])), h.bytes, h.few, h.apart⟩
theorem StIs.away {w w1 : World} {A B : Nat} (h : StIs w g gr r t b k lim T L S) (hA : w.heap.size ≤ A) (hB : B ≤ w1.heap.size) : Away w1 A B g gr t := by
  refine ⟨hB, fun j h1 h2 h3 => ?_⟩
  have a1 := h.lt
  have a2 := h.rd.lt
  rcases h3 with h3 | h3 | h3
  · omega
  · omega
  · have := h.tlt j h3; omega
theorem fixed_block (w : World) (h : StIs w g gr r t b k lim T L S) (hx : FixIs w g gr t L S) :
    Calls Tryz.prog 214 #[.pointer (some ⟨g, 0, none⟩)] w (BlkEnds (rSyms b lim fixLs' (List.replicate 32 5) T k) w g gr r t b lim) := by
  have H := Lib.hid h
  have k3 := h.c3
  rcases hx with ⟨rfl, rfl⟩ | ⟨A, B, A2, B2, gl, gs, rfl, rfl, h3, h4, h5, h6⟩
  · have HFX := Lib.hid (fixed_any w)
    clear h
    go_enter Tryz.func214, Tryz.ntmps214
    go_wp2_with fail
    refine HFX.out.mono ?_
    rintro e w1 ⟨v, rfl, f1, hv⟩
    obtain ⟨p1, c1, rfl, hp1, -, -⟩ := slForm hv.own
    have HV := Lib.hid hv.own
    have HF1 := Lib.hid f1
    have HMK := Lib.hid (make_ok p1 c1 fixLs w1 (SlI.ofOwns HV.out) hp1 (by rw [fixLs_length]; decide) fix_15 (.inl fix_ful))
    clear hv f1 hp1 HFX k3
    go_wp2_with fail
    refine HMK.out.mono ?_
    rintro e w2 ⟨gl, rfl, ⟨f2, s2⟩, hgl⟩
    have HF2 : Hid (Fr S0 w w2) := Lib.hid (HF1.out.trans0 f2)
    have HS2 : Hid (SetIs w2 w.heap.size w2.heap.size gl fixLs) := Lib.hid (s2.mono HF1.out.size (Nat.le_refl _))
    have HG := Lib.hid (gotSet_yes (.pointer (some ⟨gl, 0, none⟩)) w2)
    have HSP := Lib.hid (spans_any w2)
    clear f2 s2 hgl HMK HF1 HV
    go_wp2_with fail
    refine HG.out.mono ?_
    rintro e w' ⟨rfl, rfl⟩
    go_wp2_with fail
    refine HSP.out.mono ?_
    rintro e w3 ⟨q3, rfl, f3, s3⟩
    have HF3 : Hid (Fr S0 w w3) := Lib.hid (HF2.out.trans0 f3)
    have HS3 : Hid (SetIs w3 w.heap.size w2.heap.size gl fixLs) := Lib.hid (HS2.out.fr0 f3)
    have HMK : Hid (Calls Tryz.prog 202 #[.slice (some ⟨q3, 0, none⟩) 32 32] w3 fun e w' => ∃ g, e = .returned (.tuple #[.pointer (some ⟨g, 0, none⟩), .int .i64 0]) ∧ (Fr S0 w3 w' ∧ SetIs w' w3.heap.size w'.heap.size g (List.replicate 32 5)) ∧ w3.heap.size ≤ g) :=
      Lib.hid (make_ok (some ⟨q3, 0, none⟩) 32 (List.replicate 32 5) w3 s3 (fun h => by cases h) (by decide) (by decide) (.inl five_ful))
    have hsz3 := f3.size
    clear f3 s3 HG HSP HS2 HF2
    go_wp2_with fail
    refine HMK.out.mono ?_
    rintro e w4 ⟨gs, rfl, ⟨f4, s4⟩, hgs⟩
    have HF4 : Hid (Fr S0 w w4) := Lib.hid (HF3.out.trans0 f4)
    have HS4 : Hid (SetIs w4 w.heap.size w4.heap.size gl fixLs) := Lib.hid ((HS3.out.fr0 f4).mono (Nat.le_refl _) (Nat.le_trans hsz3 f4.size))
    have HS5 : Hid (SetIs w4 w.heap.size w4.heap.size gs (List.replicate 32 5)) := Lib.hid (s4.mono HF3.out.size (Nat.le_refl _))
    have HG := Lib.hid (gotSet_yes (.pointer (some ⟨gs, 0, none⟩)) w4)
    have H4 := Lib.hid (H.out.fr0 HF4.out)
    have hfz3 := H4.out.fz 3
    have k3 := H4.out.c3
    clear f4 s4 HMK HF3 HS3 hgs hsz3
    go_wp2_with fail
    refine HG.out.mono ?_
    rintro e w' ⟨rfl, rfl⟩
    have H5 := Lib.hid (H4.out.set3 (.pointer (some ⟨gl, 0, none⟩)))
    have H6 := Lib.hid (H5.out.set4 (.pointer (some ⟨gs, 0, none⟩)))
    have hfz4 := H5.out.fz 4
    have k4 := H5.out.c4
    go_wp2_with fail
    have HFF : Hid (Fr (· = g) w4 ((w4.setCell ⟨g, 3, none⟩ (.pointer (some ⟨gl, 0, none⟩))).setCell ⟨g, 4, none⟩ (.pointer (some ⟨gs, 0, none⟩)))) := Lib.hid ((Fr.setCell (· = g) w4 ⟨g, 3, none⟩ _ rfl).trans (Fr.setCell (· = g) _ ⟨g, 4, none⟩ _ rfl) (fun _ _ h => h))
    generalize (w4.setCell ⟨g, 3, none⟩ (.pointer (some ⟨gl, 0, none⟩))).setCell ⟨g, 4, none⟩ (.pointer (some ⟨gs, 0, none⟩)) = W at H6 HFF ⊢
    clear hfz3 k3 H5 hfz4 k4 HG
    have k3 := H6.out.c3
    have k4 := H6.out.c4
    have HAW : Hid (Away W w.heap.size w4.heap.size g gr t) := Lib.hid (H.out.away (Nat.le_refl _) HFF.out.size)
    have HSL : Hid (SetIs W w.heap.size w4.heap.size gl fixLs) := Lib.hid (HS4.out.fr HFF.out (fun j q1 q2 e => HAW.out.2 j q1 q2 (.inl e)))
    have HSS : Hid (SetIs W w.heap.size w4.heap.size gs (List.replicate 32 5)) := Lib.hid (HS5.out.fr HFF.out (fun j q1 q2 e => HAW.out.2 j q1 q2 (.inl e)))
    have HFW : Hid (Fr (StB g gr t) w W) := Lib.hid (HF4.out.mono (fun _ _ h => h.elim) |>.trans HFF.out (fun _ _ e => .inl e))
    have HFIX : Hid (FixIs W g gr t (.pointer (some ⟨gl, 0, none⟩)) (.pointer (some ⟨gs, 0, none⟩))) := Lib.hid (.inr ⟨_, _, _, _, gl, gs, rfl, rfl, HSL.out, HSS.out, HAW.out, HAW.out⟩)
    have HSY : Hid (∀ W2, Fr S0 W W2 → Calls Tryz.prog 242 #[.pointer (some ⟨g, 0, none⟩), .pointer (some ⟨gl, 0, none⟩), .pointer (some ⟨gs, 0, none⟩)] W2 (BlkEnds (rSyms b lim fixLs' (List.replicate 32 5) T k) w g gr r t b lim)) := Lib.hid (fun W2 f => by
      rw [fix_eq]
      refine (symbols_any _ _ _ _ gl gs fixLs (List.replicate 32 5) W2 (H6.out.fr0 f) (HSL.out.fr0 f) (HSS.out.fr0 f) (HAW.out.to f.size (.inl rfl)) (HAW.out.to f.size (.inl rfl))).mono fun e w' q => ?_
      exact q.blk (HFIX.out.to (f.mono fun _ _ h => h.elim) (.inl rfl)) (HFW.out.trans0 f) (.inl rfl))
    clear HFIX HFW HSS HSL HAW HFF H6 HS4 HS5 H4 HF4 H
    go_still_tail 9, (by kernel_rfl)
    obtain ⟨W2, hw2, f2⟩ := drewFr W
    change wpList _ _ _ _ _ W.drew
    rw [hw2]
    have HC := Lib.hid (HSY.out W2 f2)
    clear hw2 f2 k3 k4 HSY
    go_wp2_with fail
    refine HC.out.mono ?_
    intro e w5 h5
    cases hx : rSyms b lim fixLs' (List.replicate 32 5) T k with
    | no m =>
      rw [hx] at h5
      obtain ⟨rfl, f5⟩ := h5
      have K := Lib.hid hx
      clear hx HC
      go_wp2_with fail
      exact ⟨rfl, BlkEnds.of K.out ⟨rfl, f5⟩⟩
    | ok T1 k1 =>
      rw [hx] at h5
      obtain ⟨rfl, f5⟩ := h5
      have K := Lib.hid hx
      clear hx HC
      go_wp2_with fail
      go_end0
      exact BlkEnds.of K.out ⟨rfl, f5⟩
  · have HFIX : Hid (FixIs w g gr t (.pointer (some ⟨gl, 0, none⟩)) (.pointer (some ⟨gs, 0, none⟩))) := Lib.hid (.inr ⟨A, B, A2, B2, gl, gs, rfl, rfl, h3, h4, h5, h6⟩)
    have HSY : Hid (∀ W2, Fr S0 w W2 → Calls Tryz.prog 242 #[.pointer (some ⟨g, 0, none⟩), .pointer (some ⟨gl, 0, none⟩), .pointer (some ⟨gs, 0, none⟩)] W2 (BlkEnds (rSyms b lim fixLs' (List.replicate 32 5) T k) w g gr r t b lim)) := Lib.hid (fun W2 f => by
      rw [fix_eq]
      refine (symbols_any _ _ _ _ gl gs fixLs (List.replicate 32 5) W2 (H.out.fr0 f) (h3.fr0 f) (h4.fr0 f) (h5.to f.size (.inl rfl)) (h6.to f.size (.inl rfl))).mono fun e w' q => ?_
      exact q.blk (HFIX.out.to (f.mono fun _ _ h => h.elim) (.inl rfl)) (f.mono fun _ _ h => h.elim) (.inl rfl))
    have k4 := h.c4
    clear h h3 h4 h5 h6 HFIX
    go_enter Tryz.func214, Tryz.ntmps214
    go_wp2_with fail
    go_still_tail 9, (by kernel_rfl)
    obtain ⟨W2, hw2, f2⟩ := drewFr w
    change wpList _ _ _ _ _ w.drew
    rw [hw2]
    have HC := Lib.hid (HSY.out W2 f2)
    clear hw2 f2 k3 k4 HSY
    go_wp2_with fail
    refine HC.out.mono ?_
    intro e w5 h5
    cases hx : rSyms b lim fixLs' (List.replicate 32 5) T k with
    | no m =>
      rw [hx] at h5
      obtain ⟨rfl, f5⟩ := h5
      have K := Lib.hid hx
      clear hx HC
      go_wp2_with fail
      exact ⟨rfl, BlkEnds.of K.out ⟨rfl, f5⟩⟩
    | ok T1 k1 =>
      rw [hx] at h5
      obtain ⟨rfl, f5⟩ := h5
      have K := Lib.hid hx
      clear hx HC
      go_wp2_with fail
      go_end0
      exact BlkEnds.of K.out ⟨rfl, f5⟩
end
end Go.Proofs.YtnndgpggjlhhpaaGreat
namespace Go.Proofs.YtnndgpggjlhhpaaGreat
open Go.RowKit
def RunEnds (x : Res (Nat × Nat)) (w : World) (gr : Nat) (r : Option Nat) (b : List Nat) (e : Ending) (w' : World) : Prop :=
  match x with
  | .ok xt j => e = .returned (.tuple #[.int .u8 (xt.1 : Nat), .int .i64 (xt.2 + 1 : Nat)]) ∧ RdTo w w' gr r b j
  | .no m => e = .panicked (chn m) ∧ Fr (· = gr) w w'
theorem RunEnds.of {x y : Res (Nat × Nat)} {w : World} {gr : Nat} {r : Option Nat} {b : List Nat} {e : Ending} {w' : World} (h : x = y) (k : RunEnds y w gr r b e w') : RunEnds x w gr r b e w' := by rw [h]; exact k
theorem last_get (l : List Nat) (h : 0 < l.length) : l.getLastD 0 = l[l.length - 1]'(by omega) := by
  cases l with
  | nil => simp at h
  | cons x r => rw [List.getLastD_eq_getLast?, List.getLast?_eq_some_getLast (by simp), Option.getD_some, List.getLast_eq_getElem]
section
variable {g gr : Nat} {r t : Option Nat} {b : List Nat} {k lim : Nat} {T : List Nat} {L S : Value}
theorem run_any (A B gc : Nat) (cl l : List Nat) (p : Option Addr) (d : Nat) (w : World) (h : StIs w g gr r t b k lim T L S) (hs : SetIs w A B gc cl) (hw : gr < A ∨ B ≤ gr) (h19 : cl.length ≤ 19)
    (hl : SlI w .u8 p l) (hp : Off (· = gr) p) (hL : l.length ≤ 1000) :
    Calls Tryz.prog 249 #[.pointer (some ⟨g, 0, none⟩), .pointer (some ⟨gc, 0, none⟩), .slice p l.length d] w (RunEnds (rRun b cl l k) w gr r b) := by
  have H := Lib.hid h
  have HSY := Lib.hid (symbol_any A B gc cl w h hs hw)
  have HL := Lib.hid hl
  have HP := Lib.hid hp
  have HE : Hid (∀ s k1, rSym b cl k = .ok s k1 → rRun b cl l k = if s = 16 then (rIf (decide (l ≠ [])) 62 k1).then fun _ k2 => (rGrp b 2 k2).then fun n k3 => .ok (l.getLastD 0, 2 + n) k3
    else if s = 17 then (rGrp b 3 k1).then fun n k2 => .ok (0, 2 + n) k2
    else if s = 18 then (rGrp b 7 k1).then fun n k2 => .ok (0, 10 + n) k2
    else .ok (s, 0) k1) := Lib.hid (fun s k1 q => by unfold rRun; rw [q, Res.then_ok])
  have HEN : Hid (∀ m, rSym b cl k = .no m → rRun b cl l k = .no m) := Lib.hid (fun m q => by unfold rRun; rw [q]; rfl)
  clear h hs hw hl hp
  go_enter Tryz.func249, Tryz.ntmps249
  go_wp2_with fail
  refine HSY.out.mono ?_
  intro e w1 h1
  rcases rd_cases h1 with ⟨s, k1, hx, rfl, t1⟩ | ⟨m, hx, rfl, f1⟩
  rotate_left
  · have K := Lib.hid (HEN.out m hx)
    clear hx h1 HE HEN
    go_wp2_with fail
    exact ⟨rfl, RunEnds.of K.out ⟨rfl, f1⟩⟩
  have HE1 := Lib.hid (HE.out s k1 hx)
  have hs19 : s < 19 := Nat.lt_of_lt_of_le (rSym_lt hx) h19
  have HF1 := Lib.hid t1.2
  have HT1 := Lib.hid t1
  have H1 := Lib.hid (H.out.read t1)
  have HL1 := Lib.hid (HL.out.fr t1.2 (fun _ => HP.out))
  clear hx h1 HE HEN t1 HSY h19
  by_cases h16 : s = 16
  · subst h16
    rw [if_pos rfl] at HE1
    by_cases hl0 : l = []
    · subst hl0
      have K : Hid (rRun b cl [] k = .no 62) := Lib.hid (by rw [HE1.out, rIf_no (by decide)]; rfl)
      have HD := Lib.hid (demand_no 62 w1)
      clear HE1 hL
      go_wp2_with fail
      refine HD.out.mono ?_
      rintro e w' ⟨rfl, rfl⟩
      go_wp2_with fail
      exact ⟨rfl, RunEnds.of K.out ⟨rfl, HF1.out⟩⟩
    · have hpos : 0 < l.length := List.length_pos_iff.2 hl0
      rw [rIf_yes (decide_eq_true hl0), Res.then_ok] at HE1
      have HD := Lib.hid (demand_yes 62 w1)
      obtain ⟨bb, oo, hpe, hcl⟩ := HL1.out.at (l.length - 1) (by omega)
      have hbne : bb ≠ gr := HP.out ⟨bb, oo, none⟩ hpe
      have HLG := Lib.hid (last_get l hpos)
      obtain ⟨x, hxx⟩ : ∃ x, l[l.length - 1]'(by omega) = x := ⟨_, rfl⟩
      rw [hxx] at hcl HLG
      rw [HLG.out] at HE1
      obtain ⟨M, hM⟩ : ∃ M, l.length = M + 1 := ⟨l.length - 1, by omega⟩
      rw [show l.length - 1 = M by omega] at hcl
      subst hpe
      have q1 : IntKind.i64.wrap (M : Int) = (M : Int) := IntWalk.i64_in _ (by omega)
      have q2 : (M : Int) < (M : Int) + 1 := by omega
      have q3 : (0 : Int) ≤ (M : Int) := by omega
      have q4 : decide (((M + 1 : Nat) : Int) > 0) = true := decide_eq_true (by omega)
      have HG : Hid (∀ W, Fr S0 w1 W → Calls Tryz.prog 197 #[.pointer (some ⟨g, 0, none⟩), .int .i64 2] W (RdEnds (rGrp b 2 k1) W gr r b)) := Lib.hid (fun W f => group_any 2 W (H1.out.fr0 f) (by decide))
      rw [hM]
      clear hl0 hpos HL HL1 HP hxx hL
      cases hx : rGrp b 2 k1 with
      | ok n j =>
        have HGY : Hid (∀ W, Fr S0 w1 W → Calls Tryz.prog 197 #[.pointer (some ⟨g, 0, none⟩), .int .i64 2] W (fun e w' => e = .returned (.int .i64 (n : Nat)) ∧ RdTo w w' gr r b j ∧ Fr (· = gr) w1 w')) := Lib.hid (fun W f =>
          (HG.out W f).mono (fun e w' q => by
            rw [hx] at q
            exact ⟨q.1, ⟨q.2.1, HF1.out.trans ((f.mono fun _ _ h => h.elim).trans q.2.2 (fun _ _ h => h)) (fun _ _ h => h)⟩, (f.mono fun _ _ h => h.elim).trans q.2.2 (fun _ _ h => h)⟩))
        have hn : n < 4 := (rGrp_lt hx).1
        have q5 : IntKind.i64.wrap ((3 : Int) + (n : Int)) = 3 + (n : Int) := IntWalk.i64_in _ (by omega)
        have HQ6 : Hid ((3 : Int) + (n : Int) = ((2 + n + 1 : Nat) : Int)) := Lib.hid (by omega)
        have K : Hid (rRun b cl l k = .ok (x, 2 + n) j) := Lib.hid (by rw [HE1.out, hx, Res.then_ok])
        clear hx HG HE1 hM HLG
        go_wp2_with fail
        refine HD.out.mono ?_
        rintro e w' ⟨rfl, rfl⟩
        clear HD
        go_wp2_with fail
        go_region_law (first
          | (go_simp; go_at_call 197; refine (HGY.out _ (Fr.drew _ _)).mono ?_; rintro e w4 ⟨rfl, t4, f4⟩; have hc4 := f4.cell hcl (fun e => hbne e); have HT4 := Lib.hid t4; clear f4 t4))
        all_goals (
          go_wp2_with fail
          go_ret2
          exact RunEnds.of K.out ⟨by rw [← HQ6.out]; rfl, HT4.out⟩)
      | no m =>
        have HGN : Hid (∀ W, Fr S0 w1 W → Calls Tryz.prog 197 #[.pointer (some ⟨g, 0, none⟩), .int .i64 2] W (fun e w' => (e = .returned (.int .i64 0) ∧ False) ∨ e = .panicked (chn m) ∧ Fr (· = gr) w w')) := Lib.hid (fun W f =>
          (HG.out W f).mono (fun e w' q => by
            rw [hx] at q
            exact .inr ⟨q.1, HF1.out.trans ((f.mono fun _ _ h => h.elim).trans q.2 (fun _ _ h => h)) (fun _ _ h => h)⟩))
        have K : Hid (rRun b cl l k = .no m) := Lib.hid (by rw [HE1.out, hx]; rfl)
        clear hx HG HE1 hM HLG
        go_wp2_with fail
        refine HD.out.mono ?_
        rintro e w' ⟨rfl, rfl⟩
        clear HD
        go_wp2_with fail
        go_region_law (first
          | (go_simp; go_at_call 197; refine (HGN.out _ (Fr.drew _ _)).mono ?_; rintro e w4 (⟨rfl, hF⟩ | ⟨rfl, f4⟩); have hc4 : w4.cell? ⟨bb, oo + M, none⟩ = some (.int .u8 (x : Nat)) := hF.elim; rotate_left; exact ⟨rfl, RunEnds.of K.out ⟨rfl, f4⟩⟩))
        all_goals exact hF.elim
  · rw [if_neg h16] at HE1
    have e16 : ((s : Int) == 16) = false := by rw [beq_eq_false_iff_ne]; omega
    have n16 : ¬ (s : Int) = 16 := by omega
    have HG := Lib.hid (fun c (hc : c ≤ 16) => group_any c w1 H1.out hc)
    clear HL HL1 HP
    by_cases h17 : s = 17
    · subst h17
      rw [if_pos rfl] at HE1
      have HG3 : Hid (Calls Tryz.prog 197 #[.pointer (some ⟨g, 0, none⟩), .int .i64 3] w1 (RdEnds (rGrp b 3 k1) w1 gr r b)) := Lib.hid (HG.out 3 (by decide))
      clear HG h16
      go_wp2_with fail
      refine HG3.out.mono ?_
      intro e w2 h2
      rcases rd_cases h2 with ⟨n, k2, hx, rfl, t2⟩ | ⟨m, hx, rfl, f2⟩
      · have K : Hid (rRun b cl l k = .ok (0, 2 + n) k2) := Lib.hid (by rw [HE1.out, hx, Res.then_ok])
        have hn : n < 8 := (rGrp_lt hx).1
        have HT2 := Lib.hid (HT1.out.trans t2)
        clear hx h2 t2 HE1 HG3
        go_wp2_with fail
        go_ret2
        exact RunEnds.of K.out ⟨by go_num, HT2.out⟩
      · have K : Hid (rRun b cl l k = .no m) := Lib.hid (by rw [HE1.out, hx]; rfl)
        have HF2 : Hid (Fr (· = gr) w w2) := Lib.hid (HF1.out.trans f2 (fun _ _ h => h))
        clear hx h2 f2 HE1 HG3
        go_wp2_with fail
        exact ⟨rfl, RunEnds.of K.out ⟨rfl, HF2.out⟩⟩
    · rw [if_neg h17] at HE1
      have e17 : ((s : Int) == 17) = false := by rw [beq_eq_false_iff_ne]; omega
      have n17 : ¬ (s : Int) = 17 := by omega
      by_cases h18 : s = 18
      · subst h18
        rw [if_pos rfl] at HE1
        have HG3 : Hid (Calls Tryz.prog 197 #[.pointer (some ⟨g, 0, none⟩), .int .i64 7] w1 (RdEnds (rGrp b 7 k1) w1 gr r b)) := Lib.hid (HG.out 7 (by decide))
        clear HG h16 h17
        go_wp2_with fail
        refine HG3.out.mono ?_
        intro e w2 h2
        rcases rd_cases h2 with ⟨n, k2, hx, rfl, t2⟩ | ⟨m, hx, rfl, f2⟩
        · have K : Hid (rRun b cl l k = .ok (0, 10 + n) k2) := Lib.hid (by rw [HE1.out, hx, Res.then_ok])
          have hn : n < 128 := (rGrp_lt hx).1
          have HT2 := Lib.hid (HT1.out.trans t2)
          clear hx h2 t2 HE1 HG3
          go_wp2_with fail
          go_ret2
          exact RunEnds.of K.out ⟨by go_num, HT2.out⟩
        · have K : Hid (rRun b cl l k = .no m) := Lib.hid (by rw [HE1.out, hx]; rfl)
          have HF2 : Hid (Fr (· = gr) w w2) := Lib.hid (HF1.out.trans f2 (fun _ _ h => h))
          clear hx h2 f2 HE1 HG3
          go_wp2_with fail
          exact ⟨rfl, RunEnds.of K.out ⟨rfl, HF2.out⟩⟩
      · rw [if_neg h18] at HE1
        have e18 : ((s : Int) == 18) = false := by rw [beq_eq_false_iff_ne]; omega
        have n18 : ¬ (s : Int) = 18 := by omega
        have hmod : (s : Int) % 256 = (s : Int) := by omega
        clear HG h16 h17 h18
        go_wp2_with fail
        go_ret2
        exact RunEnds.of HE1.out ⟨by go_num, HT1.out⟩
end
end Go.Proofs.YtnndgpggjlhhpaaGreat
namespace Go.Proofs.YtnndgpggjlhhpaaGreat
open Go.RowKit
theorem rLens_end {b cl l : List Nat} {many k : Nat} (h : many ≤ l.length) : rLens b cl many l k = .ok l k := by rw [rLens, dif_pos h]
theorem rLens_no {b cl l : List Nat} {many k m : Nat} (h : ¬ many ≤ l.length) (hx : rRun b cl l k = .no m) : rLens b cl many l k = .no m := by rw [rLens, dif_neg h, hx]
theorem rLens_far {b cl l : List Nat} {many k x n k1 : Nat} (h : ¬ many ≤ l.length) (hx : rRun b cl l k = .ok (x, n) k1) (hf : many < l.length + n + 1) : rLens b cl many l k = .no 62 := by
  rw [rLens, dif_neg h, hx]
  show (if many < l.length + n + 1 then _ else _) = _
  rw [if_pos hf]
theorem rLens_go {b cl l : List Nat} {many k x n k1 : Nat} (h : ¬ many ≤ l.length) (hx : rRun b cl l k = .ok (x, n) k1) (hf : ¬ many < l.length + n + 1) : rLens b cl many l k = rLens b cl many (l ++ List.replicate (n + 1) x) k1 := by
  rw [rLens, dif_neg h, hx]
  show (if many < l.length + n + 1 then _ else _) = _
  rw [if_neg hf]
theorem getLastD_mem {l : List Nat} (h : l ≠ []) : l.getLastD 0 ∈ l := by
  rw [last_get l (List.length_pos_iff.2 h)]
  exact List.getElem_mem _
theorem rRun_15 {b cl l : List Nat} {k x n k1 : Nat} (h19 : cl.length ≤ 19) (hl : ∀ x ∈ l, x ≤ 15) (h : rRun b cl l k = .ok (x, n) k1) : x ≤ 15 ∧ n ≤ 200 := by
  unfold rRun at h
  cases hs : rSym b cl k with
  | no m => rw [hs] at h; cases h
  | ok s j =>
    have hs19 := Nat.lt_of_lt_of_le (rSym_lt hs) h19
    rw [hs, Res.then_ok] at h
    split at h
    · by_cases hl0 : l = []
      · rw [rIf_no (by simpa using hl0)] at h; cases h
      · rw [rIf_yes (by simpa using hl0), Res.then_ok] at h
        cases hg : rGrp b 2 j with
        | no m => rw [hg] at h; cases h
        | ok q i =>
          rw [hg, Res.then_ok] at h
          have := (rGrp_lt hg).1
          simp only [Res.ok.injEq, Prod.mk.injEq] at h
          obtain ⟨⟨rfl, rfl⟩, -⟩ := h
          exact ⟨hl _ (getLastD_mem hl0), by omega⟩
    · split at h
      · cases hg : rGrp b 3 j with
        | no m => rw [hg] at h; cases h
        | ok q i =>
          rw [hg, Res.then_ok] at h
          have := (rGrp_lt hg).1
          simp only [Res.ok.injEq, Prod.mk.injEq] at h
          obtain ⟨⟨rfl, rfl⟩, -⟩ := h
          exact ⟨by omega, by omega⟩
      · split at h
        · cases hg : rGrp b 7 j with
          | no m => rw [hg] at h; cases h
          | ok q i =>
            rw [hg, Res.then_ok] at h
            have := (rGrp_lt hg).1
            simp only [Res.ok.injEq, Prod.mk.injEq] at h
            obtain ⟨⟨rfl, rfl⟩, -⟩ := h
            exact ⟨by omega, by omega⟩
        · simp only [Res.ok.injEq, Prod.mk.injEq] at h
          obtain ⟨⟨rfl, rfl⟩, -⟩ := h
          exact ⟨by omega, by omega⟩
def LensEnds (x : Res (List Nat)) (many : Nat) (w : World) (gr : Nat) (r : Option Nat) (b : List Nat) (e : Ending) (w' : World) : Prop :=
  match x with
  | .ok U j => ∃ v, e = .returned v ∧ RdTo w w' gr r b j ∧ w'.ownsRow 0 5 1 v U.length (u8s U) ∧ Fresh w v ∧ (∀ x ∈ U, x ≤ 15) ∧ U.length = many
  | .no m => e = .panicked (chn m) ∧ Fr (· = gr) w w'
theorem LensEnds.of {x y : Res (List Nat)} {many : Nat} {w : World} {gr : Nat} {r : Option Nat} {b : List Nat} {e : Ending} {w' : World} (h : x = y) (k : LensEnds y many w gr r b e w') : LensEnds x many w gr r b e w' := by rw [h]; exact k
def slLen : Value → Nat
  | .slice _ n _ => n
  | _ => 0
section
variable {g gr : Nat} {r t : Option Nat} {b : List Nat} {k lim : Nat} {T : List Nat} {L S : Value}
theorem StIs.grown {w wa wb : World} {k1 k2 : Nat} {T1 : List Nat} {L1 S1 : Value} {row : Option Nat} (h : StIs wa g gr r t b k1 lim T1 L1 S1) (h0 : StIs w g gr r t b k2 lim T L S) (hg : wa.grownBy wb row) (hr : ∀ j, row = some j → w.heap.size ≤ j) : StIs wb g gr r t b k1 lim T1 L1 S1 := by
  have a1 := h0.lt
  have a2 := h0.rd.lt
  exact h.fr (Fr.grown hg) (fun e => by have := hr _ e; omega) (fun e => by have := hr _ e; omega) (fun j hj e => by have := hr _ e; have := h0.rd.rlt j hj; omega) (fun j hj e => by have := hr _ e; have := h0.tlt j hj; omega)
theorem lengths_any (A B gc many : Nat) (cl : List Nat) (w : World) (h : StIs w g gr r t b k lim T L S) (hs : SetIs w A B gc cl) (hB : B ≤ w.heap.size) (hw : gr < A ∨ B ≤ gr) (h19 : cl.length ≤ 19) (hm : many ≤ 320) :
    Calls Tryz.prog 243 #[.pointer (some ⟨g, 0, none⟩), .pointer (some ⟨gc, 0, none⟩), .int .i64 (many : Nat)] w (LensEnds (rLens b cl many [] k) many w gr r b) := by
  have H := Lib.hid h
  have HS := Lib.hid hs
  have HW := Lib.hid hw
  have HBB := Lib.hid hB
  have HRM : Hid (Room many) := Lib.hid (Room.mk (by omega))
  have HGR := Lib.hid h.rd.lt
  clear h hs hw hB
  go_enter Tryz.func243, Tryz.ntmps243
  go_wp2_with (first
    | ((with_reducible show wpList _ _ _ (Oper.mk (some 11) _ _ _ _ _ :: _) _ _); refine make_room el8 _ (.tmp 10) rfl rfl rfl rfl HRM.out ?_; intro w1 own1 f1; have v1 := fresh_made (n := 0) (c := many) (Fr.refl S0 w))
    | fail)
  have HO1 := Lib.hid own1
  have HF1 := Lib.hid f1
  have HV1 := Lib.hid v1
  clear own1 f1 v1
  go_loopw [7, 8, 9, 16] (fun v _ _ _ wr => ∃ k1 U, U.length ≤ many ∧ StIs wr g gr r t b k1 lim T L S ∧ Fr (· = gr) w wr ∧ wr.ownsRow 0 5 1 v U.length (u8s U) ∧ Fresh w v ∧ (∀ x ∈ U, x ≤ 15) ∧ rLens b cl many [] k = rLens b cl many U k1) (fun v _ _ _ _ => many - slLen v)
  case atStart => exact ⟨k, [], by simp, H.out.fr0 HF1.out, HF1.out.mono (fun _ _ h => h.elim), HO1.out, HV1.out, by simp, rfl⟩
  case round =>
    obtain ⟨k1, U, hU, hst, hfr, own, hfv, h15, heq⟩ := hrel
    obtain ⟨p, c, rfl, hpn, -, -⟩ := slForm own
    have HST := Lib.hid hst
    have HFR := Lib.hid hfr
    have HO := Lib.hid own
    have HFV := Lib.hid hfv
    have H15 := Lib.hid h15
    have HEQ := Lib.hid heq
    have HPN := Lib.hid hpn
    have HOFF : Hid (∀ j, Value.ownBlock (.slice p U.length c) = some j → ¬ j = gr) := Lib.hid (fun j hj e => by have := hfv j hj; have := HGR.out; omega)
    clear hst hfr own hfv h15 heq hpn
    by_cases hUm : U.length < many
    · have hS1 := HS.out.fr HFR.out (fun j q1 q2 e => by have := HW.out; omega)
      have HR := Lib.hid (run_any A B gc cl U p c wr HST.out hS1 HW.out h19 (SlI.ofOwns HO.out) (fun a ha e => HOFF.out a.block (by rw [ha]; rfl) e) (by omega))
      have hnot : ¬ many ≤ U.length := by omega
      obtain ⟨X, hX⟩ : ∃ X, U.length = X := ⟨_, rfl⟩
      rw [hX] at hU hUm hnot HR ⊢
      have HXX := Lib.hid hX
      have HNOT := Lib.hid hnot
      clear hS1 hX hnot
      go_wp2_with fail
      refine HR.out.mono ?_
      intro e w2 h2
      cases hx : rRun b cl U k1 with
      | no m =>
        rw [hx] at h2
        obtain ⟨rfl, f2⟩ := h2
        have K : Hid (rLens b cl many [] k = .no m) := Lib.hid (by rw [HEQ.out]; exact rLens_no (by rw [HXX.out]; exact HNOT.out) hx)
        have HFF : Hid (Fr (· = gr) w w2) := Lib.hid (HFR.out.trans f2 (fun _ _ h => h))
        clear hx f2 HR
        go_wp2_with fail
        exact ⟨rfl, LensEnds.of K.out ⟨rfl, HFF.out⟩⟩
      | ok xt k2 =>
        obtain ⟨x, n⟩ := xt
        rw [hx] at h2
        obtain ⟨rfl, t2⟩ := h2
        have HX15 := Lib.hid (rRun_15 h19 H15.out hx)
        have hx15 := HX15.out.1
        have hn200 := HX15.out.2
        have HF2 : Hid (Fr (· = gr) w w2) := Lib.hid (HFR.out.trans t2.2 (fun _ _ h => h))
        have HST2 := Lib.hid (HST.out.read t2)
        have HO2 := Lib.hid (t2.2.owns HO.out HOFF.out)
        have KF : Hid (many < X + n + 1 → rLens b cl many [] k = .no 62) := Lib.hid (fun q => by rw [HEQ.out]; exact rLens_far (by rw [HXX.out]; exact HNOT.out) hx (by rw [HXX.out]; exact q))
        have KG : Hid (¬ many < X + n + 1 → rLens b cl many [] k = rLens b cl many (U ++ List.replicate (n + 1) x) k2) := Lib.hid (fun q => by rw [HEQ.out]; exact rLens_go (by rw [HXX.out]; exact HNOT.out) hx (by rw [HXX.out]; exact q))
        obtain ⟨N, hN⟩ : ∃ N, n + 1 = N := ⟨_, rfl⟩
        rw [show X + n + 1 = X + N by omega] at KF KG
        have hN1 : 1 ≤ N := by omega
        have hN2 : N ≤ 1000 := by omega
        show _
        rw [hN] at KG ⊢
        clear hx t2 HR hN hn200 HX15
        by_cases hfar : many < X + N
        · have hle : decide ((N : Int) ≤ (many : Int) - (X : Int)) = false := decide_eq_false (by omega)
          have HD := Lib.hid (demand_no 62 w2)
          have K := Lib.hid (KF.out hfar)
          clear KF KG hfar
          go_wp2_with fail
          refine HD.out.mono ?_
          rintro e w' ⟨rfl, rfl⟩
          go_wp2_with fail
          exact ⟨rfl, LensEnds.of K.out ⟨rfl, HF2.out⟩⟩
        · have hle : decide ((N : Int) ≤ (many : Int) - (X : Int)) = true := decide_eq_true (by omega)
          have HD := Lib.hid (demand_yes 62 w2)
          have K := Lib.hid (KG.out hfar)
          have HRP := Lib.hid (zrepeat_any x N w2.heap.size (w2.alloc (.cells #[.int .u8 (x : Nat)] 5)) ((cell_of_row _ _ 0 _ _ _ (heap_alloc_new w2 _)).trans rfl) hN1 hN2)
          have HSUM : Hid (X + (List.replicate N x).length = X + N) := Lib.hid (by rw [List.length_replicate])
          have HRN : Hid (Room (X + N)) := Lib.hid (Room.mk (by omega))
          have HLN : Hid ((List.replicate N x).length = N) := Lib.hid List.length_replicate
          have HOX := HO2.out
          rw [HXX.out] at HOX
          have HO3 := Lib.hid HOX
          clear KF KG HOX HO2 HO
          go_wp2_with fail
          refine HD.out.mono ?_
          rintro e w' ⟨rfl, rfl⟩
          clear HD hle
          go_wp2_with fail
          refine HRP.out.mono ?_
          rintro e w3 ⟨g3, rfl, f3, s3⟩
          have f23 : Fr S0 w2 w3 := (Fr.alloc S0 w2 _).trans0 f3
          have own3 := f23.owns HO3.out (fun _ _ h => h)
          have src : SrcIs w3 (.slice (some ⟨g3, 0, none⟩) N N) N (u8s (List.replicate N x)) := by
            have := SrcIs.ofSl (c := N) s3 (fun h => by cases h)
            rw [HLN.out] at this
            exact this
          have HF3 : Hid (Fr (· = gr) w w3) := Lib.hid (HF2.out.trans0 f23)
          have HST3 := Lib.hid (HST2.out.fr0 f23)
          clear f3 s3 f23 HRP
          go_wp2_with (first
            | ((with_reducible show wpList _ _ _ (Oper.mk (some 35) _ _ _ _ _ :: _) _ _); refine app_many el8 (.tmp 30) (.tmp 34) own3 src rfl rfl rfl rfl rfl (one8s _) HRN.out ?_; intro p4 c4 w4 own4 g4 at4; have HO4 := Lib.hid own4; have HG4 := Lib.hid g4; have HA4 := Lib.hid at4; clear own4 g4 at4 own3 src)
            | fail)
          go_roundw
          case rel =>
            have HL4 : Hid ((U ++ List.replicate N x).length = X + N) := Lib.hid (by rw [List.length_append, HXX.out, HLN.out])
            have HFX : Hid (∀ j, Value.ownBlock (.slice p X c) = some j → w.heap.size ≤ j) := Lib.hid (fun j hj => HFV.out j (by rw [HXX.out]; exact hj))
            refine ⟨k2, U ++ List.replicate N x, by rw [HL4.out]; omega, HST3.out.grown H.out HG4.out HFX.out, HF3.out.append HG4.out HFX.out, ?_, ?_, ?_, K.out⟩
            · rw [HL4.out, ← u8s_append]; exact HO4.out
            · exact fresh_many HFX.out (Nat.le_trans HF3.out.size (Nat.le_refl _)) HA4.out
            · intro y hy
              rcases List.mem_append.1 hy with hy | hy
              · exact H15.out y hy
              · rw [List.eq_of_mem_replicate hy]; exact hx15
          case measure => show many - (X + N) < many - X; omega
    · have HLE : Hid (U.length = many) := Lib.hid (by omega)
      have K : Hid (rLens b cl many [] k = .ok U k1) := Lib.hid (by rw [HEQ.out]; exact rLens_end (by omega))
      obtain ⟨X, hX⟩ : ∃ X, U.length = X := ⟨_, rfl⟩
      have HXX := Lib.hid hX
      rw [hX] at hU hUm ⊢
      clear hX
      go_wp2_with fail
      go_ret
      exact LensEnds.of K.out ⟨.slice p X c, rfl, ⟨HST.out.rd, HFR.out⟩, by rw [HXX.out]; have := HO.out; rw [HXX.out] at this; exact this, fun j hj => HFV.out j (by rw [HXX.out]; exact hj), H15.out, HLE.out⟩
end
end Go.Proofs.YtnndgpggjlhhpaaGreat
