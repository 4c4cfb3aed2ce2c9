/- The document's histograms: a new one, a value that is recorded. -/
import Derived.Test.YthfcfmnaiopogaaGreatHrCount
namespace Go.Proofs.YthfcfmnaiopogaaGreat
open Go.RowKit

theorem RTurn.from {w W W' : World} {g : Nat} {p p' : Option Addr} {n c : Nat} {M : Hm} (t : RTurn W W' g p p' n c M) (f : Fr S0 w W) : RTurn w W' g p p' n c M :=
  ⟨t.is, (f.mono fun _ _ h => h.elim).trans t.fr fun _ _ h => h, t.row.imp id fun h a ha => ⟨Nat.le_trans f.size (h a ha).1, (h a ha).2⟩⟩
theorem RTurn.then {W W' W2 : World} {g : Nat} {p p' : Option Addr} {n c : Nat} {M : Hm} (t : RTurn W W' g p p' n c M) (f : Fr S0 W' W2) : RTurn W W2 g p p' n c M :=
  ⟨t.is.fr0 f, t.fr.trans0 f, t.row.imp id fun h a ha => ⟨(h a ha).1, Nat.lt_of_lt_of_le (h a ha).2 f.size⟩⟩
theorem RTurn.on {W W' W2 : World} {g : Nat} {p p' p2 : Option Addr} {n c n2 c2 : Nat} {M M2 : Hm} (t : RTurn W W' g p p' n c M) (k : RTurn W' W2 g p' p2 n2 c2 M2) : RTurn W W2 g p p2 n2 c2 M2 :=
  ⟨k.is, t.fr.trans k.fr fun _ _ h => h, by
    rcases k.row with rfl | h
    · exact t.row.imp id fun h a ha => ⟨(h a ha).1, Nat.lt_of_lt_of_le (h a ha).2 k.fr.size⟩
    · exact .inr fun a ha => ⟨Nat.le_trans t.fr.size (h a ha).1, (h a ha).2⟩⟩
theorem RefIs.still {W W' : World} {g : Nat} {p : Option Addr} {n c : Nat} {M : Hm} (s : RefIs W g p n c M) (f : Fr S0 W W') : RTurn W W' g p p n c M := ⟨s.fr0 f, f.mono fun _ _ h => h.elim, .inl rfl⟩

section
variable (g : Nat) (p : Option Addr) (k c : Nat) (M : Hm) (w : World) (s : RefIs w g p k c M)
include s
set_option maxRecDepth 100000 in
set_option maxHeartbeats 400000 in
theorem hrecord_any (v : Int) (n : Nat) (hv : v ≤ 9223372036854775807) (hn : n < 18446744073709551616) (hk : k ≤ 90000) :
    Calls Tryz.prog 39 #[.pointer (some ⟨g, 0, none⟩), .int .i64 v, .int .u64 (n : Nat)] w fun e w' => e = .returned (.int .i64 (M.check v n : Nat)) ∧ ∃ p' n' c', RTurn w w' g p p' n' c' (M.record v n) := by
  have HC := Lib.hid (hcheck_any g p k c M w s v n hv hn)
  have HS := Lib.hid s
  unfold Hm.record
  by_cases h0 : M.check v n = 0
  · obtain ⟨h1, h2, h3, h4⟩ := s.good.of_check h0
    obtain ⟨V, rfl⟩ : ∃ V : Nat, v = V := ⟨v.toNat, by omega⟩
    rw [if_pos h0, show (V : Int).toNat = V by omega]
    have HN := Lib.hid (fun W (f : Fr S0 w W) => hcount_any g p k c M W (s.fr0 f) V n (by omega) h1 h4 (fun hg => by have := h3 hg; omega) hk)
    rw [h0] at HC ⊢
    clear s h1 h2 h3 h4 h0
    go_enter Tryz.func39, Tryz.ntmps39
    go_wp2_with fail
    refine HC.out.mono ?_
    rintro e w1 ⟨rfl, f1⟩
    have F1 := Lib.hid f1
    clear f1
    go_wp2_with fail
    refine (HN.out _ F1.out).mono ?_
    rintro e w2 ⟨rfl, p2, n2, c2, ht⟩
    have HT := Lib.hid (ht.from F1.out)
    clear ht
    go_wp2_with fail
    go_ret
    exact ⟨rfl, p2, n2, c2, HT.out⟩
  · rw [if_neg h0]
    obtain ⟨E, eE⟩ : ∃ E, M.check v n = E := ⟨_, rfl⟩
    rw [eE] at HC h0 ⊢
    have hne : ((E : Int) == 0) = false := by rw [beq_eq_false_iff_ne]; omega
    clear s eE
    go_enter Tryz.func39, Tryz.ntmps39
    go_wp2_with fail
    refine HC.out.mono ?_
    rintro e w1 ⟨rfl, f1⟩
    have F1 := Lib.hid f1
    clear f1
    go_wp2_with fail
    go_ret
    exact ⟨rfl, p, k, c, HS.out.still F1.out⟩
end

def Hm.new (L H D : Nat) (gr : Bool) : Hm := ⟨L, H, D, gr, unt L, mag D, 1 + bkt (unt L + mag D) H, []⟩
theorem Hm.new_good (L H D : Nat) (gr : Bool) (h1 : 1 ≤ D) (h5 : D ≤ 5) (h0 : 0 < L) (hh : 2 * L ≤ H) (hb : H < 9223372036854775808) (hs : unt L + mag D ≤ 62) : (Hm.new L H D gr).Good :=
  ⟨⟨h1, h5⟩, h0, hh, hb, rfl, rfl, hs, srt_nil, pos_nil, (show ltot [] ≤ 4611686018427387904 by decide), (fun _ h => by cases h), Nat.le_refl _, (by have := bkt_most (unt L + mag D) H (by omega) hb; simp only [Hm.new]; omega), fun _ => rfl⟩

set_option maxRecDepth 100000 in
set_option maxHeartbeats 400000 in
theorem hnew_no (lo hi d : Int) (gr : Bool) (w : World) (h : ¬ May lo hi d) (hl : -9223372036854775808 ≤ lo ∧ lo ≤ 9223372036854775807) (hh : hi ≤ 9223372036854775807) :
    Calls Tryz.prog 41 #[.agg #[.int .i64 lo, .int .i64 hi, .int .i64 d], .bool gr] w fun e w' => e = .returned (.pointer none) ∧ Fr S0 w w' := by
  have HS := Lib.hid (fun W => rshape_no lo hi d W h hl hh)
  clear h hl hh
  go_enter Tryz.func41, Tryz.ntmps41
  go_wp2_with fail
  refine (HS.out _).mono ?_
  rintro e w1 ⟨rfl, f1⟩
  have F1 := Lib.hid ((Fr.alloc S0 _ _).trans0 f1)
  clear f1
  go_wp2_with fail
  go_ret
  exact ⟨rfl, F1.out⟩
set_option maxRecDepth 100000 in
set_option maxHeartbeats 400000 in
theorem hnew_big (l h D : Nat) (gr : Bool) (w : World) (h1 : 1 ≤ D) (h5 : D ≤ 5) (h0 : 0 < l) (hh : 2 * l ≤ h) (hb : h < 9223372036854775808) (hs : 62 < unt l + mag D) :
    Calls Tryz.prog 41 #[.agg #[.int .i64 (l : Nat), .int .i64 (h : Nat), .int .i64 (D : Nat)], .bool gr] w fun e w' => e = .returned (.pointer none) ∧ Fr S0 w w' := by
  have HS := fun W => rshape_yes l h D W h1 h5 h0 hh hb
  rw [show decide (unt l + mag D ≤ 62) = false from decide_eq_false (by omega)] at HS
  have HS := Lib.hid HS
  clear h1 h5 h0 hh hb hs
  go_enter Tryz.func41, Tryz.ntmps41
  go_wp2_with fail
  refine (HS.out _).mono ?_
  rintro e w1 ⟨rfl, f1⟩
  have F1 := Lib.hid ((Fr.alloc S0 _ _).trans0 f1)
  clear f1
  go_wp2_with fail
  go_ret
  exact ⟨rfl, F1.out⟩
set_option maxRecDepth 100000 in
set_option maxHeartbeats 400000 in
theorem hnew_yes (l h D : Nat) (gr : Bool) (w : World) (h1 : 1 ≤ D) (h5 : D ≤ 5) (h0 : 0 < l) (hh : 2 * l ≤ h) (hb : h < 9223372036854775808) (hs : unt l + mag D ≤ 62) :
    Calls Tryz.prog 41 #[.agg #[.int .i64 (l : Nat), .int .i64 (h : Nat), .int .i64 (D : Nat)], .bool gr] w fun e w' => ∃ g, e = .returned (.pointer (some ⟨g, 0, none⟩)) ∧ RefIs w' g none 0 0 (Hm.new l h D gr) ∧ w.heap.size ≤ g ∧ Fr S0 w w' := by
  have HGOOD := Lib.hid (Hm.new_good l h D gr h1 h5 h0 hh hb hs)
  have HS := fun W => rshape_yes l h D W h1 h5 h0 hh hb
  rw [show decide (unt l + mag D ≤ 62) = true from decide_eq_true hs] at HS
  have HB := Lib.hid (fun W => rbucket_any (unt l) (mag D) h W hs hb)
  have hbk := bkt_most (unt l + mag D) h (by omega) hb
  have HC := Lib.hid (box3 w (.int .i64 (l : Nat)) (.int .i64 (h : Nat)) (.int .i64 (D : Nat)) 30)
  obtain ⟨u, eu⟩ : ∃ u, unt l = u := ⟨_, rfl⟩
  obtain ⟨m, em⟩ : ∃ m, mag D = m := ⟨_, rfl⟩
  obtain ⟨b, eb⟩ : ∃ b, bkt (unt l + mag D) h = b := ⟨_, rfl⟩
  obtain ⟨F, eF⟩ : ∃ F, 1 + b = F := ⟨_, rfl⟩
  have HM := Lib.hid (show (Hm.new l h D gr) = ⟨l, h, D, gr, u, m, F, []⟩ by unfold Hm.new; rw [eb, eF, eu, em])
  rw [eb] at HB hbk
  rw [eu, em] at HB HS
  have e1 : 1 + (b : Int) = (F : Int) := by omega
  have w1 : IntKind.i64.wrap (F : Int) = (F : Int) := by rw [IntKind.wrap_i64]; omega
  have HS := Lib.hid HS
  clear h1 h5 h0 hh hb hs eu em eb eF hbk
  go_enter Tryz.func41, Tryz.ntmps41
  go_wp2_with fail
  refine (HS.out _).mono ?_
  rintro e w1 ⟨rfl, f1⟩
  have F1 := Lib.hid ((Fr.alloc S0 _ _).trans0 f1)
  have HC1 := Lib.hid (And.intro (f1.cell HC.out.1 (fun h => h)) (And.intro (f1.cell HC.out.2.1 (fun h => h)) (f1.cell HC.out.2.2 (fun h => h))))
  clear f1 HC
  go_upto_region 13 with fail
  go_region_held3 (fun w' => w'.cell? ⟨w.heap.size, 0, none⟩ = some (.int .i64 (l : Nat)) ∧ w'.cell? ⟨w.heap.size, 1, none⟩ = some (.int .i64 (h : Nat)) ∧ w'.cell? ⟨w.heap.size, 2, none⟩ = some (.int .i64 (D : Nat)))
    (first
      | (go_split_ands; exact ⟨by assumption, by assumption, by assumption⟩)
      | exact HC1.out
      | (go_split_ands; exact ⟨(Fr.alloc S0 _ _).cell (by assumption) (fun h => h), (Fr.alloc S0 _ _).cell (by assumption) (fun h => h), (Fr.alloc S0 _ _).cell (by assumption) (fun h => h)⟩))
    (first
      | (go_at_call 72; ((with_reducible refine (HB.out _).mono ?_); rintro _ _ ⟨rfl, rfl⟩)))
  all_goals
    go_wp2_with fail
    go_ret
    have FF := F1.out.trans0 (Fr.drew S0 w1)
    refine ⟨_, rfl, ⟨?_, PrI.nil _ _, ?_, (fun _ h => by cases h), HGOOD.out⟩, FF.size, FF.trans0 (Fr.alloc _ _ _)⟩
    · rw [HM.out]; exact heap_alloc_new _ _
    · rw [HM.out]; rfl
end Go.Proofs.YthfcfmnaiopogaaGreat
