/- HrIs, HrRec, HrAdd -/
import Derived.Test.YtnndgpggjlhhpaaGreatPr1
import Derived.Test.YtnndgpggjlhhpaaGreatPr2
import Derived.Test.YtnndgpggjlhhpaaGreatPr4
import Derived.Test.YtnndgpggjlhhpaaGreatPr5
import Derived.Test.YtnndgpggjlhhpaaGreatPr6
import Derived.Test.YtnndgpggjlhhpaaGreatPr7
import Derived.Maps.RangeWalk
import Derived.StillTailTactics
import Derived.BigRegion
import Derived.Deep.RegionLaw
import Derived.Deep.RegionHeld3
import Derived.Deep.CutBlock
import Derived.Deep.DeepCutAuto
import Derived.Deep.CutRange
import Derived.WalkKit
import Derived.WalkSpells
import Derived.WalkLawsBesides
import Derived.Deep.QuietTactic
import Derived.BigQuiet
import Derived.RegionTactic
import Derived.Deep.AppendLies
import Derived.Laws.ResultCell
import Derived.Laws.EntriesVeiled
import Derived.Lib.Hide
import Derived.Test.YtnndgpggjlhhpaaGreatRows
import Derived.Laws.BytesArg
import Derived.Lib.SlBytesConst
import Derived.Maps.AppendAt
import Derived.Laws.AppendOwnNone
import Derived.Lib.BitFns
import Derived.Shelf.Small.Bits
import Derived.Shelf.Strconv.Itoa0
import Derived.Shelf.Bits.Mul64
import Derived.Laws.Externs
import Derived.Shelf.Spec.BitsCarry
set_option maxRecDepth 100000
set_option maxHeartbeats 8000000
namespace Go.Proofs.YtnndgpggjlhhpaaGreat
open Go.RowKit Go.ChangeMaps
structure HistIs (w : World) (g h : Nat) (M : Hm) : Prop where
  blk : w.heap[g]? = some (.cells #[.int .i64 (M.L : Nat), .int .i64 (M.H : Nat), .int .i64 (M.D : Nat), .int .i64 (M.u : Nat), .int .i64 (M.m : Nat), .bool M.gr, .int .i64 (M.b : Nat), .map (some h), .int .u64 (ltot M.l : Nat)] 61 (0, 0))
  mp : MpI w h M.l
  good : M.Good
section
variable {w w' : World} {g h : Nat} {M : Hm}
theorem HistIs.ne (s : HistIs w g h M) : g ≠ h := fun e => by
  obtain ⟨es, clock, hb, -⟩ := s.mp
  have := s.blk
  rw [e, hb] at this
  cases this
theorem HistIs.fr {S : Nat → Prop} (s : HistIs w g h M) (f : Fr S w w') (hg : ¬ S g) (hh : ¬ S h) : HistIs w' g h M := ⟨f.row s.blk hg, s.mp.fr f hh, s.good⟩
theorem HistIs.fr0 (s : HistIs w g h M) (f : Fr S0 w w') : HistIs w' g h M := s.fr f (fun h => h) fun h => h
theorem HistIs.lt (s : HistIs w g h M) : g < w.heap.size := (Array.getElem?_eq_some_iff.1 s.blk).1
theorem HistIs.map (s : HistIs w g h M) : MapIs w g (M.L : Nat) (M.H : Nat) (M.D : Nat) M.u M.m := .of s.blk rfl rfl rfl rfl rfl s.good.m5.1 s.good.m5.2 s.good.s
theorem HistIs.c1 (s : HistIs w g h M) : w.cell? ⟨g, 1, none⟩ = some (.int .i64 (M.H : Nat)) := by simp [World.cell?, s.blk]
theorem HistIs.c5 (s : HistIs w g h M) : w.cell? ⟨g, 5, none⟩ = some (.bool M.gr) := by simp [World.cell?, s.blk]
theorem HistIs.c6 (s : HistIs w g h M) : w.cell? ⟨g, 6, none⟩ = some (.int .i64 (M.b : Nat)) := by simp [World.cell?, s.blk]
theorem HistIs.c7 (s : HistIs w g h M) : w.cell? ⟨g, 7, none⟩ = some (.map (some h)) := by simp [World.cell?, s.blk]
theorem HistIs.c8 (s : HistIs w g h M) : w.cell? ⟨g, 8, none⟩ = some (.int .u64 (ltot M.l : Nat)) := by simp [World.cell?, s.blk]
theorem HistIs.z (s : HistIs w g h M) (k : Nat) : w.frozen? ⟨g, k, none⟩ = false := by simp [World.frozen?, s.blk]
end
section
variable (g h : Nat) (M : Hm) (w : World) (s : HistIs w g h M)
include s
theorem xshape_any : Calls Tryz.prog 25 #[.pointer (some ⟨g, 0, none⟩)] w fun e w' => e = .returned (.agg #[.int .i64 (M.L : Nat), .int .i64 (M.H : Nat), .int .i64 (M.D : Nat)]) ∧ Fr S0 w w' := by
  have HS := Lib.hid (fun W (f : Fr S0 w W) => shape_any g (M.L : Nat) (M.H : Nat) (M.D : Nat) M.u M.m W (s.map.fr0 f))
  obtain ⟨L, eL⟩ : ∃ L, M.L = L := ⟨_, rfl⟩
  obtain ⟨H, eH⟩ : ∃ H, M.H = H := ⟨_, rfl⟩
  obtain ⟨D, eD⟩ : ∃ D, M.D = D := ⟨_, rfl⟩
  rw [eL, eH, eD] at HS
  rw [eL, eH, eD]
  obtain ⟨A, hA⟩ : ∃ A : Array Value, #[.int .i64 (L : Nat), .int .i64 (H : Nat), .int .i64 (D : Nat)] = A := ⟨_, rfl⟩
  have hsz : A.size = 3 := by rw [← hA]; rfl
  have hone : A.all (·.oneCell') = true := by rw [← hA]; simp [Value.oneCell']
  rw [hA] at HS
  rw [hA]
  have HSZ := Lib.hid hsz
  clear s eL eH eD hA hsz
  go_enter Tryz.func25, Tryz.ntmps25
  go_wp2_with fail
  refine (HS.out _ (Fr.alloc _ _ _)).mono ?_
  rintro e w1 ⟨rfl, f1⟩
  have F1 := Lib.hid f1
  have HG := Lib.hid (f1.row (heap_alloc_new w _) fun h => h)
  clear f1
  go_wp2_with (first | (refine store_at 27 _ _ rfl rfl rfl rfl HG.out (by rw [HSZ.out]; kernel_rfl) HSZ.out.symm hone ?_; intro w2 hg2 f2))
  have F2 := (((Fr.alloc (fun k => k = w.heap.size) w _).trans0 F1.out).trans f2 (fun _ _ h => h))
  exact bodyPost_ret (v := .agg A) (results_row rfl _ _ rfl hg2 Tryz.underlying27 rfl (by rw [HSZ.out]; kernel_rfl)) rfl ⟨rfl, F2.mono fun j hj e => by have : j = w.heap.size := e; omega⟩
theorem xgrows_any : Calls Tryz.prog 21 #[.pointer (some ⟨g, 0, none⟩)] w fun e w' => e = .returned (.bool M.gr) ∧ Fr S0 w w' := by
  have c5 := s.c5
  clear s
  go_enter Tryz.func21, Tryz.ntmps21
  go_wp2_with fail
  go_ret
  exact ⟨rfl, Fr.refl _ _⟩
theorem xtotal_any : Calls Tryz.prog 23 #[.pointer (some ⟨g, 0, none⟩)] w fun e w' => e = .returned (.int .u64 (ltot M.l : Nat)) ∧ Fr S0 w w' := by
  have c8 := s.c8
  clear s
  go_enter Tryz.func23, Tryz.ntmps23
  go_wp2_with fail
  go_ret
  exact ⟨rfl, Fr.refl _ _⟩
theorem xroom_any : Calls Tryz.prog 71 #[.pointer (some ⟨g, 0, none⟩)] w fun e w' => e = .returned (.int .u64 (4611686018427387904 - ltot M.l : Nat)) ∧ w' = w := by
  have c8 := s.c8
  have ht := s.good.tot
  obtain ⟨T, eT⟩ : ∃ T, ltot M.l = T := ⟨_, rfl⟩
  obtain ⟨R, eR⟩ : ∃ R, 4611686018427387904 - T = R := ⟨_, rfl⟩
  rw [eT] at c8 ht
  rw [eT, eR]
  have e1 : (4611686018427387904 : Int) - (T : Int) = (R : Int) := by omega
  have w1 : IntKind.u64.wrap (R : Int) = (R : Int) := by rw [IntKind.wrap_u64]; omega
  clear s eT eR
  go_enter Tryz.func71, Tryz.ntmps71
  go_wp2_with fail
  go_ret
  exact ⟨rfl, rfl⟩
theorem xindex_any (v : Int) (hv : v < 9223372036854775808) : Calls Tryz.prog 72 #[.pointer (some ⟨g, 0, none⟩), .int .i64 v] w fun e w' => e = .returned (.int .i64 (idx M.u M.m v.toNat : Nat)) ∧ Fr S0 w w' := by
  obtain ⟨V, eV⟩ : ∃ V, v.toNat = V := ⟨_, rfl⟩
  have HI := Lib.hid (fun W (f : Fr S0 w W) => index_any g (M.L : Nat) (M.H : Nat) (M.D : Nat) M.u M.m W (s.map.fr0 f) V (by omega))
  obtain ⟨I, eI⟩ : ∃ I, idx M.u M.m V = I := ⟨_, rfl⟩
  rw [eI] at HI
  rw [eV, eI]
  have em : max v 0 = (V : Int) := by omega
  have em2 : (if v < 0 then 0 else v) = (V : Int) := by split <;> omega
  clear s eV eI
  go_enter Tryz.func72, Tryz.ntmps72
  go_wp2_with fail
  refine (HI.out _ (Fr.refl _ _)).mono ?_
  rintro e w1 ⟨rfl, f1⟩
  have F1 := Lib.hid f1
  clear f1
  go_wp2_with fail
  go_ret
  exact ⟨rfl, F1.out⟩
theorem xreach_any : Calls Tryz.prog 12 #[.pointer (some ⟨g, 0, none⟩)] w fun e w' => e = .returned (.int .i64 (M.reach : Nat)) ∧ Fr S0 w w' := by
  have HS := Lib.hid (xshape_any g h M w s)
  have HB := Lib.hid (fun W (f : Fr S0 w W) => buckets_any g (M.L : Nat) (M.H : Nat) (M.D : Nat) M.u M.m W (s.map.fr0 f) (M.H : Nat) (by have := s.good.hh; omega))
  have HT := Lib.hid (fun W (f : Fr S0 w W) => top_any g (M.L : Nat) (M.H : Nat) (M.D : Nat) M.u M.m W (s.map.fr0 f) (M.b : Nat))
  have hbd := s.good.b1
  have hb2 := s.good.b2
  have HC := Lib.hid (fun W (f : Fr S0 w W) => (s.fr0 f).c6)
  rw [show cntB (M.b : Nat) = M.b by unfold cntB; omega] at HT
  rw [show ((M.H : Nat) : Int).toNat = M.H by omega] at HB
  unfold Hm.reach Hm.first
  obtain ⟨F, eF⟩ : ∃ F, 1 + bkt (M.u + M.m) M.H = F := ⟨_, rfl⟩
  obtain ⟨T, eT⟩ : ∃ T, top M.u M.m M.b = T := ⟨_, rfl⟩
  rw [eF] at HB ⊢
  rw [eT] at HT ⊢
  obtain ⟨B, eB⟩ : ∃ B, M.b = B := ⟨_, rfl⟩
  obtain ⟨H, eH⟩ : ∃ H, M.H = H := ⟨_, rfl⟩
  obtain ⟨L, eL⟩ : ∃ L, M.L = L := ⟨_, rfl⟩
  obtain ⟨D, eD⟩ : ∃ D, M.D = D := ⟨_, rfl⟩
  rw [eB] at HT HC ⊢
  rw [eH] at HB HS ⊢
  rw [eL, eD] at HS
  clear s hbd hb2 eF eT eB eH eL eD
  have hfield : ∀ W, (Instr.field 27 (.agg #[.int .i64 (L : Nat), .int .i64 (H : Nat), .int .i64 (D : Nat)]) 1).run Tryz.prog W = .ok (.int .i64 (H : Nat)) W := fun W => by kernel_rfl
  by_cases hBF : B = F
  · rw [if_pos hBF]
    subst hBF
    go_enter Tryz.func12, Tryz.ntmps12
    go_wp2_with fail
    refine HS.out.mono ?_
    rintro e w1 ⟨rfl, f1⟩
    have F1 := Lib.hid f1
    have HC1 := Lib.hid (And.intro (HC.out _ f1) f1)
    clear f1
    go_upto_region 10 with fail
    go_region_held3 (fun w' => w'.cell? ⟨g, 6, none⟩ = some (.int .i64 (B : Nat)) ∧ Fr S0 w w')
      (first | (go_split_ands; exact ⟨by assumption, by assumption⟩) | exact ⟨HC1.out.1, HC1.out.2.trans0 (Fr.drew _ _)⟩ | (go_split_ands; exact ⟨f9.cell (by assumption) (fun h => h), Fr.trans0 (by assumption) f9⟩))
      (first | (go_at_call 30; ((with_reducible refine (HB.out _ (by go_split_ands; assumption)).mono ?_); rintro _ w2 ⟨rfl, f9⟩; have F2 := Lib.hid f9)))
    all_goals
      go_wp2_with fail
      go_ret
      exact ⟨rfl, (F1.out.trans0 (Fr.drew _ _)).trans0 F2.out⟩
  · rw [if_neg hBF]
    have hne : ((B : Int) == (F : Int)) = false := by rw [beq_eq_false_iff_ne]; omega
    go_enter Tryz.func12, Tryz.ntmps12
    go_wp2_with fail
    refine HS.out.mono ?_
    rintro e w1 ⟨rfl, f1⟩
    have F1 := Lib.hid f1
    have HC1 := Lib.hid (And.intro (HC.out _ f1) f1)
    clear f1
    go_upto_region 10 with fail
    go_region_held3 (fun w' => w'.cell? ⟨g, 6, none⟩ = some (.int .i64 (B : Nat)) ∧ Fr S0 w w')
      (first | (go_split_ands; exact ⟨by assumption, by assumption⟩) | exact ⟨HC1.out.1, HC1.out.2.trans0 (Fr.drew _ _)⟩ | (go_split_ands; exact ⟨f9.cell (by assumption) (fun h => h), Fr.trans0 (by assumption) f9⟩))
      (first | (go_at_call 30; ((with_reducible refine (HB.out _ (by go_split_ands; assumption)).mono ?_); rintro _ w2 ⟨rfl, f9⟩; have F2 := Lib.hid ((F1.out.trans0 (Fr.drew _ _)).trans0 f9))))
    have HC2 := Lib.hid (And.intro (HC.out _ F2.out) F2.out)
    go_upto_region 9 with fail
    go_region_held3 (fun w' => w'.cell? ⟨g, 6, none⟩ = some (.int .i64 (B : Nat)) ∧ Fr S0 w w')
      (first | (go_split_ands; exact ⟨by assumption, by assumption⟩) | exact ⟨HC2.out.1, HC2.out.2.trans0 (Fr.drew _ _)⟩ | (go_split_ands; exact ⟨f9.cell (by assumption) (fun h => h), Fr.trans0 (by assumption) f9⟩))
      (first | (go_at_call 31; ((with_reducible refine (HT.out _ (by go_split_ands; assumption)).mono ?_); rintro _ w3 ⟨rfl, f9⟩; have F3 := Lib.hid f9)))
    all_goals
      go_wp2_with fail
      go_ret
      exact ⟨rfl, (F2.out.trans0 (Fr.drew _ _)).trans0 F3.out⟩
end
end Go.Proofs.YtnndgpggjlhhpaaGreat

namespace Go.Proofs.YtnndgpggjlhhpaaGreat
open Go.RowKit Go.ChangeMaps
section
variable (g h : Nat) (M : Hm) (w : World) (s : HistIs w g h M)
include s
theorem xcheck_any (v : Int) (n : Nat) (hv0 : -9223372036854775808 ≤ v) (hv : v ≤ 9223372036854775807) (hn : n < 18446744073709551616) :
    Calls Tryz.prog 44 #[.pointer (some ⟨g, 0, none⟩), .int .i64 v, .int .u64 (n : Nat)] w fun e w' => e = .returned (.int .i64 (M.check v n : Nat)) ∧ Fr S0 w w' := by
  have HR := Lib.hid (fun W (f : Fr S0 w W) => xroom_any g h M W (s.fr0 f))
  have HT := Lib.hid (fun n => top_quiet g (M.L : Nat) (M.H : Nat) (M.D : Nat) M.u M.m (w.drewN n) (s.map.drewN n) (M.b : Nat))
  have hbd := s.good.b1
  have hb2 := s.good.b2
  rw [show cntB (M.b : Nat) = M.b by unfold cntB; omega] at HT
  have HC := Lib.hid (fun W (f : Fr S0 w W) => And.intro (s.fr0 f).c5 (s.fr0 f).c6)
  have c5 := s.c5
  have c6 := s.c6
  unfold Hm.check
  obtain ⟨T, eT⟩ : ∃ T, top M.u M.m M.b = T := ⟨_, rfl⟩
  have hT : T < 9223372036854775808 := by rw [← eT]; exact top_lt _ _ _
  obtain ⟨B, eB⟩ : ∃ B, M.b = B := ⟨_, rfl⟩
  obtain ⟨r, er⟩ : ∃ r, M.gr = r := ⟨_, rfl⟩
  obtain ⟨R, eR⟩ : ∃ R, 4611686018427387904 - ltot M.l = R := ⟨_, rfl⟩
  rw [eT] at HT ⊢
  rw [eB] at HT HC c6
  rw [er] at HC c5 ⊢
  rw [eR] at HR ⊢
  have HW := Lib.hid s.lt
  clear s hbd hb2 eT eB er eR
  by_cases h0 : n = 0
  · rw [if_pos h0]
    subst h0
    go_enter Tryz.func44, Tryz.ntmps44
    go_wp2_with fail
    go_ret
    exact ⟨rfl, Fr.refl _ _⟩
  · rw [if_neg h0]
    have hn0 : ((n : Int) == 0) = false := by rw [beq_eq_false_iff_ne]; omega
    by_cases hv1 : v < 0
    · rw [if_pos (.inl hv1)]
      have hd : decide (v < 0) = true := decide_eq_true hv1
      go_enter Tryz.func44, Tryz.ntmps44
      go_upto_region 22 with fail
      go_quiet (fail)
      go_wp2_with fail
      go_ret
      exact ⟨rfl, Fr.drewN _ _ _⟩
    · have hd : decide (v < 0) = false := decide_eq_false hv1
      obtain ⟨V, rfl⟩ : ∃ V : Nat, v = V := ⟨v.toNat, by omega⟩
      by_cases hvt : T < V
      · have hd2 : decide (T < V) = true := decide_eq_true hvt
        have hd3 : decide ((T : Int) < (V : Int)) = true := decide_eq_true (by omega)
        cases r with
        | false =>
          rw [if_pos (.inr ⟨rfl, by omega⟩)]
          go_enter Tryz.func44, Tryz.ntmps44
          go_upto_region 22 with fail
          go_quiet (first | (exact (HT.out _).mono fun _ _ h => ⟨h.1, _ + 1, h.2⟩))
          go_wp2_with fail
          go_ret
          exact ⟨rfl, Fr.drewN _ _ _⟩
        | true =>
          rw [if_neg (by rintro (hx | ⟨hx, -⟩) <;> first | omega | cases hx)]
          by_cases hr : R < n
          · rw [if_pos hr]
            have hd4 : decide (R < n) = true := decide_eq_true hr
            go_enter Tryz.func44, Tryz.ntmps44
            go_upto_region 22 with fail
            go_quiet (first | (exact (HT.out _).mono fun _ _ h => ⟨h.1, _ + 1, h.2⟩))
            go_wp2_with fail
            refine (HR.out _ (Fr.drewN _ _ _)).mono ?_
            rintro e w3 ⟨rfl, rfl⟩
            go_wp2_with fail
            go_ret
            exact ⟨rfl, Fr.drewN _ _ _⟩
          · rw [if_neg hr]
            have hd4 : decide (R < n) = false := decide_eq_false hr
            go_enter Tryz.func44, Tryz.ntmps44
            go_upto_region 22 with fail
            go_quiet (first | (exact (HT.out _).mono fun _ _ h => ⟨h.1, _ + 1, h.2⟩))
            go_wp2_with fail
            refine (HR.out _ (Fr.drewN _ _ _)).mono ?_
            rintro e w3 ⟨rfl, rfl⟩
            go_wp2_with fail
            go_ret
            exact ⟨rfl, Fr.drewN _ _ _⟩
      · have hd2 : decide (T < V) = false := decide_eq_false hvt
        have hd3 : decide ((T : Int) < (V : Int)) = false := decide_eq_false (by omega)
        rw [if_neg (by rintro (hx | ⟨-, hx⟩) <;> omega)]
        by_cases hr : R < n
        · rw [if_pos hr]
          have hd4 : decide (R < n) = true := decide_eq_true hr
          go_enter Tryz.func44, Tryz.ntmps44
          go_upto_region 22 with fail
          go_quiet (first | (exact (HT.out _).mono fun _ _ h => ⟨h.1, _ + 1, h.2⟩))
          go_wp2_with fail
          refine (HR.out _ (Fr.drewN _ _ _)).mono ?_
          rintro e w3 ⟨rfl, rfl⟩
          go_wp2_with fail
          go_ret
          exact ⟨rfl, Fr.drewN _ _ _⟩
        · rw [if_neg hr]
          have hd4 : decide (R < n) = false := decide_eq_false hr
          go_enter Tryz.func44, Tryz.ntmps44
          go_upto_region 22 with fail
          go_quiet (first | (exact (HT.out _).mono fun _ _ h => ⟨h.1, _ + 1, h.2⟩))
          go_wp2_with fail
          refine (HR.out _ (Fr.drewN _ _ _)).mono ?_
          rintro e w3 ⟨rfl, rfl⟩
          go_wp2_with fail
          go_ret
          exact ⟨rfl, Fr.drewN _ _ _⟩
end
end Go.Proofs.YtnndgpggjlhhpaaGreat

namespace Go.Proofs.YtnndgpggjlhhpaaGreat
open Go.RowKit Go.ChangeMaps
theorem fr_cell {w : World} {g k : Nat} (v : Value) : Fr (· = g) w (w.setCell ⟨g, k, none⟩ v) := Fr.setCell _ w _ v rfl
theorem idx_small (u m v : Nat) (h1 : 1 ≤ m) (h18 : m ≤ 18) (hs : u + m ≤ 62) (hv : v < 9223372036854775808) : idx u m v < 100000000 := by
  have h := idx_lt u m v h1 (by omega)
  have hb := bkt_most (u + m) v (by omega) hv
  have hh := half_le h18
  have : (2 + bkt (u + m) v) * 2 ^ (m - 1) ≤ 65 * 131072 := Nat.mul_le_mul (by omega) hh
  omega
section
variable (g h : Nat) (M : Hm) (w : World) (s : HistIs w g h M)
include s
theorem xadd_any (V n : Nat) (hV : V < 9223372036854775808) (hn : 0 < n) (ht : ltot M.l + n ≤ 4611686018427387904) (hg : M.gr = false → V ≤ top M.u M.m M.b) :
    Calls Tryz.prog 45 #[.pointer (some ⟨g, 0, none⟩), .int .i64 (V : Nat), .int .u64 (n : Nat)] w fun e w' => e = .returned (.tuple #[]) ∧ HistIs w' g h (M.count V n) ∧ Fr (fun k => k = g ∨ k = h) w w' := by
  have hgood := Lib.hid (s.good.count hV hn ht hg)
  have HI := Lib.hid (fun W (f : Fr S0 w W) => xindex_any g h M W (s.fr0 f) (V : Nat) (by omega))
  have HB := Lib.hid (fun W (m : MapIs W g (M.L : Nat) (M.H : Nat) (M.D : Nat) M.u M.m) => buckets_any g (M.L : Nat) (M.H : Nat) (M.D : Nat) M.u M.m W m (V : Nat) (by omega))
  rw [show ((V : Nat) : Int).toNat = V by omega] at HI HB
  have hne := s.ne
  have hbk := bkt_most (M.u + M.m) V (by have := s.good.s; omega) hV
  have hb1 := s.good.b1
  have hk : (0 : Int) ≤ (idx M.u M.m V : Nat) ∧ ((idx M.u M.m V : Nat) : Int) < 100000000 := by have := idx_small M.u M.m V s.good.m1 s.good.m5.2 s.good.s hV; omega
  obtain ⟨es, clock, hb, E⟩ := s.mp
  have HLK := Lib.hid (E.look h (idx M.u M.m V : Nat) hk)
  obtain ⟨es2, clock2, E2, hput⟩ := E.put h (idx M.u M.m V : Nat) n hk hn
  have HPUT := Lib.hid hput
  have HMP := Lib.hid hb
  have HE2 := Lib.hid E2
  have hct : cnt M.l (idx M.u M.m V : Nat) + n ≤ 4611686018427387904 := by have := cnt_tot M.l (idx M.u M.m V : Nat); omega
  have hS := Lib.hid s
  have c7 := s.c7
  obtain ⟨C, eC⟩ : ∃ C, cnt M.l (idx M.u M.m V : Nat) = C := ⟨_, rfl⟩
  obtain ⟨I, eI⟩ : ∃ I, idx M.u M.m V = I := ⟨_, rfl⟩
  obtain ⟨K, eK⟩ : ∃ K, 1 + bkt (M.u + M.m) V = K := ⟨_, rfl⟩
  obtain ⟨B, eB⟩ : ∃ B, M.b = B := ⟨_, rfl⟩
  obtain ⟨T, eT⟩ : ∃ T, ltot M.l = T := ⟨_, rfl⟩
  obtain ⟨L, eL⟩ : ∃ L, M.L = L := ⟨_, rfl⟩
  obtain ⟨H, eH⟩ : ∃ H, M.H = H := ⟨_, rfl⟩
  obtain ⟨D, eD⟩ : ∃ D, M.D = D := ⟨_, rfl⟩
  obtain ⟨N, eN⟩ : ∃ N, C + n = N := ⟨_, rfl⟩
  obtain ⟨U, eU⟩ : ∃ U, T + n = U := ⟨_, rfl⟩
  obtain ⟨Y, eY⟩ : ∃ Y, max B K = Y := ⟨_, rfl⟩
  rw [eC] at HLK hct
  simp only [eC] at HPUT
  rw [eI] at HI HLK
  simp only [eI] at HPUT
  rw [eK] at HB
  rw [eN] at hct
  simp only [eN] at HPUT
  simp only [eL, eH, eD] at HB
  have e1 : (C : Int) + (n : Int) = (N : Int) := by omega
  have w1 : IntKind.u64.wrap (N : Int) = (N : Int) := by rw [IntKind.wrap_u64]; omega
  have e2 : (T : Int) + (n : Int) = (U : Int) := by omega
  have w2 : IntKind.u64.wrap (U : Int) = (U : Int) := by rw [IntKind.wrap_u64]; omega
  have e3 : max (B : Int) (K : Int) = (Y : Int) := by omega
  have e4 : (if (B : Int) < (K : Int) then (K : Int) else (B : Int)) = (Y : Int) := by split <;> omega
  have e5 : (if B < K then (K : Int) else (B : Int)) = (Y : Int) := by split <;> omega
  -- the block at the end
  have HEND : Hid (∀ W : World, W.heap[g]? = some (.cells #[.int .i64 (M.L : Nat), .int .i64 (M.H : Nat), .int .i64 (M.D : Nat), .int .i64 (M.u : Nat), .int .i64 (M.m : Nat), .bool M.gr, .int .i64 (Y : Nat), .map (some h), .int .u64 (U : Nat)] 61 (0, 0)) → W.heap[h]? = some (.map es2 clock2) → HistIs W g h (M.count V n)) := Lib.hid fun W h1 h2 => by
    refine ⟨?_, ⟨es2, clock2, h2, HE2.out⟩, hgood.out⟩
    rw [h1, ← eY, ← eU, ← eK, ← eB, ← eT, Hm.count_tot]
    rfl
  have HBLK := Lib.hid s.blk
  have HEL := Lib.hid (And.intro eL (And.intro eH eD))
  clear s hgood hb E hput E2 eC eI eK eN eU eY eL eH eD hbk hb1 hk ht hg
  go_enter Tryz.func45, Tryz.ntmps45
  go_upto_region 11 with fail
  go_region_held3 (fun w' => w'.cell? ⟨g, 7, none⟩ = some (.map (some h)))
    (first | (go_split_ands; assumption) | exact c7 | exact f9.cell (by assumption) (fun h => h))
    (first | (go_at_call 72; ((with_reducible refine (HI.out _ (Fr.drew _ _)).mono ?_); rintro _ w2 ⟨rfl, f9⟩; have F2 := Lib.hid ((Fr.drew S0 w).trans0 f9); have b2 := F2.out.row HMP.out (fun h => h); have l2 := HLK.out w2 b2; have u2 := HPUT.out w2 _ rfl b2; obtain ⟨W3, hW3⟩ : ∃ W, setBlock w2 h (.map es2 clock2) = W := ⟨_, rfl⟩; rw [hW3] at u2; have HW3 := Lib.hid (show Fr (fun k => k = g ∨ k = h) w W3 ∧ W3.heap[h]? = some (.map es2 clock2) ∧ W3.heap[g]? = w.heap[g]? from by rw [← hW3]; have q := fr_setMap (o' := .map es2 clock2) b2; exact ⟨(F2.out.mono fun _ _ h => h.elim).trans q.2 (fun _ _ h => .inr h), q.1, (q.2.block g (Nat.lt_of_lt_of_le hS.out.lt F2.out.size) hne).trans (F2.out.block g hS.out.lt fun h => h)⟩); have k7 : W3.cell? ⟨g, 7, none⟩ = some (.map (some h)) := (World.cell?_of_block HW3.out.2.2).trans c7; clear hW3 b2)))
  all_goals
    have BLK3 := HW3.out.2.2.trans HBLK.out
    rw [eB, eT] at BLK3
    have c8 : W3.cell? ⟨g, 8, none⟩ = some (.int .u64 (T : Nat)) := by simp [World.cell?, BLK3]
    have z8 : W3.frozen? ⟨g, 8, none⟩ = false := by simp [World.frozen?, BLK3]
    have HB3 := Lib.hid BLK3
    clear BLK3
    go_upto_region 14 with fail
    obtain ⟨W4, hW4⟩ : ∃ W, W3.setCell ⟨g, 8, none⟩ (.int .u64 (U : Nat)) = W := ⟨_, rfl⟩
    rw [hW4]
    have BLK4 : W4.heap[g]? = some (.cells #[.int .i64 (M.L : Nat), .int .i64 (M.H : Nat), .int .i64 (M.D : Nat), .int .i64 (M.u : Nat), .int .i64 (M.m : Nat), .bool M.gr, .int .i64 (B : Nat), .map (some h), .int .u64 (U : Nat)] 61 (0, 0)) := by
      rw [← hW4, heap_setCell_same _ g 8 _ _ _ HB3.out]
      rfl
    have HF4 : Hid (Fr (· = g) W3 W4) := Lib.hid (hW4 ▸ fr_cell _)
    have c6 : W4.cell? ⟨g, 6, none⟩ = some (.int .i64 (B : Nat)) := by simp [World.cell?, BLK4]
    have m4 : MapIs W4 g (L : Nat) (H : Nat) (D : Nat) M.u M.m := .of BLK4 (by rw [← HEL.out.1]; rfl) (by rw [← HEL.out.2.1]; rfl) (by rw [← HEL.out.2.2]; rfl) rfl rfl hS.out.good.m5.1 hS.out.good.m5.2 hS.out.good.s
    have HB4 := Lib.hid BLK4
    clear BLK4 hW4 c8 z8
    have m4' := m4.drewN 1
    have HM4 := Lib.hid m4'
    clear m4 m4'
    go_region_law (go_simp; go_at_call 30; refine (HB.out _ HM4.out).mono ?_; rintro e w5 ⟨rfl, f9⟩; have F5 := Lib.hid ((Fr.drew S0 W4).trans0 f9); have z6 : w5.frozen? ⟨g, 6, none⟩ = false := (by simp [World.frozen?, F5.out.row HB4.out (fun h => h)]); have d6 := F5.out.cell c6 (fun h => h); clear f9; dsimp only)
    all_goals
      go_end0
      refine ⟨rfl, HEND.out _ ?_ ?_, ?_⟩
      · rw [heap_setCell_same _ g 6 _ _ _ (F5.out.row HB4.out fun h => h)]
        rfl
      · have hlt3 := (Array.getElem?_eq_some_iff.1 HW3.out.2.1).1
        rw [((fr_cell (.int .i64 (Y : Nat))).block h (Nat.lt_of_lt_of_le hlt3 (Nat.le_trans HF4.out.size F5.out.size)) fun e => hne e.symm), F5.out.block h (Nat.lt_of_lt_of_le hlt3 HF4.out.size) (fun h => h), HF4.out.block h hlt3 fun e => hne e.symm]
        exact HW3.out.2.1
      · exact ((HW3.out.1.trans HF4.out fun _ _ h => .inl h).trans0 F5.out).trans (fr_cell _) fun _ _ h => .inl h
theorem xrecord_any (v : Int) (n : Nat) (hv0 : -9223372036854775808 ≤ v) (hv : v ≤ 9223372036854775807) (hn : n < 18446744073709551616) :
    Calls Tryz.prog 27 #[.pointer (some ⟨g, 0, none⟩), .int .i64 v, .int .u64 (n : Nat)] w fun e w' => e = .returned (.int .i64 (M.check v n : Nat)) ∧ HistIs w' g h (M.record v n) ∧ Fr (fun k => k = g ∨ k = h) w w' := by
  have HC := Lib.hid (xcheck_any g h M w s v n hv0 hv hn)
  have HS := Lib.hid s
  unfold Hm.record
  by_cases hE : M.check v n = 0
  · rw [if_pos hE]
    obtain ⟨h1, h2, h3, h4⟩ := s.good.of_check hE
    obtain ⟨V, rfl⟩ : ∃ V : Nat, v = V := ⟨v.toNat, by omega⟩
    rw [show ((V : Nat) : Int).toNat = V by omega]
    have HA := Lib.hid (fun W (f : Fr S0 w W) => xadd_any g h M W (HS.out.fr0 f) V n (by omega) h1 h4 fun hg => by have := h3 hg; omega)
    rw [hE] at HC ⊢
    clear s hE h1 h2 h3 h4
    go_enter Tryz.func27, Tryz.ntmps27
    go_wp2_with fail
    refine HC.out.mono ?_
    rintro e w1 ⟨rfl, f1⟩
    have F1 := Lib.hid f1
    clear f1
    go_wp2_with fail
    refine (HA.out _ F1.out).mono ?_
    rintro e w2 ⟨rfl, s2, f2⟩
    have H2 := Lib.hid (And.intro s2 ((F1.out.mono fun _ _ h => h.elim).trans f2 fun _ _ h => h))
    clear s2 f2
    go_wp2_with fail
    go_ret
    exact ⟨rfl, H2.out⟩
  · rw [if_neg hE]
    obtain ⟨E, eE⟩ : ∃ E, M.check v n = E := ⟨_, rfl⟩
    rw [eE] at HC hE ⊢
    have hne : ((E : Int) == 0) = false := by rw [beq_eq_false_iff_ne]; omega
    clear s eE
    go_enter Tryz.func27, Tryz.ntmps27
    go_wp2_with fail
    refine HC.out.mono ?_
    rintro e w1 ⟨rfl, f1⟩
    have F1 := Lib.hid f1
    clear f1
    go_wp2_with fail
    go_ret
    exact ⟨rfl, HS.out.fr0 F1.out, F1.out.mono fun _ _ h => h.elim⟩
end
end Go.Proofs.YtnndgpggjlhhpaaGreat
