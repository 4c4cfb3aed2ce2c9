/- The landed histograms: their blocks; which cell a value has; what lies in cells of their own; how much room is left. -/
import Derived.Test.YthfcfmnaiopogaaGreatHrMp
import Derived.Test.YthfcfmnaiopogaaGreatHrMath
import Derived.Test.YthfcfmnaiopogaaGreatHmAll
import Derived.Test.YthfcfmnaiopogaaGreatRegCalls
namespace Go.Proofs.YthfcfmnaiopogaaGreat
open Go.RowKit Go.ChangeMaps

/-- block g is the histogram M, its counts lie in block h -/
structure HistIs (w : World) (g h : Nat) (M : Hm) : Prop where
  blk : w.heap[g]? = some (.cells #[.int .i64 (M.L : Nat), .int .i64 (M.H : Nat), .int .i64 (M.D : Nat), .int .i64 (M.u : Nat), .int .i64 (M.m : Nat), .bool M.gr, .int .i64 (M.b : Nat), .map (some h), .int .u64 (ltot M.l : Nat)] 110 (0, 0))
  mp : MpI w h M.l
  good : M.Good
section
variable {w w' : World} {g h : Nat} {M : Hm}
theorem HistIs.ne (s : HistIs w g h M) : g ≠ h := fun e => by
  obtain ⟨es, clock, hb, -⟩ := s.mp
  have := s.blk
  rw [e, hb] at this
  cases this
theorem HistIs.fr {S : Nat → Prop} (s : HistIs w g h M) (f : Fr S w w') (hg : ¬ S g) (hh : ¬ S h) : HistIs w' g h M := ⟨f.row s.blk hg, s.mp.fr f hh, s.good⟩
theorem HistIs.fr0 (s : HistIs w g h M) (f : Fr S0 w w') : HistIs w' g h M := s.fr f (fun h => h) fun h => h
theorem HistIs.lt (s : HistIs w g h M) : g < w.heap.size := (Array.getElem?_eq_some_iff.1 s.blk).1
theorem HistIs.map (s : HistIs w g h M) : MapIs w g (M.L : Nat) (M.H : Nat) (M.D : Nat) M.u M.m := .of s.blk rfl rfl rfl rfl rfl s.good.m5.1 s.good.m5.2 s.good.s
theorem HistIs.c1 (s : HistIs w g h M) : w.cell? ⟨g, 1, none⟩ = some (.int .i64 (M.H : Nat)) := by simp [World.cell?, s.blk]
theorem HistIs.c5 (s : HistIs w g h M) : w.cell? ⟨g, 5, none⟩ = some (.bool M.gr) := by simp [World.cell?, s.blk]
theorem HistIs.c6 (s : HistIs w g h M) : w.cell? ⟨g, 6, none⟩ = some (.int .i64 (M.b : Nat)) := by simp [World.cell?, s.blk]
theorem HistIs.c7 (s : HistIs w g h M) : w.cell? ⟨g, 7, none⟩ = some (.map (some h)) := by simp [World.cell?, s.blk]
theorem HistIs.c8 (s : HistIs w g h M) : w.cell? ⟨g, 8, none⟩ = some (.int .u64 (ltot M.l : Nat)) := by simp [World.cell?, s.blk]
theorem HistIs.z (s : HistIs w g h M) (k : Nat) : w.frozen? ⟨g, k, none⟩ = false := by simp [World.frozen?, s.blk]
end

section
variable (g h : Nat) (M : Hm) (w : World) (s : HistIs w g h M)
include s
set_option maxRecDepth 100000 in
set_option maxHeartbeats 400000 in
theorem xshape_any : Calls Tryz.prog 56 #[.pointer (some ⟨g, 0, none⟩)] w fun e w' => e = .returned (.agg #[.int .i64 (M.L : Nat), .int .i64 (M.H : Nat), .int .i64 (M.D : Nat)]) ∧ Fr S0 w w' := by
  have HS := Lib.hid (fun W (f : Fr S0 w W) => shape_any g (M.L : Nat) (M.H : Nat) (M.D : Nat) M.u M.m W (s.map.fr0 f))
  obtain ⟨L, eL⟩ : ∃ L, M.L = L := ⟨_, rfl⟩
  obtain ⟨H, eH⟩ : ∃ H, M.H = H := ⟨_, rfl⟩
  obtain ⟨D, eD⟩ : ∃ D, M.D = D := ⟨_, rfl⟩
  rw [eL, eH, eD] at HS
  rw [eL, eH, eD]
  obtain ⟨A, hA⟩ : ∃ A : Array Value, #[.int .i64 (L : Nat), .int .i64 (H : Nat), .int .i64 (D : Nat)] = A := ⟨_, rfl⟩
  have hsz : A.size = 3 := by rw [← hA]; rfl
  have hone : A.all (·.oneCell') = true := by rw [← hA]; simp [Value.oneCell']
  rw [hA] at HS
  rw [hA]
  have HSZ := Lib.hid hsz
  clear s eL eH eD hA hsz
  go_enter Tryz.func56, Tryz.ntmps56
  go_wp2_with fail
  refine (HS.out _ (Fr.alloc _ _ _)).mono ?_
  rintro e w1 ⟨rfl, f1⟩
  have F1 := Lib.hid f1
  have HG := Lib.hid (f1.row (heap_alloc_new w _) fun h => h)
  clear f1
  go_wp2_with (first | (refine store_at 30 _ _ rfl rfl rfl rfl HG.out (by rw [HSZ.out]; kernel_rfl) HSZ.out.symm hone ?_; intro w2 hg2 f2))
  have F2 := (((Fr.alloc (fun k => k = w.heap.size) w _).trans0 F1.out).trans f2 (fun _ _ h => h))
  exact bodyPost_ret (v := .agg A) (results_row rfl _ _ rfl hg2 Tryz.underlying30 rfl (by rw [HSZ.out]; kernel_rfl)) rfl ⟨rfl, F2.mono fun j hj e => by have : j = w.heap.size := e; omega⟩
set_option maxRecDepth 100000 in
set_option maxHeartbeats 400000 in
theorem xgrows_any : Calls Tryz.prog 57 #[.pointer (some ⟨g, 0, none⟩)] w fun e w' => e = .returned (.bool M.gr) ∧ Fr S0 w w' := by
  have c5 := s.c5
  clear s
  go_enter Tryz.func57, Tryz.ntmps57
  go_wp2_with fail
  go_ret
  exact ⟨rfl, Fr.refl _ _⟩
set_option maxRecDepth 100000 in
set_option maxHeartbeats 400000 in
theorem xbuckets_any : Calls Tryz.prog 36 #[.pointer (some ⟨g, 0, none⟩)] w fun e w' => e = .returned (.int .i64 (M.b : Nat)) ∧ Fr S0 w w' := by
  have c6 := s.c6
  clear s
  go_enter Tryz.func36, Tryz.ntmps36
  go_wp2_with fail
  go_ret
  exact ⟨rfl, Fr.refl _ _⟩
set_option maxRecDepth 100000 in
set_option maxHeartbeats 400000 in
theorem xtotal_any : Calls Tryz.prog 31 #[.pointer (some ⟨g, 0, none⟩)] w fun e w' => e = .returned (.int .u64 (ltot M.l : Nat)) ∧ Fr S0 w w' := by
  have c8 := s.c8
  clear s
  go_enter Tryz.func31, Tryz.ntmps31
  go_wp2_with fail
  go_ret
  exact ⟨rfl, Fr.refl _ _⟩
set_option maxRecDepth 100000 in
set_option maxHeartbeats 400000 in
theorem xroom_any : Calls Tryz.prog 62 #[.pointer (some ⟨g, 0, none⟩)] w fun e w' => e = .returned (.int .u64 (4611686018427387904 - ltot M.l : Nat)) ∧ w' = w := by
  have c8 := s.c8
  have ht := s.good.tot
  obtain ⟨T, eT⟩ : ∃ T, ltot M.l = T := ⟨_, rfl⟩
  obtain ⟨R, eR⟩ : ∃ R, 4611686018427387904 - T = R := ⟨_, rfl⟩
  rw [eT] at c8 ht
  rw [eT, eR]
  have e1 : (4611686018427387904 : Int) - (T : Int) = (R : Int) := by omega
  have w1 : IntKind.u64.wrap (R : Int) = (R : Int) := by rw [IntKind.wrap_u64]; omega
  clear s eT eR
  go_enter Tryz.func62, Tryz.ntmps62
  go_wp2_with fail
  go_ret
  exact ⟨rfl, rfl⟩
set_option maxRecDepth 100000 in
set_option maxHeartbeats 400000 in
theorem xindex_any (v : Int) (hv : v < 9223372036854775808) : Calls Tryz.prog 73 #[.pointer (some ⟨g, 0, none⟩), .int .i64 v] w fun e w' => e = .returned (.int .i64 (idx M.u M.m v.toNat : Nat)) ∧ Fr S0 w w' := by
  obtain ⟨V, eV⟩ : ∃ V, v.toNat = V := ⟨_, rfl⟩
  have HI := Lib.hid (fun W (f : Fr S0 w W) => index_any g (M.L : Nat) (M.H : Nat) (M.D : Nat) M.u M.m W (s.map.fr0 f) V (by omega))
  obtain ⟨I, eI⟩ : ∃ I, idx M.u M.m V = I := ⟨_, rfl⟩
  rw [eI] at HI
  rw [eV, eI]
  have em : max v 0 = (V : Int) := by omega
  have em2 : (if v < 0 then 0 else v) = (V : Int) := by split <;> omega
  clear s eV eI
  go_enter Tryz.func73, Tryz.ntmps73
  go_wp2_with fail
  refine (HI.out _ (Fr.refl _ _)).mono ?_
  rintro e w1 ⟨rfl, f1⟩
  have F1 := Lib.hid f1
  clear f1
  go_wp2_with fail
  go_ret
  exact ⟨rfl, F1.out⟩
set_option maxRecDepth 100000 in
set_option maxHeartbeats 400000 in
theorem xreach_any : Calls Tryz.prog 52 #[.pointer (some ⟨g, 0, none⟩)] w fun e w' => e = .returned (.int .i64 (M.reach : Nat)) ∧ Fr S0 w w' := by
  have HS := Lib.hid (xshape_any g h M w s)
  have HB := Lib.hid (fun W (f : Fr S0 w W) => buckets_any g (M.L : Nat) (M.H : Nat) (M.D : Nat) M.u M.m W (s.map.fr0 f) (M.H : Nat) (by have := s.good.hh; omega))
  have HT := Lib.hid (fun W (f : Fr S0 w W) => top_any g (M.L : Nat) (M.H : Nat) (M.D : Nat) M.u M.m W (s.map.fr0 f) (M.b : Nat))
  have hbd := s.good.b1
  have hb2 := s.good.b2
  have HC := Lib.hid (fun W (f : Fr S0 w W) => (s.fr0 f).c6)
  rw [show cntB (M.b : Nat) = M.b by unfold cntB; omega] at HT
  rw [show ((M.H : Nat) : Int).toNat = M.H by omega] at HB
  unfold Hm.reach Hm.first
  obtain ⟨F, eF⟩ : ∃ F, 1 + bkt (M.u + M.m) M.H = F := ⟨_, rfl⟩
  obtain ⟨T, eT⟩ : ∃ T, top M.u M.m M.b = T := ⟨_, rfl⟩
  rw [eF] at HB ⊢
  rw [eT] at HT ⊢
  obtain ⟨B, eB⟩ : ∃ B, M.b = B := ⟨_, rfl⟩
  obtain ⟨H, eH⟩ : ∃ H, M.H = H := ⟨_, rfl⟩
  obtain ⟨L, eL⟩ : ∃ L, M.L = L := ⟨_, rfl⟩
  obtain ⟨D, eD⟩ : ∃ D, M.D = D := ⟨_, rfl⟩
  rw [eB] at HT HC ⊢
  rw [eH] at HB HS ⊢
  rw [eL, eD] at HS
  clear s hbd hb2 eF eT eB eH eL eD
  have hfield : ∀ W, (Instr.field 30 (.agg #[.int .i64 (L : Nat), .int .i64 (H : Nat), .int .i64 (D : Nat)]) 1).run Tryz.prog W = .ok (.int .i64 (H : Nat)) W := fun W => by kernel_rfl
  by_cases hBF : B = F
  · rw [if_pos hBF]
    subst hBF
    go_enter Tryz.func52, Tryz.ntmps52
    go_wp2_with fail
    refine HS.out.mono ?_
    rintro e w1 ⟨rfl, f1⟩
    have F1 := Lib.hid f1
    have HC1 := Lib.hid (And.intro (HC.out _ f1) f1)
    clear f1
    go_upto_region 10 with fail
    go_region_held3 (fun w' => w'.cell? ⟨g, 6, none⟩ = some (.int .i64 (B : Nat)) ∧ Fr S0 w w')
      (first | (go_split_ands; exact ⟨by assumption, by assumption⟩) | exact ⟨HC1.out.1, HC1.out.2.trans0 (Fr.drew _ _)⟩ | (go_split_ands; exact ⟨f9.cell (by assumption) (fun h => h), Fr.trans0 (by assumption) f9⟩))
      (first | (go_at_call 93; ((with_reducible refine (HB.out _ (by go_split_ands; assumption)).mono ?_); rintro _ w2 ⟨rfl, f9⟩; have F2 := Lib.hid f9)))
    all_goals
      go_wp2_with fail
      go_ret
      exact ⟨rfl, (F1.out.trans0 (Fr.drew _ _)).trans0 F2.out⟩
  · rw [if_neg hBF]
    have hne : ((B : Int) == (F : Int)) = false := by rw [beq_eq_false_iff_ne]; omega
    go_enter Tryz.func52, Tryz.ntmps52
    go_wp2_with fail
    refine HS.out.mono ?_
    rintro e w1 ⟨rfl, f1⟩
    have F1 := Lib.hid f1
    have HC1 := Lib.hid (And.intro (HC.out _ f1) f1)
    clear f1
    go_upto_region 10 with fail
    go_region_held3 (fun w' => w'.cell? ⟨g, 6, none⟩ = some (.int .i64 (B : Nat)) ∧ Fr S0 w w')
      (first | (go_split_ands; exact ⟨by assumption, by assumption⟩) | exact ⟨HC1.out.1, HC1.out.2.trans0 (Fr.drew _ _)⟩ | (go_split_ands; exact ⟨f9.cell (by assumption) (fun h => h), Fr.trans0 (by assumption) f9⟩))
      (first | (go_at_call 93; ((with_reducible refine (HB.out _ (by go_split_ands; assumption)).mono ?_); rintro _ w2 ⟨rfl, f9⟩; have F2 := Lib.hid ((F1.out.trans0 (Fr.drew _ _)).trans0 f9))))
    have HC2 := Lib.hid (And.intro (HC.out _ F2.out) F2.out)
    go_upto_region 9 with fail
    go_region_held3 (fun w' => w'.cell? ⟨g, 6, none⟩ = some (.int .i64 (B : Nat)) ∧ Fr S0 w w')
      (first | (go_split_ands; exact ⟨by assumption, by assumption⟩) | exact ⟨HC2.out.1, HC2.out.2.trans0 (Fr.drew _ _)⟩ | (go_split_ands; exact ⟨f9.cell (by assumption) (fun h => h), Fr.trans0 (by assumption) f9⟩))
      (first | (go_at_call 98; ((with_reducible refine (HT.out _ (by go_split_ands; assumption)).mono ?_); rintro _ w3 ⟨rfl, f9⟩; have F3 := Lib.hid f9)))
    all_goals
      go_wp2_with fail
      go_ret
      exact ⟨rfl, (F2.out.trans0 (Fr.drew _ _)).trans0 F3.out⟩
end
end Go.Proofs.YthfcfmnaiopogaaGreat
