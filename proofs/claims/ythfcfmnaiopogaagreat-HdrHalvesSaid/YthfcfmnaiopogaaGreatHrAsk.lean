/- The landed histograms: Count, Between, Share. -/
import Derived.Test.YthfcfmnaiopogaaGreatHrCor
import Derived.Test.YthfcfmnaiopogaaGreatRkAll
namespace Go.Proofs.YthfcfmnaiopogaaGreat
open Go.RowKit Go.ChangeMaps

theorem btw_perm {l l' : List Pr} (h : l.Perm l') (a b : Int) : btw l a b = btw l' a b := by
  induction h with
  | nil => rfl
  | cons x _ ih => simp only [btw, ih]
  | swap x y l => simp only [btw]; omega
  | trans _ _ ih1 ih2 => exact ih1.trans ih2
theorem ltot_perm {l l' : List Pr} (h : l.Perm l') : ltot l = ltot l' := by
  induction h with
  | nil => rfl
  | cons x _ ih => simp only [ltot, ih]
  | swap x y l => simp only [ltot]; omega
  | trans _ _ ih1 ih2 => exact ih1.trans ih2

section
variable (g h : Nat) (M : Hm) (w : World) (s : HistIs w g h M)
include s
omit s in
set_option maxRecDepth 100000 in
set_option maxHeartbeats 400000 in
theorem xcount_neg (v : Int) (hv : v < 0) : Calls Tryz.prog 30 #[.pointer (some ⟨g, 0, none⟩), .int .i64 v] w fun e w' => e = .returned (.int .u64 0) ∧ Fr S0 w w' := by
  go_enter Tryz.func30, Tryz.ntmps30
  go_wp2_with fail
  go_ret
  exact ⟨rfl, Fr.refl _ _⟩
set_option maxRecDepth 100000 in
set_option maxHeartbeats 400000 in
theorem xcount_any (V : Nat) (hV : V < 9223372036854775808) : Calls Tryz.prog 30 #[.pointer (some ⟨g, 0, none⟩), .int .i64 (V : Nat)] w fun e w' => e = .returned (.int .u64 (cnt M.l (idx M.u M.m V : Nat) : Nat)) ∧ Fr S0 w w' := by
  have HI := Lib.hid (fun W (f : Fr S0 w W) => xindex_any g h M W (s.fr0 f) (V : Nat) (by omega))
  rw [show ((V : Nat) : Int).toNat = V by omega] at HI
  have hk := idx_small M.u M.m V s.good.m1 s.good.m5.2 s.good.s hV
  obtain ⟨es, clock, hb, E⟩ := s.mp
  have HLK := Lib.hid (E.look h (idx M.u M.m V : Nat) (by omega))
  have HMP := Lib.hid hb
  have c7 := s.c7
  obtain ⟨C, eC⟩ : ∃ C, cnt M.l (idx M.u M.m V : Nat) = C := ⟨_, rfl⟩
  obtain ⟨I, eI⟩ : ∃ I, idx M.u M.m V = I := ⟨_, rfl⟩
  rw [eC] at HLK ⊢
  rw [eI] at HI HLK
  have hlt : ¬ (V : Int) < 0 := by omega
  clear s hb E eC eI hk
  go_enter Tryz.func30, Tryz.ntmps30
  go_upto_region 9 with fail
  go_region_held3 (fun w' => w'.cell? ⟨g, 7, none⟩ = some (.map (some h)))
    (first | (go_split_ands; assumption) | exact c7 | exact f9.cell (by assumption) (fun h => h))
    (first | (go_at_call 73; ((with_reducible refine (HI.out _ (Fr.drew _ _)).mono ?_); rintro _ w2 ⟨rfl, f9⟩; have F2 := Lib.hid ((Fr.drew S0 w).trans0 f9); have b2 := F2.out.row HMP.out (fun h => h); have l2 := HLK.out w2 b2; clear b2)))
  all_goals
    go_wp2_with fail
    go_ret
    exact ⟨rfl, F2.out⟩
set_option maxRecDepth 100000 in
set_option maxHeartbeats 1000000 in
theorem xbetween_any (v x : Int) (hv : v < 9223372036854775808) (hx : x < 9223372036854775808) : Calls Tryz.prog 29 #[.pointer (some ⟨g, 0, none⟩), .int .i64 v, .int .i64 x] w fun e w' => e = .returned (.int .u64 (M.between v x : Nat)) ∧ Fr S0 w w' := by
  have MP := Lib.hid s.mp
  have HV := Lib.hid (fun W (f : Fr S0 w W) => xindex_any g h M W (s.fr0 f) v hv)
  have HX := Lib.hid (fun W (f : Fr S0 w W) => xindex_any g h M W (s.fr0 f) x hx)
  have HC7 := Lib.hid (fun W (f : Fr S0 w W) => (s.fr0 f).c7)
  have HTOT := Lib.hid s.good.tot
  have HHL := Lib.hid s.mp.lt
  unfold Hm.between
  by_cases hlt : x < v
  · rw [if_pos hlt]
    clear s
    go_enter Tryz.func29, Tryz.ntmps29
    go_wp2_with fail
    go_ret
    exact ⟨rfl, Fr.refl _ _⟩
  · rw [if_neg hlt]
    unfold Hm.cell
    obtain ⟨l, el⟩ : ∃ l, M.l = l := ⟨_, rfl⟩
    obtain ⟨A, eA⟩ : ∃ A, idx M.u M.m v.toNat = A := ⟨_, rfl⟩
    obtain ⟨B, eB⟩ : ∃ B, idx M.u M.m x.toNat = B := ⟨_, rfl⟩
    rw [el] at MP HTOT ⊢
    rw [eA] at HV ⊢
    rw [eB] at HX ⊢
    have HTOT2 := Lib.hid (btw_le l (A : Nat) (B : Nat))
    clear s el eA eB
    go_enter Tryz.func29, Tryz.ntmps29
    go_wp2_with fail
    refine (HV.out _ (Fr.refl _ _)).mono ?_
    rintro e w1 ⟨rfl, f1⟩
    have F1 := Lib.hid f1
    clear f1
    go_wp2_with fail
    refine (HX.out _ F1.out).mono ?_
    rintro e w2 ⟨rfl, f2⟩
    have F2 := Lib.hid (F1.out.trans0 f2)
    have c7 := HC7.out _ F2.out
    clear f2 F1
    go_wp2_with (at_range; refine wpList_range_mp _ rfl _ rfl h l rfl (MP.out.fr F2.out fun h => h) ?_; intro w3 it3 f3; have IT3 := Lib.hid it3; have F3 := Lib.hid f3; clear it3 f3)
    obtain ⟨r, hr⟩ : ∃ r, w2.heap.size = r := ⟨_, rfl⟩
    have HRW : Hid (w.heap.size ≤ r) := Lib.hid (by rw [← hr]; exact F2.out.size)
    rw [hr] at IT3
    rw [hr]
    clear hr
    go_frame
    go_loopw [9] (fun a wr => ∃ (D R : List Pr) (T : Nat), a = .int .u64 (T : Nat) ∧ Hid (T = btw D (A : Nat) (B : Nat)) ∧ Hid (Itr wr r h l D R ∧ Fr S0 w wr)) (fun _ wr => l.length - came wr r)
    case atStart => exact ⟨[], l, 0, rfl, Lib.hid rfl, Lib.hid ⟨IT3.out, F2.out.trans0 F3.out⟩⟩
    case round =>
      obtain ⟨D, R, T, rfl, HT, HK⟩ := hrel
      go_wp2_with (at_next; refine wpList_next_mp _ rfl _ rfl _ _ _ _ _ rfl HK.out.1 ?_ ?_)
      · intro hperm hR
        have HE := Lib.hid (HT.out.trans (btw_perm hperm _ _))
        clear hperm hR
        go_wp2_with fail
        go_ret
        exact ⟨by rw [HE.out]; rfl, HK.out.2⟩
      · intro a b R' w4 hx it4 f4 hen
        have hcm := it4.came
        have hcm0 := HK.out.1.came
        rw [List.length_append, List.length_singleton] at hcm
        have HIT := Lib.hid it4
        have F4 : Hid (Fr S0 w w4) := Lib.hid (HK.out.2.trans f4 fun j hj e => by have h1 := HRW.out; have h2 : j = r := e; omega)
        have HCM := Lib.hid (show came w4 r = came wr r + 1 ∧ came wr r < l.length from ⟨by omega, by omega⟩)
        obtain ⟨es, clock, seen, -, E, -, -, hp, -⟩ := it4
        have hbd := E.bd _ hx
        have htt : T + b ≤ 4611686018427387904 := by
          have h1 := ltot_perm hp
          rw [tot_app, tot_app] at h1
          have h2 := HT.out
          have h3 := btw_le D (A : Nat) (B : Nat)
          have h4 := HTOT.out
          simp only [ltot] at h1
          omega
        simp only at hbd
        obtain ⟨I, rfl⟩ : ∃ I : Nat, a = I := ⟨a.toNat, by omega⟩
        obtain ⟨U, eU⟩ : ∃ U, T + b = U := ⟨_, rfl⟩
        have e1 : (T : Int) + (b : Int) = (U : Int) := by omega
        have w1 : IntKind.u64.wrap (U : Int) = (U : Int) := by rw [IntKind.wrap_u64]; omega
        have HBT : Hid (btw (D ++ [(((I : Nat) : Int), b)]) (A : Nat) (B : Nat) = T + if ((A : Nat) : Int) ≤ (I : Nat) ∧ ((I : Nat) : Int) ≤ (B : Nat) then b else 0) := Lib.hid (by rw [btw_app, HT.out]; simp [btw])
        have HU := Lib.hid eU
        clear hcm hcm0 f4 E hp hx hbd htt eU
        by_cases h1 : A ≤ I
        · have d1 : decide (A ≤ I) = true := decide_eq_true h1
          by_cases h2 : I ≤ B
          · have d2 : decide (I ≤ B) = true := decide_eq_true h2
            go_wp2_with fail
            go_roundw
            case rel => exact ⟨_, R', U, rfl, Lib.hid (by rw [HBT.out, if_pos ⟨by omega, by omega⟩, HU.out]), Lib.hid ⟨HIT.out, F4.out⟩⟩
            case measure =>
              have h3 := HCM.out
              omega
          · have d2 : decide (I ≤ B) = false := decide_eq_false h2
            go_wp2_with fail
            go_roundw
            case rel => exact ⟨_, R', T, rfl, Lib.hid (by rw [HBT.out, if_neg (by omega), Nat.add_zero]), Lib.hid ⟨HIT.out, F4.out⟩⟩
            case measure =>
              have h3 := HCM.out
              omega
        · have d1 : decide (A ≤ I) = false := decide_eq_false h1
          go_wp2_with fail
          go_roundw
          case rel => exact ⟨_, R', T, rfl, Lib.hid (by rw [HBT.out, if_neg (by omega), Nat.add_zero]), Lib.hid ⟨HIT.out, F4.out⟩⟩
          case measure =>
            have h3 := HCM.out
            omega
set_option maxRecDepth 100000 in
set_option maxHeartbeats 1000000 in
theorem xshare_no (v : Int) (h0 : ltot M.l = 0) : Calls Tryz.prog 24 #[.pointer (some ⟨g, 0, none⟩), .int .i64 v] w fun e w' => e = .returned (.tuple #[.int .u64 0, .int .u64 0, .int .i64 8]) ∧ Fr S0 w w' := by
  have c8 := s.c8
  rw [h0] at c8
  clear s h0
  go_enter Tryz.func24, Tryz.ntmps24
  go_wp2_with fail
  refine bodyPost_ret (v := .tuple #[.int .u64 0, .int .u64 0, .int .i64 8]) ?_ rfl ⟨rfl, Fr.refl _ _⟩
  simp [results, Tryz.results24, go_sem]
set_option maxRecDepth 100000 in
set_option maxHeartbeats 1000000 in
theorem xshare_yes (v : Int) (hv : v < 9223372036854775808) (h0 : 0 < ltot M.l) : Calls Tryz.prog 24 #[.pointer (some ⟨g, 0, none⟩), .int .i64 v] w fun e w' => e = .returned (.tuple #[.int .u64 (M.between 0 v / Nat.gcd (M.between 0 v) (ltot M.l) : Nat), .int .u64 (ltot M.l / Nat.gcd (M.between 0 v) (ltot M.l) : Nat), .int .i64 0]) ∧ Fr S0 w w' := by
  have HB := Lib.hid (fun W (f : Fr S0 w W) => xbetween_any g h M W (s.fr0 f) 0 v (by decide) hv)
  have c8 := s.c8
  have htot := s.good.tot
  have hbl : M.between 0 v ≤ ltot M.l := by
    unfold Hm.between
    split
    · omega
    · exact btw_le _ _ _
  have HL := Lib.hid (fun W => least_yes (M.between 0 v) (ltot M.l) W h0 hbl (by omega))
  obtain ⟨T, eT⟩ : ∃ T, ltot M.l = T := ⟨_, rfl⟩
  obtain ⟨K, eK⟩ : ∃ K, M.between 0 v = K := ⟨_, rfl⟩
  rw [eT] at c8 HL h0
  rw [eK] at HB HL
  rw [eT, eK]
  obtain ⟨X, eX⟩ : ∃ X, K / Nat.gcd K T = X := ⟨_, rfl⟩
  obtain ⟨Y, eY⟩ : ∃ Y, T / Nat.gcd K T = Y := ⟨_, rfl⟩
  rw [eX, eY] at HL
  rw [eX, eY]
  have hne : ((T : Int) == 0) = false := by rw [beq_eq_false_iff_ne]; omega
  clear s eT eK eX eY htot hbl h0
  go_enter Tryz.func24, Tryz.ntmps24
  go_upto_region 13 with fail
  go_region_held3 (fun w' => w'.cell? ⟨g, 8, none⟩ = some (.int .u64 (T : Nat)) ∧ Fr S0 w w')
    (first | (go_split_ands; exact ⟨by assumption, by assumption⟩) | exact ⟨c8, Fr.drew _ _⟩ | (go_split_ands; exact ⟨f9.cell (by assumption) (fun h => h), Fr.trans0 (by assumption) f9⟩))
    (first
      | (go_at_call 29; ((with_reducible refine (HB.out _ (by go_split_ands; assumption)).mono ?_); rintro _ w2 ⟨rfl, f9⟩; have F2 := Lib.hid ((Fr.drew S0 w).trans0 f9)))
      | (go_at_call 69; ((with_reducible refine (HL.out _).mono ?_); rintro _ w3 ⟨rfl, f9⟩; have F3 := Lib.hid (F2.out.trans0 f9))))
  all_goals
    go_wp2_with fail
    refine bodyPost_ret (v := .tuple #[.int .u64 (X : Nat), .int .u64 (Y : Nat), .int .i64 0]) ?_ rfl ⟨rfl, F3.out⟩
    simp [results, Tryz.results24, go_sem]
end
end Go.Proofs.YthfcfmnaiopogaaGreat
