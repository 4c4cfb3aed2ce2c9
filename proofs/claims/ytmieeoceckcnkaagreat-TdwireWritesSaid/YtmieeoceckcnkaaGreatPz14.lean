/- RgPress -/
import Derived.Test.YtmieeoceckcnkaaGreatPz1
import Derived.Test.YtmieeoceckcnkaaGreatPz2
import Derived.Test.YtmieeoceckcnkaaGreatPz3
import Derived.Test.YtmieeoceckcnkaaGreatPz4
import Derived.Test.YtmieeoceckcnkaaGreatPz5
import Derived.Test.YtmieeoceckcnkaaGreatPz6
import Derived.Test.YtmieeoceckcnkaaGreatPz7
import Derived.Test.YtmieeoceckcnkaaGreatPz10
import Derived.Test.YtmieeoceckcnkaaGreatPz11
import Derived.Test.YtmieeoceckcnkaaGreatPz12
import Derived.Test.YtmieeoceckcnkaaGreatPz13
import Derived.BigRegion
import Derived.BigQuiet
import Derived.Deep.RegionHeld3
import Derived.Lib.AppendZerosOnto
import Derived.Lib.SliceRun
import Derived.Lib.Walk
import Derived.StillTailTactics
import Derived.Deep.RegionLaw
import Derived.Maps.AppendAt
import Derived.Laws.AppendOwnNone
import Derived.Laws.OwnMore
import Derived.Laws.Externs
import Derived.Shelf.Spec.BitsCarry
import Derived.Deep.CutBlock
import Derived.Deep.CutRange
import Derived.Deep.DeepCutAuto
import Derived.Lib.BitFns
import Derived.Shelf.Small.Bits
import Derived.Shelf.Strconv.Itoa0
import Derived.Shelf.Bits.Mul64
import Derived.Test.YtmieeoceckcnkaaGreatRows
import Derived.WalkKit
import Derived.WalkSpells
import Derived.WalkLawsBesides
import Derived.Deep.QuietTactic
import Derived.RegionTactic
import Derived.Deep.AppendLies
import Derived.Laws.ResultCell
import Derived.Laws.EntriesVeiled
import Derived.Lib.Hide
import Derived.Laws.BytesArg
import Derived.Lib.SlBytesConst
set_option maxRecDepth 100000
set_option maxHeartbeats 8000000
namespace Go.Proofs.YtmieeoceckcnkaaGreat
open Go.RowKit
section
variable (d : Nat) (lo hi : Int) (p : Option Addr) (n c : Nat) (l : List Tm) (w : World)
theorem rpressed_any (h : Sl w p n c l) (hN : n ≤ 500000000000) (hd : d ≤ 1000) (hf : ∀ t ∈ l, Fit lo hi t) (h1 : -9223372036854775808 ≤ lo) (h2 : hi ≤ 9223372036854775807) (ht : wts l ≤ 281474976710656) :
    Calls Tryz.prog 43 #[.int .i64 (d : Nat), .slice p n c] w fun e w' => ∃ v k, e = .returned v ∧ Acc 76 w w' v k (press d l) := by
  have HSO := Lib.hid (rsort_any p n c l w h hN)
  have HTT := Lib.hid (fun q m e W (hs : Sl W q m e (srt l)) => rtotal_any q m e (srt l) W hs (by rw [srt_wts]; omega))
  have HRUN := Lib.hid (fun i => run_inv (lo := lo) (hi := hi) d (wts l) h1 ((srt l).take i) (ris_take (srt_ris _) i) (fun t ht => srt_fit hf t (List.mem_of_mem_take ht)))
  have HRIS : Hid (Ris (srt l)) := Lib.hid (srt_ris l)
  have HFIT := Lib.hid (srt_fit hf)
  have HTOT : Hid (wts (srt l) = wts l) := Lib.hid (srt_wts _)
  have HP : Hid (press d l = (run d (wts l) (srt l)).1) := Lib.hid rfl
  have HMAY := Lib.hid (fun L V W (h : L + V ≤ wts l) => rmay_any d (wts l) L V W hd ht h)
  have HB := Lib.hid (And.intro (And.intro h1 h2) ht)
  have hlen := h.len
  obtain ⟨M, eM⟩ : ∃ M, srt l = M := ⟨_, rfl⟩
  rw [eM] at HSO HTT HRUN HFIT HTOT HP HRIS
  obtain ⟨T, eT⟩ : ∃ T, wts l = T := ⟨_, rfl⟩
  rw [eT] at HRUN HTOT HMAY HB HP
  have hNb := Lib.hid hN
  rw [HTOT.out] at HTT
  clear h hf h1 h2 ht eM eT hlen
  go_enter Tryz.func43, Tryz.ntmps43
  go_wp2_with fail
  refine HSO.out.mono ?_
  rintro e w2 ⟨v2, rfl, a2⟩
  obtain ⟨q2, d2, rfl, hs2⟩ := a2.sl
  have S2 := Lib.hid hs2
  have F2 := Lib.hid a2.fr
  clear a2 hs2 HSO
  go_wp2_with fail
  refine (HTT.out _ _ _ _ S2.out).mono ?_
  rintro e w3 ⟨rfl, rfl⟩
  clear HTT
  go_wp2_with fail
  go_loopw [7, 8, 9, 10] (fun o dn i _ wr => ∃ (j k : Nat), j ≤ n ∧ i = .int .i64 j ∧ k ≤ j ∧ (0 < j → 0 < k) ∧ dn = .int .u64 ((run d T (M.take j)).2 : Nat) ∧ Hid (Acc 76 w2 wr o k (run d T (M.take j)).1)) (fun _ _ i _ _ => n - (intOf i).toNat)
  case atStart => exact ⟨0, 0, by omega, rfl, by omega, by omega, rfl, Lib.hid (Acc.nil (Fr.refl _ _))⟩
  case round =>
    obtain ⟨j, k, hj, rfl, hkj, hk0, rfl, hacc⟩ := hrel
    have hNN := hNb.out
    by_cases hjn : (j : Int) < (n : Int)
    · have hjl : j < M.length := by rw [S2.out.len]; omega
      obtain ⟨b, o, rfl, c0, c1⟩ := (S2.out.fr0 hacc.out.fr).at j hjl
      have HLC := Lib.hid (fun W (f : Fr S0 w2 W) => (S2.out.fr0 f).at j hjl)
      have HST := Lib.hid (run_take (d := d) (n := T) hjl)
      have hfit := HFIT.out _ (List.getElem_mem hjl)
      obtain ⟨hinv, hinb⟩ := HRUN.out j
      obtain ⟨ht1, -⟩ := wts_take M j hjl
      have ht2 := wts_take_le M (j + 1)
      rw [HTOT.out] at ht2
      have hord : ∀ z ∈ M.take j, z.1 ≤ M[j].1 := by
        have hr := ris_take HRIS.out (j + 1)
        rw [List.take_succ_eq_append_getElem hjl] at hr
        exact fun z hz => (List.pairwise_append.1 hr).2.2 z hz _ (List.mem_singleton.2 rfl)
      obtain ⟨⟨tv, tn⟩, ht⟩ : ∃ t, M[j] = t := ⟨_, rfl⟩
      rw [ht] at c0 c1 HST hfit ht1 hord HLC
      simp only at c0 c1 ht1 hord HLC
      have HLC2 : Hid (∀ W, Fr S0 w2 W → W.cell? ⟨b, o + j * 2, none⟩ = some (.int .i64 tv) ∧ W.cell? ⟨b, o + j * 2 + 1, none⟩ = some (.int .u64 (tn : Nat))) := Lib.hid fun W f => by
        obtain ⟨b', o', hp, x0, x1⟩ := HLC.out W f
        simp only [Option.some.injEq, Addr.mk.injEq] at hp
        obtain ⟨rfl, rfl, -⟩ := hp
        exact ⟨x0, x1⟩
      obtain ⟨⟨O, L⟩, hr⟩ : ∃ s, run d T (M.take j) = s := ⟨_, rfl⟩
      rw [hr] at hacc HST hinv hinb ⊢
      simp only at hacc hinb
      have hsum : wts O + tn ≤ T := by have := hinv.sum; simp only at this; omega
      have htot := HB.out.2
      have hR1 : Hid (Room (k + 1)) := Lib.hid (Room.mk (by omega))
      obtain ⟨pv, cv, rfl⟩ := slFormN hacc.out.own
      have HA2 := hacc
      have hkN : k ≤ n := by omega
      rcases last_or O with rfl | ⟨I, ⟨qv, qn⟩, rfl⟩
      · obtain rfl : k = 0 := by have := hacc.out.len; simpa using this.symm
        obtain rfl : j = 0 := by omega
        have HE : Hid (run d T (M.take (0 + 1)) = ([(tv, tn)], L)) := Lib.hid HST.out
        clear hr HST hfit hinv hinb ht1 ht2 ht hsum htot hacc hkN hord HLC
        rw [Nat.zero_mul, Nat.add_zero] at c0 c1
        replace hjn : (0 : Int) < (n : Int) := hjn
        go_wp2_with (at_builtin; refine app_one elAm (.tmp 23) (.tmp 28) rfl HA2.out.own rfl rfl rfl rfl rfl (one_pr tv tn) hR1.out ?_; intro g1 cap1 w3 hown hgrow hat hlt; have HA3 := Lib.hid (HA2.out.app hown hgrow hat); clear hown hgrow hat hlt)
        go_roundw
        case rel => exact ⟨0 + 1, 0 + 1, by omega, by go_num, by omega, by omega, by rw [HE.out], by rw [HE.out]; exact HA3⟩
        case measure => simp [intOf]; omega
      · obtain ⟨K, rfl⟩ : ∃ K, k = K + 1 := ⟨k - 1, by have := hacc.out.len; simp at this; omega⟩
        have hj0 : j ≠ 0 := by omega
        have hj0i : ((j : Int) == 0) = false := by rw [beq_eq_false_iff_ne]; omega
        obtain ⟨r, c9, hpv, hr1, hr2, hcel, hset⟩ := hacc.out.last
        simp only [Value.slice.injEq, true_and] at hpv
        obtain ⟨rfl, rfl⟩ := hpv
        have HCEL := Lib.hid (fun W (f : Fr S0 wr W) => hcel W (HA2.out.fr0 f))
        have HSET := Lib.hid hset
        have HCL := Lib.hid (fun W (f : Fr S0 wr W) => And.intro f (And.intro (HCEL.out W f).1 (And.intro (HCEL.out W f).2.1 (HLC2.out W (hacc.out.fr.trans0 f)))))
        have hqf : Fit lo hi (qv, qn) := hinv.fit _ (by simp)
        have hqt : qv ≤ tv := hinb (qv, qn) (by simp) tv hord
        have hdone := hinv.done
        simp only [List.dropLast_concat] at hdone
        have hLq : wts (I ++ [(qv, qn)]) = L + qn := by rw [wts_app, ← hdone]; simp [wts]
        rw [hLq] at hsum
        have hqn : qn < 18446744073709551616 := by omega
        have htn : tn < 18446744073709551616 := by omega
        have hq0 : 0 < qn + tn := by have h9 : 0 < qn := hqf.n; omega
        have hqs : qn + tn < 18446744073709551616 := by omega
        obtain ⟨V, eV⟩ : ∃ V, qn + tn = V := ⟨_, rfl⟩
        have iV : (qn : Int) + (tn : Int) = (V : Int) := by omega
        have wV : IntKind.u64.wrap (V : Int) = (V : Int) := by rw [IntKind.wrap_u64]; omega
        have HWI := Lib.hid (fun W => ravg_any qv tv qn tn W (hqf.ok HB.out.1.1 HB.out.1.2 hqn) (hfit.ok HB.out.1.1 HB.out.1.2 htn) hqt hqs hq0)
        have HMY := Lib.hid (fun W => HMAY.out L V W (by omega))
        obtain ⟨Z, eZ⟩ : ∃ Z, may d T L V = Z := ⟨_, rfl⟩
        rw [eZ] at HMY
        obtain ⟨A, eA⟩ : ∃ A, avm (qv, qn) (tv, tn) = A := ⟨_, rfl⟩
        rw [eA] at HWI
        have HE : Hid (run d T (M.take (j + 1)) = if Z then (I ++ [(A, V)], L) else (I ++ [(qv, qn)] ++ [(tv, tn)], L + qn)) := Lib.hid (by rw [HST.out, stp_snoc]; simp only [eV, eZ, join, eA])
        have iL : (L : Int) + (qn : Int) = ((L + qn : Nat) : Int) := by omega
        obtain ⟨L2, eL2⟩ : ∃ L2, L + qn = L2 := ⟨_, rfl⟩
        rw [eL2] at HE iL
        have hL2 : (L2 : Int) ≤ 281474976710656 := by omega
        have hKi : (0 : Int) ≤ (K : Int) := by omega
        have hKN : (K : Int) < (K : Int) + 1 := by omega
        have hKb : K ≤ 500000000000 := by omega
        obtain ⟨a0, a1, a2, a3⟩ := HCEL.out _ (Fr.refl _ _)
        have HF2 := Lib.hid hacc.out.fr
        clear hr HST hfit hinv hinb ht1 ht2 ht hsum htot hacc hcel hset hqf hdone hLq eV eZ eA eL2 hqn htn hq0 hqs hqt hord HLC
        cases Z with
        | true =>
          rw [if_pos rfl] at HE
          go_wp2_with fail
          go_region_held3 (fun w' => w'.cell? ⟨r, K * 2 + 1, none⟩ = some (.int .u64 (qn : Nat)) ∧ w'.cell? ⟨b, o + j * 2 + 1, none⟩ = some (.int .u64 (tn : Nat)))
            (first
              | exact And.intro (HCEL.out _ G1.out).2.1 (HLC2.out _ (HF2.out.trans0 G1.out)).2
              | exact And.intro (HCEL.out _ (Fr.drew S0 _)).2.1 (HLC2.out _ (HF2.out.trans0 (Fr.drew S0 _))).2
              | exact And.intro (HCEL.out _ (Fr.refl S0 _)).2.1 (HLC2.out _ HF2.out).2
              | fail)
            (first
              | (go_at_call 64; ((with_reducible refine (HMY.out _).mono ?_); rintro _ w3 ⟨rfl, f⟩; have G1 := Lib.hid ((Fr.drew S0 _).trans0 f); clear f))
              | fail)
          clear a0 a1 a2 a3 c0 c1
          obtain ⟨a0, a1, a2, a3⟩ := HCEL.out _ G1.out
          obtain ⟨c0, c1⟩ := HLC2.out _ (HF2.out.trans0 G1.out)
          go_wp2_with fail
          refine wp_region_noPanic ?_
          refine wp_region_end (S := fun w' => Fr S0 wr w' ∧ w'.cell? ⟨r, K * 2, none⟩ = some (.int .i64 qv) ∧ w'.cell? ⟨r, K * 2 + 1, none⟩ = some (.int .u64 (qn : Nat)) ∧ w'.cell? ⟨b, o + j * 2, none⟩ = some (.int .i64 tv) ∧ w'.cell? ⟨b, o + j * 2 + 1, none⟩ = some (.int .u64 (tn : Nat))) 36 (by kernel_rfl) (HCL.out _ (G1.out.trans0 (Fr.drew S0 _))) (fun hHeld0 => ?_)
          refine wpAnyE_take (i := 0) (oi := Oper.mk (some 48) _ _ _ _ _) (v := ?_) rfl (by as_aux_lemma => kernel_rfl) (by as_aux_lemma => kernel_rfl) (by as_aux_lemma => kernel_rfl) (by as_aux_lemma => kernel_rfl) (fun _ _ _ h => h) (Or.inl ⟨by rfl, ?_⟩) (by assumption) ?_
          rotate_left
          · (intro w hSw; obtain ⟨hf, h0, h1, h2, h3⟩ := hSw; go_simp <;> with_reducible rfl)
          simp only [Act.put, List.setIfInBounds_toArray, List.set_cons_zero, List.set_cons_succ]
          refine wpAnyE_take (i := 1) (oi := Oper.mk (some 49) _ _ _ _ _) (v := ?_) rfl (by as_aux_lemma => kernel_rfl) (by as_aux_lemma => kernel_rfl) (by as_aux_lemma => kernel_rfl) (by as_aux_lemma => kernel_rfl) (fun _ _ _ h => h) (Or.inl ⟨by rfl, ?_⟩) (by assumption) ?_
          rotate_left
          · (intro w hSw; obtain ⟨hf, h0, h1, h2, h3⟩ := hSw; go_simp <;> with_reducible rfl)
          simp only [Act.put, List.setIfInBounds_toArray, List.set_cons_zero, List.set_cons_succ]
          refine wpAnyE_take (i := 2) (oi := Oper.mk (some 50) _ _ _ _ _) (v := ?_) rfl (by as_aux_lemma => kernel_rfl) (by as_aux_lemma => kernel_rfl) (by as_aux_lemma => kernel_rfl) (by as_aux_lemma => kernel_rfl) (fun _ _ _ h => h) (Or.inl ⟨by rfl, ?_⟩) (by assumption) ?_
          rotate_left
          · (intro w hSw; obtain ⟨hf, h0, h1, h2, h3⟩ := hSw; go_simp <;> with_reducible rfl)
          simp only [Act.put, List.setIfInBounds_toArray, List.set_cons_zero, List.set_cons_succ]
          refine wpAnyE_take (i := 3) (oi := Oper.mk (some 51) _ _ _ _ _) (v := ?_) rfl (by as_aux_lemma => kernel_rfl) (by as_aux_lemma => kernel_rfl) (by as_aux_lemma => kernel_rfl) (by as_aux_lemma => kernel_rfl) (fun _ _ _ h => h) (Or.inl ⟨by rfl, ?_⟩) (by assumption) ?_
          rotate_left
          · (intro w hSw; obtain ⟨hf, h0, h1, h2, h3⟩ := hSw; go_simp <;> with_reducible rfl)
          simp only [Act.put, List.setIfInBounds_toArray, List.set_cons_zero, List.set_cons_succ]
          refine wpAnyE_take (i := 4) (oi := Oper.mk (some 52) _ _ _ _ _) (v := ?_) rfl (by as_aux_lemma => kernel_rfl) (by as_aux_lemma => kernel_rfl) (by as_aux_lemma => kernel_rfl) (by as_aux_lemma => kernel_rfl) (fun _ _ _ h => h) (Or.inl ⟨by rfl, ?_⟩) (by assumption) ?_
          rotate_left
          · (intro w hSw; obtain ⟨hf, h0, h1, h2, h3⟩ := hSw; go_simp <;> with_reducible rfl)
          simp only [Act.put, List.setIfInBounds_toArray, List.set_cons_zero, List.set_cons_succ]
          refine wpAnyE_take (i := 5) (oi := Oper.mk (some 53) _ _ _ _ _) (v := ?_) rfl (by as_aux_lemma => kernel_rfl) (by as_aux_lemma => kernel_rfl) (by as_aux_lemma => kernel_rfl) (by as_aux_lemma => kernel_rfl) (fun _ _ _ h => h) (Or.inl ⟨by rfl, ?_⟩) (by assumption) ?_
          rotate_left
          · (intro w hSw; obtain ⟨hf, h0, h1, h2, h3⟩ := hSw; go_simp <;> with_reducible rfl)
          simp only [Act.put, List.setIfInBounds_toArray, List.set_cons_zero, List.set_cons_succ]
          refine wpAnyE_take (i := 6) (oi := Oper.mk (some 54) _ _ _ _ _) (v := ?_) rfl (by as_aux_lemma => kernel_rfl) (by as_aux_lemma => kernel_rfl) (by as_aux_lemma => kernel_rfl) (by as_aux_lemma => kernel_rfl) (fun _ _ _ h => h) (Or.inl ⟨by rfl, ?_⟩) (by assumption) ?_
          rotate_left
          · (intro w hSw; obtain ⟨hf, h0, h1, h2, h3⟩ := hSw; go_simp <;> with_reducible rfl)
          simp only [Act.put, List.setIfInBounds_toArray, List.set_cons_zero, List.set_cons_succ]
          refine wpAnyE_take (i := 7) (oi := Oper.mk (some 55) _ _ _ _ _) (v := ?_) rfl (by as_aux_lemma => kernel_rfl) (by as_aux_lemma => kernel_rfl) (by as_aux_lemma => kernel_rfl) (by as_aux_lemma => kernel_rfl) (fun _ _ _ h => h) (Or.inl ⟨by rfl, ?_⟩) (by assumption) ?_
          rotate_left
          · (intro w hSw; obtain ⟨hf, h0, h1, h2, h3⟩ := hSw; go_simp <;> with_reducible rfl)
          simp only [Act.put, List.setIfInBounds_toArray, List.set_cons_zero, List.set_cons_succ]
          refine wpAnyE_take (i := 8) (oi := Oper.mk (some 56) _ _ _ _ _) (v := ?_) rfl (by as_aux_lemma => kernel_rfl) (by as_aux_lemma => kernel_rfl) (by as_aux_lemma => kernel_rfl) (by as_aux_lemma => kernel_rfl) (fun _ _ _ h => h) (Or.inl ⟨by rfl, ?_⟩) (by assumption) ?_
          rotate_left
          · (intro w hSw; obtain ⟨hf, h0, h1, h2, h3⟩ := hSw; go_simp <;> with_reducible rfl)
          simp only [Act.put, List.setIfInBounds_toArray, List.set_cons_zero, List.set_cons_succ]
          refine wpAnyE_take (i := 9) (oi := Oper.mk (some 57) _ _ _ _ _) (v := ?_) rfl (by as_aux_lemma => kernel_rfl) (by as_aux_lemma => kernel_rfl) (by as_aux_lemma => kernel_rfl) (by as_aux_lemma => kernel_rfl) (fun _ _ _ h => h) (Or.inl ⟨by rfl, ?_⟩) (by assumption) ?_
          rotate_left
          · (intro w hSw; obtain ⟨hf, h0, h1, h2, h3⟩ := hSw; go_simp <;> with_reducible rfl)
          simp only [Act.put, List.setIfInBounds_toArray, List.set_cons_zero, List.set_cons_succ]
          refine wpAnyE_take (i := 10) (oi := Oper.mk (some 58) _ _ _ _ _) (v := ?_) rfl (by as_aux_lemma => kernel_rfl) (by as_aux_lemma => kernel_rfl) (by as_aux_lemma => kernel_rfl) (by as_aux_lemma => kernel_rfl) (fun _ _ _ h => h) (Or.inl ⟨by rfl, ?_⟩) (by assumption) ?_
          rotate_left
          · (intro w hSw; obtain ⟨hf, h0, h1, h2, h3⟩ := hSw; go_simp <;> with_reducible rfl)
          simp only [Act.put, List.setIfInBounds_toArray, List.set_cons_zero, List.set_cons_succ]
          refine wpAnyE_take (i := 11) (oi := Oper.mk (some 59) _ _ _ _ _) (v := ?_) rfl (by as_aux_lemma => kernel_rfl) (by as_aux_lemma => kernel_rfl) (by as_aux_lemma => kernel_rfl) (by as_aux_lemma => kernel_rfl) (fun _ _ _ h => h) (Or.inl ⟨by rfl, ?_⟩) (by assumption) ?_
          rotate_left
          · (intro w hSw; obtain ⟨hf, h0, h1, h2, h3⟩ := hSw; go_simp <;> with_reducible rfl)
          simp only [Act.put, List.setIfInBounds_toArray, List.set_cons_zero, List.set_cons_succ]
          refine wpAnyE_take (i := 12) (oi := Oper.mk (some 60) _ _ _ _ _) (v := ?_) rfl (by as_aux_lemma => kernel_rfl) (by as_aux_lemma => kernel_rfl) (by as_aux_lemma => kernel_rfl) (by as_aux_lemma => kernel_rfl) (fun _ _ _ h => h) (Or.inl ⟨by rfl, ?_⟩) (by assumption) ?_
          rotate_left
          · (intro w hSw; obtain ⟨hf, h0, h1, h2, h3⟩ := hSw; go_simp <;> with_reducible rfl)
          simp only [Act.put, List.setIfInBounds_toArray, List.set_cons_zero, List.set_cons_succ]
          refine wpAnyE_take (i := 13) (oi := Oper.mk (some 61) _ _ _ _ _) (v := ?_) rfl (by as_aux_lemma => kernel_rfl) (by as_aux_lemma => kernel_rfl) (by as_aux_lemma => kernel_rfl) (by as_aux_lemma => kernel_rfl) (fun _ _ _ h => h) (Or.inl ⟨by rfl, ?_⟩) (by assumption) ?_
          rotate_left
          · (intro w hSw; obtain ⟨hf, h0, h1, h2, h3⟩ := hSw; go_simp <;> with_reducible rfl)
          simp only [Act.put, List.setIfInBounds_toArray, List.set_cons_zero, List.set_cons_succ]
          refine wpAnyE_take (i := 14) (oi := Oper.mk (some 62) _ _ _ _ _) (v := ?_) rfl (by as_aux_lemma => kernel_rfl) (by as_aux_lemma => kernel_rfl) (by as_aux_lemma => kernel_rfl) (by as_aux_lemma => kernel_rfl) (fun _ _ _ h => h) (Or.inl ⟨by rfl, ?_⟩) (by assumption) ?_
          rotate_left
          · (intro w hSw; obtain ⟨hf, h0, h1, h2, h3⟩ := hSw; go_simp <;> with_reducible rfl)
          simp only [Act.put, List.setIfInBounds_toArray, List.set_cons_zero, List.set_cons_succ]
          refine wpAnyE_take (i := 15) (oi := Oper.mk (some 63) _ _ _ _ _) (v := ?_) rfl (by as_aux_lemma => kernel_rfl) (by as_aux_lemma => kernel_rfl) (by as_aux_lemma => kernel_rfl) (by as_aux_lemma => kernel_rfl) (fun _ _ _ h => h) (Or.inl ⟨by rfl, ?_⟩) (by assumption) ?_
          rotate_left
          · (intro w hSw; obtain ⟨hf, h0, h1, h2, h3⟩ := hSw; go_simp <;> with_reducible rfl)
          simp only [Act.put, List.setIfInBounds_toArray, List.set_cons_zero, List.set_cons_succ]
          refine wpAnyE_take (i := 16) (oi := Oper.mk (some 64) _ _ _ _ _) (v := ?_) rfl (by as_aux_lemma => kernel_rfl) (by as_aux_lemma => kernel_rfl) (by as_aux_lemma => kernel_rfl) (by as_aux_lemma => kernel_rfl) (fun _ _ _ h => h) (Or.inl ⟨by rfl, ?_⟩) (by assumption) ?_
          rotate_left
          · (intro w hSw; obtain ⟨hf, h0, h1, h2, h3⟩ := hSw; go_simp <;> with_reducible rfl)
          simp only [Act.put, List.setIfInBounds_toArray, List.set_cons_zero, List.set_cons_succ]
          refine wpAnyE_take (i := 17) (oi := Oper.mk (some 65) _ _ _ _ _) (v := ?_) rfl (by as_aux_lemma => kernel_rfl) (by as_aux_lemma => kernel_rfl) (by as_aux_lemma => kernel_rfl) (by as_aux_lemma => kernel_rfl) (fun _ _ _ h => h) (Or.inl ⟨by rfl, ?_⟩) (by assumption) ?_
          rotate_left
          · (intro w hSw; obtain ⟨hf, h0, h1, h2, h3⟩ := hSw; go_simp <;> with_reducible rfl)
          simp only [Act.put, List.setIfInBounds_toArray, List.set_cons_zero, List.set_cons_succ]
          refine wpAnyE_take (i := 18) (oi := Oper.mk (some 66) _ _ _ _ _) (v := ?_) rfl (by as_aux_lemma => kernel_rfl) (by as_aux_lemma => kernel_rfl) (by as_aux_lemma => kernel_rfl) (by as_aux_lemma => kernel_rfl) (fun _ _ _ h => h) (Or.inl ⟨by rfl, ?_⟩) (by assumption) ?_
          rotate_left
          · (intro w hSw; obtain ⟨hf, h0, h1, h2, h3⟩ := hSw; go_simp <;> with_reducible rfl)
          simp only [Act.put, List.setIfInBounds_toArray, List.set_cons_zero, List.set_cons_succ]
          refine wpAnyE_take (i := 19) (oi := Oper.mk (some 67) _ _ _ _ _) (v := ?_) rfl (by as_aux_lemma => kernel_rfl) (by as_aux_lemma => kernel_rfl) (by as_aux_lemma => kernel_rfl) (by as_aux_lemma => kernel_rfl) (fun _ _ _ h => h) (Or.inl ⟨by rfl, ?_⟩) (by assumption) ?_
          rotate_left
          · (intro w hSw; obtain ⟨hf, h0, h1, h2, h3⟩ := hSw; go_simp <;> with_reducible rfl)
          simp only [Act.put, List.setIfInBounds_toArray, List.set_cons_zero, List.set_cons_succ]
          refine wpAnyE_take (i := 20) (oi := Oper.mk (some 68) _ _ _ _ _) (v := ?_) rfl (by as_aux_lemma => kernel_rfl) (by as_aux_lemma => kernel_rfl) (by as_aux_lemma => kernel_rfl) (by as_aux_lemma => kernel_rfl) (fun _ _ _ h => h) (Or.inl ⟨by rfl, ?_⟩) (by assumption) ?_
          rotate_left
          · (intro w hSw; obtain ⟨hf, h0, h1, h2, h3⟩ := hSw; go_simp <;> with_reducible rfl)
          simp only [Act.put, List.setIfInBounds_toArray, List.set_cons_zero, List.set_cons_succ]
          refine wpAnyE_take (i := 21) (oi := Oper.mk (some 69) _ _ _ _ _) (v := ?_) rfl (by as_aux_lemma => kernel_rfl) (by as_aux_lemma => kernel_rfl) (by as_aux_lemma => kernel_rfl) (by as_aux_lemma => kernel_rfl) (fun _ _ _ h => h) (Or.inl ⟨by rfl, ?_⟩) (by assumption) ?_
          rotate_left
          · (intro w hSw; obtain ⟨hf, h0, h1, h2, h3⟩ := hSw; go_simp <;> with_reducible rfl)
          simp only [Act.put, List.setIfInBounds_toArray, List.set_cons_zero, List.set_cons_succ]
          refine wpAnyE_take (i := 23) (oi := Oper.mk (some 71) _ _ _ _ _) (v := ?_) rfl (by as_aux_lemma => kernel_rfl) (by as_aux_lemma => kernel_rfl) (by as_aux_lemma => kernel_rfl) (by as_aux_lemma => kernel_rfl) (fun _ _ _ h => h) (Or.inl ⟨by rfl, ?_⟩) (by assumption) ?_
          rotate_left
          · (intro w hSw; obtain ⟨hf, h0, h1, h2, h3⟩ := hSw; go_simp <;> with_reducible rfl)
          simp only [Act.put, List.setIfInBounds_toArray, List.set_cons_zero, List.set_cons_succ]
          refine wpAnyE_take (i := 24) (oi := Oper.mk (some 72) _ _ _ _ _) (v := ?_) rfl (by as_aux_lemma => kernel_rfl) (by as_aux_lemma => kernel_rfl) (by as_aux_lemma => kernel_rfl) (by as_aux_lemma => kernel_rfl) (fun _ _ _ h => h) (Or.inl ⟨by rfl, ?_⟩) (by assumption) ?_
          rotate_left
          · (intro w hSw; obtain ⟨hf, h0, h1, h2, h3⟩ := hSw; go_simp <;> with_reducible rfl)
          simp only [Act.put, List.setIfInBounds_toArray, List.set_cons_zero, List.set_cons_succ]
          refine wpAnyE_take (i := 25) (oi := Oper.mk (some 73) _ _ _ _ _) (v := ?_) rfl (by as_aux_lemma => kernel_rfl) (by as_aux_lemma => kernel_rfl) (by as_aux_lemma => kernel_rfl) (by as_aux_lemma => kernel_rfl) (fun _ _ _ h => h) (Or.inl ⟨by rfl, ?_⟩) (by assumption) ?_
          rotate_left
          · (intro w hSw; obtain ⟨hf, h0, h1, h2, h3⟩ := hSw; go_simp <;> with_reducible rfl)
          simp only [Act.put, List.setIfInBounds_toArray, List.set_cons_zero, List.set_cons_succ]
          refine wpAnyE_take (i := 26) (oi := Oper.mk (some 74) _ _ _ _ _) (v := ?_) rfl (by as_aux_lemma => kernel_rfl) (by as_aux_lemma => kernel_rfl) (by as_aux_lemma => kernel_rfl) (by as_aux_lemma => kernel_rfl) (fun _ _ _ h => h) (Or.inl ⟨by rfl, ?_⟩) (by assumption) ?_
          rotate_left
          · (intro w hSw; obtain ⟨hf, h0, h1, h2, h3⟩ := hSw; go_simp <;> with_reducible rfl)
          simp only [Act.put, List.setIfInBounds_toArray, List.set_cons_zero, List.set_cons_succ]
          refine wpAnyE_take (i := 27) (oi := Oper.mk (some 75) _ _ _ _ _) (v := ?_) rfl (by as_aux_lemma => kernel_rfl) (by as_aux_lemma => kernel_rfl) (by as_aux_lemma => kernel_rfl) (by as_aux_lemma => kernel_rfl) (fun _ _ _ h => h) (Or.inl ⟨by rfl, ?_⟩) (by assumption) ?_
          rotate_left
          · (intro w hSw; obtain ⟨hf, h0, h1, h2, h3⟩ := hSw; go_simp <;> with_reducible rfl)
          simp only [Act.put, List.setIfInBounds_toArray, List.set_cons_zero, List.set_cons_succ]
          refine wpAnyE_take (i := 28) (oi := Oper.mk (some 76) _ _ _ _ _) (v := ?_) rfl (by as_aux_lemma => kernel_rfl) (by as_aux_lemma => kernel_rfl) (by as_aux_lemma => kernel_rfl) (by as_aux_lemma => kernel_rfl) (fun _ _ _ h => h) (Or.inl ⟨by rfl, ?_⟩) (by assumption) ?_
          rotate_left
          · (intro w hSw; obtain ⟨hf, h0, h1, h2, h3⟩ := hSw; go_simp <;> with_reducible rfl)
          simp only [Act.put, List.setIfInBounds_toArray, List.set_cons_zero, List.set_cons_succ]
          refine wpAnyE_take (i := 29) (oi := Oper.mk (some 77) _ _ _ _ _) (v := ?_) rfl (by as_aux_lemma => kernel_rfl) (by as_aux_lemma => kernel_rfl) (by as_aux_lemma => kernel_rfl) (by as_aux_lemma => kernel_rfl) (fun _ _ _ h => h) (Or.inl ⟨by rfl, ?_⟩) (by assumption) ?_
          rotate_left
          · (intro w hSw; obtain ⟨hf, h0, h1, h2, h3⟩ := hSw; go_simp <;> with_reducible rfl)
          simp only [Act.put, List.setIfInBounds_toArray, List.set_cons_zero, List.set_cons_succ]
          refine wpAnyE_take (i := 30) (oi := Oper.mk (some 78) _ _ _ _ _) (v := ?_) rfl (by as_aux_lemma => kernel_rfl) (by as_aux_lemma => kernel_rfl) (by as_aux_lemma => kernel_rfl) (by as_aux_lemma => kernel_rfl) (fun _ _ _ h => h) (Or.inl ⟨by rfl, ?_⟩) (by assumption) ?_
          rotate_left
          · (intro w hSw; obtain ⟨hf, h0, h1, h2, h3⟩ := hSw; go_simp <;> with_reducible rfl)
          simp only [Act.put, List.setIfInBounds_toArray, List.set_cons_zero, List.set_cons_succ]
          refine wpAnyE_take (i := 31) (oi := Oper.mk (some 79) _ _ _ _ _) (v := ?_) rfl (by as_aux_lemma => kernel_rfl) (by as_aux_lemma => kernel_rfl) (by as_aux_lemma => kernel_rfl) (by as_aux_lemma => kernel_rfl) (fun _ _ _ h => h) (Or.inl ⟨by rfl, ?_⟩) (by assumption) ?_
          rotate_left
          · (intro w hSw; obtain ⟨hf, h0, h1, h2, h3⟩ := hSw; go_simp <;> with_reducible rfl)
          simp only [Act.put, List.setIfInBounds_toArray, List.set_cons_zero, List.set_cons_succ]
          refine wpAnyE_take (i := 32) (oi := Oper.mk (some 80) _ _ _ _ _) (v := ?_) rfl (by as_aux_lemma => kernel_rfl) (by as_aux_lemma => kernel_rfl) (by as_aux_lemma => kernel_rfl) (by as_aux_lemma => kernel_rfl) (fun _ _ _ h => h) (Or.inl ⟨by rfl, ?_⟩) (by assumption) ?_
          rotate_left
          · (intro w hSw; obtain ⟨hf, h0, h1, h2, h3⟩ := hSw; go_simp <;> with_reducible rfl)
          simp only [Act.put, List.setIfInBounds_toArray, List.set_cons_zero, List.set_cons_succ]
          refine wpAnyE_take (i := 33) (oi := Oper.mk (some 81) _ _ _ _ _) (v := ?_) rfl (by as_aux_lemma => kernel_rfl) (by as_aux_lemma => kernel_rfl) (by as_aux_lemma => kernel_rfl) (by as_aux_lemma => kernel_rfl) (fun _ _ _ h => h) (Or.inl ⟨by rfl, ?_⟩) (by assumption) ?_
          rotate_left
          · (intro w hSw; obtain ⟨hf, h0, h1, h2, h3⟩ := hSw; go_simp <;> with_reducible rfl)
          simp only [Act.put, List.setIfInBounds_toArray, List.set_cons_zero, List.set_cons_succ]
          refine wpAnyE_one (i := 22) (o := Oper.mk (some 70) _ _ _ _ _) (by kernel_rfl) (by decide) rfl (fun K' hK => ?_)
          go_simp
          go_at_call 65
          refine (HWI.out _).mono ?_
          rintro _ v22 ⟨rfl, f⟩
          refine hK.out _ _ (HCL.out _ (hHeld0.1.trans0 f)) (fun hHeld1 => ?_)
          clear hK K' hHeld0 f
          try simp only [Act.put, List.setIfInBounds_toArray, List.set_cons_zero, List.set_cons_succ]
          refine wpAnyE_take (i := 34) (oi := Oper.mk (some 82) _ _ _ _ _) (v := ?_) rfl (by as_aux_lemma => kernel_rfl) (by as_aux_lemma => kernel_rfl) (by as_aux_lemma => kernel_rfl) (by as_aux_lemma => kernel_rfl) (fun _ _ _ h => h) (Or.inl ⟨by rfl, ?_⟩) (by assumption) ?_
          rotate_left
          · (intro w hSw; obtain ⟨hf, h0, h1, h2, h3⟩ := hSw; go_simp <;> with_reducible rfl)
          simp only [Act.put, List.setIfInBounds_toArray, List.set_cons_zero, List.set_cons_succ]
          refine wpAnyE_take (i := 35) (oi := Oper.mk (some 83) _ _ _ _ _) (v := ?_) rfl (by as_aux_lemma => kernel_rfl) (by as_aux_lemma => kernel_rfl) (by as_aux_lemma => kernel_rfl) (by as_aux_lemma => kernel_rfl) (fun _ _ _ h => h) (Or.inl ⟨by rfl, ?_⟩) (by assumption) ?_
          rotate_left
          · (intro w hSw; obtain ⟨hf, h0, h1, h2, h3⟩ := hSw; go_simp <;> with_reducible rfl)
          simp only [Act.put, List.setIfInBounds_toArray, List.set_cons_zero, List.set_cons_succ]
          obtain ⟨e0, e1, e2, e3⟩ := HCEL.out _ hHeld1.1
          have HAS := Lib.hid (HSET.out v22 A V (HA2.out.fr0 hHeld1.1))
          clear hHeld1
          refine wpAnyE_last (o := Oper.mk none _ _ _ _ _) (by kernel_rfl) (by kernel_rfl) rfl (fun K' hK => ?_)
          go_simp
          refine hK.out _ _ ?_
          clear hK K'
          refine NoPanic.normal ?_
          all_goals
            go_wp2_with fail
            go_roundw
            case rel => exact ⟨j + 1, K + 1, by omega, by go_num, by omega, by omega, by rw [HE.out], by rw [HE.out]; exact HAS⟩
            case measure => simp [intOf]; omega
        | false =>
          rw [if_neg (by decide)] at HE
          go_wp2_with fail
          go_region_held3 (fun w' => w'.cell? ⟨r, K * 2 + 1, none⟩ = some (.int .u64 (qn : Nat)) ∧ w'.cell? ⟨b, o + j * 2 + 1, none⟩ = some (.int .u64 (tn : Nat)))
            (first
              | exact And.intro (HCEL.out _ G1.out).2.1 (HLC2.out _ (HF2.out.trans0 G1.out)).2
              | exact And.intro (HCEL.out _ (Fr.drew S0 _)).2.1 (HLC2.out _ (HF2.out.trans0 (Fr.drew S0 _))).2
              | exact And.intro (HCEL.out _ (Fr.refl S0 _)).2.1 (HLC2.out _ HF2.out).2
              | fail)
            (first
              | (go_at_call 64; ((with_reducible refine (HMY.out _).mono ?_); rintro _ w3 ⟨rfl, f⟩; have G1 := Lib.hid ((Fr.drew S0 _).trans0 f); clear f))
              | fail)
          clear a0 a1 a2 a3 c0 c1
          obtain ⟨a0, a1, a2, a3⟩ := HCEL.out _ G1.out
          obtain ⟨c0, c1⟩ := HLC2.out _ (HF2.out.trans0 G1.out)
          have HA5 := Lib.hid (HA2.out.fr0 G1.out)
          go_wp2_with (at_builtin; refine app_one elAm (.tmp 91) (.tmp 96) rfl HA5.out.own rfl rfl rfl rfl rfl (one_pr tv tn) hR1.out ?_; intro g1 cap1 w3 hown hgrow hat hlt; have HA3 := Lib.hid (HA5.out.app hown hgrow hat); clear hown hgrow hat hlt)
          go_roundw
          case rel => exact ⟨j + 1, K + 1 + 1, by omega, by go_num, by omega, by omega, by rw [HE.out], by rw [HE.out]; exact HA3⟩
          case measure => simp [intOf]; omega
    · obtain rfl : j = n := by omega
      have HE : Hid (M.take j = M) := Lib.hid (by rw [← S2.out.len]; exact List.take_length)
      obtain ⟨pv, cv, rfl⟩ := slFormN hacc.out.own
      go_wp2_with fail
      go_ret
      refine ⟨_, rfl, k, ?_⟩
      have h9 := hacc.out.from F2.out
      rw [HE.out, ← HP.out] at h9
      exact h9
end
end Go.Proofs.YtmieeoceckcnkaaGreat
