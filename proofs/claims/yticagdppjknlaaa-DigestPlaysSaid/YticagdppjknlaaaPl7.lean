/- DgPress, DgPts, DgAround, DgAr2 -/
import Derived.Test.YticagdppjknlaaaPl1
import Derived.Test.YticagdppjknlaaaPl2
import Derived.Test.YticagdppjknlaaaPl3
import Derived.Test.YticagdppjknlaaaPl4
import Derived.Test.YticagdppjknlaaaPl5
import Derived.Test.YticagdppjknlaaaPl6
import Derived.StillTailTactics
import Derived.Deep.RegionLaw
import Derived.Deep.RegionHeld3
import Derived.BigRegion
import Derived.Maps.AppendAt
import Derived.Laws.AppendOwnNone
import Derived.Laws.OwnMore
import Derived.Lib.AppendZerosOnto
import Derived.Lib.SliceRun
import Derived.Lib.Walk
import Derived.Laws.Externs
import Derived.Shelf.Spec.BitsCarry
import Derived.Deep.CutBlock
import Derived.Deep.CutRange
import Derived.Deep.DeepCutAuto
import Derived.Lib.BitFns
import Derived.Shelf.Small.Bits
import Derived.Shelf.Strconv.Itoa0
import Derived.Shelf.Bits.Mul64
import Derived.Test.YticagdppjknlaaaRows
import Derived.WalkKit
import Derived.WalkSpells
import Derived.WalkLawsBesides
import Derived.Deep.QuietTactic
import Derived.BigQuiet
import Derived.RegionTactic
import Derived.Deep.AppendLies
import Derived.Laws.ResultCell
import Derived.Laws.EntriesVeiled
import Derived.Lib.Hide
import Derived.Laws.BytesArg
import Derived.Lib.SlBytesConst
set_option maxRecDepth 100000
set_option maxHeartbeats 8000000
namespace Go.Proofs.Yticagdppjknlaaa
open Go.RowKit
theorem prs_set2 (o : List Tm) (q : Tm) (v : Int) (n K : Nat) (hK : o.length = K) : ((prs (o ++ [q])).set (K * 2) (.int .i64 v)).set (K * 2 + 1) (.int .u64 (n : Int)) = prs (o ++ [(v, n)]) := by
  have hl : (prs o).length = K * 2 := by rw [prs_len, hK]
  rw [prs_app, prs_app, List.set_append_right _ _ (by omega), List.set_append_right _ _ (by omega)]
  rw [hl, Nat.sub_self, Nat.add_sub_cancel_left]
  rfl
theorem Acc.last {e : TypeId} {w W : World} {v : Value} {K : Nat} {o : List Tm} {q : Tm} (h : Acc e w W v (K + 1) (o ++ [q])) : ∃ r c, v = .slice (some ⟨r, 0, none⟩) (K + 1) c ∧ w.heap.size ≤ r ∧ r < W.heap.size ∧
    (∀ W', Acc e w W' v (K + 1) (o ++ [q]) → W'.cell? ⟨r, K * 2, none⟩ = some (.int .i64 q.1) ∧ W'.cell? ⟨r, K * 2 + 1, none⟩ = some (.int .u64 (q.2 : Nat)) ∧ W'.frozen? ⟨r, K * 2, none⟩ = false ∧ W'.frozen? ⟨r, K * 2 + 1, none⟩ = false) ∧
    (∀ W' (x : Int) (n : Nat), Acc e w W' v (K + 1) (o ++ [q]) → Acc e w ((W'.setCell ⟨r, K * 2, none⟩ (.int .i64 x)).setCell ⟨r, K * 2 + 1, none⟩ (.int .u64 (n : Int))) v (K + 1) (o ++ [(x, n)])) := by
  obtain ⟨r, c, rfl⟩ : ∃ r c, v = .slice (some ⟨r, 0, none⟩) (K + 1) c := by
    rcases h.own.2 with ⟨h1, h2⟩ | ⟨g, cap, cur, h1, -⟩
    · omega
    · exact ⟨g, cap, h1⟩
  have hlen := h.len
  simp only [List.length_append, List.length_cons, List.length_nil] at hlen
  have hoK : o.length = K := by omega
  refine ⟨r, c, rfl, h.fresh r rfl, (h.own.lt r rfl).2, fun W' a => ?_, fun W' x n a => ?_⟩
  · have hs := Sl.ofOwns a.own
    obtain ⟨b', o', hp, c0, c1⟩ := hs.at K (by simp; omega)
    simp only [Option.some.injEq, Addr.mk.injEq] at hp
    obtain ⟨rfl, rfl, -⟩ := hp
    have e : (o ++ [q])[K]'(by simp; omega) = q := by
      rw [List.getElem_append_right (by omega)]
      simp
    rw [e, Nat.zero_add] at c0 c1
    exact ⟨c0, c1, a.own.frozenAt _, a.own.frozenAt _⟩
  · have s1 := a.own.stored (K * 2) (.int .i64 x)
    have s2 := s1.1.stored (K * 2 + 1) (.int .u64 (n : Int))
    rw [prs_set2 o q x n K hoK] at s2
    exact ⟨s2.1, a.fresh, (a.fr.append s1.2 fun k hk => by obtain rfl := Option.some.inj hk; exact a.fresh r rfl).append s2.2 fun k hk => by obtain rfl := Option.some.inj hk; exact a.fresh r rfl⟩
theorem Fit.ok {lo hi : Int} {t : Tm} (h : Fit lo hi t) (h1 : -9223372036854775808 ≤ lo) (h2 : hi ≤ 9223372036854775807) (hn : t.2 < 18446744073709551616) : TmOk t := ⟨Int.le_trans h1 h.lo, Int.le_trans h.hi h2, hn⟩
section
variable (g : Nat) (C : Nat → Prop) (p : Option Addr) (n c : Nat) (q : Option Addr) (m e : Nat) (x : Dg) (w : World)
theorem pressed_any (s : DgIs w g C p n c q m e x) (hN : x.all.length ≤ 500000000000) :
    Calls Try.prog 56 #[.pointer (some ⟨g, 0, none⟩)] w fun e w' => ∃ v k, e = .returned v ∧ Acc 103 w w' v k (press x.d x.all) := by
  have hg := s.good
  have hmrg : mrg x.L (srt x.W) = srt x.all := by
    have h := mrg_srt x.L x.W
    rw [srt_of hg.ris] at h
    exact h
  have hLl := s.slL.len
  have hWl := s.slW.len
  have hall : x.all.length = n + m := by unfold Dg.all; rw [List.length_append, hLl, hWl]
  obtain ⟨N, eN⟩ : ∃ N, n + m = N := ⟨_, rfl⟩
  have HSO := Lib.hid (fun W (f : Fr S0 w W) => sorted_any m q e x.W W (s.slW.fr0 f) (by omega))
  have HMG := Lib.hid (fun q' d' W (f : Fr S0 w W) (h : Sl W q' m d' (srt x.W)) => (merged_any p q' n m c d' _ _ W (s.slL.fr0 f) h (by omega)).mono fun e w' (he : ∃ v, e = .returned v ∧ Acc 103 W w' v (n + m) _) => show ∃ p3 c3, e = .returned (.slice p3 N c3) ∧ Sl w' p3 N c3 (srt x.all) ∧ Fr S0 W w' from by
    obtain ⟨v, rfl, ha⟩ := he
    obtain ⟨p3, c3, rfl, hs3⟩ := ha.sl
    rw [hmrg, eN] at hs3
    exact ⟨p3, c3, by rw [eN], hs3, ha.fr⟩)
  have HC := Lib.hid (fun W (f : Fr S0 w W) => And.intro (s.fr0 f).c1 (s.fr0 f).c2)
  have HMAY := Lib.hid (fun L V W (f : Fr S0 w W) (h : L + V ≤ x.tot) => may_any g x.d x.tot L V W (s.fr0 f).c0 (s.fr0 f).c5 hg.d2 hg.tot h)
  have HRUN := Lib.hid (fun i => run_inv (lo := x.lo) (hi := x.hi) x.d x.tot hg.l1 ((srt x.all).take i) (ris_take (srt_ris _) i) (fun t ht => srt_fit hg.fit t (List.mem_of_mem_take ht)))
  have HFIT := Lib.hid (srt_fit hg.fit)
  have HTOT : Hid (wts (srt x.all) = x.tot) := Lib.hid (srt_wts _)
  have HG := Lib.hid hg
  have HP : Hid (press x.d x.all = (run x.d x.tot (srt x.all)).1) := Lib.hid rfl
  obtain ⟨M, eM⟩ : ∃ M, srt x.all = M := ⟨_, rfl⟩
  rw [eM] at HMG HRUN HFIT HTOT HP
  have hNb : N ≤ 500000000000 := by omega
  obtain ⟨k1, k2⟩ := HC.out w (Fr.refl _ _)
  clear s hg hmrg hLl hWl hall eN eM hN
  go_enter Try.func56, Try.ntmps56
  go_wp2_with fail
  go_region_held3 (fun w' => w'.cell? ⟨g, 1, none⟩ = some (.slice p n c) ∧ w'.cell? ⟨g, 2, none⟩ = some (.slice q m e))
    (first
      | exact HC.out _ F2.out
      | exact HC.out _ F1.out
      | exact HC.out _ (Fr.drew S0 _)
      | exact HC.out _ (Fr.refl S0 _)
      | fail)
    (first
      | (go_at_call 84; ((with_reducible refine (HSO.out _ (Fr.drew S0 _)).mono ?_); rintro _ w1 ⟨q1, d1, rfl, s1, f⟩; have F1 := Lib.hid ((Fr.drew S0 w).trans0 f); have S1 := Lib.hid s1; clear f s1))
      | (go_at_call 83; ((with_reducible refine (HMG.out _ _ _ F1.out S1.out).mono ?_); rintro _ w2 ⟨q2, d2, rfl, s2, f⟩; have F2 := Lib.hid (F1.out.trans0 f); have S2 := Lib.hid s2; clear f s2))
      | fail)
  clear HSO HMG k1 k2
  go_wp2_with fail
  go_loopw [3, 4, 19] (fun o dn i wr => ∃ (j k : Nat), j ≤ N ∧ i = .int .i64 j ∧ k ≤ j ∧ dn = .int .u64 ((run x.d x.tot (M.take j)).2 : Nat) ∧ Hid (Acc 103 w2 wr o k (run x.d x.tot (M.take j)).1)) (fun _ _ i _ => N - (intOf i).toNat)
  case atStart => exact ⟨0, 0, by omega, rfl, by omega, rfl, Lib.hid (Acc.nil (Fr.refl _ _))⟩
  case round =>
    obtain ⟨j, k, hj, rfl, hkj, rfl, hacc⟩ := hrel
    by_cases hjN : (j : Int) < (N : Int)
    · have hjl : j < M.length := by rw [S2.out.len]; omega
      obtain ⟨b, o, rfl, c0, c1⟩ := (S2.out.fr0 hacc.out.fr).at j hjl
      have HST := Lib.hid (run_take (d := x.d) (n := x.tot) hjl)
      have hfit := HFIT.out _ (List.getElem_mem hjl)
      obtain ⟨hinv, -⟩ := HRUN.out j
      obtain ⟨ht1, -⟩ := wts_take M j hjl
      have ht2 := wts_take_le M (j + 1)
      rw [HTOT.out] at ht2
      obtain ⟨⟨tv, tn⟩, ht⟩ : ∃ t, M[j] = t := ⟨_, rfl⟩
      rw [ht] at c0 c1 HST hfit ht1
      simp only at c0 c1 ht1
      obtain ⟨⟨O, L⟩, hr⟩ : ∃ s, run x.d x.tot (M.take j) = s := ⟨_, rfl⟩
      rw [hr] at hacc HST hinv ⊢
      simp only at hacc
      have hsum : wts O + tn ≤ x.tot := by have := hinv.sum; simp only at this; omega
      have htot := HG.out.tot
      have hR1 : Hid (Room (k + 1)) := Lib.hid (Room.mk (by omega))
      obtain ⟨pv, cv, rfl⟩ := slFormN hacc.out.own
      have fb : Fr S0 wr (wr.alloc (.cells #[.int .i64 tv, .int .u64 (tn : Int)] 103)) := Fr.alloc _ _ _
      have HA2 := Lib.hid (hacc.out.fr0 fb)
      have hB := heap_alloc_new wr (.cells #[.int .i64 tv, .int .u64 (tn : Int)] 103)
      have HBX := Lib.hid (fun W (f : Fr S0 (wr.alloc (.cells #[.int .i64 tv, .int .u64 (tn : Int)] 103)) W) => two_facts (f.row hB fun h => h))
      obtain ⟨b0, b1, -, -⟩ := HBX.out _ (Fr.refl _ _)
      have hkN : k ≤ N := by omega
      rcases last_or O with rfl | ⟨I, ⟨qv, qn⟩, rfl⟩
      · obtain rfl : k = 0 := by have := hacc.out.len; simpa using this.symm
        have HE : Hid (run x.d x.tot (M.take (j + 1)) = ([(tv, tn)], L)) := Lib.hid HST.out
        clear hr HST hfit hinv ht1 ht2 ht hsum htot hacc fb hB b0 b1 hkN
        go_wp2_with (at_builtin; refine app_one elMn (.tmp 40) (.tmp 42) (size_alloc _ _) HA2.out.own rfl rfl rfl rfl rfl (one_pr tv tn) hR1.out ?_; intro g1 cap1 w3 hown hgrow hat hlt; have HA3 := Lib.hid (HA2.out.app hown hgrow (hat.imp id fun h => h.trans (by rw [size_alloc]))); clear hown hgrow hat hlt)
        go_roundw
        case rel => exact ⟨j + 1, 0 + 1, by omega, by go_num, by omega, by rw [HE.out], by rw [HE.out]; exact HA3⟩
        case measure => simp [intOf]; omega
      · obtain ⟨K, rfl⟩ : ∃ K, k = K + 1 := ⟨k - 1, by have := hacc.out.len; simp at this; omega⟩
        obtain ⟨r, c9, hpv, hr1, hr2, hcel, hset⟩ := hacc.out.last
        simp only [Value.slice.injEq, true_and] at hpv
        obtain ⟨rfl, rfl⟩ := hpv
        have HCEL := Lib.hid (fun W (f : Fr S0 (wr.alloc (.cells #[.int .i64 tv, .int .u64 (tn : Int)] 103)) W) => hcel W (HA2.out.fr0 f))
        have HSET := Lib.hid hset
        have hqf : Fit x.lo x.hi (qv, qn) := hinv.fit _ (by simp)
        have hdone := hinv.done
        simp only [List.dropLast_concat] at hdone
        have hLq : wts (I ++ [(qv, qn)]) = L + qn := by rw [wts_app, ← hdone]; simp [wts]
        rw [hLq] at hsum
        have hqn : qn < 18446744073709551616 := by omega
        have htn : tn < 18446744073709551616 := by omega
        have hq0 : 0 < qn + tn := by have h9 : 0 < qn := hqf.n; omega
        have hqt : qn + tn < 18446744073709551616 := by omega
        obtain ⟨V, eV⟩ : ∃ V, qn + tn = V := ⟨_, rfl⟩
        have iV : (qn : Int) + (tn : Int) = (V : Int) := by omega
        have wV : IntKind.u64.wrap (V : Int) = (V : Int) := by rw [IntKind.wrap_u64]; omega
        have HWI := Lib.hid (fun W => with_any qv tv qn tn W (hqf.ok HG.out.l1 HG.out.h2 hqn) (hfit.ok HG.out.l1 HG.out.h2 htn) hqt hq0)
        have HMY := Lib.hid (fun W (f : Fr S0 (wr.alloc (.cells #[.int .i64 tv, .int .u64 (tn : Int)] 103)) W) => HMAY.out L V W ((F2.out.trans0 HA2.out.fr).trans0 f) (by omega))
        obtain ⟨Z, eZ⟩ : ∃ Z, may x.d x.tot L V = Z := ⟨_, rfl⟩
        rw [eZ] at HMY
        obtain ⟨A, eA⟩ : ∃ A, avm (qv, qn) (tv, tn) = A := ⟨_, rfl⟩
        rw [eA] at HWI
        simp only [eV] at HWI
        have HE : Hid (run x.d x.tot (M.take (j + 1)) = if Z then (I ++ [(A, V)], L) else (I ++ [(qv, qn)] ++ [(tv, tn)], L + qn)) := Lib.hid (by rw [HST.out, stp_snoc]; simp only [eV, eZ, join, eA])
        have iL : (L : Int) + (qn : Int) = ((L + qn : Nat) : Int) := by omega
        obtain ⟨L2, eL2⟩ : ∃ L2, L + qn = L2 := ⟨_, rfl⟩
        rw [eL2] at HE iL
        have hL2 : (L2 : Int) ≤ 281474976710656 := by omega
        have hKi : (0 : Int) ≤ (K : Int) := by omega
        have hKN : (K : Int) < (K : Int) + 1 := by omega
        have hKb : K ≤ 500000000000 := by omega
        obtain ⟨a0, a1, a2, a3⟩ := HCEL.out _ (Fr.refl _ _)
        clear hr HST hfit hinv ht1 ht2 ht hsum htot hacc fb hB hcel hset hqf hdone hLq eV eZ eA eL2 hqn htn hq0 hqt
        cases Z with
        | true =>
          rw [if_pos rfl] at HE
          go_wp2_with fail
          go_region_held3 (fun w' => w'.cell? ⟨r, K * 2 + 1, none⟩ = some (.int .u64 (qn : Nat)) ∧ w'.cell? ⟨wr.heap.size, 1, none⟩ = some (.int .u64 (tn : Nat)))
            (first
              | exact And.intro (HCEL.out _ G1.out).2.1 (HBX.out _ G1.out).2.1
              | exact And.intro (HCEL.out _ (Fr.drew S0 _)).2.1 (HBX.out _ (Fr.drew S0 _)).2.1
              | exact And.intro (HCEL.out _ (Fr.refl S0 _)).2.1 (HBX.out _ (Fr.refl S0 _)).2.1
              | fail)
            (first
              | (go_at_call 85; ((with_reducible refine (HMY.out _ (Fr.drew S0 _)).mono ?_); rintro _ w3 ⟨rfl, f⟩; have G1 := Lib.hid ((Fr.drew S0 _).trans0 f); clear f))
              | fail)
          obtain ⟨a0, a1, a2, a3⟩ := HCEL.out _ G1.out
          obtain ⟨b0, b1, -, -⟩ := HBX.out _ G1.out
          go_wp2_with fail
          go_region_law (first
            | (go_simp; go_at_call 86; (with_reducible refine (HWI.out _).mono ?_); rintro _ w5 ⟨rfl, f5⟩; have G5 := Lib.hid ((G1.out.trans0 (Fr.drew S0 _)).trans0 f5); obtain ⟨e0, e1, e2, e3⟩ := HCEL.out _ G5.out; have HAS := Lib.hid (HSET.out w5 A V (HA2.out.fr0 G5.out)); clear f5; dsimp only))
          all_goals
            go_wp2_with fail
            go_roundw
            case rel => exact ⟨j + 1, K + 1, by omega, by go_num, by omega, by rw [HE.out], by rw [HE.out]; exact HAS⟩
            case measure => simp [intOf]; omega
        | false =>
          rw [if_neg (by decide)] at HE
          go_wp2_with fail
          go_region_held3 (fun w' => w'.cell? ⟨r, K * 2 + 1, none⟩ = some (.int .u64 (qn : Nat)) ∧ w'.cell? ⟨wr.heap.size, 1, none⟩ = some (.int .u64 (tn : Nat)))
            (first
              | exact And.intro (HCEL.out _ G1.out).2.1 (HBX.out _ G1.out).2.1
              | exact And.intro (HCEL.out _ (Fr.drew S0 _)).2.1 (HBX.out _ (Fr.drew S0 _)).2.1
              | exact And.intro (HCEL.out _ (Fr.refl S0 _)).2.1 (HBX.out _ (Fr.refl S0 _)).2.1
              | fail)
            (first
              | (go_at_call 85; ((with_reducible refine (HMY.out _ (Fr.drew S0 _)).mono ?_); rintro _ w3 ⟨rfl, f⟩; have G1 := Lib.hid ((Fr.drew S0 _).trans0 f); clear f))
              | fail)
          obtain ⟨a0, a1, a2, a3⟩ := HCEL.out _ G1.out
          obtain ⟨b0, b1, -, -⟩ := HBX.out _ G1.out
          have HA5 := Lib.hid (HA2.out.fr0 G1.out)
          go_wp2_with (at_builtin; refine app_one elMn (.tmp 33) (.tmp 35) rfl HA5.out.own rfl rfl rfl rfl rfl (one_pr tv tn) hR1.out ?_; intro g1 cap1 w3 hown hgrow hat hlt; have HA3 := Lib.hid (HA5.out.app hown hgrow hat); clear hown hgrow hat hlt)
          go_roundw
          case rel => exact ⟨j + 1, K + 1 + 1, by omega, by go_num, by omega, by rw [HE.out], by rw [HE.out]; exact HA3⟩
          case measure => simp [intOf]; omega
    · obtain rfl : j = N := by omega
      have HE : Hid (M.take j = M) := Lib.hid (by rw [← S2.out.len]; exact List.take_length)
      obtain ⟨pv, cv, rfl⟩ := slFormN hacc.out.own
      go_wp2_with fail
      go_ret
      refine ⟨_, rfl, k, ?_⟩
      have h9 := hacc.out.from F2.out
      rw [HE.out, ← HP.out] at h9
      exact h9
end
end Go.Proofs.Yticagdppjknlaaa

namespace Go.Proofs.Yticagdppjknlaaa
open Go.RowKit
def mids : Nat → List Tm → List Tm
  | _, [] => []
  | L, t :: r => (t.1, 2 * L + t.2) :: mids (L + t.2) r
def Dg.pts (x : Dg) : List Tm := (x.lo, 0) :: (mids 0 (press x.d x.all) ++ [(x.hi, 2 * x.tot)])
theorem mids_snoc (L : Nat) (l : List Tm) (t : Tm) : mids L (l ++ [t]) = mids L l ++ [(t.1, 2 * (L + wts l) + t.2)] := by
  induction l generalizing L with
  | nil => simp [mids, wts]
  | cons y r ih => rw [List.cons_append, mids, ih, mids, wts_cons]; simp; omega
theorem mids_len (L : Nat) (l : List Tm) : (mids L l).length = l.length := by
  induction l generalizing L with
  | nil => rfl
  | cons y r ih => rw [mids, List.length_cons, ih, List.length_cons]
section
variable (g : Nat) (C : Nat → Prop) (p : Option Addr) (n c : Nat) (q : Option Addr) (m e : Nat) (x : Dg) (w : World)
theorem points_any (s : DgIs w g C p n c q m e x) (hN : x.all.length ≤ 500000000000) :
    Calls Try.prog 74 #[.pointer (some ⟨g, 0, none⟩)] w fun e w' => ∃ v k, e = .returned v ∧ Acc 89 w w' v k x.pts := by
  have HPR := Lib.hid (fun W (f : Fr S0 w W) => pressed_any g C p n c q m e x W (s.fr0 f) hN)
  have hlen := press_len x.d s.good.l1 x.all s.good.fit
  have hwts := press_wts x.d s.good.l1 x.all s.good.fit
  have htot := s.good.tot
  have HC := Lib.hid (fun W (f : Fr S0 w W) => And.intro (s.fr0 f).c4 (s.fr0 f).c5)
  have c3 := s.c3
  unfold Dg.pts
  obtain ⟨P, eP⟩ : ∃ P, press x.d x.all = P := ⟨_, rfl⟩
  rw [eP] at HPR hlen hwts ⊢
  obtain ⟨T, eT⟩ : ∃ T, x.tot = T := ⟨_, rfl⟩
  rw [eT] at HC htot ⊢
  have hwt : wts P = T := hwts.trans eT
  obtain ⟨LO, eLO⟩ : ∃ LO, x.lo = LO := ⟨_, rfl⟩
  obtain ⟨HI, eHI⟩ : ∃ HI, x.hi = HI := ⟨_, rfl⟩
  rw [eLO] at c3 ⊢
  rw [eHI] at HC ⊢
  have HWT := Lib.hid hwt
  have hb0 := heap_alloc_new w (.cells #[.int .i64 LO, .int .u64 0] 89)
  have HA0 : Hid (Acc 89 w (w.alloc (.cells #[.int .i64 LO, .int .u64 0] 89)) (.slice (some ⟨w.heap.size, 0, none⟩) 1 1) 1 [(LO, 0)]) := Lib.hid ⟨World.ownsRow_lit (e := 89) (size := 2) w #[.int .i64 LO, .int .u64 0] 1 (Nat.zero_le _) (by unfold maxLen; omega) rfl, fun y hy => by obtain rfl := Option.some.inj hy; exact Nat.le_refl _, Fr.alloc _ _ _⟩
  have HPL := Lib.hid hlen
  clear s hlen hwts eP eT hwt eLO eHI hb0
  go_enter Try.func74, Try.ntmps74
  go_wp2_with fail
  refine (HPR.out _ (Fr.alloc S0 _ _)).mono ?_
  rintro e1 w1 ⟨v1, k1, rfl, a1⟩
  obtain ⟨p1, cc1, rfl⟩ := slFormN a1.own
  have HS1 : Hid (Sl w1 p1 k1 cc1 P) := Lib.hid (Sl.ofOwns a1.own)
  have HA1 : Hid (Acc 89 w w1 (.slice (some ⟨w.heap.size, 0, none⟩) 1 1) 1 [(LO, 0)]) := Lib.hid (HA0.out.fr0 a1.fr)
  have HOF : Hid (Off (fun y => Value.ownBlock (.slice (some ⟨w.heap.size, 0, none⟩) 1 1) = some y) p1) := Lib.hid (by
    intro a ha hy
    subst ha
    rcases a1.own.2 with ⟨h1, -⟩ | ⟨g', cap, cur, h1, -⟩
    · cases h1
    · obtain ⟨h2, -, -⟩ := Value.slice.inj h1
      obtain rfl := Option.some.inj h2
      have h3 := a1.fresh g' rfl
      rw [size_alloc] at h3
      have h4 : w.heap.size = g' := Option.some.inj hy
      omega)
  have hk1 : k1 ≤ 500000000000 := by have := a1.len; have := HPL.out; omega
  have HK1 := Lib.hid a1.len
  clear a1 HA0 HPR
  go_wp2_with fail
  go_loopw [3, 4, 16] (fun o dn i wr => ∃ (j D : Nat), j ≤ k1 ∧ i = .int .i64 j ∧ dn = .int .u64 (D : Nat) ∧ Hid (wts (P.take j) = D) ∧ Hid (Sl wr p1 k1 cc1 P ∧ Off (fun y => o.ownBlock = some y) p1) ∧ Hid (Acc 89 w wr o (j + 1) ((LO, 0) :: mids 0 (P.take j)))) (fun _ _ i _ => k1 - (intOf i).toNat)
  case atStart => exact ⟨0, 0, by omega, rfl, rfl, Lib.hid rfl, Lib.hid ⟨HS1.out, HOF.out⟩, HA1⟩
  case round =>
    obtain ⟨j, D, hj, rfl, rfl, hD, hfr, hacc⟩ := hrel
    obtain ⟨pv, cv, rfl⟩ := slFormN hacc.out.own
    by_cases hjk : (j : Int) < (k1 : Int)
    · have hjl : j < P.length := by rw [HS1.out.len]; omega
      obtain ⟨b, o, rfl, k0, k2⟩ := hfr.out.1.at j hjl
      obtain ⟨ht1, -⟩ := wts_take P j hjl
      have ht2 := wts_take_le P (j + 1)
      have HTK := Lib.hid (List.take_succ_eq_append_getElem hjl)
      obtain ⟨⟨tv, tn⟩, ht⟩ : ∃ t, P[j] = t := ⟨_, rfl⟩
      rw [ht] at k0 k2 ht1 HTK
      rw [HWT.out] at ht2
      rw [hD.out] at ht1
      simp only at k0 k2 ht1
      obtain ⟨D2, eD2⟩ : ∃ D2, 2 * D = D2 := ⟨_, rfl⟩
      obtain ⟨A, eA⟩ : ∃ A, D2 + tn = A := ⟨_, rfl⟩
      have HE : Hid ((LO, 0) :: mids 0 (P.take (j + 1)) = ((LO, 0) :: mids 0 (P.take j)) ++ [(tv, A)]) := Lib.hid (by rw [HTK.out, mids_snoc, hD.out, ← eA, ← eD2, Nat.zero_add]; rfl)
      have iD2 : 2 * (D : Int) = (D2 : Int) := by omega
      have iA : (D2 : Int) + (tn : Int) = (A : Int) := by omega
      have bA : (A : Int) < 18446744073709551616 := by omega
      have bD2 : (D2 : Int) < 18446744073709551616 := by omega
      obtain ⟨E, eE⟩ : ∃ E, D + tn = E := ⟨_, rfl⟩
      have iE : (D : Int) + (tn : Int) = (E : Int) := by omega
      have bE : (E : Int) < 18446744073709551616 := by omega
      have HD2 : Hid (wts (P.take (j + 1)) = E) := Lib.hid (by omega)
      have hR1 : Hid (Room (j + 1 + 1)) := Lib.hid (Room.mk (by omega))
      have fb : Fr S0 wr (wr.alloc (.cells #[.int .i64 tv, .int .u64 (tn : Int)] 103)) := Fr.alloc _ _ _
      have HA2 := Lib.hid (hacc.out.fr0 fb)
      have hB := heap_alloc_new wr (.cells #[.int .i64 tv, .int .u64 (tn : Int)] 103)
      have HBX := Lib.hid (fun W (f : Fr S0 (wr.alloc (.cells #[.int .i64 tv, .int .u64 (tn : Int)] 103)) W) => two_facts (f.row hB fun h => h))
      have HLT : Hid (∀ y, Value.ownBlock (.slice pv (j + 1) cv) = some y → y < wr.heap.size) := Lib.hid fun y hy => (hacc.out.own.lt y hy).2
      have HSL := Lib.hid (hfr.out.1.fr0 fb)
      have HOFF := Lib.hid hfr.out.2
      clear ht1 ht2 ht eD2 eA eE hacc hfr fb hB HTK
      go_wp2_with (at_builtin; refine app_one elPt (.tmp 20) (.tmp 29) (size_alloc _ _) HA2.out.own rfl rfl rfl rfl rfl (one_pr tv A) hR1.out ?_; intro g1 cap1 w3 hown hgrow hat hlt; have HF3 := Lib.hid (HA2.out.app hown hgrow (hat.imp id fun h => h.trans (by rw [size_alloc]))); have HG3 := Lib.hid (And.intro hgrow hat); have hb3 : w3.cell? ⟨wr.heap.size, 1, none⟩ = some (.int .u64 (tn : Nat)) := (Fr.grown hgrow).cell (HBX.out _ (Fr.alloc S0 _ _)).2.1 (fun h => Nat.lt_irrefl _ (HLT.out _ h)); clear hown hgrow hat hlt)
      have HSE : Hid (Sl w3 (some ⟨b, o, none⟩) k1 cc1 P ∧ Off (fun y => Value.ownBlock (.slice (some ⟨g1, 0, none⟩) (j + 1 + 1) cap1) = some y) (some ⟨b, o, none⟩)) := Lib.hid (by
        refine ⟨(HSL.out.fr0 (Fr.alloc S0 _ _)).fr (Fr.grown HG3.out.1) HOFF.out, fun a ha hy => ?_⟩
        obtain rfl := Option.some.inj ha
        obtain rfl : g1 = b := Option.some.inj hy
        rcases HG3.out.2 with h | h
        · exact HOFF.out _ rfl h
        · have h2 := HSL.out.tmi.lt (by intro e; rw [e] at hjl; simp at hjl) _ rfl
          rw [size_alloc] at h2
          have h3 : g1 < wr.heap.size + 1 := h2
          omega)
      go_roundw
      case rel => exact ⟨j + 1, E, by omega, by go_num, by go_num, HD2, HSE, by rw [HE.out]; exact HF3⟩
      case measure => simp [intOf]; omega
    · obtain rfl : j = k1 := by omega
      have HE : Hid (P.take j = P) := Lib.hid (by rw [← HS1.out.len]; exact List.take_length)
      have hT : wts P = T := HWT.out
      have eD : D = T := by rw [← hD.out, HE.out]; exact hT
      obtain ⟨T2, eT2⟩ : ∃ T2, 2 * T = T2 := ⟨_, rfl⟩
      have wT2 : IntKind.u64.wrap (T2 : Int) = (T2 : Int) := by rw [IntKind.wrap_u64]; omega
      have iT2 : 2 * (T : Int) = (T2 : Int) := by omega
      have hR1 : Hid (Room (j + 1 + 1)) := Lib.hid (Room.mk (by omega))
      have HAC := hacc
      obtain ⟨k4, k5⟩ := HC.out _ hacc.out.fr
      have HT2 := Lib.hid eT2
      have HEP : Hid ((LO, 0) :: (mids 0 P ++ [(HI, T2)]) = ((LO, 0) :: mids 0 (P.take j)) ++ [(HI, T2)]) := Lib.hid (by rw [HE.out]; rfl)
      clear hT eD eT2 hfr hD hacc
      go_wp2_with fail
      go_region_law (first
        | (refine app_step elPt (.tmp 36) (.tmp 47) rfl HAC.out.own rfl rfl rfl rfl rfl (one_pr HI T2) hR1.out ?_; intro g1 cap1 w7 hown hgrow hat hlt; have HA7 := Lib.hid (HAC.out.app hown hgrow hat); clear hown hgrow hat hlt))
      all_goals
        go_wp2_with fail
        go_ret
        refine ⟨_, j + 1 + 1, rfl, ?_⟩
        rw [HT2.out, HEP.out]
        exact HA7.out
end
end Go.Proofs.Yticagdppjknlaaa

namespace Go.Proofs.Yticagdppjknlaaa
open Go.RowKit
def Has (B : Nat) : Prop := ∀ (args : Array Value) (w : World), (callFunc B args).run Try.prog w = .ok (.enter B args) w
theorem has_around : Has 76 := fun _ _ => by kernel_rfl
theorem has_at : Has 48 := fun _ _ => by kernel_rfl
theorem has_upto : Has 52 := fun _ _ => by kernel_rfl
theorem search_any (B : Nat) (x y : Value) (p : Nat → Bool) (n : Nat) (w : World) (hB : Has B) (hn : n ≤ 1000000000000) (mono : ∀ i j, i ≤ j → j < n → p i = true → p j = true)
    (hf : ∀ h, h < n → ∀ W, Fr S0 w W → Calls Try.prog B #[.int .i64 (h : Nat), x, y] W fun e w' => e = .returned (.bool (p h)) ∧ Fr S0 W w') :
    Calls Try.prog 75 #[.int .i64 (n : Nat), .func (.func B) #[] #[x, y]] w fun e w' => ∃ i : Nat, e = .returned (.int .i64 (i : Nat)) ∧ i ≤ n ∧ (∀ j, j < i → p j = false) ∧ (∀ j, i ≤ j → j < n → p j = true) ∧ Fr S0 w w' := by
  have HB := Lib.hid hB
  have HM := Lib.hid mono
  have HF := Lib.hid hf
  clear hB mono hf
  go_enter Try.func75, Try.ntmps75
  go_wp2_with fail
  go_loopw [5, 6, 7] (fun a b _ wr => ∃ i j : Nat, i ≤ j ∧ j ≤ n ∧ a = .int .i64 i ∧ b = .int .i64 j ∧ Hid (∀ k, k < i → p k = false) ∧ Hid (∀ k, j ≤ k → k < n → p k = true) ∧ Hid (Fr S0 w wr)) (fun a b _ _ => (intOf b).toNat - (intOf a).toNat)
  case atStart => exact ⟨0, n, by omega, by omega, rfl, rfl, Lib.hid fun k hk => absurd hk (Nat.not_lt_zero k), Lib.hid fun k h1 h2 => by omega, Lib.hid (Fr.refl _ _)⟩
  case round =>
    obtain ⟨i, j, hij, hjn, rfl, rfl, h1, h2, hfr⟩ := hrel
    by_cases hlt : (i : Int) < (j : Int)
    · obtain ⟨h, hh⟩ : ∃ h, (i + j) / 2 = h := ⟨_, rfl⟩
      have hih : i ≤ h := by omega
      have hhj : h < j := by omega
      have e1 : ((i : Int) + (j : Int)) / 2 ^ 1 = (h : Int) := by omega
      have e2 : ((i : Int) + (j : Int)) / 2 = (h : Int) := by omega
      have hs : (i : Int) + (j : Int) < 9223372036854775808 := by omega
      have hcf := HB.out #[.int .i64 (h : Int), x, y] wr
      have HC := Lib.hid (HF.out h (by omega) wr hfr.out)
      obtain ⟨q, hq⟩ : ∃ q, p h = q := ⟨_, rfl⟩
      rw [hq] at HC
      have HQ := Lib.hid hq
      clear hq hh
      cases q with
      | true =>
        go_wp2_with fail
        refine HC.out.mono ?_
        rintro e w1 ⟨rfl, f1⟩
        have HF1 := Lib.hid (hfr.out.trans0 f1)
        clear HC f1 hcf
        go_wp2_with fail
        go_roundw
        case rel => exact ⟨i, h, by omega, by omega, rfl, rfl, h1, Lib.hid fun k hk hkn => HM.out h k hk hkn HQ.out, HF1⟩
        case measure => simp [intOf]; omega
      | false =>
        go_wp2_with fail
        refine HC.out.mono ?_
        rintro e w1 ⟨rfl, f1⟩
        have HF1 := Lib.hid (hfr.out.trans0 f1)
        clear HC f1 hcf
        go_wp2_with fail
        go_roundw
        case rel => exact ⟨h + 1, j, by omega, by omega, by go_num, rfl, Lib.hid (fun k hk => by
            by_cases e : p k = true
            · have := HM.out k h (by omega) (by omega) e
              rw [HQ.out] at this
              cases this
            · simpa using e), h2, HF1⟩
        case measure => simp [intOf]; omega
    · obtain rfl : i = j := by omega
      go_wp2_with fail
      go_ret
      exact ⟨i, rfl, hjn, h1.out, h2.out, hfr.out⟩
def AsksS (C : Nat) (v : Value) (q : Tm → Bool) : Prop := ∀ (b : Nat) (x : Tm) (W : World), W.cell? ⟨b, 0, none⟩ = some v → Calls Try.prog C #[.agg #[.int .i64 x.1, .int .u64 (x.2 : Nat)], .pointer (some ⟨b, 0, none⟩)] W fun e w' => e = .returned (.bool (q x)) ∧ Fr S0 W w'
theorem asks_at (r : Nat) : AsksS 48 (.int .u64 (r : Nat)) fun x => decide (r < x.2) := by
  rintro b ⟨x, y⟩ W hk
  have hk2 := (Fr.alloc S0 W (.cells #[.int .i64 x, .int .u64 (y : Int)] 89)).cell hk (fun h => h)
  simp only
  go_enter Try.func48, Try.ntmps48
  go_wp2_with fail
  go_ret
  exact ⟨by simp, Fr.alloc _ _ _⟩
theorem asks_upto (k : Int) : AsksS 52 (.int .i64 k) fun x => decide (k < x.1) := by
  rintro b ⟨x, y⟩ W hk
  have hk2 := (Fr.alloc S0 W (.cells #[.int .i64 x, .int .u64 (y : Int)] 89)).cell hk (fun h => h)
  simp only
  go_enter Try.func52, Try.ntmps52
  go_wp2_with fail
  go_ret
  exact ⟨by simp, Fr.alloc _ _ _⟩
section
variable (C b bg bf : Nat) (v : Value) (q : Tm → Bool) (p : Option Addr) (n c : Nat) (l : List Tm) (w : World)
theorem around1_any (i : Nat) (hC : Has C) (hA : AsksS C v q) (hk : w.cell? ⟨b, 0, none⟩ = some v) (s : Sl w p n c l) (hi : i < l.length)
    (hf : w.cell? ⟨bf, 0, none⟩ = some (.func (.func C) #[] #[.pointer (some ⟨b, 0, none⟩)])) (hg : w.cell? ⟨bg, 0, none⟩ = some (.slice p n c)) :
    Calls Try.prog 76 #[.int .i64 (i : Nat), .pointer (some ⟨bf, 0, none⟩), .pointer (some ⟨bg, 0, none⟩)] w fun e w' => e = .returned (.bool (q l[i])) ∧ Fr S0 w w' := by
  have hin : (i : Int) < (n : Int) := by have := s.len; omega
  obtain ⟨bb, oo, rfl, k0, k1⟩ := s.at i hi
  obtain ⟨⟨X, U⟩, hX⟩ : ∃ t, l[i] = t := ⟨_, rfl⟩
  rw [hX] at k0 k1 ⊢
  simp only at k0 k1
  have HC : Hid (∀ W, Fr S0 w W → Calls Try.prog C #[.agg #[.int .i64 X, .int .u64 (U : Nat)], .pointer (some ⟨b, 0, none⟩)] W fun e w' => e = .returned (.bool (q (X, U))) ∧ Fr S0 W w') := Lib.hid fun W f => hA b (X, U) W (f.cell hk fun h => h)
  have hcf : ∀ x W, (callFunc C #[.agg x, .pointer (some ⟨b, 0, none⟩)]).run Try.prog W = .ok (.enter C #[.agg x, .pointer (some ⟨b, 0, none⟩)]) W := fun x W => hC _ _
  obtain ⟨Y, hY⟩ : ∃ Y, q (X, U) = Y := ⟨_, rfl⟩
  rw [hY] at HC ⊢
  clear s hX hY hC hA hk hi
  go_enter Try.func76, Try.ntmps76
  go_wp2_with fail
  go_region_law (first
    | (go_simp; (with_reducible show Calls _ C _ _ _); (with_reducible refine (HC.out _ (Fr.drew _ _)).mono ?_); rintro _ w5 ⟨rfl, f5⟩; have HF := Lib.hid ((Fr.drew S0 w).trans0 f5); clear f5; dsimp only))
  all_goals
    go_wp2_with fail
    go_ret
    exact ⟨rfl, HF.out⟩
end
theorem results_two {P : Program} {fn : Func} {p u : Tmp} {ty ty2 : TypeId} (h : fn.results = #[.cell p ty, .cell u ty2]) (tmps : Array Value) (w : World) {g g2 : Nat} {t t2 : TypeId} {cs cs2 : Array Value} {fr fr2 : Nat × Nat} {d d2 : TypeDesc}
    (hp : tmps.getD p undef = .pointer (some ⟨g, 0, none⟩)) (hg : w.heap[g]? = some (.cells cs t fr))
    (hu : P.underlying ty = some d) (hd : (match d with | .struct _ | .array _ _ => true | _ => false) = true) (hi : (P.info? ty).map (·.size) = some cs.size)
    (hp2 : tmps.getD u undef = .pointer (some ⟨g2, 0, none⟩)) (hg2 : w.heap[g2]? = some (.cells cs2 t2 fr2))
    (hu2 : P.underlying ty2 = some d2) (hd2 : (match d2 with | .struct _ | .array _ _ => true | _ => false) = true) (hi2 : (P.info? ty2).map (·.size) = some cs2.size) :
    (results fn tmps).run P w = .ok (.tuple #[.agg cs, .agg cs2]) w := by
  have hrun := run_loadVar_row w g t ty cs fr d hg hu hd hi
  have hrun2 := run_loadVar_row w g2 t2 ty2 cs2 fr2 d2 hg2 hu2 hd2 hi2
  rw [Array.getD_eq_getD_getElem?] at hp hp2
  unfold results
  rw [h]
  simp [hp, hp2, asAddr, hrun, hrun2, Sem.run_bind, Result.andThen]
end Go.Proofs.Yticagdppjknlaaa

namespace Go.Proofs.Yticagdppjknlaaa
open Go.RowKit
structure Parts (q : Tm → Bool) (l : List Tm) (i : Nat) : Prop where
  pos : 0 < i
  lt : i < l.length
  no : ∀ j (h : j < l.length), j < i → q l[j] = false
  yes : q (l[i]'lt) = true
structure Mono (q : Tm → Bool) (l : List Tm) : Prop where
  up : ∀ i j (hi : i < l.length) (hj : j < l.length), i ≤ j → q l[i] = true → q l[j] = true
  first : ∀ h : 0 < l.length, q l[0] = false
  last : ∃ h : 0 < l.length, q (l[l.length - 1]'(by omega)) = true
theorem set_two (W : World) (g : Nat) (a : Addr) (h : a.block ≠ g) (x y : Value) : ((W.setCell ⟨g, 0, none⟩ x).setCell ⟨g, 1, none⟩ y).cell? a = W.cell? a ∧ ((W.setCell ⟨g, 0, none⟩ x).setCell ⟨g, 1, none⟩ y).frozen? a = W.frozen? a := by
  have e : ((W.setCell ⟨g, 0, none⟩ x).setCell ⟨g, 1, none⟩ y).heap[a.block]? = W.heap[a.block]? := by
    rw [heap_setCell_other _ _ _ _ (by simpa using h), heap_setCell_other _ _ _ _ (by simpa using h)]
  exact ⟨World.cell?_of_block e, by simp [World.frozen?, e]⟩
section
variable (g : Nat) (C : Nat → Prop) (p : Option Addr) (n c : Nat) (q : Option Addr) (m e : Nat) (x : Dg) (w : World) (B b : Nat) (v : Value) (Q : Tm → Bool)
theorem around_any (s : DgIs w g C p n c q m e x) (hN : x.all.length ≤ 500000000000) (hB : Has B) (hA : AsksS B v Q) (hk : w.cell? ⟨b, 0, none⟩ = some v) (hm : Mono Q x.pts) :
    Calls Try.prog 47 #[.pointer (some ⟨g, 0, none⟩), .func (.func B) #[] #[.pointer (some ⟨b, 0, none⟩)]] w fun e w' => ∃ i, Parts Q x.pts i ∧ e = .returned (.tuple #[mv (x.pts.getD (i - 1) (0, 0)), mv (x.pts.getD i (0, 0))]) ∧ Fr S0 w w' := by
  have hpl : x.pts.length ≤ 500000000002 := by
    have h1 := press_len x.d s.good.l1 x.all s.good.fit
    unfold Dg.pts
    rw [List.length_cons, List.length_append, mids_len]
    simp only [List.length_cons, List.length_nil]
    omega
  have HPT := Lib.hid (fun W (f : Fr S0 w W) => points_any g C p n c q m e x W (s.fr0 f) hN)
  obtain ⟨L, eL⟩ : ∃ L, x.pts = L := ⟨_, rfl⟩
  rw [eL] at HPT hm hpl ⊢
  have HM := Lib.hid hm
  have HL := Lib.hid hpl
  have HB := Lib.hid hB
  have HAS := Lib.hid hA
  have HK := Lib.hid hk
  have HBX : Hid (∀ W, Fr S0 (((w.alloc (.cells #[.func (.func B) #[] #[.pointer (some ⟨b, 0, none⟩)]] 92)).alloc (.cells #[.int .i64 0, .int .u64 0] 89)).alloc (.cells #[.int .i64 0, .int .u64 0] 89)) W →
      Fr S0 w W ∧ W.cell? ⟨w.heap.size, 0, none⟩ = some (.func (.func B) #[] #[.pointer (some ⟨b, 0, none⟩)]) ∧ W.heap[w.heap.size + 1]? = some (.cells #[.int .i64 0, .int .u64 0] 89 (0, 0)) ∧ W.heap[w.heap.size + 2]? = some (.cells #[.int .i64 0, .int .u64 0] 89 (0, 0))) := Lib.hid fun W f => by
    have h1 := heap_alloc_new w (.cells #[.func (.func B) #[] #[.pointer (some ⟨b, 0, none⟩)]] 92)
    have h2 := heap_alloc_new (w.alloc (.cells #[.func (.func B) #[] #[.pointer (some ⟨b, 0, none⟩)]] 92)) (.cells #[.int .i64 0, .int .u64 0] 89)
    have h3 := heap_alloc_new ((w.alloc (.cells #[.func (.func B) #[] #[.pointer (some ⟨b, 0, none⟩)]] 92)).alloc (.cells #[.int .i64 0, .int .u64 0] 89)) (.cells #[.int .i64 0, .int .u64 0] 89)
    rw [size_alloc] at h2
    rw [size_alloc, size_alloc] at h3
    have k1 := f.row ((Fr.alloc S0 _ _).row ((Fr.alloc S0 _ _).row h1 (fun h => h)) (fun h => h)) (fun h => h)
    have k2 := f.row ((Fr.alloc S0 _ _).row h2 (fun h => h)) (fun h => h)
    have k3 := f.row h3 (fun h => h)
    exact ⟨((((Fr.alloc S0 w _).trans0 (Fr.alloc _ _ _)).trans0 (Fr.alloc _ _ _)).trans0 f), by rw [World.cell?, k1]; rfl, k2, k3⟩
  clear s hN hB hA hk hm hpl eL
  go_enter Try.func47, Try.ntmps47
  go_wp2_with fail
  refine (HPT.out _ (HBX.out _ (Fr.refl _ _)).1).mono ?_
  rintro e1 w4 ⟨v4, k4, rfl, a4⟩
  obtain ⟨p4, c4, rfl⟩ := slFormN a4.own
  have HS4 : Hid (Sl w4 p4 k4 c4 L) := Lib.hid (Sl.ofOwns a4.own)
  have hk4 : k4 ≤ 500000000002 := by have := a4.len; have := HL.out; omega
  have F4 := Lib.hid a4.fr
  have hfa : ∀ a, p4 = some a → w.heap.size + 3 ≤ a.block := by
    intro a ha
    subst ha
    rcases a4.own.2 with ⟨h1, -⟩ | ⟨g', cap, cur, h1, -⟩
    · cases h1
    · obtain ⟨h2, -, -⟩ := Value.slice.inj h1
      obtain rfl := Option.some.inj h2
      have h3 := a4.fresh g' rfl
      rw [size_alloc, size_alloc, size_alloc] at h3
      exact h3
  have hfs : w.heap.size + 3 ≤ w4.heap.size := by
    have h3 := a4.fr.size
    rw [size_alloc, size_alloc, size_alloc] at h3
    exact h3
  clear a4 HPT
  obtain ⟨w5, hw5⟩ : ∃ w5, w4.alloc (.cells #[.slice p4 k4 c4] 122) = w5 := ⟨_, rfl⟩
  have hb5 : w5.cell? ⟨w4.heap.size, 0, none⟩ = some (.slice p4 k4 c4) := by
    have h1 := heap_alloc_new w4 (.cells #[.slice p4 k4 c4] 122)
    rw [hw5] at h1
    rw [World.cell?, h1]
    rfl
  have f45 : Fr S0 w4 w5 := by rw [← hw5]; exact Fr.alloc _ _ _
  have F5 := Lib.hid ((HBX.out _ (F4.out.trans0 f45)).1)
  have F6A := Lib.hid (F4.out.trans0 f45)
  have HS5 := Lib.hid (HS4.out.fr0 f45)
  have HB5 := Lib.hid hb5
  have HSE : Hid (Calls Try.prog 75 #[.int .i64 (k4 : Nat), .func (.func 76) #[] #[.pointer (some ⟨w.heap.size, 0, none⟩), .pointer (some ⟨w4.heap.size, 0, none⟩)]] w5 fun e w' => ∃ i : Nat, e = .returned (.int .i64 (i : Nat)) ∧ Parts Q L i ∧ Fr S0 w5 w') := Lib.hid (by
    have hl5 := HS5.out.len
    have hget : ∀ j (h : j < L.length), L.getD j (0, 0) = L[j] := fun j h => by simp [h]
    refine (search_any 76 _ _ (fun j => Q (L.getD j (0, 0))) k4 w5 has_around (by omega) (fun i j hij hj hi => ?_) (fun h hh W f => ?_)).mono ?_
    · rw [hget i (by omega)] at hi
      rw [hget j (by omega)]
      exact HM.out.up i j (by omega) (by omega) hij hi
    · obtain ⟨f0, k0, -, -⟩ := HBX.out W (F6A.out.trans0 f)
      rw [hget h (by omega)]
      exact around1_any B b w4.heap.size w.heap.size v Q p4 k4 c4 L W h HB.out HAS.out (f0.cell HK.out fun h => h) (HS5.out.fr0 f) (by omega) k0 (f.cell hb5 fun h => h)
    · rintro e w' ⟨i, rfl, hi, h1, h2, f⟩
      obtain ⟨hl0, hlast⟩ := HM.out.last
      have hi0 : 0 < i := by
        rcases Nat.eq_zero_or_pos i with h | h
        · subst h
          have h3 := h2 0 (Nat.le_refl _) (by omega)
          rw [hget 0 hl0, HM.out.first hl0] at h3
          cases h3
        · exact h
      have hil : i < L.length := by
        rcases Nat.lt_or_ge i L.length with h | h
        · exact h
        · have h3 := h1 (L.length - 1) (by omega)
          rw [hget _ (by omega), hlast] at h3
          cases h3
      refine ⟨i, rfl, ⟨hi0, hil, fun j hj hji => ?_, ?_⟩, f⟩
      · have := h1 j hji
        rwa [hget j hj] at this
      · have := h2 i (Nat.le_refl _) (by omega)
        rwa [hget i hil] at this)
  have HW5 := Lib.hid hw5
  clear f45
  go_wp2_with fail
  refine HSE.out.mono ?_
  rintro e5 w6 ⟨i, rfl, hpa, f6⟩
  have HPA := Lib.hid hpa
  have F6 := Lib.hid (F5.out.trans0 f6)
  have hil := hpa.lt
  have hi0 := hpa.pos
  have hlen := HS5.out.len
  have HS6 := Lib.hid (HS5.out.fr0 f6)
  obtain ⟨-, -, r1, r2⟩ := HBX.out w6 (F6A.out.trans0 f6)
  have b6 := f6.cell hb5 (fun h => h)
  obtain ⟨j, hj⟩ : ∃ j, i - 1 = j := ⟨_, rfl⟩
  have hji : j + 1 = i := by omega
  subst hji
  obtain ⟨pb, po, rfl, a0, a1⟩ := HS6.out.at j (by omega)
  obtain ⟨pb', po', hpe, d0, d1⟩ := HS6.out.at (j + 1) (by omega)
  simp only [Option.some.injEq, Addr.mk.injEq] at hpe
  obtain ⟨rfl, rfl, -⟩ := hpe
  have HE : Hid (L.getD j (0, 0) = L[j]'(by omega) ∧ L.getD (j + 1) (0, 0) = L[j + 1]'(by omega)) := Lib.hid ⟨by simp [show j < L.length by omega], by simp [show j + 1 < L.length by omega]⟩
  have HJ := Lib.hid hj
  obtain ⟨⟨av, an⟩, hA⟩ : ∃ t, L[j]'(by omega) = t := ⟨_, rfl⟩
  obtain ⟨⟨dv, dn⟩, hD⟩ : ∃ t, L[j + 1]'(by omega) = t := ⟨_, rfl⟩
  rw [hA] at a0 a1 HE
  rw [hD] at d0 d1 HE
  simp only at a0 a1 d0 d1
  have eM : ((j + 1 : Nat) : Int) - 1 = (j : Int) := by omega
  have hjk : (j : Int) + 1 < (k4 : Int) := by omega
  have hjk2 : (j : Int) < (k4 : Int) := by omega
  have hj0 : (0 : Int) ≤ (j : Int) := by omega
  have FX := Lib.hid (F6A.out.trans0 f6)
  have HEND : Hid (∀ W, Fr S0 w6 W → ∀ x1 x2 y1 y2, ((((W.setCell ⟨w.heap.size + 1, 0, none⟩ x1).setCell ⟨w.heap.size + 1, 1, none⟩ x2).setCell ⟨w.heap.size + 2, 0, none⟩ y1).setCell ⟨w.heap.size + 2, 1, none⟩ y2).heap[w.heap.size + 1]? = some (.cells #[x1, x2] 89 (0, 0)) ∧
      ((((W.setCell ⟨w.heap.size + 1, 0, none⟩ x1).setCell ⟨w.heap.size + 1, 1, none⟩ x2).setCell ⟨w.heap.size + 2, 0, none⟩ y1).setCell ⟨w.heap.size + 2, 1, none⟩ y2).heap[w.heap.size + 2]? = some (.cells #[y1, y2] 89 (0, 0)) ∧
      Fr S0 w ((((W.setCell ⟨w.heap.size + 1, 0, none⟩ x1).setCell ⟨w.heap.size + 1, 1, none⟩ x2).setCell ⟨w.heap.size + 2, 0, none⟩ y1).setCell ⟨w.heap.size + 2, 1, none⟩ y2)) := Lib.hid fun W f x1 x2 y1 y2 => by
    obtain ⟨fw, -, q1, q2⟩ := HBX.out W (FX.out.trans0 f)
    have h1 := two_set q1 x1 x2
    have h2 : ((W.setCell ⟨w.heap.size + 1, 0, none⟩ x1).setCell ⟨w.heap.size + 1, 1, none⟩ x2).heap[w.heap.size + 2]? = some (.cells #[.int .i64 0, .int .u64 0] 89 (0, 0)) := by
      rw [heap_setCell_other _ _ _ _ (by simp), heap_setCell_other _ _ _ _ (by simp)]
      exact q2
    refine ⟨?_, two_set h2 y1 y2, (((fw.set _ _ ?_).set _ _ ?_).set _ _ ?_).set _ _ ?_⟩
    · rw [heap_setCell_other _ _ _ _ (by simp), heap_setCell_other _ _ _ _ (by simp)]
      exact h1
    all_goals simp only; omega
  have hpb : w.heap.size + 3 ≤ pb := hfa _ rfl
  have s1 := fun a h x y => (set_two w6 (w.heap.size + 1) a h x y).1
  have s2 := fun a h x y => (set_two w6 (w.heap.size + 2) a h x y).1
  have t1 := fun a h x y => (set_two w6 (w.heap.size + 1) a h x y).2
  have t2 := fun a h x y => (set_two w6 (w.heap.size + 2) a h x y).2
  have u1 := fun x y => (s1 ⟨w4.heap.size, 0, none⟩ (by simp only; omega) x y).trans b6
  have u2 := fun x y => (s2 ⟨w4.heap.size, 0, none⟩ (by simp only; omega) x y).trans b6
  have u3 := fun x y => (s1 ⟨pb, po + (j + 1) * 2, none⟩ (by simp only; omega) x y).trans d0
  have u4 := fun x y => (s1 ⟨pb, po + (j + 1) * 2 + 1, none⟩ (by simp only; omega) x y).trans d1
  have u5 := fun x y => (s2 ⟨pb, po + j * 2, none⟩ (by simp only; omega) x y).trans a0
  have u6 := fun x y => (s2 ⟨pb, po + j * 2 + 1, none⟩ (by simp only; omega) x y).trans a1
  obtain ⟨r10, r11, r12, r13⟩ := two_facts r1
  obtain ⟨r20, r21, r22, r23⟩ := two_facts r2
  have v1 := fun x y => (s1 ⟨w.heap.size + 2, 0, none⟩ (by simp) x y).trans r20
  have v2 := fun x y => (s1 ⟨w.heap.size + 2, 1, none⟩ (by simp) x y).trans r21
  have v3 := fun x y => (t1 ⟨w.heap.size + 2, 0, none⟩ (by simp) x y).trans r22
  have v4 := fun x y => (t1 ⟨w.heap.size + 2, 1, none⟩ (by simp) x y).trans r23
  have v5 := fun x y => (s2 ⟨w.heap.size + 1, 0, none⟩ (by simp) x y).trans r10
  have v6 := fun x y => (s2 ⟨w.heap.size + 1, 1, none⟩ (by simp) x y).trans r11
  have v7 := fun x y => (t2 ⟨w.heap.size + 1, 0, none⟩ (by simp) x y).trans r12
  have v8 := fun x y => (t2 ⟨w.heap.size + 1, 1, none⟩ (by simp) x y).trans r13
  clear s1 s2 t1 t2 hpb hfa hfs
  clear hA hD HSE hpa HM hb5 r1 r2 hj hi0 hil hlen
  go_wp2_with fail
  go_region
  all_goals
    go_wp2_with fail
    obtain ⟨h1, h2, f9⟩ := HEND.out w6 (Fr.refl _ _) (.int .i64 av) (.int .u64 (an : Nat)) (.int .i64 dv) (.int .u64 (dn : Nat))
    refine bodyPost_ret (results_two Try.results47 _ _ rfl h1 Try.underlying89 rfl (by kernel_rfl) rfl h2 Try.underlying89 rfl (by kernel_rfl)) rfl ?_
    refine ⟨j + 1, HPA.out, ?_, f9.trans0 (Fr.drew _ _)⟩
    rw [HJ.out, HE.out.1, HE.out.2]
end
end Go.Proofs.Yticagdppjknlaaa
