/- DgMean -/
import Derived.Test.YticagdppjknlaaaPm1
import Derived.Test.YticagdppjknlaaaPm2
import Derived.Test.YticagdppjknlaaaPm3
import Derived.Test.YticagdppjknlaaaPm4
import Derived.Test.YticagdppjknlaaaPm5
import Derived.Test.YticagdppjknlaaaPm6
import Derived.Test.YticagdppjknlaaaPm7
import Derived.Test.YticagdppjknlaaaPm8
import Derived.Lib.AppendZerosOnto
import Derived.Lib.SliceRun
import Derived.Lib.Walk
import Derived.StillTailTactics
import Derived.Deep.RegionLaw
import Derived.Deep.RegionHeld3
import Derived.BigRegion
import Derived.Maps.AppendAt
import Derived.Laws.AppendOwnNone
import Derived.Laws.OwnMore
import Derived.Laws.Externs
import Derived.Shelf.Spec.BitsCarry
import Derived.Deep.CutBlock
import Derived.Deep.CutRange
import Derived.Deep.DeepCutAuto
import Derived.Lib.BitFns
import Derived.Shelf.Small.Bits
import Derived.Shelf.Strconv.Itoa0
import Derived.Shelf.Bits.Mul64
import Derived.Test.YticagdppjknlaaaRows
import Derived.WalkKit
import Derived.WalkSpells
import Derived.WalkLawsBesides
import Derived.Deep.QuietTactic
import Derived.BigQuiet
import Derived.RegionTactic
import Derived.Deep.AppendLies
import Derived.Laws.ResultCell
import Derived.Laws.EntriesVeiled
import Derived.Lib.Hide
import Derived.Laws.BytesArg
import Derived.Lib.SlBytesConst
set_option maxRecDepth 100000
set_option maxHeartbeats 8000000
namespace Go.Proofs.Yticagdppjknlaaa
open Go.RowKit
def meanV (l : List Tm) : Int := ((lsm l / wts l : Nat) : Int) - 9223372036854775808
def Dg.meanE (x : Dg) : Nat := if x.tot = 0 then 8 else 0
def Dg.meanV (x : Dg) : Int := if x.tot = 0 then 0 else Go.Proofs.Yticagdppjknlaaa.meanV x.all
section
variable (g : Nat) (C : Nat → Prop) (p : Option Addr) (n c : Nat) (q : Option Addr) (m e : Nat) (x : Dg) (w : World)
theorem dmean_any (s : DgIs w g C p n c q m e x) (hN : x.all.length ≤ 500000000000) :
    Calls Try.prog 37 #[.pointer (some ⟨g, 0, none⟩)] w fun e w' => e = .returned (.tuple #[.int .i64 x.meanV, .int .i64 (x.meanE : Nat)]) ∧ Fr S0 w w' := by
  have HME := Lib.hid (means_any g C p n c q m e x w s hN)
  have htot := s.good.tot
  have hok : ∀ t ∈ x.all, TmOk t := fun t ht => (s.good.fit t ht).ok s.good.l1 s.good.h2 (by have := wts_mem ht; have h2 : wts x.all = x.tot := rfl; omega)
  have HMN := Lib.hid (fun q' m' e' W (h : Sl W q' m' e' x.all) => show Calls Try.prog 67 #[.slice q' m' e'] W (MeanEnds W x.all) from by
    have h1 := h.len
    subst h1
    exact mean_any q' e' x.all W h.tmi hok)
  have hno : MeanNo x.all ↔ x.tot = 0 := by
    unfold MeanNo
    have h2 : wts x.all = x.tot := rfl
    rw [h2]
    omega
  unfold Dg.meanE Dg.meanV Go.Proofs.Yticagdppjknlaaa.meanV
  obtain ⟨L, eL⟩ : ∃ L, x.all = L := ⟨_, rfl⟩
  obtain ⟨N, eN⟩ : ∃ N, L.length = N := ⟨_, rfl⟩
  rw [eL] at HME HMN hno hN ⊢
  rw [eN] at HME hN
  have HN := Lib.hid eN
  have HNO := Lib.hid hno
  clear s htot hok hno eL eN
  go_enter Try.func37, Try.ntmps37
  go_wp2_with fail
  refine HME.out.mono ?_
  rintro e1 w1 ⟨v1, rfl, a1⟩
  obtain ⟨p1, c1, rfl, hs1⟩ := a1.sl
  have S1 := Lib.hid hs1
  have F1 := Lib.hid a1.fr
  clear a1 hs1 HME
  go_wp2_with fail
  go_loopw [4, 12] (fun o i wr => ∃ j : Nat, j ≤ N ∧ i = .int .i64 j ∧ Hid (Acc 113 w1 wr o j (L.take j))) (fun _ i _ => N - (intOf i).toNat)
  case atStart => exact ⟨0, by omega, rfl, Lib.hid (Acc.nil (Fr.refl _ _))⟩
  case round =>
    obtain ⟨j, hj, rfl, hacc⟩ := hrel
    obtain ⟨pv, cv, rfl⟩ := slFormN hacc.out.own
    by_cases hjn : (j : Int) < (N : Int)
    · have hjl : j < L.length := by rw [HN.out]; omega
      obtain ⟨b, o, rfl, c0, c1⟩ := (S1.out.fr0 hacc.out.fr).at j hjl
      have HT : Hid (L.take (j + 1) = L.take j ++ [L[j]]) := Lib.hid (List.take_succ_eq_append_getElem hjl)
      have HR : Hid (Room (j + 1)) := Lib.hid (Room.mk (by omega))
      obtain ⟨⟨tk, tn⟩, ht⟩ : ∃ t, L[j] = t := ⟨_, rfl⟩
      rw [ht] at c0 c1 HT
      simp only at c0 c1
      have HA2 := Lib.hid (hacc.out.fr0 (Fr.alloc S0 wr (.cells #[.int .i64 tk, .int .u64 (tn : Int)] 103)))
      clear ht hacc
      go_wp2_with (at_builtin; refine app_one elTm (.tmp 16) (.tmp 18) (size_alloc _ _) HA2.out.own rfl rfl rfl rfl rfl (one_pr tk tn) HR.out ?_; intro g1 cap1 w3 hown hgrow hat hlt; have HA3 := Lib.hid (HA2.out.app hown hgrow (hat.imp id fun h => h.trans (by rw [size_alloc]))); clear hown hgrow hat hlt)
      go_roundw
      case rel => exact ⟨j + 1, by omega, by go_num, by rw [HT.out]; exact HA3⟩
      case measure => simp [intOf]; omega
    · obtain rfl : j = N := by omega
      have HE : Hid (L.take j = L) := Lib.hid (by rw [← HN.out]; exact List.take_length)
      have HW := Lib.hid (HMN.out pv j cv wr (by have h9 := hacc.out.own; rw [HE.out] at h9; exact Sl.ofOwns h9))
      have F2 := Lib.hid (F1.out.trans0 hacc.out.fr)
      go_wp2_with fail
      refine HW.out.mono ?_
      rintro e3 w3 he3
      by_cases h0 : x.tot = 0
      · obtain ⟨rfl, f3⟩ := he3.no (HNO.out.2 h0)
        have F3 := Lib.hid (F2.out.trans0 f3)
        have H0 := Lib.hid h0
        clear he3 f3 h0
        go_wp2_with fail
        go_ret2
        exact ⟨by first | rfl | (rw [if_pos H0.out]; rfl) | (rw [if_pos H0.out, if_pos H0.out]; rfl), F3.out⟩
      · obtain ⟨rfl, f3⟩ := he3.yes (fun h => h0 (HNO.out.1 h))
        have F3 := Lib.hid (F2.out.trans0 f3)
        have H0 := Lib.hid h0
        obtain ⟨Z, eZ⟩ : ∃ Z : Int, ((lsm L / wts L : Nat) : Int) - 9223372036854775808 = Z := ⟨_, rfl⟩
        rw [eZ]
        have HZ : Hid (((lsm L : Nat) : Int) / ((wts L : Nat) : Int) - 9223372036854775808 = Z) := Lib.hid (by rw [← eZ, Int.natCast_ediv])
        clear he3 f3 h0 eZ
        go_wp2_with fail
        go_ret2
        exact ⟨congrArg (fun z : Int => Ending.returned (Value.tuple #[.int .i64 z, .int .i64 0])) HZ.out.symm, F3.out⟩
end
theorem stp_lsm {d n : Nat} {lo hi : Int} {t : List Tm} {s : List Tm × Nat} {m : Tm} (h : Inv lo hi t s) (h1 : -9223372036854775808 ≤ lo) (hm : Fit lo hi m) (hn : wts t + m.2 ≤ n) :
    lsm (stp d n s m).1 ≤ lsm s.1 + lft m.1 * m.2 ∧ lsm s.1 + lft m.1 * m.2 ≤ lsm (stp d n s m).1 + n := by
  obtain ⟨o, L⟩ := s
  rcases last_or o with rfl | ⟨i, q, rfl⟩
  · rw [stp_nil]
    have e : lsm [m] = lft m.1 * m.2 := by simp [lsm]
    rw [e, show lsm ([] : List Tm) = 0 from rfl]
    omega
  · rw [stp_snoc]
    have hq := h.fit q (by simp)
    have hsum := h.sum
    simp only at hsum
    rw [wts_snoc] at hsum
    have hb := avm_in (a := q) (b := m) (lo := lo) (hi := hi) hq hm h1
    split
    · simp only
      rw [lsm_snoc, lsm_snoc]
      have e1 : wts [q, m] = q.2 + m.2 := by simp [wts]
      have e2 : lsm [q, m] = lft q.1 * q.2 + lft m.1 * m.2 := by simp [lsm]
      have e3 : lft (join q m).1 * (join q m).2 = lsm [q, m] / wts [q, m] * (q.2 + m.2) := by
        have : lft (avm q m) = lsm [q, m] / wts [q, m] := by
          unfold avm lft
          generalize lsm [q, m] / wts [q, m] = Z
          omega
        rw [show (join q m).1 = avm q m from rfl, show (join q m).2 = q.2 + m.2 from rfl, this]
      rw [e3, e1, e2]
      have h3 := Nat.div_mul_le_self (lft q.1 * q.2 + lft m.1 * m.2) (q.2 + m.2)
      have h4 := Nat.lt_div_mul_add (a := lft q.1 * q.2 + lft m.1 * m.2) (b := q.2 + m.2) (by have := hq.n; omega)
      generalize (lft q.1 * q.2 + lft m.1 * m.2) / (q.2 + m.2) * (q.2 + m.2) = Z at *
      generalize lft q.1 * q.2 = A at *
      generalize lft m.1 * m.2 = B at *
      omega
    · simp only
      rw [lsm_snoc]
      omega
theorem run_lsm {d n : Nat} {lo hi : Int} (h1 : -9223372036854775808 ≤ lo) (l : List Tm) (hr : Ris l) (hf : ∀ x ∈ l, Fit lo hi x) (hn : wts l ≤ n) : lsm (run d n l).1 ≤ lsm l ∧ lsm l ≤ lsm (run d n l).1 + l.length * n := by
  induction l using list_rev with
  | h0 => simp [run, lsm]
  | h1 l m ih =>
    obtain ⟨r1, -, r3⟩ := List.pairwise_append.1 hr
    rw [wts_snoc] at hn
    have hf1 : ∀ x ∈ l, Fit lo hi x := fun x hx => hf x (by simp [hx])
    obtain ⟨i1, i2⟩ := ih r1 hf1 (by omega)
    obtain ⟨v1, -⟩ := run_inv d n h1 l r1 hf1
    obtain ⟨j1, j2⟩ := stp_lsm (d := d) (n := n) v1 h1 (hf m (by simp)) hn
    rw [run_snoc, lsm_snoc, List.length_append, List.length_singleton, Nat.add_mul, Nat.one_mul]
    generalize lft m.1 * m.2 = B at *
    omega
theorem ins_lsm (x : Tm) (l : List Tm) : lsm (ins x l) = lsm l + lft x.1 * x.2 := by
  induction l with
  | nil => simp [ins, lsm]
  | cons z r ih =>
    rw [ins]
    split
    · rw [lsm_cons, ih, lsm_cons]; omega
    · rw [lsm_cons, lsm_cons]; omega
theorem srt_lsm (l : List Tm) : lsm (srt l) = lsm l := by
  induction l using list_rev with
  | h0 => rfl
  | h1 l x ih => rw [srt_snoc, ins_lsm, ih, lsm_snoc]
theorem press_mean {x : Dg} (h : x.Good) (h0 : 0 < x.tot) : x.press.meanV ≤ x.meanV ∧ x.meanV ≤ x.press.meanV + x.all.length := by
  have hp := Dg.press_tot h
  have e : x.press.all = Go.Proofs.Yticagdppjknlaaa.press x.d x.all := by simp [Dg.all, Dg.press]
  have hw : wts x.press.all = x.tot := hp
  have hw2 : wts x.all = x.tot := rfl
  obtain ⟨a, b⟩ := run_lsm (d := x.d) (n := wts x.all) h.l1 (srt x.all) (srt_ris _) (srt_fit h.fit) (by rw [srt_wts]; exact Nat.le_refl _)
  rw [srt_lsm] at a b
  rw [srt_len] at b
  have e2 : (run x.d (wts x.all) (srt x.all)).1 = x.press.all := by rw [e]; rfl
  rw [e2] at a b
  rw [hw2] at b
  unfold Dg.meanV Go.Proofs.Yticagdppjknlaaa.meanV
  rw [if_neg (by omega), if_neg (by omega), hw, hw2]
  have h3 : lsm x.press.all / x.tot ≤ lsm x.all / x.tot := Nat.div_le_div_right a
  have h4 : lsm x.all / x.tot ≤ lsm x.press.all / x.tot + x.all.length := by
    have := Nat.div_le_div_right (c := x.tot) b
    rw [Nat.add_mul_div_right _ _ h0] at this
    exact this
  generalize lsm x.press.all / x.tot = Z at *
  generalize lsm x.all / x.tot = Z2 at *
  omega
theorem mean_in {x : Dg} (h : x.Good) (h0 : 0 < x.tot) : x.lo ≤ x.meanV ∧ x.meanV ≤ x.hi := by
  have key : ∀ l : List Tm, (∀ t ∈ l, Fit x.lo x.hi t) → lft x.lo * wts l ≤ lsm l ∧ lsm l ≤ lft x.hi * wts l := by
    intro l
    induction l with
    | nil => intro _; simp [lsm, wts]
    | cons t r ih =>
      intro hf
      obtain ⟨a, b⟩ := ih fun t ht => hf t (List.mem_cons_of_mem _ ht)
      have ht := hf t List.mem_cons_self
      have h1 := h.l1
      have q1 : lft x.lo ≤ lft t.1 := by unfold lft; have := ht.lo; omega
      have q2 : lft t.1 ≤ lft x.hi := by unfold lft; have := ht.hi; omega
      have u1 := Nat.mul_le_mul_right t.2 q1
      have u2 := Nat.mul_le_mul_right t.2 q2
      rw [lsm_cons, wts_cons, Nat.mul_add, Nat.mul_add]
      omega
  obtain ⟨a, b⟩ := key x.all h.fit
  have hw2 : wts x.all = x.tot := rfl
  rw [hw2] at a b
  unfold Dg.meanV Go.Proofs.Yticagdppjknlaaa.meanV
  rw [if_neg (by omega), hw2]
  have v1 : lft x.lo ≤ lsm x.all / x.tot := (Nat.le_div_iff_mul_le h0).2 a
  have v2 : lsm x.all / x.tot ≤ lft x.hi := Nat.div_le_of_le_mul (by rw [Nat.mul_comm]; exact b)
  have h1 := h.l1
  have h2 := h.h1
  unfold lft at v1 v2
  generalize lsm x.all / x.tot = Z at *
  omega
end Go.Proofs.Yticagdppjknlaaa
