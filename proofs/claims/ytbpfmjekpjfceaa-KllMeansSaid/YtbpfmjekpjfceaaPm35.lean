/- WdRefMean -/
import Derived.Test.YtbpfmjekpjfceaaPm1
import Derived.Test.YtbpfmjekpjfceaaPm3
import Derived.Test.YtbpfmjekpjfceaaPm16
import Derived.Test.YtbpfmjekpjfceaaPm17
import Derived.Test.YtbpfmjekpjfceaaPm18
import Derived.Test.YtbpfmjekpjfceaaPm19
import Derived.Test.YtbpfmjekpjfceaaPm32
import Derived.Test.YtbpfmjekpjfceaaPm33
import Derived.Test.YtbpfmjekpjfceaaPm34
import Derived.Laws.Externs
import Derived.Shelf.Spec.BitsCarry
import Derived.Deep.CutBlock
import Derived.Deep.CutRange
import Derived.Deep.DeepCutAuto
import Derived.Lib.BitFns
import Derived.Shelf.Small.Bits
import Derived.Shelf.Strconv.Itoa0
import Derived.Shelf.Bits.Mul64
import Derived.Test.YtbpfmjekpjfceaaRows
import Derived.WalkKit
import Derived.WalkSpells
import Derived.WalkLawsBesides
import Derived.Deep.QuietTactic
import Derived.BigQuiet
import Derived.RegionTactic
import Derived.Deep.AppendLies
import Derived.Deep.RegionLaw
import Derived.Laws.ResultCell
import Derived.Laws.EntriesVeiled
import Derived.Lib.Hide
import Derived.Laws.BytesArg
import Derived.Lib.SlBytesConst
import Derived.Maps.AppendAt
import Derived.Laws.AppendOwnNone
import Derived.StillTailTactics
set_option maxRecDepth 100000
set_option maxHeartbeats 8000000
namespace Go.Proofs.Ytbpfmjekpjfceaa
open Go.RowKit
theorem u64_of (v : Int) : ∃ u : Nat, IntKind.u64.wrap v = (u : Int) ∧ (u : Int) = v % 18446744073709551616 :=
  ⟨(IntKind.u64.wrap v).toNat, by rw [IntKind.wrap_u64]; omega, by rw [IntKind.wrap_u64]; omega⟩
structure ZsI (w : World) (p : Option Addr) (l : List Int) : Prop where
  len : l.length ≤ maxLen
  cel : l ≠ [] → ∃ b off, p = some ⟨b, off, none⟩ ∧ ∀ i, (h : i < l.length) → w.cell? ⟨b, off + i, none⟩ = some (.int .i64 l[i])
theorem ZsI.fr0 {w w' : World} {p : Option Addr} {l : List Int} (h : ZsI w p l) (f : Fr S0 w w') : ZsI w' p l :=
  ⟨h.len, fun hl => let ⟨b, o, hp, hc⟩ := h.cel hl; ⟨b, o, hp, fun i hi => f.cell (hc i hi) (fun h => h)⟩⟩
theorem ZsI.at {w : World} {p : Option Addr} {l : List Int} (h : ZsI w p l) (i : Nat) (hi : i < l.length) : ∃ b off, p = some ⟨b, off, none⟩ ∧ w.cell? ⟨b, off + i, none⟩ = some (.int .i64 l[i]) :=
  let ⟨b, off, hp, hc⟩ := h.cel (by intro e; simp [e] at hi); ⟨b, off, hp, hc i hi⟩
def dsm (lo : Int) (l : List Tm) : Nat := (l.map fun t => (t.1 - lo).toNat * t.2).sum
theorem dsm_snoc (lo : Int) (l : List Tm) (t : Tm) : dsm lo (l ++ [t]) = dsm lo l + (t.1 - lo).toNat * t.2 := by simp [dsm]
theorem dsm_take (lo : Int) (l : List Tm) (k : Nat) (hk : k < l.length) : dsm lo (l.take (k + 1)) = dsm lo (l.take k) + (l[k].1 - lo).toNat * l[k].2 := by
  rw [List.take_succ_eq_append_getElem hk, dsm_snoc]
theorem dsm_lsm (lo : Int) (h0 : -9223372036854775808 ≤ lo) : ∀ l : List Tm, (∀ t ∈ l, lo ≤ t.1) → lsm l = lft lo * wts l + dsm lo l
  | [], _ => by simp [lsm, wts, dsm]
  | t :: r, h => by
    have ih := dsm_lsm lo h0 r fun u hu => h u (List.mem_cons_of_mem _ hu)
    have ht := h t List.mem_cons_self
    have e1 : lsm (t :: r) = lft t.1 * t.2 + lsm r := by simp [lsm]
    have e2 : wts (t :: r) = t.2 + wts r := by simp [wts]
    have e3 : dsm lo (t :: r) = (t.1 - lo).toNat * t.2 + dsm lo r := by simp [dsm]
    have e4 : lft t.1 = lft lo + (t.1 - lo).toNat := by unfold lft; omega
    rw [e1, e2, e3, ih, e4, Nat.add_mul, Nat.mul_add]; omega
theorem mean_from (lo : Int) (h0 : -9223372036854775808 ≤ lo) (l : List Tm) (h : ∀ t ∈ l, lo ≤ t.1) (hw : 0 < wts l) : ((lsm l / wts l : Nat) : Int) - 9223372036854775808 = lo + ((dsm lo l / wts l : Nat) : Int) := by
  rw [dsm_lsm lo h0 l h, Nat.mul_comm, Nat.mul_add_div hw]
  unfold lft; omega
theorem dsm_le (lo : Int) (h0 : -9223372036854775808 ≤ lo) : ∀ l : List Tm, (∀ t ∈ l, TmOk t) → dsm lo l ≤ 18446744073709551615 * wts l
  | [], _ => by simp [dsm, wts]
  | t :: r, h => by
    have ih := dsm_le lo h0 r fun u hu => h u (List.mem_cons_of_mem _ hu)
    have ht := h t List.mem_cons_self
    have h2 := Nat.mul_le_mul_right t.2 (show (t.1 - lo).toNat ≤ 18446744073709551615 by have := ht.hi; omega)
    have e2 : wts (t :: r) = t.2 + wts r := by simp [wts]
    have e3 : dsm lo (t :: r) = (t.1 - lo).toNat * t.2 + dsm lo r := by simp [dsm]
    rw [e2, e3, Nat.mul_add]; omega
theorem dsm_pre (lo : Int) : ∀ (l : List Tm) (k : Nat), dsm lo (l.take k) ≤ dsm lo l
  | [], k => by simp
  | t :: r, 0 => by simp [dsm]
  | t :: r, k + 1 => by
    have := dsm_pre lo r k
    have e2 : ∀ s : List Tm, dsm lo (t :: s) = (t.1 - lo).toNat * t.2 + dsm lo s := fun s => by simp [dsm]
    rw [List.take_succ_cons, e2, e2]; omega
def RMeanEnds (w : World) (l : List Tm) (e : Ending) (w' : World) : Prop :=
  (if MeanNo l then e = .returned (.tuple #[.int .i64 0, .bool false]) else e = .returned (.tuple #[.int .i64 (((lsm l / wts l : Nat) : Int) - 9223372036854775808), .bool true])) ∧ Fr S0 w w'
theorem rmean_any (p q : Option Addr) (c d m : Nat) (l : List Tm) (w : World) (hm : l.length = m) (hp : ZsI w p (l.map fun t => t.1)) (hq : SlI w .u64 q (l.map fun t => t.2)) (hok : ∀ t ∈ l, TmOk t) :
    Calls Try.prog 41 #[.slice p m c, .slice q m d] w (RMeanEnds w l) := by
  have HP := Lib.hid hp
  have HQ := Lib.hid hq
  have HOK := Lib.hid hok
  have hlen := hp.len
  rw [List.length_map, hm] at hlen
  unfold maxLen at hlen
  have HM := Lib.hid hm
  have hmk := make8
  clear hp hq hok hm
  go_enter Try.func41, Try.ntmps41
  go_wp2_with fail
  go_loopw [6, 7] (fun a i wr => ∃ k : Nat, k ≤ m ∧ i = .int .i64 k ∧ a = .int .u64 (wts (l.take k) : Nat) ∧ wts (l.take k) < 18446744073709551616 ∧ w = wr) (fun _ i _ => m - (intOf i).toNat)
  case atStart => exact ⟨0, by omega, rfl, rfl, by simp [wts], rfl⟩
  case round =>
    obtain ⟨k, hk, rfl, rfl, hw, rfl⟩ := hrel
    by_cases hkm : (k : Int) < (m : Int)
    · have hkl : k < l.length := by rw [HM.out]; omega
      obtain ⟨b, o, rfl, hc⟩ := HQ.out.at k (by rw [List.length_map]; exact hkl)
      rw [List.getElem_map] at hc
      have hn := (HOK.out _ (List.getElem_mem hkl)).n
      obtain ⟨t1, -⟩ := wts_take l k hkl
      have hwl := wts_take_le l (k + 1)
      obtain ⟨N, hN⟩ : ∃ N, l[k].2 = N := ⟨_, rfl⟩
      rw [hN] at hc hn t1
      obtain ⟨A, hA⟩ : ∃ A, wts (l.take k) = A := ⟨_, rfl⟩
      rw [hA] at hw t1 ⊢
      rw [t1] at hwl
      have T1 := Lib.hid t1
      clear hN hA t1
      by_cases hov : A + N < 18446744073709551616
      · go_wp2_with fail
        go_roundw
        case rel => exact ⟨k + 1, by omega, by go_num, by rw [T1.out]; go_num, by rw [T1.out]; exact hov, by trivial⟩
        case measure => simp [intOf]; omega
      · obtain ⟨S, hS⟩ : ∃ S, A + N = S + 18446744073709551616 := ⟨A + N - 18446744073709551616, by omega⟩
        have wS : IntKind.u64.wrap ((A : Int) + (N : Int)) = (S : Int) := by rw [IntKind.wrap_u64]; omega
        have hlt : S < A := by omega
        have HE : Hid (MeanNo l) := Lib.hid (.inr (by omega))
        clear hS hwl hov
        go_wp2_with fail
        go_ret2
        exact ⟨by rw [if_pos HE.out]; rfl, Fr.refl _ _⟩
    · obtain rfl : k = m := by omega
      have et : l.take k = l := List.take_of_length_le (by rw [HM.out]; exact Nat.le_refl _)
      rw [et] at hw ⊢
      obtain ⟨A, hA⟩ : ∃ A, wts l = A := ⟨_, rfl⟩
      rw [hA] at hw ⊢
      have HA := Lib.hid hA
      clear et hA
      by_cases h0 : A = 0
      · have HE : Hid (MeanNo l) := Lib.hid (.inl (by rw [HA.out, h0]))
        subst h0
        go_wp2_with fail
        go_ret2
        exact ⟨by rw [if_pos HE.out]; rfl, Fr.refl _ _⟩
      · have HE : Hid (¬ MeanNo l) := Lib.hid (by unfold MeanNo; rw [HA.out]; omega)
        have hA0 : ((A : Int) == 0) = false := by rw [beq_eq_false_iff_ne]; omega
        have hk0 : 0 < k := by
          rcases Nat.eq_zero_or_pos k with e | e
          · exfalso
            have : l = [] := List.eq_nil_of_length_eq_zero (by rw [HM.out]; exact e)
            have h2 := HA.out
            rw [this] at h2
            simp [wts] at h2
            omega
          · exact e
        have hl0 : 0 < l.length := by rw [HM.out]; exact hk0
        obtain ⟨b, o, rfl, hc⟩ := HP.out.at 0 (by rw [List.length_map]; exact hl0)
        rw [List.getElem_map, Nat.add_zero] at hc
        obtain ⟨V0, hV0⟩ : ∃ V, l[0].1 = V := ⟨_, rfl⟩
        rw [hV0] at hc
        have HIN : Hid (∃ t ∈ l, t.1 = V0) := Lib.hid ⟨l[0], List.getElem_mem hl0, hV0⟩
        have hpos : 0 < A := by omega
        clear hV0 h0
        go_wp2_with fail
        go_loopw [8, 9] (fun lo i wr => ∃ (j : Nat) (L : Int), j ≤ k ∧ i = .int .i64 j ∧ lo = .int .i64 L ∧ (∃ t ∈ l, t.1 = L) ∧ (∀ t ∈ l.take j, L ≤ t.1) ∧ w = wr) (fun _ i _ => k - (intOf i).toNat)
        case atStart => exact ⟨0, V0, by omega, rfl, rfl, HIN.out, by simp, rfl⟩
        case round =>
          obtain ⟨j, L, hj, rfl, rfl, hin, hle, rfl⟩ := hrel
          clear hc hk HIN
          have HIN := Lib.hid hin
          have HLE := Lib.hid hle
          clear hin hle
          by_cases hjk : (j : Int) < (k : Int)
          · have hjl : j < l.length := by rw [HM.out]; omega
            obtain ⟨b', o', hp', hc⟩ := HP.out.at j (by rw [List.length_map]; exact hjl)
            simp only [Option.some.injEq, Addr.mk.injEq] at hp'
            obtain ⟨rfl, rfl, -⟩ := hp'
            rw [List.getElem_map] at hc
            obtain ⟨V, hV⟩ : ∃ V, l[j].1 = V := ⟨_, rfl⟩
            rw [hV] at hc
            have HVI : Hid (∃ t ∈ l, t.1 = V) := Lib.hid ⟨l[j], List.getElem_mem hjl, hV⟩
            have HNX : Hid (∀ M : Int, M ≤ V → M ≤ L → ∀ t ∈ l.take (j + 1), M ≤ t.1) := Lib.hid fun M h1 h2 t ht => by
              rw [List.take_succ_eq_append_getElem hjl, List.mem_append, List.mem_singleton] at ht
              rcases ht with ht | rfl
              · have := HLE.out t ht; omega
              · omega
            clear hV
            by_cases hvl : V < L
            · go_wp2_with fail
              go_roundw
              case rel => exact ⟨j + 1, V, by omega, by go_num, rfl, HVI.out, HNX.out V (Int.le_refl _) (by omega), by trivial⟩
              case measure => simp [intOf]; omega
            · have d1 : decide (V < L) = false := decide_eq_false hvl
              go_wp2_with fail
              go_roundw
              case rel => exact ⟨j + 1, L, by omega, by go_num, rfl, HIN.out, HNX.out L (by omega) (Int.le_refl _), by trivial⟩
              case measure => simp [intOf]; omega
          · obtain rfl : j = k := by omega
            have HLA : Hid (∀ t ∈ l, L ≤ t.1) := Lib.hid fun t ht => HLE.out t (by rw [List.take_of_length_le (by rw [HM.out]; exact Nat.le_refl _)]; exact ht)
            have hLo : -9223372036854775808 ≤ L ∧ L ≤ 9223372036854775807 := by
              obtain ⟨t, ht, rfl⟩ := HIN.out
              exact ⟨(HOK.out t ht).lo, (HOK.out t ht).hi⟩
            obtain ⟨hL1, hL2⟩ := hLo
            obtain ⟨UL, wL, eL⟩ := u64_of L
            have HDL := Lib.hid (dsm_le L hL1 l HOK.out)
            have EL := Lib.hid eL
            have HD0 : Hid (NewDig w (w.alloc (.cells #[.int .u64 0, .int .u64 0, .int .u64 0, .int .u64 0, .int .u64 0, .int .u64 0, .int .u64 0, .int .u64 0] 34)) (.slice (some ⟨w.heap.size, 0, none⟩) 8 8) 0) := Lib.hid (NewDig.mk (own8 w) (Fr.alloc _ _ _))
            clear eL HLE
            go_wp2_with fail
            go_loopw [10, 11] (fun v i wr => ∃ (k : Nat) (p3 : Option Addr) (c3 : Nat), k ≤ j ∧ i = .int .i64 k ∧ v = .slice p3 8 c3 ∧ Dig wr p3 (dsm L (l.take k)) ∧ Fr S0 w wr) (fun _ i _ => j - (intOf i).toNat)
            case atStart =>
              obtain ⟨p3, c3, hv, hd, hf⟩ := HD0.out
              exact ⟨0, p3, c3, by omega, rfl, hv, by rw [show dsm L (l.take 0) = 0 by simp [dsm]]; exact hd, hf⟩
            case round =>
              obtain ⟨k, p3, c3, hk, rfl, rfl, hdig, hfr⟩ := hrel
              clear HD0
              by_cases hkj : (k : Int) < (j : Int)
              · have hkl : k < l.length := by rw [HM.out]; omega
                obtain ⟨b1, o1, hp1, hc1⟩ := (HP.out.fr0 hfr).at k (by rw [List.length_map]; exact hkl)
                simp only [Option.some.injEq, Addr.mk.injEq] at hp1
                obtain ⟨rfl, rfl, -⟩ := hp1
                obtain ⟨b2, o2, rfl, hc2⟩ := (HQ.out.fr0 hfr).at k (by rw [List.length_map]; exact hkl)
                rw [List.getElem_map] at hc1 hc2
                have hok := HOK.out _ (List.getElem_mem hkl)
                have hvl := HLA.out _ (List.getElem_mem hkl)
                have hvh := hok.hi
                have hn := hok.n
                have hst := dsm_take L l k hkl
                have hpr := dsm_pre L l (k + 1)
                have hdl := HDL.out
                rw [HA.out] at hdl
                rw [hst] at hpr
                obtain ⟨V, hV⟩ : ∃ V, l[k].1 = V := ⟨_, rfl⟩
                obtain ⟨N, hN⟩ : ∃ N, l[k].2 = N := ⟨_, rfl⟩
                rw [hV] at hc1 hvl hvh hst hpr
                rw [hN] at hc2 hn hst hpr
                obtain ⟨D, hD⟩ : ∃ D, (V - L).toNat = D := ⟨_, rfl⟩
                rw [hD] at hst hpr
                obtain ⟨UV, wV, eV⟩ := u64_of V
                have eL := EL.out
                have wD : IntKind.u64.wrap ((UV : Int) - (UL : Int)) = (D : Int) := by rw [IntKind.wrap_u64]; omega
                have HML := Lib.hid (fun W => rmul_any D N W (by omega) hn)
                have HAD := Lib.hid (fun p c W (h1 : Dig W p3 (dsm L (l.take k))) (h2 : Dig W p (D * N)) => radd_any p3 p c3 c (dsm L (l.take k)) (D * N) W h1 h2)
                have HST := Lib.hid hst
                have HF := Lib.hid hfr
                have HDG := Lib.hid hdig
                clear hok hV hN hD eV eL hst hpr hdl hfr hdig
                go_wp2_with fail
                go_region_law (first
                  | (go_simp; go_at_call 67; (with_reducible refine (HML.out _).mono ?_); rintro _ w3 ⟨v3, rfl, p5, c5, rfl, d5, f5⟩; have F5 := Lib.hid ((HF.out.trans0 (Fr.drew S0 _)).trans0 f5); have D5 := Lib.hid d5; have G5 := Lib.hid ((HDG.out.fr0 (Fr.drew S0 _)).fr0 f5); clear d5 f5)
                  | (go_simp; go_at_call 66; (with_reducible refine (HAD.out _ _ _ G5.out D5.out).mono ?_); rintro _ w4 ⟨v4, rfl, p6, c6, rfl, d6, f6⟩; have F6 := Lib.hid (F5.out.trans0 f6); have D6 := Lib.hid d6; clear d6 f6))
                all_goals
                  go_wp2_with fail
                  go_roundw
                  case rel => exact ⟨k + 1, p6, c6, by omega, by go_num, rfl, by rw [HST.out]; exact D6.out, F6.out⟩
                  case measure => simp [intOf]; omega
              · obtain rfl : k = j := by omega
                have et : l.take k = l := List.take_of_length_le (by rw [HM.out]; exact Nat.le_refl _)
                rw [et] at hdig
                have hdl := HDL.out
                rw [HA.out] at hdl
                have hq : dsm L l / A < 18446744073709551616 := by rw [Nat.div_lt_iff_lt_mul hpos]; omega
                have hX : dsm L l < 340282366920938463463374607431768211456 := by
                  have := Nat.mul_le_mul_left 18446744073709551615 (show A ≤ 18446744073709551615 by omega)
                  omega
                have hmf := mean_from L hL1 l HLA.out (by rw [HA.out]; exact hpos)
                rw [HA.out] at hmf
                have HDV := Lib.hid (fun W (h : Dig W p3 (dsm L l)) => rdiv_any p3 c3 (dsm L l) A W h hX hpos hw)
                have hup : L + ((dsm L l / A : Nat) : Int) ≤ 9223372036854775807 := by
                  rw [← hmf]
                  have h1 := lsm_le l HOK.out
                  rw [HA.out] at h1
                  have h2 : lsm l / A < 18446744073709551616 := by rw [Nat.div_lt_iff_lt_mul hpos]; omega
                  omega
                obtain ⟨Q, hQe⟩ : ∃ Q, dsm L l / A = Q := ⟨_, rfl⟩
                obtain ⟨R, hR⟩ : ∃ R, dsm L l % A = R := ⟨_, rfl⟩
                rw [hQe] at hq HDV hmf hup
                rw [hR] at HDV
                have HNB := Lib.hid (fun p c W (h : Dig W p Q) => rnumber_any p c Q 0 W h (by decide))
                rw [show Q / 65536 ^ 0 % 18446744073709551616 = Q by rw [Nat.pow_zero, Nat.div_one]; omega] at HNB
                have HMF : Hid (((lsm l / wts l : Nat) : Int) - 9223372036854775808 = L + (Q : Int)) := Lib.hid (by rw [HA.out]; exact hmf)
                have eL := EL.out
                have HWR : Hid (wrap64 (IntKind.u64.wrap ((UL : Int) + (Q : Int))) = L + (Q : Int)) := Lib.hid (by rw [IntKind.wrap_u64]; unfold wrap64; omega)
                have HF := Lib.hid hfr
                have HDG := Lib.hid hdig
                clear et hdl hX hmf hQe hR eL hfr hdig hup
                go_wp2_with fail
                refine (HDV.out _ HDG.out).mono ?_
                rintro e w3 ⟨v3, rfl, p5, c5, rfl, d5, f5⟩
                go_wp2_with fail
                refine (HNB.out _ _ _ d5).mono ?_
                rintro e w4 ⟨rfl, rfl⟩
                go_wp2_with fail
                go_ret2
                exact ⟨by rw [if_neg HE.out, HMF.out, ← HWR.out]; rfl, HF.out.trans0 f5⟩
end Go.Proofs.Ytbpfmjekpjfceaa
