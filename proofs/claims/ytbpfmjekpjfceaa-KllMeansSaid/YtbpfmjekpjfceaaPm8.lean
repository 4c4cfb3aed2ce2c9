/- KcMrg, KcMrg2, KcClone -/
import Derived.Test.YtbpfmjekpjfceaaPm1
import Derived.Test.YtbpfmjekpjfceaaPm2
import Derived.Test.YtbpfmjekpjfceaaPm3
import Derived.Test.YtbpfmjekpjfceaaPm4
import Derived.Deep.RegionLaw
import Derived.Deep.RegionHeld3
import Derived.BigRegion
import Derived.WalkKit
import Derived.Maps.AppendAt
import Derived.Laws.AppendOwnNone
import Derived.Laws.OwnMore
import Derived.Lib.AppendZerosOnto
import Derived.Lib.SliceRun
import Derived.Lib.Walk
import Derived.Laws.BytesArg
import Derived.Lib.SlBytesConst
import Derived.WalkSpells
import Derived.WalkLawsBesides
import Derived.Deep.QuietTactic
import Derived.BigQuiet
import Derived.RegionTactic
import Derived.Deep.AppendLies
import Derived.Laws.ResultCell
import Derived.Laws.EntriesVeiled
import Derived.Lib.Hide
import Derived.Test.YtbpfmjekpjfceaaRows
set_option maxRecDepth 100000
set_option maxHeartbeats 8000000
namespace Go.Proofs.Ytbpfmjekpjfceaa
open Go.RowKit
theorem isnan_no (a : Int) (w : World) : Calls Try.prog 78 #[.int .i64 a] w fun e w' => e = .returned (.bool false) ∧ w = w' := by
  have h : (a != a) = false := by simp
  go_enter Try.func78, Try.ntmps78
  go_wp2_with fail
  go_ret
  exact ⟨by simp, rfl⟩
theorem isnan2_no (a : Int) (w : World) : Calls Try.prog 108 #[.int .i64 a] w fun e w' => e = .returned (.bool false) ∧ w = w' := by
  have h : (a != a) = false := by simp
  go_enter Try.func108, Try.ntmps108
  go_wp2_with fail
  go_ret
  exact ⟨by simp, rfl⟩
theorem less_any (a b : Int) (w : World) : Calls Try.prog 80 #[.int .i64 a, .int .i64 b] w fun e w' => e = .returned (.bool (decide (a < b))) ∧ w = w' := by
  have HA := Lib.hid (isnan_no a w)
  have HB := Lib.hid (isnan_no b w)
  by_cases h : a < b
  · have k : decide (a < b) = true := decide_eq_true h
    rw [k]
    go_enter Try.func80, Try.ntmps80
    go_wp2_with fail
    refine HA.out.mono ?_
    rintro e w1 ⟨rfl, rfl⟩
    go_wp2_with fail
    go_ret
    exact ⟨rfl, rfl⟩
  · have k : decide (a < b) = false := decide_eq_false h
    rw [k]
    go_enter Try.func80, Try.ntmps80
    go_wp2_with fail
    refine HA.out.mono ?_
    rintro e w1 ⟨rfl, rfl⟩
    go_wp2_with fail
    go_ret
    exact ⟨rfl, rfl⟩
theorem Asc.at {l : List Int} (h : Asc l) (i j : Nat) (hij : i ≤ j) (hj : j < l.length) : l[i]'(by omega) ≤ l[j] := by
  by_cases e : i = j
  · subst e; exact Int.le_refl _
  · exact List.pairwise_iff_getElem.1 h i j (by omega) hj (by omega)
def fndB (v : Int) (l : List Int) : Bool := l[lbz v l]? == some v
theorem bsearch_any (p : Option Addr) (n c : Nat) (l : List Int) (v : Int) (w : World) (h : Sz w p n c l) (ha : Asc l) (hN : n ≤ 1000000000000) :
    Calls Try.prog 90 #[.slice p n c, .int .i64 v] w fun e w' => e = .returned (.tuple #[.int .i64 (lbz v l : Nat), .bool (fndB v l)]) ∧ Fr S0 w w' := by
  have HS := Lib.hid h
  have HA := Lib.hid ha
  have HL := Lib.hid h.len
  clear h ha
  have hNi : (n : Int) ≤ 1000000000000 := by omega
  go_enter Try.func90, Try.ntmps90
  go_wp2_with fail
  go_loopw [7, 8, 9] (fun a b _ wr => ∃ i j : Nat, i ≤ j ∧ j ≤ n ∧ a = .int .i64 i ∧ b = .int .i64 j ∧ Hid (∀ k, (hk : k < l.length) → k < i → l[k] < v) ∧ Hid (∀ k, (hk : k < l.length) → j ≤ k → v ≤ l[k]) ∧ Hid (Fr S0 w wr)) (fun a b _ _ => (intOf b).toNat - (intOf a).toNat)
  case atStart => exact ⟨0, n, by omega, by omega, rfl, rfl, Lib.hid fun k _ hk => absurd hk (Nat.not_lt_zero k), Lib.hid fun k h1 h2 => by have := HL.out; omega, Lib.hid (Fr.refl _ _)⟩
  case round =>
    obtain ⟨i, j, hij, hjn, rfl, rfl, h1, h2, hfr⟩ := hrel
    by_cases hlt : (i : Int) < (j : Int)
    · obtain ⟨h, hh⟩ : ∃ h, (i + j) / 2 = h := ⟨_, rfl⟩
      have hih : i ≤ h := by omega
      have hhj : h < j := by omega
      have e1 : ((i : Int) + (j : Int)) / 2 ^ 1 = (h : Int) := by omega
      have e2 : ((i : Int) + (j : Int)) / 2 = (h : Int) := by omega
      have hs : (i : Int) + (j : Int) < 9223372036854775808 := by omega
      have hhl : h < l.length := by rw [HL.out]; omega
      obtain ⟨b, o, rfl, d0⟩ := (HS.out.fr0 hfr.out).at h hhl
      obtain ⟨x, hx⟩ : ∃ x, l[h] = x := ⟨_, rfl⟩
      rw [hx] at d0
      have hhn : (h : Int) < (n : Int) := by omega
      have hh0 : (0 : Int) ≤ (h : Int) := by omega
      have HC := Lib.hid (fun W => less_any x v W)
      have HX := Lib.hid hx
      clear hx hh
      by_cases hv : x < v
      · have kv : decide (x < v) = true := decide_eq_true hv
        rw [kv] at HC
        have HV := Lib.hid hv
        clear hv kv
        go_wp2_with fail
        refine (HC.out _).mono ?_
        rintro e w1 ⟨rfl, rfl⟩
        go_wp2_with fail
        go_roundw
        case rel => exact ⟨h + 1, j, by omega, by omega, by go_num, rfl, Lib.hid (fun k hk hkh => by
            have := HA.out.at k h (by omega) hhl
            have := HX.out
            have := HV.out
            omega), h2, hfr⟩
        case measure => simp [intOf]; omega
      · have kv : decide (x < v) = false := decide_eq_false hv
        rw [kv] at HC
        have HV := Lib.hid hv
        clear hv kv
        go_wp2_with fail
        refine (HC.out _).mono ?_
        rintro e w1 ⟨rfl, rfl⟩
        go_wp2_with fail
        go_roundw
        case rel => exact ⟨i, h, by omega, by omega, rfl, rfl, h1, Lib.hid (fun k hk hkh => by
            have := HA.out.at h k hkh hk
            have := HX.out
            have := HV.out
            omega), hfr⟩
        case measure => simp [intOf]; omega
    · obtain rfl : i = j := by omega
      have HI : Hid (lbz v l = i) := Lib.hid (lbz_is v l i (by rw [HL.out]; omega) (fun j hj hji => h1.out j hj hji) fun hi => h2.out i hi (Nat.le_refl _))
      clear h1 h2
      by_cases hin : i < n
      · have hil : i < l.length := by rw [HL.out]; omega
        obtain ⟨b, o, rfl, d0⟩ := (HS.out.fr0 hfr.out).at i hil
        obtain ⟨x, hx⟩ : ∃ x, l[i] = x := ⟨_, rfl⟩
        rw [hx] at d0
        have kin : decide (i < n) = true := decide_eq_true hin
        have hini : (i : Int) < (n : Int) := by omega
        have hi0 : (0 : Int) ≤ (i : Int) := by omega
        have HNA := Lib.hid (isnan2_no x)
        have HX := Lib.hid hx
        clear hx
        by_cases hxv : x = v
        · have HB : Hid (fndB v l = true) := Lib.hid (by unfold fndB; rw [HI.out, List.getElem?_eq_getElem hil, HX.out, hxv]; simp)
          have k1 : (x == v) = true := by simp [hxv]
          clear hxv
          go_wp2_with fail
          go_ret2
          exact ⟨by rw [HI.out, HB.out]; rfl, hfr.out⟩
        · have HB : Hid (fndB v l = false) := Lib.hid (by unfold fndB; rw [HI.out, List.getElem?_eq_getElem hil, HX.out]; simp [hxv])
          have k1 : (x == v) = false := by simp [hxv]
          clear hxv
          go_wp2_with fail
          refine (HNA.out _).mono ?_
          rintro e w1 ⟨rfl, rfl⟩
          go_wp2_with fail
          go_ret2
          exact ⟨by rw [HI.out, HB.out]; rfl, hfr.out⟩
      · have kin : decide (i < n) = false := decide_eq_false hin
        have HB : Hid (fndB v l = false) := Lib.hid (by unfold fndB; rw [HI.out, List.getElem?_eq_none (by rw [HL.out]; omega)]; rfl)
        clear hlt hin
        go_wp2_with fail
        go_ret2
        exact ⟨by rw [HI.out, HB.out]; rfl, hfr.out⟩
end Go.Proofs.Ytbpfmjekpjfceaa

namespace Go.Proofs.Ytbpfmjekpjfceaa
open Go.RowKit
theorem SrcIs.ofSz {w : World} {p : Option Addr} {n c : Nat} {l : List Int} (h : Sz w p n c l) : SrcIs w (.slice p n c) n (zs l) := by
  refine ⟨by rw [zs_len, h.len], ?_⟩
  cases p with
  | none =>
    have hc := h.nil rfl
    have hn := h.cap
    exact .inl ⟨by rw [hc, show n = 0 by omega], by omega⟩
  | some ad =>
    refine .inr ⟨ad, c, rfl, fun j v hj => ?_⟩
    have hjl : j < l.length := by
      have := (List.getElem?_eq_some_iff.1 hj).1
      rwa [zs_len] at this
    obtain ⟨b, off, hp, hcell⟩ := h.at j hjl
    obtain rfl := Option.some.inj hp
    have hplain : (⟨b, off, none⟩ : Addr).add j = ⟨b, off + j, none⟩ := by unfold Addr.add; split <;> simp_all
    rw [hplain, hcell, ← hj]
    simp [zs, hjl]
theorem Sz.pre {w : World} {p : Option Addr} {n c : Nat} {l : List Int} (h : Sz w p n c l) (i : Nat) (hi : i ≤ n) : Sz w p i c (l.take i) := by
  have h1 := h.len
  have h2 := h.cap
  refine ⟨by rw [List.length_take]; omega, fun hne => ?_, by omega, h.max, h.nil, h.form⟩
  obtain ⟨b, o, hp, hc⟩ := h.cel (fun e => by subst e; simp at hne)
  refine ⟨b, o, hp, fun j hj => ?_⟩
  rw [List.length_take] at hj
  rw [hc j (by omega), List.getElem_take]
theorem Sz.suf {w : World} {b o n c : Nat} {l : List Int} (h : Sz w (some ⟨b, o, none⟩) n c l) (i : Nat) (hi : i ≤ n) : Sz w (some ⟨b, o + i, none⟩) (n - i) (c - i) (l.drop i) := by
  have h1 := h.len
  have h2 := h.cap
  have h3 := h.max
  refine ⟨by rw [List.length_drop]; omega, fun hne => ?_, by omega, by omega, fun e => (by cases e), fun _ => ⟨b, o + i, rfl⟩⟩
  obtain ⟨b', o', hp, hc⟩ := h.cel (fun e => by subst e; simp at hne)
  simp only [Option.some.injEq, Addr.mk.injEq, and_true] at hp
  obtain ⟨rfl, rfl⟩ := hp
  refine ⟨b, o + i, rfl, fun j hj => ?_⟩
  rw [List.length_drop] at hj
  rw [Nat.add_assoc, hc (i + j) (by omega), List.getElem_drop]
theorem Sz.end {w : World} {p : Option Addr} {n c : Nat} {l : List Int} (h : Sz w p n c l) : Sz w p 0 0 (l.drop n) := by
  have h1 := h.len
  have e : l.drop n = [] := List.drop_eq_nil_of_le (by omega)
  rw [e]
  exact ⟨rfl, fun h => absurd rfl h, Nat.le_refl _, Nat.zero_le _, fun _ => rfl, fun h => absurd h (Nat.lt_irrefl _)⟩
theorem AccZ.many {w wr w3 : World} {v : Value} {N N' c : Nat} {p : Option Addr} {L M : List Int} (h : AccZ w wr v N L) (own : w3.ownsRow 0 2 1 (.slice p N' c) N' (zs L ++ zs M)) (hg : wr.grownBy w3 v.ownBlock)
    (hat : Value.ownBlock (.slice p N' c) = v.ownBlock ∨ Value.ownBlock (.slice p N' c) = some wr.heap.size) : AccZ w w3 (.slice p N' c) N' (L ++ M) :=
  ⟨by rw [zs_app]; exact own, fresh_many h.fresh h.fr.size hat, h.fr.append hg h.fresh⟩
theorem merged_any (p q : Option Addr) (n m c d : Nat) (A B : List Int) (w : World) (hA : Sz w p n c A) (hB : Sz w q m d B) (ha : Asc A) (hN : n + m ≤ 1000000000000) :
    Calls Try.prog 71 #[.slice p n c, .slice q m d] w fun e w' => ∃ v, e = .returned v ∧ AccZ w w' v (n + m) (mrgC A B) := by
  have HA := Lib.hid hA
  have HB := Lib.hid hB
  have HAS := Lib.hid ha
  have HBL := Lib.hid hB.len
  obtain ⟨N, eN⟩ : ∃ N, n + m = N := ⟨_, rfl⟩
  have eN2 : (n : Int) + (m : Int) = (N : Int) := by omega
  have HEN := Lib.hid eN
  rw [eN] at hN ⊢
  have HR : Hid (Room N) := Lib.hid (Room.mk (by omega))
  have HNB := Lib.hid hN
  have hNi : (N : Int) ≤ 1000000000000 := by omega
  have hmi : (m : Int) ≤ 1000000000000 := by omega
  clear hA hB ha eN
  go_enter Try.func71, Try.ntmps71
  go_wp2_with (at_make; refine make_room elZ (.const (.int .i64 0)) (.tmp 14) rfl rfl rfl rfl HR.out ?_; intro w1 hown hf1; have HACC : Hid (AccZ w w1 (.slice (some ⟨w.heap.size, 0, none⟩) 0 N) 0 []) := Lib.hid ⟨hown, fun g hg => by obtain rfl := Option.some.inj hg; exact Nat.le_refl _, hf1⟩; clear hown hf1)
  clear eN2 hNi hN
  go_loopw [0, 5, 7, 8, 9, 18] (fun a l _ _ _ z wr => ∃ (i k n1 c1 : Nat) (p1 : Option Addr) (A1 L : List Int), z = .int .i64 i ∧ i ≤ m ∧ a = .slice p1 n1 c1 ∧ k + n1 + (m - i) = N ∧ Hid (Sz w p1 n1 c1 A1) ∧ Hid (Asc A1) ∧ Hid (AccZ w wr l k L) ∧ Hid (L ++ mrgC A1 (B.drop i) = mrgC A B)) (fun _ _ _ _ _ z _ => m - (intOf z).toNat)
  case atStart => exact ⟨0, 0, n, c, p, A, [], rfl, Nat.zero_le _, rfl, by have := HEN.out; omega, HA, HAS, HACC, Lib.hid rfl⟩
  case round =>
    obtain ⟨i, k, n1, c1, p1, A1, L, rfl, him, rfl, hk, hA, has, hacc, heq⟩ := hrel
    obtain ⟨pv, cv, rfl⟩ := slFormN hacc.out.own
    have hNB := HNB.out
    by_cases hlt : (i : Int) < (m : Int)
    · have hil : i < B.length := by rw [HBL.out]; omega
      have hdr := List.drop_eq_getElem_cons hil
      obtain ⟨b2, o2, rfl, d0⟩ := (HB.out.fr0 hacc.out.fr).at i hil
      obtain ⟨x, hx⟩ : ∃ x, B[i] = x := ⟨_, rfl⟩
      rw [hx] at d0 hdr
      have hn1 : n1 ≤ 1000000000000 := by omega
      have HSE := Lib.hid (fun W (f : Fr S0 w W) => bsearch_any p1 n1 c1 A1 x W (hA.out.fr0 f) has.out hn1)
      have hle := lbz_le x A1
      rw [hA.out.len] at hle
      have HNX : Hid ((L ++ A1.take (lbz x A1)) ++ [x] ++ mrgC (A1.drop (lbz x A1)) (B.drop (i + 1)) = mrgC A B) := Lib.hid (by rw [← heq.out, hdr, mrgC]; simp)
      obtain ⟨u, hu⟩ : ∃ u, lbz x A1 = u := ⟨_, rfl⟩
      rw [hu] at HSE hle HNX
      have hcap := hA.out.cap
      have hmx := hA.out.max
      have hi0 : (0 : Int) ≤ (i : Int) := by omega
      have HPRE := Lib.hid (hA.out.pre u hle)
      have HR1 : Hid (Room (k + u)) := Lib.hid (Room.mk (by omega))
      have HR2 : Hid (Room (k + u + 1)) := Lib.hid (Room.mk (by omega))
      clear hx hdr heq hu hNB
      rcases (by omega : u = c1 ∨ u < c1) with hcu | hcu
      · -- all that there is room for
        subst hcu
        obtain rfl : n1 = u := by omega
        have HSU : Hid (Sz w p1 0 0 (A1.drop n1)) := Lib.hid hA.out.end
        cases p1 with
        | none =>
          obtain rfl : n1 = 0 := hA.out.nil rfl
          clear hle hcap hmx
          go_wp2_with fail
          refine (HSE.out _ hacc.out.fr).mono ?_
          rintro e w1 ⟨rfl, f1⟩
          have HA1 := Lib.hid (hacc.out.fr0 f1)
          clear f1 HSE
          go_wp2_with (first
            | ((with_reducible show wpList _ _ _ (Oper.mk (some 32) _ _ _ _ _ :: _) _ _); refine app_many elZ (.tmp 28) (.tmp 31) HA1.out.own (SrcIs.ofSz (HPRE.out.fr0 HA1.out.fr)) rfl rfl rfl rfl rfl (one_zs _) HR1.out ?_; intro q5 d5 w5 hown hgrow hat; have HA5 := Lib.hid (HA1.out.many hown hgrow hat); clear hown hgrow hat)
            | ((with_reducible show wpList _ _ _ (Oper.mk (some 35) _ _ _ _ _ :: _) _ _); refine app_one elZ (.tmp 32) (.tmp 34) rfl HA5.out.own rfl rfl rfl rfl rfl (one_z _) HR2.out ?_; intro g1 cap1 w6 hown hgrow hat hlt; have HA6 := Lib.hid (HA5.out.app hown hgrow hat); clear hown hgrow hat hlt)
            | fail)
          go_roundw
          case rel => exact ⟨i + 1, k + 0 + 1, 0, 0, none, _, _, by go_num, by omega, rfl, by omega, HSU, Lib.hid (has.out.drop _), HA6, HNX⟩
          case measure => simp [intOf]; omega
        | some ad =>
          clear hle hcap hmx
          go_wp2_with fail
          refine (HSE.out _ hacc.out.fr).mono ?_
          rintro e w1 ⟨rfl, f1⟩
          have HA1 := Lib.hid (hacc.out.fr0 f1)
          clear f1 HSE
          go_wp2_with (first
            | ((with_reducible show wpList _ _ _ (Oper.mk (some 32) _ _ _ _ _ :: _) _ _); refine app_many elZ (.tmp 28) (.tmp 31) HA1.out.own (SrcIs.ofSz (HPRE.out.fr0 HA1.out.fr)) rfl rfl rfl rfl rfl (one_zs _) HR1.out ?_; intro q5 d5 w5 hown hgrow hat; have HA5 := Lib.hid (HA1.out.many hown hgrow hat); clear hown hgrow hat)
            | ((with_reducible show wpList _ _ _ (Oper.mk (some 35) _ _ _ _ _ :: _) _ _); refine app_one elZ (.tmp 32) (.tmp 34) rfl HA5.out.own rfl rfl rfl rfl rfl (one_z _) HR2.out ?_; intro g1 cap1 w6 hown hgrow hat hlt; have HA6 := Lib.hid (HA5.out.app hown hgrow hat); clear hown hgrow hat hlt)
            | fail)
          go_roundw
          case rel => exact ⟨i + 1, k + n1 + 1, 0, 0, _, _, _, by go_num, by omega, rfl, by omega, HSU, Lib.hid (has.out.drop _), HA6, HNX⟩
          case measure => simp [intOf]; omega
      · cases p1 with
        | none =>
          have := hA.out.nil rfl
          omega
        | some ad =>
          obtain ⟨b1, o1, rfl⟩ : ∃ b1 o1, ad = ⟨b1, o1, none⟩ := let ⟨b1, o1, e⟩ := hA.out.form (by omega); ⟨b1, o1, Option.some.inj e⟩
          have HSU := Lib.hid (hA.out.suf u hle)
          have k1 : ¬ c1 = u := by omega
          have hk2 : k + u + 1 + (n1 - u) + (m - (i + 1)) = N := by omega
          have hu1 : u ≤ n1 := hle
          have hu2 : (u : Int) ≤ (c1 : Int) := by omega
          clear hle hcap hmx hn1
          go_wp2_with fail
          refine (HSE.out _ hacc.out.fr).mono ?_
          rintro e w1 ⟨rfl, f1⟩
          have HA1 := Lib.hid (hacc.out.fr0 f1)
          clear f1 HSE
          go_wp2_with (first
            | ((with_reducible show wpList _ _ _ (Oper.mk (some 32) _ _ _ _ _ :: _) _ _); refine app_many elZ (.tmp 28) (.tmp 31) HA1.out.own (SrcIs.ofSz (HPRE.out.fr0 HA1.out.fr)) rfl rfl rfl rfl rfl (one_zs _) HR1.out ?_; intro q5 d5 w5 hown hgrow hat; have HA5 := Lib.hid (HA1.out.many hown hgrow hat); clear hown hgrow hat)
            | ((with_reducible show wpList _ _ _ (Oper.mk (some 35) _ _ _ _ _ :: _) _ _); refine app_one elZ (.tmp 32) (.tmp 34) rfl HA5.out.own rfl rfl rfl rfl rfl (one_z _) HR2.out ?_; intro g1 cap1 w6 hown hgrow hat hlt; have HA6 := Lib.hid (HA5.out.app hown hgrow hat); clear hown hgrow hat hlt)
            | fail)
          go_roundw
          case rel => exact ⟨i + 1, k + u + 1, n1 - u, c1 - u, some ⟨b1, o1 + u, none⟩, _, _, by go_num, by omega, rfl, hk2, HSU, Lib.hid (has.out.drop _), HA6, HNX⟩
          case measure => simp [intOf]; omega
    · obtain rfl : i = m := by omega
      have HE : Hid (L ++ A1 = mrgC A B) := Lib.hid (by rw [← heq.out, List.drop_eq_nil_of_le (by rw [HBL.out]; exact Nat.le_refl _), mrgC])
      have HRN : Hid (Room (k + n1)) := Lib.hid (Room.mk (by omega))
      clear heq
      go_wp2_with (first
        | ((with_reducible show wpList _ _ _ (Oper.mk (some 42) _ _ _ _ _ :: _) _ _); refine app_many elZ (.tmp 40) (.tmp 41) hacc.out.own (SrcIs.ofSz (hA.out.fr0 hacc.out.fr)) rfl rfl rfl rfl rfl (one_zs _) HRN.out ?_; intro q5 d5 w5 hown hgrow hat; have HG5 := Lib.hid (And.intro hown (And.intro hgrow hat)); clear hown hgrow hat))
      go_ret
      refine ⟨_, rfl, ?_⟩
      have hkN : k + n1 = N := by omega
      have h5 := hacc.out.many HG5.out.1 HG5.out.2.1 HG5.out.2.2
      rw [HE.out, hkN] at h5
      rw [hkN]
      exact h5
end Go.Proofs.Ytbpfmjekpjfceaa

namespace Go.Proofs.Ytbpfmjekpjfceaa
open Go.RowKit
theorem none_z (w : World) : (w.alloc (.cells #[] 2)).ownsRow 0 2 1 (.slice (some ⟨w.heap.size, 0, none⟩) 0 0) 0 [] :=
  ⟨rfl, .inr ⟨w.heap.size, 0, #[], rfl, Nat.zero_le _, heap_alloc_new w _, Nat.le_refl _, by unfold maxLen; omega, rfl, rfl⟩⟩
theorem clonez_any (q : Option Addr) (m d : Nat) (l : List Int) (w : World) (z : Sz w q m d l) (hL : m ≤ 1000000000000) :
    Calls Try.prog 52 #[.slice q m d] w fun e w' => ∃ v, e = .returned v ∧ AccZ w w' v m l := by
  have hnil : ∀ (w : World) (a : Option Addr) (n c n' c' : Nat), (binOp .eql 53 (.slice a n c) (.slice none n' c')).run Try.prog w = .ok (.bool a.isNone) w := fun w a n c n' c' => Lib.run_eql_slice_nil w _ _ a n c n' c' Try.underlying53
  cases q with
  | none =>
    obtain rfl := z.nil rfl
    obtain rfl : m = 0 := by have := z.cap; omega
    obtain rfl : l = [] := List.eq_nil_of_length_eq_zero z.len
    go_enter Try.func52, Try.ntmps52
    go_wp2
    go_ret
    exact ⟨_, rfl, AccZ.nil (Fr.refl _ _)⟩
  | some a =>
    have HR : Hid (Room m) := Lib.hid (Room.mk (by omega))
    have hs := SrcIs.ofSz (z.fr0 (Fr.alloc S0 w (.cells #[] 2)))
    clear z hL
    go_enter Try.func52, Try.ntmps52
    go_wp2_with (first
      | ((with_reducible show wpList _ _ _ (Oper.mk (some 7) _ _ _ _ _ :: _) _ _); refine app_many elZ (.tmp 5) (.tmp 6) (none_z w) hs (Nat.zero_add _) rfl rfl rfl rfl (one_zs _) HR.out ?_; intro p1 c1 w1 own1 g1 at1; have f1 := fr_made (Fr.refl S0 w) g1; have v1 := fresh_many (fresh_made (n := 0) (c := 0) (Fr.refl S0 w)) (size_le (Fr.refl S0 w)) at1; clear g1 at1)
      | fail)
    go_ret
    exact ⟨_, rfl, by rw [List.nil_append] at own1; exact own1, v1, f1⟩
end Go.Proofs.Ytbpfmjekpjfceaa
