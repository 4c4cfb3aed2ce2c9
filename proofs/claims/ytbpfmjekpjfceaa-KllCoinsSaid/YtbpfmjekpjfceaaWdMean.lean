/- Means of numbers by their weights. -/
import Derived.Test.YtbpfmjekpjfceaaWdCode
import Derived.Test.YtbpfmjekpjfceaaMany
namespace Go.Proofs.Ytbpfmjekpjfceaa
open Go.RowKit

/-- numbers with a sign, each with its weight -/
abbrev Tm := Int × Nat
def wts (l : List Tm) : Nat := (l.map fun t => t.2).sum
def lsm (l : List Tm) : Nat := (l.map fun t => lft t.1 * t.2).sum
theorem wts_snoc (l : List Tm) (t : Tm) : wts (l ++ [t]) = wts l + t.2 := by simp [wts]
theorem lsm_snoc (l : List Tm) (t : Tm) : lsm (l ++ [t]) = lsm l + lft t.1 * t.2 := by simp [lsm]
structure TmOk (t : Tm) : Prop where
  lo : -9223372036854775808 ≤ t.1
  hi : t.1 ≤ 9223372036854775807
  n : t.2 < 18446744073709551616
theorem lft_lt {t : Tm} (h : TmOk t) : lft t.1 < 18446744073709551616 := by have := h.lo; have := h.hi; unfold lft; omega
theorem lsm_le : ∀ l : List Tm, (∀ t ∈ l, TmOk t) → lsm l ≤ 18446744073709551615 * wts l
  | [], _ => by simp [lsm, wts]
  | t :: r, h => by
    have h1 := lsm_le r fun u hu => h u (List.mem_cons_of_mem _ hu)
    have h2 := Nat.mul_le_mul_right t.2 (show lft t.1 ≤ 18446744073709551615 by have := lft_lt (h t List.mem_cons_self); omega)
    have e1 : lsm (t :: r) = lft t.1 * t.2 + lsm r := by simp [lsm]
    have e2 : wts (t :: r) = t.2 + wts r := by simp [wts]
    rw [e1, e2, Nat.mul_add]; omega
theorem wts_take (l : List Tm) (k : Nat) (hk : k < l.length) : wts (l.take (k + 1)) = wts (l.take k) + l[k].2 ∧ lsm (l.take (k + 1)) = lsm (l.take k) + lft l[k].1 * l[k].2 := by
  rw [List.take_succ_eq_append_getElem hk, wts_snoc, lsm_snoc]
  exact ⟨rfl, rfl⟩
theorem wts_take_le : ∀ (l : List Tm) (k : Nat), wts (l.take k) ≤ wts l
  | [], k => by simp
  | t :: r, 0 => by simp [wts]
  | t :: r, k + 1 => by
    have := wts_take_le r k
    have e2 : ∀ s : List Tm, wts (t :: s) = t.2 + wts s := fun s => by simp [wts]
    rw [List.take_succ_cons, e2, e2]; omega

/-- a slice of terms that is read -/
structure TmI (w : World) (p : Option Addr) (l : List Tm) : Prop where
  len : l.length ≤ maxLen
  cel : l ≠ [] → ∃ b off, p = some ⟨b, off, none⟩ ∧ ∀ i, (h : i < l.length) → w.cell? ⟨b, off + i * 2, none⟩ = some (.int .i64 l[i].1) ∧ w.cell? ⟨b, off + i * 2 + 1, none⟩ = some (.int .u64 (l[i].2 : Nat))
theorem TmI.fr0 {w w' : World} {p : Option Addr} {l : List Tm} (h : TmI w p l) (f : Fr S0 w w') : TmI w' p l :=
  ⟨h.len, fun hl => let ⟨b, o, hp, hc⟩ := h.cel hl; ⟨b, o, hp, fun i hi => ⟨f.cell (hc i hi).1 (fun h => h), f.cell (hc i hi).2 (fun h => h)⟩⟩⟩
theorem TmI.at {w : World} {p : Option Addr} {l : List Tm} (h : TmI w p l) (i : Nat) (hi : i < l.length) : ∃ b off, p = some ⟨b, off, none⟩ ∧ w.cell? ⟨b, off + i * 2, none⟩ = some (.int .i64 l[i].1) ∧ w.cell? ⟨b, off + i * 2 + 1, none⟩ = some (.int .u64 (l[i].2 : Nat)) :=
  let ⟨b, off, hp, hc⟩ := h.cel (by intro e; simp [e] at hi); ⟨b, off, hp, hc i hi⟩

/-- a block holds a wide number -/
def NumIs (w : World) (g n : Nat) : Prop := w.heap[g]? = some (.cells #[.int .u64 ((n / 18446744073709551616 : Nat) : Int), .int .u64 ((n % 18446744073709551616 : Nat) : Int)] 139 (0, 0))

theorem two_facts {w : World} {g : Nat} {a b : Value} {t : TypeId} (h : w.heap[g]? = some (.cells #[a, b] t (0, 0))) : w.cell? ⟨g, 0, none⟩ = some a ∧ w.cell? ⟨g, 1, none⟩ = some b ∧ w.frozen? ⟨g, 0, none⟩ = false ∧ w.frozen? ⟨g, 1, none⟩ = false := by
  simp [World.cell?, World.frozen?, h]
theorem two_set {w : World} {g : Nat} {a b : Value} {t : TypeId} (h : w.heap[g]? = some (.cells #[a, b] t (0, 0))) (x y : Value) : ((w.setCell ⟨g, 0, none⟩ x).setCell ⟨g, 1, none⟩ y).heap[g]? = some (.cells #[x, y] t (0, 0)) := by
  rw [heap_setCell_same _ g 1 _ _ _ (heap_setCell_same w g 0 _ _ _ h)]
  rfl
/-- a wide sum that has room -/
theorem add_room (X Y : Nat) (w : World) (hs : X + Y < 340282366920938463463374607431768211456) :
    Calls Try.prog 83 #[.agg #[.int .u64 ((X / 18446744073709551616 : Nat) : Int), .int .u64 ((X % 18446744073709551616 : Nat) : Int)], .agg #[.int .u64 ((Y / 18446744073709551616 : Nat) : Int), .int .u64 ((Y % 18446744073709551616 : Nat) : Int)]] w fun e w' =>
      e = .returned (.tuple #[nv ((X + Y) / 18446744073709551616) ((X + Y) % 18446744073709551616), .int .i64 0]) ∧ Fr S0 w w' := by
  have h := add_any _ _ _ _ _ _ _ _ w (rfl : (X % 18446744073709551616 + Y % 18446744073709551616 + 0) % 18446744073709551616 = _) rfl (rfl : (X / 18446744073709551616 + Y / 18446744073709551616 + _) % 18446744073709551616 = _) rfl (Nat.mod_lt _ (by decide)) (Nat.mod_lt _ (by decide))
  have e1 : (X / 18446744073709551616 + Y / 18446744073709551616 + (X % 18446744073709551616 + Y % 18446744073709551616 + 0) / 18446744073709551616) / 18446744073709551616 = 0 := by omega
  have e2 : (X / 18446744073709551616 + Y / 18446744073709551616 + (X % 18446744073709551616 + Y % 18446744073709551616 + 0) / 18446744073709551616) % 18446744073709551616 = (X + Y) / 18446744073709551616 := by omega
  have e3 : (X % 18446744073709551616 + Y % 18446744073709551616 + 0) % 18446744073709551616 = (X + Y) % 18446744073709551616 := by omega
  rw [e1, e2, e3] at h
  exact h

def MeanNo (l : List Tm) : Prop := wts l = 0 ∨ 18446744073709551616 ≤ wts l
instance (l : List Tm) : Decidable (MeanNo l) := inferInstanceAs (Decidable (_ ∨ _))
/-- how a mean ends -/
def MeanEnds (w : World) (l : List Tm) (e : Ending) (w' : World) : Prop :=
  (if MeanNo l then e = .returned (.tuple #[.int .i64 0, .int .i64 100]) else e = .returned (.tuple #[.int .i64 (((lsm l / wts l : Nat) : Int) - 9223372036854775808), .int .i64 0])) ∧ Fr S0 w w'

set_option maxRecDepth 100000 in
set_option maxHeartbeats 2000000 in
theorem mean_any (p : Option Addr) (c : Nat) (l : List Tm) (w : World) (h : TmI w p l) (hok : ∀ t ∈ l, TmOk t) :
    Calls Try.prog 65 #[.slice p l.length c] w (MeanEnds w l) := by
  have H := Lib.hid h
  have HOK := Lib.hid hok
  have hlen := h.len
  unfold maxLen at hlen
  obtain ⟨m, hm⟩ : ∃ m, l.length = m := ⟨_, rfl⟩
  have HM := Lib.hid hm
  rw [hm] at hlen ⊢
  clear h hok hm
  have hmf := makeF
  go_enter Try.func65, Try.ntmps65
  go_wp2_with fail
  obtain ⟨g, hg⟩ : ∃ g, w.heap.size = g := ⟨_, rfl⟩
  have HG : Hid (w.heap.size ≤ g) := Lib.hid (by omega)
  have HN0 : Hid ((w.alloc (.cells #[.int .u64 0, .int .u64 0] 139)).heap[g]? = some (.cells #[.int .u64 0, .int .u64 0] 139 (0, 0))) := Lib.hid (by rw [← hg]; exact heap_alloc_new _ _)
  rw [hg]
  clear hg
  go_loopw [5, 6, 8, 14] (fun a _ _ i wr => ∃ k : Nat, k ≤ m ∧ i = .int .i64 k ∧ a = .int .u64 (wts (l.take k) : Nat) ∧ wts (l.take k) < 18446744073709551616 ∧ NumIs wr g (lsm (l.take k)) ∧ Fr S0 w wr) (fun _ _ _ i _ => m - (intOf i).toNat)
  case atStart => exact ⟨0, by omega, rfl, rfl, by simp [wts], (by unfold NumIs; rw [show lsm (l.take 0) = 0 by simp [lsm]]; exact HN0.out), Fr.alloc _ _ _⟩
  case round =>
    obtain ⟨k, hk, rfl, rfl, hw, hnum, hfr⟩ := hrel
    by_cases hkm : (k : Int) < (m : Int)
    · have hkl : k < l.length := by rw [HM.out]; omega
      obtain ⟨b, o, rfl, hc1, hc2⟩ := (H.out.fr0 hfr).at k hkl
      have hok := HOK.out _ (List.getElem_mem hkl)
      obtain ⟨t1, t2⟩ := wts_take l k hkl
      have hlf := lft_lt hok
      have hlo := hok.lo
      have hhi := hok.hi
      have hn := hok.n
      have hle := lsm_le (l.take (k + 1)) fun u hu => HOK.out u (List.mem_of_mem_take hu)
      have hwl := wts_take_le l (k + 1)
      rw [t1, t2] at hle
      rw [t1] at hwl
      obtain ⟨V, hV⟩ : ∃ V, l[k].1 = V := ⟨_, rfl⟩
      obtain ⟨N, hN⟩ : ∃ N, l[k].2 = N := ⟨_, rfl⟩
      rw [hV] at hc1 t2 hlf hlo hhi hle
      rw [hN] at hc2 t1 t2 hn hle hwl
      have HLF := Lib.hid (fun W => lift_any V W hlo hhi)
      have HML := Lib.hid (fun W => mul_any (lft V) N W hlf hn)
      obtain ⟨A, hA⟩ : ∃ A, wts (l.take k) = A := ⟨_, rfl⟩
      obtain ⟨S, hS⟩ : ∃ S, lsm (l.take k) = S := ⟨_, rfl⟩
      rw [hA] at hw t1 hle hwl ⊢
      rw [hS] at hnum t2 hle
      have HFR := Lib.hid hfr
      have HW := Lib.hid hwl
      have T1 := Lib.hid t1
      have T2 := Lib.hid t2
      clear hok hV hN hA hS hfr t1 t2
      by_cases hov : A + N < 18446744073709551616
      · have h1 : ∀ W, (callFunc 82 #[.int .u64 (A : Int), .int .u64 (N : Int), .int .u64 0]).run Try.prog W = .ok (.value (.tuple #[.int .u64 ((A + N : Nat) : Int), .int .u64 0])) W := fun W => by
          have := run_add A N 0 (by omega) W
          rw [show (A + N + 0) % 18446744073709551616 = A + N by omega, show (A + N + 0) / 18446744073709551616 = 0 by omega] at this
          exact this
        have hsz : S + lft V * N < 340282366920938463463374607431768211456 := by
          have := Nat.mul_le_mul_left 18446744073709551615 (show A + N ≤ 18446744073709551615 by omega)
          omega
        have HAD := Lib.hid (fun W => add_room S (lft V * N) W hsz)
        unfold NumIs at hnum
        obtain ⟨L, hL⟩ : ∃ L, lft V = L := ⟨_, rfl⟩
        rw [hL] at HLF HML HAD T2
        obtain ⟨P, hP⟩ : ∃ P, L * N = P := ⟨_, rfl⟩
        rw [hP] at HML HAD T2
        obtain ⟨X1, hX1⟩ : ∃ X, S / 18446744073709551616 = X := ⟨_, rfl⟩
        obtain ⟨X0, hX0⟩ : ∃ X, S % 18446744073709551616 = X := ⟨_, rfl⟩
        obtain ⟨P1, hP1⟩ : ∃ X, P / 18446744073709551616 = X := ⟨_, rfl⟩
        obtain ⟨P0, hP0⟩ : ∃ X, P % 18446744073709551616 = X := ⟨_, rfl⟩
        obtain ⟨Z1, hZ1⟩ : ∃ X, (S + P) / 18446744073709551616 = X := ⟨_, rfl⟩
        obtain ⟨Z0, hZ0⟩ : ∃ X, (S + P) % 18446744073709551616 = X := ⟨_, rfl⟩
        rw [hX1, hX0] at hnum
        rw [hX1, hX0, hP1, hP0, hZ1, hZ0] at HAD
        rw [hP1, hP0] at HML
        have HZ1 := Lib.hid hZ1
        have HZ0 := Lib.hid hZ0
        have HNUM := Lib.hid hnum
        clear hlf hL hP hX1 hX0 hP1 hP0 hZ1 hZ0 hle hsz hnum
        go_wp2_with fail
        have hb : (wr.alloc (.cells #[.int .i64 V, .int .u64 (N : Int)] 107)).heap[g]? = some (.cells #[.int .u64 (X1 : Int), .int .u64 (X0 : Int)] 139 (0, 0)) := (Fr.alloc S0 _ _).row HNUM.out (fun h => h)
        have ht := heap_alloc_new wr (.cells #[.int .i64 V, .int .u64 (N : Int)] 107)
        have F1 : Hid (Fr S0 w (wr.alloc (.cells #[.int .i64 V, .int .u64 (N : Int)] 107))) := Lib.hid (HFR.out.trans0 (Fr.alloc _ _ _))
        obtain ⟨z, hz⟩ : ∃ z, wr.heap.size = z := ⟨_, rfl⟩
        rw [hz] at ht ⊢
        generalize wr.alloc (.cells #[.int .i64 V, .int .u64 (N : Int)] 107) = W at hb ht F1 ⊢
        obtain ⟨s0, s1, -, -⟩ := two_facts hb
        obtain ⟨t0, t1, -, -⟩ := two_facts ht
        have HB := Lib.hid hb
        have HT := Lib.hid ht
        clear hb ht hz h1 hc1 hc2
        go_region_law (first
          | (go_simp; go_at_call 85; (with_reducible refine (HLF.out _).mono ?_); rintro _ w2 ⟨rfl, rfl⟩)
          | (go_simp; go_at_call 84; (with_reducible refine (HML.out _).mono ?_); rintro _ w3 ⟨rfl, f3⟩; rw [nv_eq]; have F3 := Lib.hid ((Fr.drew S0 W).trans0 f3); obtain ⟨u0, u1, -, -⟩ := two_facts (F3.out.row HB.out (fun h => h)); clear f3)
          | (go_simp; go_at_call 83; (with_reducible refine (HAD.out _).mono ?_); rintro _ w4 ⟨rfl, f4⟩; rw [nv_eq]; have F4 := Lib.hid (F3.out.trans0 f4); have B4 := Lib.hid (F4.out.row HB.out (fun h => h)); obtain ⟨v0, v1, y0, y1⟩ := two_facts B4.out; clear f4))
        all_goals
          go_wp2_with fail
          go_roundw
          case rel =>
            refine ⟨k + 1, by omega, by go_num, by rw [T1.out]; go_num, by rw [T1.out]; exact hov, ?_, ((F1.out.trans0 F4.out).set _ _ HG.out).set _ _ HG.out⟩
            unfold NumIs
            rw [T2.out, HZ1.out, HZ0.out]
            exact two_set B4.out _ _
          case measure => simp [intOf]; omega
      · have h1 : ∀ W, (callFunc 82 #[.int .u64 (A : Int), .int .u64 (N : Int), .int .u64 0]).run Try.prog W = .ok (.value (.tuple #[.int .u64 ((A + N - 18446744073709551616 : Nat) : Int), .int .u64 1])) W := fun W => by
          have := run_add A N 0 (by omega) W
          rw [show (A + N + 0) % 18446744073709551616 = A + N - 18446744073709551616 by omega, show (A + N + 0) / 18446744073709551616 = 1 by omega] at this
          exact this
        have HE : Hid (MeanNo l) := Lib.hid (.inr (by omega))
        clear hle
        go_wp2_with fail
        go_ret2
        exact ⟨by rw [if_pos HE.out]; rfl, HFR.out.trans0 (Fr.alloc _ _ _)⟩
    · obtain rfl : k = m := by omega
      have et : l.take k = l := List.take_of_length_le (by rw [HM.out]; exact Nat.le_refl _)
      rw [et] at hw hnum ⊢
      have hle := lsm_le l HOK.out
      obtain ⟨A, hA⟩ : ∃ A, wts l = A := ⟨_, rfl⟩
      obtain ⟨S, hS⟩ : ∃ S, lsm l = S := ⟨_, rfl⟩
      rw [hA] at hw hle ⊢
      rw [hS] at hnum hle
      have HA := Lib.hid hA
      have HS := Lib.hid hS
      have HFR := Lib.hid hfr
      unfold NumIs at hnum
      have hX : S / 18446744073709551616 * 18446744073709551616 + S % 18446744073709551616 = S := Nat.div_add_mod' _ _
      have hsl := mod_word S
      have hsh : S / 18446744073709551616 < 18446744073709551616 := by
        have := Nat.mul_le_mul_left 18446744073709551615 (show A ≤ 18446744073709551615 by omega)
        omega
      have hlt : 0 < A → S / 18446744073709551616 < A := fun h => by
        rw [Nat.div_lt_iff_lt_mul (by decide)]; omega
      obtain ⟨X1, hX1⟩ : ∃ X, S / 18446744073709551616 = X := ⟨_, rfl⟩
      obtain ⟨X0, hX0⟩ : ∃ X, S % 18446744073709551616 = X := ⟨_, rfl⟩
      rw [hX1, hX0] at hnum hX
      rw [hX1] at hlt hsh
      rw [hX0] at hsl
      obtain ⟨s0, s1, -, -⟩ := two_facts hnum
      clear et hA hS hfr hnum hX1 hX0
      by_cases h0 : A = 0
      · have HE : Hid (MeanNo l) := Lib.hid (.inl (by rw [HA.out, h0]))
        have HNO := Lib.hid (fun W => narrow_no X1 X0 A W hsh hsl hw (.inl h0))
        clear hlt hX hle h0
        go_wp2_with fail
        refine (HNO.out _).mono ?_
        rintro e w1 ⟨rfl, f1⟩
        go_wp2_with fail
        go_ret2
        exact ⟨by rw [if_pos HE.out]; rfl, HFR.out.trans0 f1⟩
      · have HE : Hid (¬ MeanNo l) := Lib.hid (by unfold MeanNo; rw [HA.out]; omega)
        have HY := Lib.hid (fun W => narrow_yes X1 X0 A W hsl hw (hlt (by omega)))
        rw [hX] at HY
        have hq : S / A < 18446744073709551616 := by
          rw [Nat.div_lt_iff_lt_mul (by omega)]; omega
        obtain ⟨Q, hQ⟩ : ∃ Q, S / A = Q := ⟨_, rfl⟩
        obtain ⟨R, hR⟩ : ∃ R, S % A = R := ⟨_, rfl⟩
        rw [hQ, hR] at HY
        rw [hQ] at hq
        have HQ : Hid (lsm l / wts l = Q) := Lib.hid (by rw [HA.out, HS.out, hQ])
        have HLO := Lib.hid (fun W => lower_any Q W hq)
        clear hlt hX hle h0 hQ hR
        go_wp2_with fail
        refine (HY.out _).mono ?_
        rintro e w1 ⟨rfl, f1⟩
        go_wp2_with fail
        refine (HLO.out _).mono ?_
        rintro e w2 ⟨rfl, rfl⟩
        go_wp2_with fail
        go_ret2
        exact ⟨by rw [if_neg HE.out, HQ.out]; rfl, HFR.out.trans0 f1⟩
end Go.Proofs.Ytbpfmjekpjfceaa
