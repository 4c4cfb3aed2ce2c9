/- WdCode, WdMean -/
import Derived.Test.YtbpfmjekpjfceaaPa1
import Derived.Test.YtbpfmjekpjfceaaPa3
import Derived.Test.YtbpfmjekpjfceaaPa16
import Derived.Test.YtbpfmjekpjfceaaPa17
import Derived.Test.YtbpfmjekpjfceaaPa18
import Derived.Laws.Externs
import Derived.Shelf.Spec.BitsCarry
import Derived.Deep.CutBlock
import Derived.Deep.CutRange
import Derived.Deep.DeepCutAuto
import Derived.Lib.BitFns
import Derived.Shelf.Small.Bits
import Derived.Shelf.Strconv.Itoa0
import Derived.Shelf.Bits.Mul64
import Derived.Test.YtbpfmjekpjfceaaRows
import Derived.WalkKit
import Derived.WalkSpells
import Derived.WalkLawsBesides
import Derived.Deep.QuietTactic
import Derived.BigQuiet
import Derived.RegionTactic
import Derived.Deep.AppendLies
import Derived.Deep.RegionLaw
import Derived.Laws.ResultCell
import Derived.Laws.EntriesVeiled
import Derived.Lib.Hide
import Derived.Laws.BytesArg
import Derived.Lib.SlBytesConst
import Derived.Maps.AppendAt
import Derived.Laws.AppendOwnNone
set_option maxRecDepth 100000
set_option maxHeartbeats 8000000
namespace Go.Proofs.Ytbpfmjekpjfceaa
open Go.RowKit
theorem Fr.set {w W : World} (h : Fr S0 w W) (a : Addr) (x : Value) (ha : w.heap.size ≤ a.block) : Fr S0 w (W.setCell a x) :=
  h.trans (Fr.setCell (fun k => k = a.block) W a x rfl) fun j hj e => by omega
def nv (h l : Nat) : Value := .agg #[.int .u64 (h : Int), .int .u64 (l : Int)]
theorem mul_any (a b : Nat) (w : World) (ha : a < 18446744073709551616) (hb : b < 18446744073709551616) :
    Calls Try.prog 84 #[.int .u64 (a : Int), .int .u64 (b : Int)] w fun e w' => e = .returned (nv (a * b / 18446744073709551616) (a * b % 18446744073709551616)) ∧ Fr S0 w w' := by
  have HM := Lib.hid (fun W => bits_Mul64 a b ha hb W)
  unfold nv
  obtain ⟨H, hH⟩ : ∃ H, a * b / 18446744073709551616 = H := ⟨_, rfl⟩
  obtain ⟨L, hL⟩ : ∃ L, a * b % 18446744073709551616 = L := ⟨_, rfl⟩
  rw [hH, hL] at HM ⊢
  clear hH hL
  go_enter Try.func84, Try.ntmps84
  go_wp2_with fail
  refine (HM.out _).mono ?_
  rintro e w' ⟨rfl, rfl⟩
  go_wp2
  exact bodyPost_ret (v := .agg #[.int .u64 (H : Int), .int .u64 (L : Int)]) (by simp [results, Try.results84, go_sem]) rfl ⟨rfl, Fr.alloc _ _ _⟩
theorem div_zero (h l : Nat) (w : World) :
    Calls Try.prog 87 #[.agg #[.int .u64 (h : Int), .int .u64 (l : Int)], .int .u64 0] w fun e w' => e = .returned (.tuple #[nv 0 0, .int .u64 0, .int .i64 100]) ∧ Fr S0 w w' := by
  go_enter Try.func87, Try.ntmps87
  go_wp2
  exact bodyPost_ret (v := .tuple #[.agg #[.int .u64 0, .int .u64 0], .int .u64 0, .int .i64 100]) (by simp [results, Try.results87, go_sem]) rfl ⟨rfl, (Fr.alloc _ _ _).trans0 (Fr.alloc _ _ _)⟩
theorem div64_all (hi lo y : Nat) (w : World) (hl : lo < 18446744073709551616) (hy : hi < y) (h64 : y < 18446744073709551616) :
    Calls Try.prog 107 #[.int .u64 (hi : Int), .int .u64 (lo : Int), .int .u64 (y : Int)] w fun e w' =>
      e = .returned (.tuple #[.int .u64 (((hi * 18446744073709551616 + lo) / y : Nat) : Int), .int .u64 (((hi * 18446744073709551616 + lo) % y : Nat) : Int)]) ∧ ∃ n, w' = w.drewN n := by
  by_cases h0 : hi = 0
  · subst h0
    rw [Nat.zero_mul, Nat.zero_add]
    exact div64_low lo y w hl hy h64
  · exact (div64_any hi lo y w (by omega) hl hy h64).mono fun e w' h => ⟨h.1, 0, h.2.symm⟩
theorem div_any (h l d : Nat) (w : World) (hd : 0 < d) (hh : h < 18446744073709551616) (hl : l < 18446744073709551616) (h64 : d < 18446744073709551616) :
    Calls Try.prog 87 #[.agg #[.int .u64 (h : Int), .int .u64 (l : Int)], .int .u64 (d : Int)] w fun e w' =>
      e = .returned (.tuple #[nv (h / d) ((h % d * 18446744073709551616 + l) / d), .int .u64 (((h % d * 18446744073709551616 + l) % d : Nat) : Int), .int .i64 0]) ∧ Fr S0 w w' := by
  have hd1 : (1 : Int) ≤ (d : Int) := by omega
  have hd2 : ((d : Int) == 0) = false := by rw [beq_eq_false_iff_ne]; omega
  have wq : IntKind.u64.wrap ((h : Int) / (d : Int)) = ((h / d : Nat) : Int) := wrap_nat (Int.natCast_ediv _ _).symm (Nat.lt_of_le_of_lt (Nat.div_le_self _ _) hh)
  have wr : (h : Int) % (d : Int) = ((h % d : Nat) : Int) := (Int.natCast_emod _ _).symm
  have HD := Lib.hid (fun W => div64_all (h % d) l d W hl (Nat.mod_lt _ hd) h64)
  obtain ⟨q, hq⟩ : ∃ q, h / d = q := ⟨_, rfl⟩
  obtain ⟨r, hr⟩ : ∃ r, h % d = r := ⟨_, rfl⟩
  rw [hq] at wq ⊢
  rw [hr] at wr HD ⊢
  obtain ⟨Q, hQ⟩ : ∃ Q, (r * 18446744073709551616 + l) / d = Q := ⟨_, rfl⟩
  obtain ⟨R, hR⟩ : ∃ R, (r * 18446744073709551616 + l) % d = R := ⟨_, rfl⟩
  rw [hQ, hR] at HD ⊢
  clear hq hr hQ hR
  go_enter Try.func87, Try.ntmps87
  go_wp2
  go_quiet (fail)
  go_wp2_with fail
  refine (HD.out _).mono ?_
  rintro e w' ⟨rfl, n, rfl⟩
  clear HD
  go_wp2
  exact bodyPost_ret (v := .tuple #[.agg #[.int .u64 (q : Int), .int .u64 (Q : Int)], .int .u64 (R : Int), .int .i64 0]) (by simp [results, Try.results87, go_sem]) rfl ⟨rfl, (((((Fr.alloc S0 _ _).trans0 (Fr.alloc _ _ _)).trans0 (Fr.drewN _ _ _)).set _ _ (by simp)).set _ _ (by simp))⟩
theorem narrow_no (h l d : Nat) (w : World) (hh : h < 18446744073709551616) (hl : l < 18446744073709551616) (h64 : d < 18446744073709551616) (hno : d = 0 ∨ d ≤ h) :
    Calls Try.prog 86 #[.func (.func 87) #[.agg #[.int .u64 (h : Int), .int .u64 (l : Int)]] #[], .int .u64 (d : Int)] w fun e w' =>
      e = .returned (.tuple #[.int .u64 0, .int .u64 0, .int .i64 100]) ∧ Fr S0 w w' := by
  by_cases h0 : d = 0
  · subst h0
    have HD := Lib.hid (fun W => div_zero h l W)
    go_enter Try.func86, Try.ntmps86
    go_wp2_with fail
    refine (HD.out _).mono ?_
    rintro e w1 ⟨rfl, f1⟩
    unfold nv
    go_wp2
    go_ret3
    exact ⟨rfl, f1.trans0 (Fr.alloc _ _ _)⟩
  · have HD := Lib.hid (fun W => div_any h l d W (by omega) hh hl h64)
    have hq : 1 ≤ h / d := by rw [Nat.le_div_iff_mul_le (by omega)]; omega
    obtain ⟨q, hqe⟩ : ∃ q, h / d = q := ⟨_, rfl⟩
    obtain ⟨Q, hQ⟩ : ∃ Q, (h % d * 18446744073709551616 + l) / d = Q := ⟨_, rfl⟩
    obtain ⟨R, hR⟩ : ∃ R, (h % d * 18446744073709551616 + l) % d = R := ⟨_, rfl⟩
    rw [hqe, hQ, hR] at HD
    rw [hqe] at hq
    have q2 : ((q : Int) != 0) = true := by rw [bne_iff_ne]; omega
    clear hqe hQ hR h0 hno
    go_enter Try.func86, Try.ntmps86
    go_wp2_with fail
    refine (HD.out _).mono ?_
    rintro e w1 ⟨rfl, f1⟩
    unfold nv
    go_wp2
    go_ret3
    exact ⟨rfl, f1.trans0 (Fr.alloc _ _ _)⟩
theorem narrow_yes (h l d : Nat) (w : World) (hl : l < 18446744073709551616) (h64 : d < 18446744073709551616) (hd : h < d) :
    Calls Try.prog 86 #[.func (.func 87) #[.agg #[.int .u64 (h : Int), .int .u64 (l : Int)]] #[], .int .u64 (d : Int)] w fun e w' =>
      e = .returned (.tuple #[.int .u64 (((h * 18446744073709551616 + l) / d : Nat) : Int), .int .u64 (((h * 18446744073709551616 + l) % d : Nat) : Int), .int .i64 0]) ∧ Fr S0 w w' := by
  have HD := Lib.hid (fun W => div_any h l d W (by omega) (by omega) hl h64)
  have hq : h / d = 0 := Nat.div_eq_of_lt hd
  have hr : h % d = h := Nat.mod_eq_of_lt hd
  rw [hq, hr] at HD
  obtain ⟨Q, hQ⟩ : ∃ Q, (h * 18446744073709551616 + l) / d = Q := ⟨_, rfl⟩
  obtain ⟨R, hR⟩ : ∃ R, (h * 18446744073709551616 + l) % d = R := ⟨_, rfl⟩
  rw [hQ, hR] at HD ⊢
  clear hQ hR hq hr
  go_enter Try.func86, Try.ntmps86
  go_wp2_with fail
  refine (HD.out _).mono ?_
  rintro e w1 ⟨rfl, f1⟩
  unfold nv
  go_wp2
  go_ret3
  exact ⟨rfl, f1.trans0 (Fr.alloc _ _ _)⟩
theorem nv_eq (h l : Nat) : nv h l = .agg #[.int .u64 (h : Int), .int .u64 (l : Int)] := rfl
theorem makeF : ∀ (fn : Fn) (first cap : Array Value) (w : World), (Instr.makeFunc fn first cap).run Try.prog w = .ok (.func fn first cap) w := fun _ _ _ _ => rfl
theorem prod_lt {a b : Nat} (ha : a < 18446744073709551616) (hb : b < 18446744073709551616) : a * b / 18446744073709551616 < 18446744073709551616 := by
  have : a * b ≤ 18446744073709551615 * 18446744073709551615 := Nat.mul_le_mul (by omega) (by omega)
  omega
theorem quo_big (x d : Nat) (hd : 0 < d) : 18446744073709551616 ≤ x / d ↔ d ≤ x / 18446744073709551616 := by
  rw [Nat.le_div_iff_mul_le hd, Nat.le_div_iff_mul_le (by decide), Nat.mul_comm]
theorem muldiv_no (a b d : Nat) (w : World) (ha : a < 18446744073709551616) (hb : b < 18446744073709551616) (h64 : d < 18446744073709551616) (hno : d = 0 ∨ 18446744073709551616 ≤ a * b / d) :
    Calls Try.prog 109 #[.int .u64 (a : Int), .int .u64 (b : Int), .int .u64 (d : Int)] w fun e w' => e = .returned (.tuple #[.int .u64 0, .int .u64 0, .int .i64 100]) ∧ Fr S0 w w' := by
  have hmf := makeF
  have HM := Lib.hid (fun W => mul_any a b W ha hb)
  have hh := prod_lt ha hb
  have hl := mod_word (a * b)
  have hn : d = 0 ∨ d ≤ a * b / 18446744073709551616 := by
    by_cases h0 : d = 0
    · exact .inl h0
    · exact .inr ((quo_big _ _ (by omega)).1 (hno.resolve_left h0))
  obtain ⟨H, hH⟩ : ∃ H, a * b / 18446744073709551616 = H := ⟨_, rfl⟩
  obtain ⟨L, hL⟩ : ∃ L, a * b % 18446744073709551616 = L := ⟨_, rfl⟩
  rw [hH, hL] at HM
  rw [hH] at hh hn
  rw [hL] at hl
  have HN := Lib.hid (fun W => narrow_no H L d W hh hl h64 hn)
  clear hH hL hno hn hh hl
  go_enter Try.func109, Try.ntmps109
  go_wp2_with fail
  refine (HM.out _).mono ?_
  rintro e w1 ⟨rfl, f1⟩
  rw [nv_eq]
  go_wp2_with fail
  refine (HN.out _).mono ?_
  rintro e w2 ⟨rfl, f2⟩
  go_wp2
  go_ret3
  exact ⟨rfl, f1.trans0 f2⟩
theorem muldiv_yes (a b d : Nat) (w : World) (ha : a < 18446744073709551616) (hb : b < 18446744073709551616) (h64 : d < 18446744073709551616) (hd : 0 < d) (hy : a * b / d < 18446744073709551616) :
    Calls Try.prog 109 #[.int .u64 (a : Int), .int .u64 (b : Int), .int .u64 (d : Int)] w fun e w' =>
      e = .returned (.tuple #[.int .u64 ((a * b / d : Nat) : Int), .int .u64 ((a * b % d : Nat) : Int), .int .i64 0]) ∧ Fr S0 w w' := by
  have hmf := makeF
  have HM := Lib.hid (fun W => mul_any a b W ha hb)
  have hl := mod_word (a * b)
  have hlt : a * b / 18446744073709551616 < d := by
    by_cases h : a * b / 18446744073709551616 < d
    · exact h
    · exact absurd ((quo_big (a * b) d hd).2 (by omega)) (by omega)
  have hX : a * b / 18446744073709551616 * 18446744073709551616 + a * b % 18446744073709551616 = a * b := Nat.div_add_mod' _ _
  obtain ⟨H, hH⟩ : ∃ H, a * b / 18446744073709551616 = H := ⟨_, rfl⟩
  obtain ⟨L, hL⟩ : ∃ L, a * b % 18446744073709551616 = L := ⟨_, rfl⟩
  rw [hH, hL] at HM hX
  rw [hH] at hlt
  rw [hL] at hl
  have HN := Lib.hid (fun W => narrow_yes H L d W hl h64 hlt)
  rw [hX] at HN
  obtain ⟨Q, hQ⟩ : ∃ Q, a * b / d = Q := ⟨_, rfl⟩
  obtain ⟨R, hR⟩ : ∃ R, a * b % d = R := ⟨_, rfl⟩
  rw [hQ, hR] at HN ⊢
  clear hH hL hy hlt hl hX hQ hR
  go_enter Try.func109, Try.ntmps109
  go_wp2_with fail
  refine (HM.out _).mono ?_
  rintro e w1 ⟨rfl, f1⟩
  rw [nv_eq]
  go_wp2_with fail
  refine (HN.out _).mono ?_
  rintro e w2 ⟨rfl, f2⟩
  go_wp2
  go_ret3
  exact ⟨rfl, f1.trans0 f2⟩
def ceilR (a b d : Nat) : Option Nat := if d = 0 ∨ 18446744073709551616 ≤ a * b / d then none else if a * b % d = 0 then some (a * b / d) else if a * b / d = 18446744073709551615 then none else some (a * b / d + 1)
def optV (o : Option Nat) : Value := .tuple #[.int .u64 (o.getD 0 : Nat), .int .i64 (if o.isSome then 0 else 100)]
theorem ceil_any (a b d : Nat) (w : World) (ha : a < 18446744073709551616) (hb : b < 18446744073709551616) (h64 : d < 18446744073709551616) :
    Calls Try.prog 94 #[.int .u64 (a : Int), .int .u64 (b : Int), .int .u64 (d : Int)] w fun e w' => e = .returned (optV (ceilR a b d)) ∧ Fr S0 w w' := by
  unfold optV ceilR
  by_cases hno : d = 0 ∨ 18446744073709551616 ≤ a * b / d
  · rw [if_pos hno]
    have HM := Lib.hid (fun W => muldiv_no a b d W ha hb h64 hno)
    clear hno
    go_enter Try.func94, Try.ntmps94
    go_wp2_with fail
    refine (HM.out _).mono ?_
    rintro e w1 ⟨rfl, f1⟩
    go_wp2
    go_ret2
    exact ⟨rfl, f1⟩
  · rw [if_neg hno]
    have HM := Lib.hid (fun W => muldiv_yes a b d W ha hb h64 (by omega) (by omega))
    have hq : a * b / d < 18446744073709551616 := by omega
    obtain ⟨Q, hQ⟩ : ∃ Q, a * b / d = Q := ⟨_, rfl⟩
    obtain ⟨R, hR⟩ : ∃ R, a * b % d = R := ⟨_, rfl⟩
    rw [hQ, hR] at HM ⊢
    rw [hQ] at hq
    clear hno hQ hR
    by_cases r0 : R = 0
    · rw [if_pos r0]
      subst r0
      go_enter Try.func94, Try.ntmps94
      go_wp2_with fail
      refine (HM.out _).mono ?_
      rintro e w1 ⟨rfl, f1⟩
      go_wp2
      go_ret2
      exact ⟨rfl, f1⟩
    · rw [if_neg r0]
      have r1 : ((R : Int) == 0) = false := by rw [beq_eq_false_iff_ne]; omega
      by_cases q0 : Q = 18446744073709551615
      · rw [if_pos q0]
        have q1 : ((Q : Int) == 18446744073709551615) = true := by rw [beq_iff_eq]; omega
        clear q0
        go_enter Try.func94, Try.ntmps94
        go_wp2_with fail
        refine (HM.out _).mono ?_
        rintro e w1 ⟨rfl, f1⟩
        go_wp2
        go_ret2
        exact ⟨rfl, f1⟩
      · rw [if_neg q0]
        have q1 : ((Q : Int) == 18446744073709551615) = false := by rw [beq_eq_false_iff_ne]; omega
        have q2 : Q < 18446744073709551615 := by omega
        clear q0
        go_enter Try.func94, Try.ntmps94
        go_wp2_with fail
        refine (HM.out _).mono ?_
        rintro e w1 ⟨rfl, f1⟩
        go_wp2
        go_ret2
        exact ⟨rfl, f1⟩
def lft (v : Int) : Nat := (v + 9223372036854775808).toNat
end Go.Proofs.Ytbpfmjekpjfceaa

namespace Go.Proofs.Ytbpfmjekpjfceaa
open Go.RowKit
abbrev Tm := Int × Nat
def wts (l : List Tm) : Nat := (l.map fun t => t.2).sum
def lsm (l : List Tm) : Nat := (l.map fun t => lft t.1 * t.2).sum
theorem wts_snoc (l : List Tm) (t : Tm) : wts (l ++ [t]) = wts l + t.2 := by simp [wts]
theorem lsm_snoc (l : List Tm) (t : Tm) : lsm (l ++ [t]) = lsm l + lft t.1 * t.2 := by simp [lsm]
theorem wts_take (l : List Tm) (k : Nat) (hk : k < l.length) : wts (l.take (k + 1)) = wts (l.take k) + l[k].2 ∧ lsm (l.take (k + 1)) = lsm (l.take k) + lft l[k].1 * l[k].2 := by
  rw [List.take_succ_eq_append_getElem hk, wts_snoc, lsm_snoc]
  exact ⟨rfl, rfl⟩
theorem wts_take_le : ∀ (l : List Tm) (k : Nat), wts (l.take k) ≤ wts l
  | [], k => by simp
  | t :: r, 0 => by simp [wts]
  | t :: r, k + 1 => by
    have := wts_take_le r k
    have e2 : ∀ s : List Tm, wts (t :: s) = t.2 + wts s := fun s => by simp [wts]
    rw [List.take_succ_cons, e2, e2]; omega
structure TmI (w : World) (p : Option Addr) (l : List Tm) : Prop where
  len : l.length ≤ maxLen
  cel : l ≠ [] → ∃ b off, p = some ⟨b, off, none⟩ ∧ ∀ i, (h : i < l.length) → w.cell? ⟨b, off + i * 2, none⟩ = some (.int .i64 l[i].1) ∧ w.cell? ⟨b, off + i * 2 + 1, none⟩ = some (.int .u64 (l[i].2 : Nat))
theorem TmI.fr0 {w w' : World} {p : Option Addr} {l : List Tm} (h : TmI w p l) (f : Fr S0 w w') : TmI w' p l :=
  ⟨h.len, fun hl => let ⟨b, o, hp, hc⟩ := h.cel hl; ⟨b, o, hp, fun i hi => ⟨f.cell (hc i hi).1 (fun h => h), f.cell (hc i hi).2 (fun h => h)⟩⟩⟩
theorem TmI.at {w : World} {p : Option Addr} {l : List Tm} (h : TmI w p l) (i : Nat) (hi : i < l.length) : ∃ b off, p = some ⟨b, off, none⟩ ∧ w.cell? ⟨b, off + i * 2, none⟩ = some (.int .i64 l[i].1) ∧ w.cell? ⟨b, off + i * 2 + 1, none⟩ = some (.int .u64 (l[i].2 : Nat)) :=
  let ⟨b, off, hp, hc⟩ := h.cel (by intro e; simp [e] at hi); ⟨b, off, hp, hc i hi⟩
def MeanNo (l : List Tm) : Prop := wts l = 0 ∨ 18446744073709551616 ≤ wts l
instance (l : List Tm) : Decidable (MeanNo l) := inferInstanceAs (Decidable (_ ∨ _))
end Go.Proofs.Ytbpfmjekpjfceaa
