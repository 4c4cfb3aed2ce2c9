/- WdCode, WdMean, WdAvg, DgMath, DgRow, DgOrd, DgMrg, DgSorted -/
import Derived.Test.YtmieeoceckcnkaaPn1
import Derived.Test.YtmieeoceckcnkaaPn2
import Derived.Test.YtmieeoceckcnkaaPn4
import Derived.Test.YtmieeoceckcnkaaPn5
import Derived.Test.YtmieeoceckcnkaaPn6
import Derived.Laws.Externs
import Derived.Shelf.Spec.BitsCarry
import Derived.Deep.CutBlock
import Derived.Deep.CutRange
import Derived.Deep.DeepCutAuto
import Derived.Lib.BitFns
import Derived.Shelf.Small.Bits
import Derived.Shelf.Strconv.Itoa0
import Derived.Shelf.Bits.Mul64
import Derived.Test.YtmieeoceckcnkaaRows
import Derived.WalkKit
import Derived.WalkSpells
import Derived.WalkLawsBesides
import Derived.Deep.QuietTactic
import Derived.BigQuiet
import Derived.RegionTactic
import Derived.Deep.AppendLies
import Derived.Deep.RegionLaw
import Derived.Laws.ResultCell
import Derived.Laws.EntriesVeiled
import Derived.Lib.Hide
import Derived.Laws.BytesArg
import Derived.Lib.SlBytesConst
import Derived.Maps.AppendAt
import Derived.Laws.AppendOwnNone
import Derived.Laws.OwnMore
import Derived.Lib.AppendZerosOnto
import Derived.Lib.SliceRun
import Derived.Lib.Walk
import Derived.Deep.RegionHeld3
import Derived.BigRegion
set_option maxRecDepth 100000
set_option maxHeartbeats 8000000
namespace Go.Proofs.Ytmieeoceckcnkaa
open Go.RowKit
theorem Fr.set {w W : World} (h : Fr S0 w W) (a : Addr) (x : Value) (ha : w.heap.size ≤ a.block) : Fr S0 w (W.setCell a x) :=
  h.trans (Fr.setCell (fun k => k = a.block) W a x rfl) fun j hj e => by omega
def nv (h l : Nat) : Value := .agg #[.int .u64 (h : Int), .int .u64 (l : Int)]
theorem mul_any (a b : Nat) (w : World) (ha : a < 18446744073709551616) (hb : b < 18446744073709551616) :
    Calls Try.prog 67 #[.int .u64 (a : Int), .int .u64 (b : Int)] w fun e w' => e = .returned (nv (a * b / 18446744073709551616) (a * b % 18446744073709551616)) ∧ Fr S0 w w' := by
  have HM := Lib.hid (fun W => bits_Mul64 a b ha hb W)
  unfold nv
  obtain ⟨H, hH⟩ : ∃ H, a * b / 18446744073709551616 = H := ⟨_, rfl⟩
  obtain ⟨L, hL⟩ : ∃ L, a * b % 18446744073709551616 = L := ⟨_, rfl⟩
  rw [hH, hL] at HM ⊢
  clear hH hL
  go_enter Try.func67, Try.ntmps67
  go_wp2_with fail
  refine (HM.out _).mono ?_
  rintro e w' ⟨rfl, rfl⟩
  go_wp2
  exact bodyPost_ret (v := .agg #[.int .u64 (H : Int), .int .u64 (L : Int)]) (by simp [results, Try.results67, go_sem]) rfl ⟨rfl, Fr.alloc _ _ _⟩
theorem add_any (h l h2 l2 S C T D : Nat) (w : World) (hS : (l + l2 + 0) % 18446744073709551616 = S) (hC : (l + l2 + 0) / 18446744073709551616 = C) (hT : (h + h2 + C) % 18446744073709551616 = T) (hD : (h + h2 + C) / 18446744073709551616 = D)
    (hl : l < 18446744073709551616) (hl2 : l2 < 18446744073709551616) :
    Calls Try.prog 87 #[.agg #[.int .u64 (h : Int), .int .u64 (l : Int)], .agg #[.int .u64 (h2 : Int), .int .u64 (l2 : Int)]] w fun e w' =>
      e = .returned (.tuple #[if D = 0 then nv T S else nv 0 0, .int .i64 (if D = 0 then 0 else 100)]) ∧ Fr S0 w w' := by
  have h1 : ∀ W, (callFunc 86 #[.int .u64 (l : Int), .int .u64 (l2 : Int), .int .u64 0]).run Try.prog W = .ok (.value (.tuple #[.int .u64 (S : Int), .int .u64 (C : Int)])) W := fun W => by
    have := run_add l l2 0 (by omega) W
    rw [hS, hC] at this
    exact this
  have h2 : ∀ W, (callFunc 86 #[.int .u64 (h : Int), .int .u64 (h2 : Int), .int .u64 (C : Int)]).run Try.prog W = .ok (.value (.tuple #[.int .u64 (T : Int), .int .u64 (D : Int)])) W := fun W => by
    have := run_add h h2 C (by omega) W
    rw [hT, hD] at this
    exact this
  clear hS hC hT hD hl hl2
  by_cases d : D = 0
  · subst d
    go_enter Try.func87, Try.ntmps87
    go_wp2
    exact bodyPost_ret (v := .tuple #[.agg #[.int .u64 (T : Int), .int .u64 (S : Int)], .int .i64 0]) (by simp [results, Try.results87, go_sem]) rfl ⟨rfl, ((Fr.alloc _ _ _).trans0 (Fr.alloc _ _ _)).trans0 (Fr.alloc _ _ _)⟩
  · have d2 : ((D : Int) != 0) = true := by rw [bne_iff_ne]; omega
    rw [if_neg d, if_neg d]
    go_enter Try.func87, Try.ntmps87
    go_wp2
    exact bodyPost_ret (v := .tuple #[.agg #[.int .u64 0, .int .u64 0], .int .i64 100]) (by simp [results, Try.results87, go_sem]) rfl ⟨rfl, ((Fr.alloc _ _ _).trans0 (Fr.alloc _ _ _)).trans0 (Fr.alloc _ _ _)⟩
def cmpI (x y : Nat) : Int := if x = y then 0 else if x < y then -1 else 1
def cmpW (h l h2 l2 : Nat) : Int := cmpI (h * 18446744073709551616 + l) (h2 * 18446744073709551616 + l2)
theorem cmp_any (h l h2 l2 : Nat) (w : World) (hl : l < 18446744073709551616) (hl2 : l2 < 18446744073709551616) :
    Calls Try.prog 68 #[.agg #[.int .u64 (h : Int), .int .u64 (l : Int)], .agg #[.int .u64 (h2 : Int), .int .u64 (l2 : Int)]] w fun e w' =>
      e = .returned (.int .i64 (cmpW h l h2 l2)) ∧ Fr S0 w w' := by
  unfold cmpW
  go_enter Try.func68, Try.ntmps68
  go_wp2
  all_goals go_ret
  all_goals refine ⟨congrArg (fun z => Ending.returned (Value.int .i64 z)) ?_, (Fr.alloc _ _ _).trans0 (Fr.alloc _ _ _)⟩
  all_goals unfold cmpI
  all_goals (split <;> first | omega | (split <;> omega))
theorem div_zero (h l : Nat) (w : World) :
    Calls Try.prog 90 #[.agg #[.int .u64 (h : Int), .int .u64 (l : Int)], .int .u64 0] w fun e w' => e = .returned (.tuple #[nv 0 0, .int .u64 0, .int .i64 100]) ∧ Fr S0 w w' := by
  go_enter Try.func90, Try.ntmps90
  go_wp2
  exact bodyPost_ret (v := .tuple #[.agg #[.int .u64 0, .int .u64 0], .int .u64 0, .int .i64 100]) (by simp [results, Try.results90, go_sem]) rfl ⟨rfl, (Fr.alloc _ _ _).trans0 (Fr.alloc _ _ _)⟩
theorem div64_all (hi lo y : Nat) (w : World) (hl : lo < 18446744073709551616) (hy : hi < y) (h64 : y < 18446744073709551616) :
    Calls Try.prog 93 #[.int .u64 (hi : Int), .int .u64 (lo : Int), .int .u64 (y : Int)] w fun e w' =>
      e = .returned (.tuple #[.int .u64 (((hi * 18446744073709551616 + lo) / y : Nat) : Int), .int .u64 (((hi * 18446744073709551616 + lo) % y : Nat) : Int)]) ∧ ∃ n, w' = w.drewN n := by
  by_cases h0 : hi = 0
  · subst h0
    rw [Nat.zero_mul, Nat.zero_add]
    exact div64_low lo y w hl hy h64
  · exact (div64_any hi lo y w (by omega) hl hy h64).mono fun e w' h => ⟨h.1, 0, h.2.symm⟩
theorem div_any (h l d : Nat) (w : World) (hd : 0 < d) (hh : h < 18446744073709551616) (hl : l < 18446744073709551616) (h64 : d < 18446744073709551616) :
    Calls Try.prog 90 #[.agg #[.int .u64 (h : Int), .int .u64 (l : Int)], .int .u64 (d : Int)] w fun e w' =>
      e = .returned (.tuple #[nv (h / d) ((h % d * 18446744073709551616 + l) / d), .int .u64 (((h % d * 18446744073709551616 + l) % d : Nat) : Int), .int .i64 0]) ∧ Fr S0 w w' := by
  have hd1 : (1 : Int) ≤ (d : Int) := by omega
  have hd2 : ((d : Int) == 0) = false := by rw [beq_eq_false_iff_ne]; omega
  have wq : IntKind.u64.wrap ((h : Int) / (d : Int)) = ((h / d : Nat) : Int) := wrap_nat (Int.natCast_ediv _ _).symm (Nat.lt_of_le_of_lt (Nat.div_le_self _ _) hh)
  have wr : (h : Int) % (d : Int) = ((h % d : Nat) : Int) := (Int.natCast_emod _ _).symm
  have HD := Lib.hid (fun W => div64_all (h % d) l d W hl (Nat.mod_lt _ hd) h64)
  obtain ⟨q, hq⟩ : ∃ q, h / d = q := ⟨_, rfl⟩
  obtain ⟨r, hr⟩ : ∃ r, h % d = r := ⟨_, rfl⟩
  rw [hq] at wq ⊢
  rw [hr] at wr HD ⊢
  obtain ⟨Q, hQ⟩ : ∃ Q, (r * 18446744073709551616 + l) / d = Q := ⟨_, rfl⟩
  obtain ⟨R, hR⟩ : ∃ R, (r * 18446744073709551616 + l) % d = R := ⟨_, rfl⟩
  rw [hQ, hR] at HD ⊢
  clear hq hr hQ hR
  go_enter Try.func90, Try.ntmps90
  go_wp2
  go_quiet (fail)
  go_wp2_with fail
  refine (HD.out _).mono ?_
  rintro e w' ⟨rfl, n, rfl⟩
  clear HD
  go_wp2
  exact bodyPost_ret (v := .tuple #[.agg #[.int .u64 (q : Int), .int .u64 (Q : Int)], .int .u64 (R : Int), .int .i64 0]) (by simp [results, Try.results90, go_sem]) rfl ⟨rfl, (((((Fr.alloc S0 _ _).trans0 (Fr.alloc _ _ _)).trans0 (Fr.drewN _ _ _)).set _ _ (by simp)).set _ _ (by simp))⟩
theorem narrow_no (h l d : Nat) (w : World) (hh : h < 18446744073709551616) (hl : l < 18446744073709551616) (h64 : d < 18446744073709551616) (hno : d = 0 ∨ d ≤ h) :
    Calls Try.prog 89 #[.func (.func 90) #[.agg #[.int .u64 (h : Int), .int .u64 (l : Int)]] #[], .int .u64 (d : Int)] w fun e w' =>
      e = .returned (.tuple #[.int .u64 0, .int .u64 0, .int .i64 100]) ∧ Fr S0 w w' := by
  by_cases h0 : d = 0
  · subst h0
    have HD := Lib.hid (fun W => div_zero h l W)
    go_enter Try.func89, Try.ntmps89
    go_wp2_with fail
    refine (HD.out _).mono ?_
    rintro e w1 ⟨rfl, f1⟩
    unfold nv
    go_wp2
    go_ret3
    exact ⟨rfl, f1.trans0 (Fr.alloc _ _ _)⟩
  · have HD := Lib.hid (fun W => div_any h l d W (by omega) hh hl h64)
    have hq : 1 ≤ h / d := by rw [Nat.le_div_iff_mul_le (by omega)]; omega
    obtain ⟨q, hqe⟩ : ∃ q, h / d = q := ⟨_, rfl⟩
    obtain ⟨Q, hQ⟩ : ∃ Q, (h % d * 18446744073709551616 + l) / d = Q := ⟨_, rfl⟩
    obtain ⟨R, hR⟩ : ∃ R, (h % d * 18446744073709551616 + l) % d = R := ⟨_, rfl⟩
    rw [hqe, hQ, hR] at HD
    rw [hqe] at hq
    have q2 : ((q : Int) != 0) = true := by rw [bne_iff_ne]; omega
    clear hqe hQ hR h0 hno
    go_enter Try.func89, Try.ntmps89
    go_wp2_with fail
    refine (HD.out _).mono ?_
    rintro e w1 ⟨rfl, f1⟩
    unfold nv
    go_wp2
    go_ret3
    exact ⟨rfl, f1.trans0 (Fr.alloc _ _ _)⟩
theorem narrow_yes (h l d : Nat) (w : World) (hl : l < 18446744073709551616) (h64 : d < 18446744073709551616) (hd : h < d) :
    Calls Try.prog 89 #[.func (.func 90) #[.agg #[.int .u64 (h : Int), .int .u64 (l : Int)]] #[], .int .u64 (d : Int)] w fun e w' =>
      e = .returned (.tuple #[.int .u64 (((h * 18446744073709551616 + l) / d : Nat) : Int), .int .u64 (((h * 18446744073709551616 + l) % d : Nat) : Int), .int .i64 0]) ∧ Fr S0 w w' := by
  have HD := Lib.hid (fun W => div_any h l d W (by omega) (by omega) hl h64)
  have hq : h / d = 0 := Nat.div_eq_of_lt hd
  have hr : h % d = h := Nat.mod_eq_of_lt hd
  rw [hq, hr] at HD
  obtain ⟨Q, hQ⟩ : ∃ Q, (h * 18446744073709551616 + l) / d = Q := ⟨_, rfl⟩
  obtain ⟨R, hR⟩ : ∃ R, (h * 18446744073709551616 + l) % d = R := ⟨_, rfl⟩
  rw [hQ, hR] at HD ⊢
  clear hQ hR hq hr
  go_enter Try.func89, Try.ntmps89
  go_wp2_with fail
  refine (HD.out _).mono ?_
  rintro e w1 ⟨rfl, f1⟩
  unfold nv
  go_wp2
  go_ret3
  exact ⟨rfl, f1.trans0 (Fr.alloc _ _ _)⟩
theorem nv_eq (h l : Nat) : nv h l = .agg #[.int .u64 (h : Int), .int .u64 (l : Int)] := rfl
theorem makeF : ∀ (fn : Fn) (first cap : Array Value) (w : World), (Instr.makeFunc fn first cap).run Try.prog w = .ok (.func fn first cap) w := fun _ _ _ _ => rfl
def lft (v : Int) : Nat := (v + 9223372036854775808).toNat
theorem xor_top (n : Nat) (hn : n < 18446744073709551616) : n ^^^ 9223372036854775808 = (n + 9223372036854775808) % 18446744073709551616 := by
  have e1 : n = n / 9223372036854775808 * 9223372036854775808 + n % 9223372036854775808 := by omega
  have hm : n % 9223372036854775808 < 2 ^ 63 := Nat.mod_lt _ (by decide)
  have key : ∀ q m : Nat, m < 2 ^ 63 → (q * 9223372036854775808 + m) ^^^ 9223372036854775808 = (q ^^^ 1) * 9223372036854775808 + m := by
    intro q m hm
    apply Nat.eq_of_testBit_eq
    intro i
    rw [Nat.testBit_xor, show q * 9223372036854775808 = 2 ^ 63 * q by omega, show (q ^^^ 1) * 9223372036854775808 = 2 ^ 63 * (q ^^^ 1) by omega, Nat.testBit_two_pow_mul_add _ hm, Nat.testBit_two_pow_mul_add _ hm, show 9223372036854775808 = 2 ^ 63 * 1 by decide, Nat.testBit_two_pow_mul]
    by_cases hi : i < 63
    · simp [hi, show ¬ 63 ≤ i by omega]
    · simp [hi, show 63 ≤ i by omega]
  have hq : n / 9223372036854775808 = 0 ∨ n / 9223372036854775808 = 1 := by omega
  rw [e1, key _ _ hm]
  rcases hq with hq | hq <;> rw [hq] <;> simp <;> omega
theorem lift_any (v : Int) (w : World) (h0 : -9223372036854775808 ≤ v) (h1 : v ≤ 9223372036854775807) :
    Calls Try.prog 88 #[.int .i64 v] w fun e w' => e = .returned (.int .u64 (lft v : Nat)) ∧ w = w' := by
  have hx : bits .xor .u64 (IntKind.u64.wrap v) 9223372036854775808 = ((lft v : Nat) : Int) := by
    obtain ⟨n, hn⟩ : ∃ n : Nat, IntKind.u64.wrap v = (n : Int) := ⟨(IntKind.u64.wrap v).toNat, by rw [IntKind.wrap_u64]; omega⟩
    have hn2 := hn
    rw [IntKind.wrap_u64] at hn2
    rw [hn]
    have := u64_xor_nat n 9223372036854775808 (by omega) (by decide)
    rw [xor_top n (by omega)] at this
    refine this.trans ?_
    unfold lft
    omega
  have HX := Lib.hid hx
  clear hx
  go_enter Try.func88, Try.ntmps88
  go_wp2
  go_ret
  exact ⟨congrArg (fun z => Ending.returned (Value.int .u64 z)) HX.out, rfl⟩
theorem lower_any (n : Nat) (w : World) (hn : n < 18446744073709551616) :
    Calls Try.prog 91 #[.int .u64 (n : Int)] w fun e w' => e = .returned (.int .i64 ((n : Int) - 9223372036854775808)) ∧ w = w' := by
  have hx : bits .xor .u64 (n : Int) 9223372036854775808 = (((n + 9223372036854775808) % 18446744073709551616 : Nat) : Int) := by
    have := u64_xor_nat n 9223372036854775808 hn (by decide)
    rw [xor_top n hn] at this
    exact this
  have HW : Hid (wrap64 (((n + 9223372036854775808) % 18446744073709551616 : Nat) : Int) = (n : Int) - 9223372036854775808) := Lib.hid (by unfold wrap64; omega)
  obtain ⟨X, hX⟩ : ∃ X, (n + 9223372036854775808) % 18446744073709551616 = X := ⟨_, rfl⟩
  rw [hX] at hx HW
  clear hX
  go_enter Try.func91, Try.ntmps91
  go_wp2
  go_ret
  exact ⟨congrArg (fun z => Ending.returned (Value.int .i64 z)) HW.out, rfl⟩
end Go.Proofs.Ytmieeoceckcnkaa

namespace Go.Proofs.Ytmieeoceckcnkaa
open Go.RowKit
abbrev Tm := Int × Nat
def wts (l : List Tm) : Nat := (l.map fun t => t.2).sum
def lsm (l : List Tm) : Nat := (l.map fun t => lft t.1 * t.2).sum
theorem wts_snoc (l : List Tm) (t : Tm) : wts (l ++ [t]) = wts l + t.2 := by simp [wts]
theorem lsm_snoc (l : List Tm) (t : Tm) : lsm (l ++ [t]) = lsm l + lft t.1 * t.2 := by simp [lsm]
structure TmOk (t : Tm) : Prop where
  lo : -9223372036854775808 ≤ t.1
  hi : t.1 ≤ 9223372036854775807
  n : t.2 < 18446744073709551616
theorem lft_lt {t : Tm} (h : TmOk t) : lft t.1 < 18446744073709551616 := by have := h.lo; have := h.hi; unfold lft; omega
theorem lsm_le : ∀ l : List Tm, (∀ t ∈ l, TmOk t) → lsm l ≤ 18446744073709551615 * wts l
  | [], _ => by simp [lsm, wts]
  | t :: r, h => by
    have h1 := lsm_le r fun u hu => h u (List.mem_cons_of_mem _ hu)
    have h2 := Nat.mul_le_mul_right t.2 (show lft t.1 ≤ 18446744073709551615 by have := lft_lt (h t List.mem_cons_self); omega)
    have e1 : lsm (t :: r) = lft t.1 * t.2 + lsm r := by simp [lsm]
    have e2 : wts (t :: r) = t.2 + wts r := by simp [wts]
    rw [e1, e2, Nat.mul_add]; omega
theorem wts_take (l : List Tm) (k : Nat) (hk : k < l.length) : wts (l.take (k + 1)) = wts (l.take k) + l[k].2 ∧ lsm (l.take (k + 1)) = lsm (l.take k) + lft l[k].1 * l[k].2 := by
  rw [List.take_succ_eq_append_getElem hk, wts_snoc, lsm_snoc]
  exact ⟨rfl, rfl⟩
theorem wts_take_le : ∀ (l : List Tm) (k : Nat), wts (l.take k) ≤ wts l
  | [], k => by simp
  | t :: r, 0 => by simp [wts]
  | t :: r, k + 1 => by
    have := wts_take_le r k
    have e2 : ∀ s : List Tm, wts (t :: s) = t.2 + wts s := fun s => by simp [wts]
    rw [List.take_succ_cons, e2, e2]; omega
structure TmI (w : World) (p : Option Addr) (l : List Tm) : Prop where
  len : l.length ≤ maxLen
  cel : l ≠ [] → ∃ b off, p = some ⟨b, off, none⟩ ∧ ∀ i, (h : i < l.length) → w.cell? ⟨b, off + i * 2, none⟩ = some (.int .i64 l[i].1) ∧ w.cell? ⟨b, off + i * 2 + 1, none⟩ = some (.int .u64 (l[i].2 : Nat))
theorem TmI.fr0 {w w' : World} {p : Option Addr} {l : List Tm} (h : TmI w p l) (f : Fr S0 w w') : TmI w' p l :=
  ⟨h.len, fun hl => let ⟨b, o, hp, hc⟩ := h.cel hl; ⟨b, o, hp, fun i hi => ⟨f.cell (hc i hi).1 (fun h => h), f.cell (hc i hi).2 (fun h => h)⟩⟩⟩
theorem TmI.at {w : World} {p : Option Addr} {l : List Tm} (h : TmI w p l) (i : Nat) (hi : i < l.length) : ∃ b off, p = some ⟨b, off, none⟩ ∧ w.cell? ⟨b, off + i * 2, none⟩ = some (.int .i64 l[i].1) ∧ w.cell? ⟨b, off + i * 2 + 1, none⟩ = some (.int .u64 (l[i].2 : Nat)) :=
  let ⟨b, off, hp, hc⟩ := h.cel (by intro e; simp [e] at hi); ⟨b, off, hp, hc i hi⟩
def NumIs (w : World) (g n : Nat) : Prop := w.heap[g]? = some (.cells #[.int .u64 ((n / 18446744073709551616 : Nat) : Int), .int .u64 ((n % 18446744073709551616 : Nat) : Int)] 116 (0, 0))
theorem two_facts {w : World} {g : Nat} {a b : Value} {t : TypeId} (h : w.heap[g]? = some (.cells #[a, b] t (0, 0))) : w.cell? ⟨g, 0, none⟩ = some a ∧ w.cell? ⟨g, 1, none⟩ = some b ∧ w.frozen? ⟨g, 0, none⟩ = false ∧ w.frozen? ⟨g, 1, none⟩ = false := by
  simp [World.cell?, World.frozen?, h]
theorem two_set {w : World} {g : Nat} {a b : Value} {t : TypeId} (h : w.heap[g]? = some (.cells #[a, b] t (0, 0))) (x y : Value) : ((w.setCell ⟨g, 0, none⟩ x).setCell ⟨g, 1, none⟩ y).heap[g]? = some (.cells #[x, y] t (0, 0)) := by
  rw [heap_setCell_same _ g 1 _ _ _ (heap_setCell_same w g 0 _ _ _ h)]
  rfl
theorem add_room (X Y : Nat) (w : World) (hs : X + Y < 340282366920938463463374607431768211456) :
    Calls Try.prog 87 #[.agg #[.int .u64 ((X / 18446744073709551616 : Nat) : Int), .int .u64 ((X % 18446744073709551616 : Nat) : Int)], .agg #[.int .u64 ((Y / 18446744073709551616 : Nat) : Int), .int .u64 ((Y % 18446744073709551616 : Nat) : Int)]] w fun e w' =>
      e = .returned (.tuple #[nv ((X + Y) / 18446744073709551616) ((X + Y) % 18446744073709551616), .int .i64 0]) ∧ Fr S0 w w' := by
  have h := add_any _ _ _ _ _ _ _ _ w (rfl : (X % 18446744073709551616 + Y % 18446744073709551616 + 0) % 18446744073709551616 = _) rfl (rfl : (X / 18446744073709551616 + Y / 18446744073709551616 + _) % 18446744073709551616 = _) rfl (Nat.mod_lt _ (by decide)) (Nat.mod_lt _ (by decide))
  have e1 : (X / 18446744073709551616 + Y / 18446744073709551616 + (X % 18446744073709551616 + Y % 18446744073709551616 + 0) / 18446744073709551616) / 18446744073709551616 = 0 := by omega
  have e2 : (X / 18446744073709551616 + Y / 18446744073709551616 + (X % 18446744073709551616 + Y % 18446744073709551616 + 0) / 18446744073709551616) % 18446744073709551616 = (X + Y) / 18446744073709551616 := by omega
  have e3 : (X % 18446744073709551616 + Y % 18446744073709551616 + 0) % 18446744073709551616 = (X + Y) % 18446744073709551616 := by omega
  rw [e1, e2, e3] at h
  exact h
def MeanNo (l : List Tm) : Prop := wts l = 0 ∨ 18446744073709551616 ≤ wts l
instance (l : List Tm) : Decidable (MeanNo l) := inferInstanceAs (Decidable (_ ∨ _))
def MeanEnds (w : World) (l : List Tm) (e : Ending) (w' : World) : Prop :=
  (if MeanNo l then e = .returned (.tuple #[.int .i64 0, .int .i64 100]) else e = .returned (.tuple #[.int .i64 (((lsm l / wts l : Nat) : Int) - 9223372036854775808), .int .i64 0])) ∧ Fr S0 w w'
theorem mean_any (p : Option Addr) (c : Nat) (l : List Tm) (w : World) (h : TmI w p l) (hok : ∀ t ∈ l, TmOk t) :
    Calls Try.prog 79 #[.slice p l.length c] w (MeanEnds w l) := by
  have H := Lib.hid h
  have HOK := Lib.hid hok
  have hlen := h.len
  unfold maxLen at hlen
  obtain ⟨m, hm⟩ : ∃ m, l.length = m := ⟨_, rfl⟩
  have HM := Lib.hid hm
  rw [hm] at hlen ⊢
  clear h hok hm
  have hmf := makeF
  go_enter Try.func79, Try.ntmps79
  go_wp2_with fail
  obtain ⟨g, hg⟩ : ∃ g, w.heap.size = g := ⟨_, rfl⟩
  have HG : Hid (w.heap.size ≤ g) := Lib.hid (by omega)
  have HN0 : Hid ((w.alloc (.cells #[.int .u64 0, .int .u64 0] 116)).heap[g]? = some (.cells #[.int .u64 0, .int .u64 0] 116 (0, 0))) := Lib.hid (by rw [← hg]; exact heap_alloc_new _ _)
  rw [hg]
  clear hg
  go_loopw [5, 6, 8, 14] (fun a _ _ i wr => ∃ k : Nat, k ≤ m ∧ i = .int .i64 k ∧ a = .int .u64 (wts (l.take k) : Nat) ∧ wts (l.take k) < 18446744073709551616 ∧ NumIs wr g (lsm (l.take k)) ∧ Fr S0 w wr) (fun _ _ _ i _ => m - (intOf i).toNat)
  case atStart => exact ⟨0, by omega, rfl, rfl, by simp [wts], (by unfold NumIs; rw [show lsm (l.take 0) = 0 by simp [lsm]]; exact HN0.out), Fr.alloc _ _ _⟩
  case round =>
    obtain ⟨k, hk, rfl, rfl, hw, hnum, hfr⟩ := hrel
    by_cases hkm : (k : Int) < (m : Int)
    · have hkl : k < l.length := by rw [HM.out]; omega
      obtain ⟨b, o, rfl, hc1, hc2⟩ := (H.out.fr0 hfr).at k hkl
      have hok := HOK.out _ (List.getElem_mem hkl)
      obtain ⟨t1, t2⟩ := wts_take l k hkl
      have hlf := lft_lt hok
      have hlo := hok.lo
      have hhi := hok.hi
      have hn := hok.n
      have hle := lsm_le (l.take (k + 1)) fun u hu => HOK.out u (List.mem_of_mem_take hu)
      have hwl := wts_take_le l (k + 1)
      rw [t1, t2] at hle
      rw [t1] at hwl
      obtain ⟨V, hV⟩ : ∃ V, l[k].1 = V := ⟨_, rfl⟩
      obtain ⟨N, hN⟩ : ∃ N, l[k].2 = N := ⟨_, rfl⟩
      rw [hV] at hc1 t2 hlf hlo hhi hle
      rw [hN] at hc2 t1 t2 hn hle hwl
      have HLF := Lib.hid (fun W => lift_any V W hlo hhi)
      have HML := Lib.hid (fun W => mul_any (lft V) N W hlf hn)
      obtain ⟨A, hA⟩ : ∃ A, wts (l.take k) = A := ⟨_, rfl⟩
      obtain ⟨S, hS⟩ : ∃ S, lsm (l.take k) = S := ⟨_, rfl⟩
      rw [hA] at hw t1 hle hwl ⊢
      rw [hS] at hnum t2 hle
      have HFR := Lib.hid hfr
      have HW := Lib.hid hwl
      have T1 := Lib.hid t1
      have T2 := Lib.hid t2
      clear hok hV hN hA hS hfr t1 t2
      by_cases hov : A + N < 18446744073709551616
      · have h1 : ∀ W, (callFunc 86 #[.int .u64 (A : Int), .int .u64 (N : Int), .int .u64 0]).run Try.prog W = .ok (.value (.tuple #[.int .u64 ((A + N : Nat) : Int), .int .u64 0])) W := fun W => by
          have := run_add A N 0 (by omega) W
          rw [show (A + N + 0) % 18446744073709551616 = A + N by omega, show (A + N + 0) / 18446744073709551616 = 0 by omega] at this
          exact this
        have hsz : S + lft V * N < 340282366920938463463374607431768211456 := by
          have := Nat.mul_le_mul_left 18446744073709551615 (show A + N ≤ 18446744073709551615 by omega)
          omega
        have HAD := Lib.hid (fun W => add_room S (lft V * N) W hsz)
        unfold NumIs at hnum
        obtain ⟨L, hL⟩ : ∃ L, lft V = L := ⟨_, rfl⟩
        rw [hL] at HLF HML HAD T2
        obtain ⟨P, hP⟩ : ∃ P, L * N = P := ⟨_, rfl⟩
        rw [hP] at HML HAD T2
        obtain ⟨X1, hX1⟩ : ∃ X, S / 18446744073709551616 = X := ⟨_, rfl⟩
        obtain ⟨X0, hX0⟩ : ∃ X, S % 18446744073709551616 = X := ⟨_, rfl⟩
        obtain ⟨P1, hP1⟩ : ∃ X, P / 18446744073709551616 = X := ⟨_, rfl⟩
        obtain ⟨P0, hP0⟩ : ∃ X, P % 18446744073709551616 = X := ⟨_, rfl⟩
        obtain ⟨Z1, hZ1⟩ : ∃ X, (S + P) / 18446744073709551616 = X := ⟨_, rfl⟩
        obtain ⟨Z0, hZ0⟩ : ∃ X, (S + P) % 18446744073709551616 = X := ⟨_, rfl⟩
        rw [hX1, hX0] at hnum
        rw [hX1, hX0, hP1, hP0, hZ1, hZ0] at HAD
        rw [hP1, hP0] at HML
        have HZ1 := Lib.hid hZ1
        have HZ0 := Lib.hid hZ0
        have HNUM := Lib.hid hnum
        clear hlf hL hP hX1 hX0 hP1 hP0 hZ1 hZ0 hle hsz hnum
        go_wp2_with fail
        have hb : (wr.alloc (.cells #[.int .i64 V, .int .u64 (N : Int)] 126)).heap[g]? = some (.cells #[.int .u64 (X1 : Int), .int .u64 (X0 : Int)] 116 (0, 0)) := (Fr.alloc S0 _ _).row HNUM.out (fun h => h)
        have ht := heap_alloc_new wr (.cells #[.int .i64 V, .int .u64 (N : Int)] 126)
        have F1 : Hid (Fr S0 w (wr.alloc (.cells #[.int .i64 V, .int .u64 (N : Int)] 126))) := Lib.hid (HFR.out.trans0 (Fr.alloc _ _ _))
        obtain ⟨z, hz⟩ : ∃ z, wr.heap.size = z := ⟨_, rfl⟩
        rw [hz] at ht ⊢
        generalize wr.alloc (.cells #[.int .i64 V, .int .u64 (N : Int)] 126) = W at hb ht F1 ⊢
        obtain ⟨s0, s1, -, -⟩ := two_facts hb
        obtain ⟨t0, t1, -, -⟩ := two_facts ht
        have HB := Lib.hid hb
        have HT := Lib.hid ht
        clear hb ht hz h1 hc1 hc2
        go_region_law (first
          | (go_simp; go_at_call 88; (with_reducible refine (HLF.out _).mono ?_); rintro _ w2 ⟨rfl, rfl⟩)
          | (go_simp; go_at_call 67; (with_reducible refine (HML.out _).mono ?_); rintro _ w3 ⟨rfl, f3⟩; rw [nv_eq]; have F3 := Lib.hid ((Fr.drew S0 W).trans0 f3); obtain ⟨u0, u1, -, -⟩ := two_facts (F3.out.row HB.out (fun h => h)); clear f3)
          | (go_simp; go_at_call 87; (with_reducible refine (HAD.out _).mono ?_); rintro _ w4 ⟨rfl, f4⟩; rw [nv_eq]; have F4 := Lib.hid (F3.out.trans0 f4); have B4 := Lib.hid (F4.out.row HB.out (fun h => h)); obtain ⟨v0, v1, y0, y1⟩ := two_facts B4.out; clear f4))
        all_goals
          go_wp2_with fail
          go_roundw
          case rel =>
            refine ⟨k + 1, by omega, by go_num, by rw [T1.out]; go_num, by rw [T1.out]; exact hov, ?_, ((F1.out.trans0 F4.out).set _ _ HG.out).set _ _ HG.out⟩
            unfold NumIs
            rw [T2.out, HZ1.out, HZ0.out]
            exact two_set B4.out _ _
          case measure => simp [intOf]; omega
      · have h1 : ∀ W, (callFunc 86 #[.int .u64 (A : Int), .int .u64 (N : Int), .int .u64 0]).run Try.prog W = .ok (.value (.tuple #[.int .u64 ((A + N - 18446744073709551616 : Nat) : Int), .int .u64 1])) W := fun W => by
          have := run_add A N 0 (by omega) W
          rw [show (A + N + 0) % 18446744073709551616 = A + N - 18446744073709551616 by omega, show (A + N + 0) / 18446744073709551616 = 1 by omega] at this
          exact this
        have HE : Hid (MeanNo l) := Lib.hid (.inr (by omega))
        clear hle
        go_wp2_with fail
        go_ret2
        exact ⟨by rw [if_pos HE.out]; rfl, HFR.out.trans0 (Fr.alloc _ _ _)⟩
    · obtain rfl : k = m := by omega
      have et : l.take k = l := List.take_of_length_le (by rw [HM.out]; exact Nat.le_refl _)
      rw [et] at hw hnum ⊢
      have hle := lsm_le l HOK.out
      obtain ⟨A, hA⟩ : ∃ A, wts l = A := ⟨_, rfl⟩
      obtain ⟨S, hS⟩ : ∃ S, lsm l = S := ⟨_, rfl⟩
      rw [hA] at hw hle ⊢
      rw [hS] at hnum hle
      have HA := Lib.hid hA
      have HS := Lib.hid hS
      have HFR := Lib.hid hfr
      unfold NumIs at hnum
      have hX : S / 18446744073709551616 * 18446744073709551616 + S % 18446744073709551616 = S := Nat.div_add_mod' _ _
      have hsl := mod_word S
      have hsh : S / 18446744073709551616 < 18446744073709551616 := by
        have := Nat.mul_le_mul_left 18446744073709551615 (show A ≤ 18446744073709551615 by omega)
        omega
      have hlt : 0 < A → S / 18446744073709551616 < A := fun h => by
        rw [Nat.div_lt_iff_lt_mul (by decide)]; omega
      obtain ⟨X1, hX1⟩ : ∃ X, S / 18446744073709551616 = X := ⟨_, rfl⟩
      obtain ⟨X0, hX0⟩ : ∃ X, S % 18446744073709551616 = X := ⟨_, rfl⟩
      rw [hX1, hX0] at hnum hX
      rw [hX1] at hlt hsh
      rw [hX0] at hsl
      obtain ⟨s0, s1, -, -⟩ := two_facts hnum
      clear et hA hS hfr hnum hX1 hX0
      by_cases h0 : A = 0
      · have HE : Hid (MeanNo l) := Lib.hid (.inl (by rw [HA.out, h0]))
        have HNO := Lib.hid (fun W => narrow_no X1 X0 A W hsh hsl hw (.inl h0))
        clear hlt hX hle h0
        go_wp2_with fail
        refine (HNO.out _).mono ?_
        rintro e w1 ⟨rfl, f1⟩
        go_wp2_with fail
        go_ret2
        exact ⟨by rw [if_pos HE.out]; rfl, HFR.out.trans0 f1⟩
      · have HE : Hid (¬ MeanNo l) := Lib.hid (by unfold MeanNo; rw [HA.out]; omega)
        have HY := Lib.hid (fun W => narrow_yes X1 X0 A W hsl hw (hlt (by omega)))
        rw [hX] at HY
        have hq : S / A < 18446744073709551616 := by
          rw [Nat.div_lt_iff_lt_mul (by omega)]; omega
        obtain ⟨Q, hQ⟩ : ∃ Q, S / A = Q := ⟨_, rfl⟩
        obtain ⟨R, hR⟩ : ∃ R, S % A = R := ⟨_, rfl⟩
        rw [hQ, hR] at HY
        rw [hQ] at hq
        have HQ : Hid (lsm l / wts l = Q) := Lib.hid (by rw [HA.out, HS.out, hQ])
        have HLO := Lib.hid (fun W => lower_any Q W hq)
        clear hlt hX hle h0 hQ hR
        go_wp2_with fail
        refine (HY.out _).mono ?_
        rintro e w1 ⟨rfl, f1⟩
        go_wp2_with fail
        refine (HLO.out _).mono ?_
        rintro e w2 ⟨rfl, rfl⟩
        go_wp2_with fail
        go_ret2
        exact ⟨by rw [if_neg HE.out, HQ.out]; rfl, HFR.out.trans0 f1⟩
end Go.Proofs.Ytmieeoceckcnkaa

namespace Go.Proofs.Ytmieeoceckcnkaa
open Go.RowKit
theorem MeanEnds.yes {w w' : World} {l : List Tm} {e : Ending} (h : MeanEnds w l e w') (hn : ¬ MeanNo l) : e = .returned (.tuple #[.int .i64 (((lsm l / wts l : Nat) : Int) - 9223372036854775808), .int .i64 0]) ∧ Fr S0 w w' := by
  unfold MeanEnds at h
  rw [if_neg hn] at h
  exact h
theorem MeanEnds.no {w w' : World} {l : List Tm} {e : Ending} (h : MeanEnds w l e w') (hn : MeanNo l) : e = .returned (.tuple #[.int .i64 0, .int .i64 100]) ∧ Fr S0 w w' := by
  unfold MeanEnds at h
  rw [if_pos hn] at h
  exact h
theorem avg_any (m n : Int) (v u : Nat) (w : World) (h1 : TmOk (m, v)) (h2 : TmOk (n, u)) :
    Calls Try.prog 69 #[.int .i64 m, .int .u64 (v : Int), .int .i64 n, .int .u64 (u : Int)] w (MeanEnds w [(m, v), (n, u)]) := by
  have HT : Hid (TmI (w.alloc (.cells #[.int .i64 m, .int .u64 (v : Int), .int .i64 n, .int .u64 (u : Int)] 126)) (some ⟨w.heap.size, 0, none⟩) [(m, v), (n, u)]) := Lib.hid ⟨by unfold maxLen; simp, fun _ => ⟨w.heap.size, 0, rfl, fun i hi => by
    have hb := heap_alloc_new w (.cells #[.int .i64 m, .int .u64 (v : Int), .int .i64 n, .int .u64 (u : Int)] 126)
    have : i = 0 ∨ i = 1 := by simp at hi; omega
    rcases this with rfl | rfl <;> exact ⟨(cell_of_row _ _ _ _ _ _ hb).trans rfl, (cell_of_row _ _ _ _ _ _ hb).trans rfl⟩⟩⟩
  have HM := Lib.hid (fun W (h : TmI W (some ⟨w.heap.size, 0, none⟩) [(m, v), (n, u)]) => mean_any (some ⟨w.heap.size, 0, none⟩) 2 [(m, v), (n, u)] W h (by intro t ht; simp at ht; rcases ht with rfl | rfl; exact h1; exact h2))
  have HL : Hid ([(m, v), (n, u)].length = 2) := Lib.hid rfl
  obtain ⟨L, hL⟩ : ∃ L, [(m, v), (n, u)] = L := ⟨_, rfl⟩
  rw [hL] at HT HM HL ⊢
  rw [HL.out] at HM
  clear hL h1 h2 HL
  go_enter Try.func69, Try.ntmps69
  go_wp2_with fail
  refine (HM.out _ HT.out).mono ?_
  rintro e w1 ⟨he, f1⟩
  have HF : Hid (Fr S0 w w1) := Lib.hid ((Fr.alloc _ _ _).trans0 f1)
  clear f1
  by_cases hb : MeanNo L
  · have HB := Lib.hid hb
    rw [if_pos hb] at he
    subst he
    clear hb
    go_wp2_with fail
    go_ret2
    exact ⟨by rw [if_pos HB.out]; rfl, HF.out⟩
  · have HB := Lib.hid hb
    rw [if_neg hb] at he
    subst he
    clear hb
    go_wp2_with fail
    go_ret2
    exact ⟨by rw [if_neg HB.out]; rfl, HF.out⟩
end Go.Proofs.Ytmieeoceckcnkaa

namespace Go.Proofs.Ytmieeoceckcnkaa
open Go.RowKit
def Ris (l : List Tm) : Prop := l.Pairwise fun a b => a.1 ≤ b.1
def ins (x : Tm) : List Tm → List Tm
  | [] => [x]
  | y :: r => if y.1 ≤ x.1 then y :: ins x r else x :: y :: r
def srt (l : List Tm) : List Tm := l.foldl (fun o x => ins x o) []
def mrg : List Tm → List Tm → List Tm
  | [], b => b
  | a :: r, [] => a :: r
  | a :: r, b :: s => if a.1 ≤ b.1 then a :: mrg r (b :: s) else b :: mrg (a :: r) s
theorem mrg_nil (a : List Tm) : mrg a [] = a := by cases a <;> simp [mrg]
theorem mrg_one (a : Tm) (r : List Tm) (b : Tm) (s : List Tm) : mrg (a :: r) (b :: s) = if a.1 ≤ b.1 then a :: mrg r (b :: s) else b :: mrg (a :: r) s := by rw [mrg]
theorem mrg_ins (x : Tm) : ∀ a b : List Tm, mrg a (ins x b) = ins x (mrg a b)
  | [], b => by simp [mrg]
  | a :: r, [] => by
    rw [mrg_nil, ins, mrg_one]
    by_cases h : a.1 ≤ x.1
    · rw [if_pos h, ins, if_pos h]
      have := mrg_ins x r []
      rw [ins, mrg_nil] at this
      rw [this]
    · rw [if_neg h, ins, if_neg h, mrg_nil]
  | a :: r, y :: s => by
    rw [mrg_one a r y s]
    by_cases h : y.1 ≤ x.1
    · rw [ins, if_pos h, mrg_one]
      by_cases h2 : a.1 ≤ y.1
      · rw [if_pos h2, if_pos h2, ins, if_pos (Int.le_trans h2 h)]
        have := mrg_ins x r (y :: s)
        rw [ins, if_pos h] at this
        rw [this]
      · rw [if_neg h2, if_neg h2, ins, if_pos h, mrg_ins x (a :: r) s]
    · rw [ins, if_neg h, mrg_one]
      by_cases h2 : a.1 ≤ x.1
      · have h3 : a.1 ≤ y.1 := by omega
        rw [if_pos h2, if_pos h3, ins, if_pos h2]
        have := mrg_ins x r (y :: s)
        rw [ins, if_neg h] at this
        rw [this]
      · rw [if_neg h2]
        by_cases h3 : a.1 ≤ y.1
        · rw [if_pos h3, ins, if_neg h2, mrg_one, if_pos h3]
        · rw [if_neg h3, ins, if_neg h, mrg_one, if_neg h3]
theorem srt_snoc (l : List Tm) (x : Tm) : srt (l ++ [x]) = ins x (srt l) := by simp [srt]
theorem list_rev {P : List Tm → Prop} (h0 : P []) (h1 : ∀ l x, P l → P (l ++ [x])) (l : List Tm) : P l := by
  have : ∀ n (l : List Tm), l.length = n → P l := by
    intro n
    induction n with
    | zero => intro l h; rw [List.eq_nil_of_length_eq_zero h]; exact h0
    | succ n ih =>
      intro l h
      have hne : l ≠ [] := by intro e; rw [e] at h; cases h
      rw [← List.dropLast_concat_getLast hne]
      exact h1 _ _ (ih _ (by rw [List.length_dropLast]; omega))
  exact this _ l rfl
theorem mrg_srt (a b : List Tm) : mrg (srt a) (srt b) = srt (a ++ b) := by
  induction b using list_rev with
  | h0 => rw [List.append_nil, show srt [] = [] from rfl, mrg_nil]
  | h1 l x ih => rw [srt_snoc, mrg_ins, ih, ← List.append_assoc, srt_snoc]
theorem ins_mem (x y : Tm) (l : List Tm) : y ∈ ins x l ↔ y = x ∨ y ∈ l := by
  induction l with
  | nil => simp [ins]
  | cons z r ih =>
    rw [ins]
    split
    · rw [List.mem_cons, ih, List.mem_cons]
      constructor <;> rintro (h | h | h) <;> simp_all
    · simp
theorem ins_last {x : Tm} {l : List Tm} (h : ∀ y ∈ l, y.1 ≤ x.1) : ins x l = l ++ [x] := by
  induction l with
  | nil => rfl
  | cons z r ih => rw [ins, if_pos (h z List.mem_cons_self), ih fun y hy => h y (List.mem_cons_of_mem _ hy)]; rfl
theorem ins_ris {x : Tm} {l : List Tm} (h : Ris l) : Ris (ins x l) := by
  induction l with
  | nil => simp [ins, Ris]
  | cons z r ih =>
    obtain ⟨h1, h2⟩ := List.pairwise_cons.1 h
    rw [ins]
    split
    · refine List.pairwise_cons.2 ⟨fun y hy => ?_, ih h2⟩
      rcases (ins_mem x y r).1 hy with rfl | hy
      · assumption
      · exact h1 y hy
    · refine List.pairwise_cons.2 ⟨fun y hy => ?_, h⟩
      rcases List.mem_cons.1 hy with rfl | hy
      · omega
      · have := h1 y hy; omega
theorem srt_ris (l : List Tm) : Ris (srt l) := by
  induction l using list_rev with
  | h0 => exact List.Pairwise.nil
  | h1 l x ih => rw [srt_snoc]; exact ins_ris ih
theorem srt_of {l : List Tm} (h : Ris l) : srt l = l := by
  induction l using list_rev with
  | h0 => rfl
  | h1 l x ih =>
    obtain ⟨h1, _, h3⟩ := List.pairwise_append.1 h
    rw [srt_snoc, ih h1]
    exact ins_last fun y hy => h3 y hy x (List.mem_singleton.2 rfl)
theorem srt_mem (y : Tm) (l : List Tm) : y ∈ srt l ↔ y ∈ l := by
  induction l using list_rev with
  | h0 => exact Iff.rfl
  | h1 l x ih => rw [srt_snoc, ins_mem, ih, List.mem_append, List.mem_singleton, or_comm]
theorem ins_len (x : Tm) (l : List Tm) : (ins x l).length = l.length + 1 := by
  induction l with
  | nil => rfl
  | cons z r ih => rw [ins]; split <;> simp_all
theorem srt_len (l : List Tm) : (srt l).length = l.length := by
  induction l using list_rev with
  | h0 => rfl
  | h1 l x ih => rw [srt_snoc, ins_len, ih, List.length_append]; rfl
theorem wts_nil : wts [] = 0 := rfl
theorem wts_cons (t : Tm) (l : List Tm) : wts (t :: l) = t.2 + wts l := by simp [wts]
theorem wts_app (a b : List Tm) : wts (a ++ b) = wts a + wts b := by simp [wts]
theorem ins_wts (x : Tm) (l : List Tm) : wts (ins x l) = wts l + x.2 := by
  induction l with
  | nil => simp [ins, wts]
  | cons z r ih =>
    rw [ins]
    split
    · rw [wts_cons, ih, wts_cons]; omega
    · rw [wts_cons, wts_cons]; omega
theorem srt_wts (l : List Tm) : wts (srt l) = wts l := by
  induction l using list_rev with
  | h0 => rfl
  | h1 l x ih => rw [srt_snoc, ins_wts, ih, wts_app]; simp [wts]
def may (d n L W : Nat) : Bool := decide (W * d * n ≤ (2 * L + W) * (2 * n - (2 * L + W)))
def avm (a b : Tm) : Int := ((lsm [a, b] / wts [a, b] : Nat) : Int) - 9223372036854775808
def join (a b : Tm) : Tm := (avm a b, a.2 + b.2)
def stp (d n : Nat) (s : List Tm × Nat) (m : Tm) : List Tm × Nat :=
  match s.1.getLast? with
  | none => ([m], s.2)
  | some q => if may d n s.2 (q.2 + m.2) then (s.1.dropLast ++ [join q m], s.2) else (s.1 ++ [m], s.2 + q.2)
def run (d n : Nat) (l : List Tm) : List Tm × Nat := l.foldl (stp d n) ([], 0)
def press (d : Nat) (l : List Tm) : List Tm := (run d (wts l) (srt l)).1
theorem run_snoc (d n : Nat) (l : List Tm) (m : Tm) : run d n (l ++ [m]) = stp d n (run d n l) m := by simp [run]
theorem run_take {d n : Nat} {l : List Tm} {i : Nat} (h : i < l.length) : run d n (l.take (i + 1)) = stp d n (run d n (l.take i)) l[i] := by
  rw [List.take_succ_eq_append_getElem h, run_snoc]
theorem stp_nil (d n L : Nat) (m : Tm) : stp d n ([], L) m = ([m], L) := rfl
theorem stp_snoc (d n L : Nat) (o : List Tm) (q m : Tm) : stp d n (o ++ [q], L) m = if may d n L (q.2 + m.2) then (o ++ [join q m], L) else (o ++ [q] ++ [m], L + q.2) := by
  unfold stp
  simp
structure Fit (lo hi : Int) (t : Tm) : Prop where
  lo : lo ≤ t.1
  hi : t.1 ≤ hi
  n : 0 < t.2
theorem avm_in {a b : Tm} {lo hi : Int} (ha : Fit lo hi a) (hb : Fit lo hi b) (h1 : -9223372036854775808 ≤ lo) : lo ≤ avm a b ∧ avm a b ≤ hi := by
  obtain ⟨a1, a2, a3⟩ := ha
  obtain ⟨b1, b2, b3⟩ := hb
  unfold avm
  have e1 : wts [a, b] = a.2 + b.2 := by simp [wts]
  have e2 : lsm [a, b] = lft a.1 * a.2 + lft b.1 * b.2 := by simp [lsm]
  rw [e1, e2]
  obtain ⟨A, eA⟩ : ∃ A, lft a.1 = A := ⟨_, rfl⟩
  obtain ⟨B, eB⟩ : ∃ B, lft b.1 = B := ⟨_, rfl⟩
  obtain ⟨X, eX⟩ : ∃ X, (lo + 9223372036854775808).toNat = X := ⟨_, rfl⟩
  obtain ⟨Y, eY⟩ : ∃ Y, (hi + 9223372036854775808).toNat = Y := ⟨_, rfl⟩
  rw [eA, eB]
  unfold lft at eA eB
  have q1 : X ≤ A := by omega
  have q2 : X ≤ B := by omega
  have q3 : A ≤ Y := by omega
  have q4 : B ≤ Y := by omega
  have u1 : X * (a.2 + b.2) ≤ A * a.2 + B * b.2 := by rw [Nat.mul_add]; exact Nat.add_le_add (Nat.mul_le_mul_right _ q1) (Nat.mul_le_mul_right _ q2)
  have u2 : A * a.2 + B * b.2 ≤ Y * (a.2 + b.2) := by rw [Nat.mul_add]; exact Nat.add_le_add (Nat.mul_le_mul_right _ q3) (Nat.mul_le_mul_right _ q4)
  have v1 : X ≤ (A * a.2 + B * b.2) / (a.2 + b.2) := (Nat.le_div_iff_mul_le (by omega)).2 u1
  have v2 : (A * a.2 + B * b.2) / (a.2 + b.2) ≤ Y := Nat.div_le_of_le_mul (by rw [Nat.mul_comm (a.2 + b.2)]; exact u2)
  omega
structure Inv (lo hi : Int) (t : List Tm) (s : List Tm × Nat) : Prop where
  sum : wts s.1 = wts t
  non : s.1 = [] → t = []
  done : s.2 = wts s.1.dropLast
  ris : Ris s.1
  fit : ∀ x ∈ s.1, Fit lo hi x
  len : s.1.length ≤ t.length
theorem Inv.start (lo hi : Int) : Inv lo hi [] ([], 0) := ⟨rfl, fun _ => rfl, rfl, List.Pairwise.nil, by simp, Nat.le_refl _⟩
theorem last_or (o : List Tm) : o = [] ∨ ∃ i q, o = i ++ [q] := by
  by_cases h : o = []
  · exact .inl h
  · exact .inr ⟨_, _, (List.dropLast_concat_getLast h).symm⟩
theorem Inv.next {lo hi : Int} {t : List Tm} {s : List Tm × Nat} {m : Tm} (h : Inv lo hi t s) (d n : Nat) (h1 : -9223372036854775808 ≤ lo) (hm : Fit lo hi m) (hs : ∀ x ∈ s.1, x.1 ≤ m.1) : Inv lo hi (t ++ [m]) (stp d n s m) ∧ ∀ x ∈ (stp d n s m).1, x.1 ≤ m.1 := by
  obtain ⟨o, L⟩ := s
  rcases last_or o with rfl | ⟨i, q, rfl⟩
  · have ht := h.non rfl
    subst ht
    rw [stp_nil]
    have h2 := h.done
    simp only [List.dropLast_nil, wts_nil] at h2
    exact ⟨⟨rfl, by simp, h2, List.pairwise_singleton _ _, by simpa using hm, by simp⟩, by simp⟩
  · have hq := h.fit q (by simp)
    have hqm : q.1 ≤ m.1 := hs q (by simp)
    obtain ⟨r1, -, r3⟩ := List.pairwise_append.1 h.ris
    have hsum := h.sum
    have hlen := h.len
    have hdone := h.done
    simp only [List.dropLast_concat, List.length_append, List.length_cons, List.length_nil] at hsum hlen hdone
    rw [stp_snoc]
    split
    · have hj : Fit q.1 m.1 (join q m) := by
        have := avm_in (a := q) (b := m) (lo := q.1) (hi := m.1) ⟨Int.le_refl _, hqm, hq.n⟩ ⟨hqm, Int.le_refl _, hm.n⟩ (Int.le_trans h1 hq.lo)
        exact ⟨this.1, this.2, by have := hq.n; simp only [join]; omega⟩
      refine ⟨⟨?_, by simp, by simpa using hdone, ?_, fun x hx => ?_, by simp only [List.length_append, List.length_cons, List.length_nil]; omega⟩, fun x hx => ?_⟩
      · rw [wts_app] at hsum ⊢
        rw [wts_app, ← hsum]
        simp [wts, join]
        omega
      · refine List.pairwise_append.2 ⟨r1, List.pairwise_singleton _ _, fun x hx y hy => ?_⟩
        rw [List.mem_singleton.1 hy]
        exact Int.le_trans (r3 x hx q (by simp)) hj.lo
      · rcases List.mem_append.1 hx with hx | hx
        · exact h.fit x (by simp [hx])
        · rw [List.mem_singleton.1 hx]
          exact ⟨Int.le_trans hq.lo hj.lo, Int.le_trans hj.hi hm.hi, hj.n⟩
      · rcases List.mem_append.1 hx with hx | hx
        · exact hs x (by simp [hx])
        · rw [List.mem_singleton.1 hx]
          exact hj.hi
    · refine ⟨⟨?_, by simp, ?_, ?_, fun x hx => ?_, by simp only [List.length_append, List.length_cons, List.length_nil]; omega⟩, fun x hx => ?_⟩
      · rw [wts_app, wts_app t, ← hsum]
      · rw [hdone]
        simp [wts]
      · refine List.pairwise_append.2 ⟨h.ris, List.pairwise_singleton _ _, fun x hx y hy => ?_⟩
        rw [List.mem_singleton.1 hy]
        exact hs x hx
      · rcases List.mem_append.1 hx with hx | hx
        · exact h.fit x hx
        · rw [List.mem_singleton.1 hx]
          exact hm
      · rcases List.mem_append.1 hx with hx | hx
        · exact hs x hx
        · rw [List.mem_singleton.1 hx]
          exact Int.le_refl _
theorem run_inv {lo hi : Int} (d n : Nat) (h1 : -9223372036854775808 ≤ lo) (l : List Tm) (hr : Ris l) (hf : ∀ x ∈ l, Fit lo hi x) : Inv lo hi l (run d n l) ∧ ∀ x ∈ (run d n l).1, ∀ y, (∀ z ∈ l, z.1 ≤ y) → x.1 ≤ y := by
  induction l using list_rev with
  | h0 => exact ⟨Inv.start _ _, by simp [run]⟩
  | h1 l m ih =>
    obtain ⟨r1, -, r3⟩ := List.pairwise_append.1 hr
    obtain ⟨i1, i2⟩ := ih r1 fun x hx => hf x (by simp [hx])
    rw [run_snoc]
    obtain ⟨j1, j2⟩ := i1.next d n h1 (hf m (by simp)) fun x hx => i2 x hx m.1 fun z hz => r3 z hz m (by simp)
    exact ⟨j1, fun x hx y hy => Int.le_trans (j2 x hx) (hy m (by simp))⟩
theorem ris_take {l : List Tm} (h : Ris l) (i : Nat) : Ris (l.take i) := by
  rw [← List.take_append_drop i l] at h
  exact (List.pairwise_append.1 h).1
theorem srt_fit {lo hi : Int} {l : List Tm} (h : ∀ x ∈ l, Fit lo hi x) : ∀ x ∈ srt l, Fit lo hi x := fun x hx => h x ((srt_mem x l).1 hx)
theorem press_inv {lo hi : Int} (d : Nat) (h1 : -9223372036854775808 ≤ lo) (l : List Tm) (hf : ∀ x ∈ l, Fit lo hi x) : Inv lo hi (srt l) (run d (wts l) (srt l)) := (run_inv d _ h1 _ (srt_ris l) (srt_fit hf)).1
theorem press_wts {lo hi : Int} (d : Nat) (h1 : -9223372036854775808 ≤ lo) (l : List Tm) (hf : ∀ x ∈ l, Fit lo hi x) : wts (press d l) = wts l := by
  rw [← srt_wts l]
  exact (press_inv d h1 l hf).sum
theorem press_fit {lo hi : Int} (d : Nat) (h1 : -9223372036854775808 ≤ lo) (l : List Tm) (hf : ∀ x ∈ l, Fit lo hi x) : ∀ x ∈ press d l, Fit lo hi x := (press_inv d h1 l hf).fit
end Go.Proofs.Ytmieeoceckcnkaa

namespace Go.Proofs.Ytmieeoceckcnkaa
open Go.RowKit
theorem info_mn : (Try.prog.info? 68).map (fun i => (i.zero, i.size, i.bytes)) = some (some (.agg #[.int .i64 0, .int .u64 0]), 2, 16) := by kernel_rfl
theorem info_am : (Try.prog.info? 44).map (fun i => (i.zero, i.size, i.bytes)) = some (some (.agg #[.int .i64 0, .int .u64 0]), 2, 16) := by kernel_rfl
abbrev El (t e : TypeId) : Prop := ElemOk Try.prog t e (.agg #[.int .i64 0, .int .u64 0]) 2 16
theorem elMn : El 57 68 := ⟨Try.underlying57, info_mn, rfl, by decide, by decide⟩
theorem elAm : El 35 44 := ⟨Try.underlying35, info_am, rfl, by decide, by decide⟩
def prs (l : List Tm) : List Value := l.flatMap fun t => [.int .i64 t.1, .int .u64 (t.2 : Int)]
theorem prs_cons (t : Tm) (l : List Tm) : prs (t :: l) = [.int .i64 t.1, .int .u64 (t.2 : Int)] ++ prs l := rfl
theorem prs_snoc (l : List Tm) (t : Tm) : prs (l ++ [t]) = prs l ++ [.int .i64 t.1, .int .u64 (t.2 : Int)] := by simp [prs]
theorem prs_app (a b : List Tm) : prs (a ++ b) = prs a ++ prs b := by simp [prs]
theorem prs_len (l : List Tm) : (prs l).length = l.length * 2 := by
  induction l with
  | nil => rfl
  | cons t l ih => rw [prs_cons, List.length_append, ih, List.length_cons]; simp; omega
theorem prs_at : ∀ (l : List Tm) (i : Nat) (h : i < l.length), (prs l)[i * 2]? = some (.int .i64 l[i].1) ∧ (prs l)[i * 2 + 1]? = some (.int .u64 (l[i].2 : Int))
  | t :: l, 0, _ => by simp [prs]
  | t :: l, i + 1, h => by
    have := prs_at l i (by simpa using h)
    rw [prs_cons]
    rw [List.getElem?_append_right (by simp; omega), List.getElem?_append_right (by simp; omega)]
    simp only [List.length_cons, List.length_nil, List.getElem_cons_succ]
    rw [show (i + 1) * 2 - (0 + 1 + 1) = i * 2 by omega, show (i + 1) * 2 + 1 - (0 + 1 + 1) = i * 2 + 1 by omega]
    exact this
theorem prs_one (l : List Tm) : ∀ u ∈ prs l, u.oneCell' = true := by
  intro u hu
  unfold prs at hu
  obtain ⟨t, -, ht⟩ := List.mem_flatMap.1 hu
  simp only [List.mem_cons, List.not_mem_nil, or_false] at ht
  rcases ht with rfl | rfl <;> rfl
theorem one_pr (x : Int) (y : Nat) : ∀ u ∈ (#[Value.int .i64 x, Value.int .u64 (y : Int)]).toList, u.oneCell' = true := by
  intro u hu
  simp only [List.mem_cons, List.not_mem_nil, or_false] at hu
  rcases hu with rfl | rfl <;> rfl
theorem prs_get (l : List Tm) (j : Nat) (u : Value) (h : (prs l)[j]? = some u) : ∃ i, ∃ h : i < l.length, (j = i * 2 ∧ u = .int .i64 l[i].1) ∨ (j = i * 2 + 1 ∧ u = .int .u64 (l[i].2 : Int)) := by
  have hj := (List.getElem?_eq_some_iff.1 h).1
  rw [prs_len] at hj
  have hi : j / 2 < l.length := by omega
  obtain ⟨h1, h2⟩ := prs_at l (j / 2) hi
  refine ⟨j / 2, hi, ?_⟩
  rcases (by omega : j = j / 2 * 2 ∨ j = j / 2 * 2 + 1) with e | e
  · exact .inl ⟨e, by rw [e, h1] at h; exact (Option.some.inj h).symm⟩
  · exact .inr ⟨e, by rw [e, h2] at h; exact (Option.some.inj h).symm⟩
theorem TmI.nil (w : World) (p : Option Addr) : TmI w p [] := ⟨by simp, fun h => absurd rfl h⟩
theorem TmI.fr {S : Nat → Prop} {w w' : World} {p : Option Addr} {l : List Tm} (h : TmI w p l) (f : Fr S w w') (ho : Off S p) : TmI w' p l :=
  ⟨h.len, fun hl => let ⟨b, o, hp, hc⟩ := h.cel hl; ⟨b, o, hp, fun i hi => ⟨f.cell (hc i hi).1 (ho ⟨b, o, none⟩ hp), f.cell (hc i hi).2 (ho ⟨b, o, none⟩ hp)⟩⟩⟩
theorem TmI.lt {w : World} {p : Option Addr} {l : List Tm} (h : TmI w p l) (hl : l ≠ []) : ∀ a, p = some a → a.block < w.heap.size := by
  intro a ha
  obtain ⟨b, off, hp, hc⟩ := h.cel hl
  rw [hp] at ha
  obtain rfl := Option.some.inj ha
  exact World.block_lt_of_cell? w _ (hc 0 (List.length_pos_iff.2 hl)).1
theorem TmI.cells {w : World} {b o : Nat} {l : List Tm} (h : TmI w (some ⟨b, o, none⟩) l) : ∀ j u, (prs l)[j]? = some u → w.cell? ((⟨b, o, none⟩ : Addr).add j) = some u := by
  intro j u hu
  obtain ⟨i, hi, hc⟩ := prs_get l j u hu
  obtain ⟨b', o', hp, c0, c1⟩ := h.at i hi
  simp only [Option.some.injEq, Addr.mk.injEq] at hp
  obtain ⟨rfl, rfl, -⟩ := hp
  have hadd : (⟨b, o, none⟩ : Addr).add j = ⟨b, o + j, none⟩ := by unfold Addr.add; split <;> simp_all
  rw [hadd]
  rcases hc with ⟨rfl, rfl⟩ | ⟨rfl, rfl⟩
  · exact c0
  · rw [← Nat.add_assoc]; exact c1
theorem TmI.take {w : World} {p : Option Addr} {l : List Tm} (h : TmI w p l) (i : Nat) : TmI w p (l.take i) :=
  ⟨Nat.le_trans (by rw [List.length_take]; omega) h.len, fun hl => by
    obtain ⟨b, o, hp, hc⟩ := h.cel (fun e => hl (by rw [e]; simp))
    refine ⟨b, o, hp, fun j hj => ?_⟩
    have hj2 : j < l.length := by rw [List.length_take] at hj; omega
    rw [List.getElem_take]
    exact hc j hj2⟩
theorem TmI.drop {w : World} {b o : Nat} {l : List Tm} (h : TmI w (some ⟨b, o, none⟩) l) (i : Nat) : TmI w (some ⟨b, o + i * 2, none⟩) (l.drop i) :=
  ⟨Nat.le_trans (by rw [List.length_drop]; omega) h.len, fun hl => by
    obtain ⟨b', o', hp, hc⟩ := h.cel (fun e => hl (by rw [e]; simp))
    simp only [Option.some.injEq, Addr.mk.injEq] at hp
    obtain ⟨rfl, rfl, -⟩ := hp
    refine ⟨b, o + i * 2, rfl, fun j hj => ?_⟩
    have hj2 : i + j < l.length := by rw [List.length_drop] at hj; omega
    rw [List.getElem_drop]
    have := hc (i + j) hj2
    rw [show o + i * 2 + j * 2 = o + (i + j) * 2 by omega]
    exact this⟩
theorem tmi_own {w : World} {e : TypeId} {q : Option Addr} {n d : Nat} {l : List Tm} (h : w.ownsRow 0 e 2 (.slice q n d) n (prs l)) (hm : n ≤ maxLen) : TmI w q l := by
  have hlen : l.length * 2 = n * 2 := by have h1 := h.1; rw [prs_len] at h1; exact h1
  refine ⟨by omega, fun hl => ?_⟩
  rcases h.2 with ⟨hv, hn⟩ | ⟨g, cap, cur, hv, _⟩
  · exact absurd (List.eq_nil_of_length_eq_zero (by omega)) hl
  · simp only [Value.slice.injEq] at hv
    obtain ⟨rfl, -, rfl⟩ := hv
    refine ⟨g, 0, rfl, fun i hi => ?_⟩
    obtain ⟨h1, h2⟩ := prs_at l i hi
    rw [Nat.zero_add]
    exact ⟨(h.cellAt _ (by omega)).trans h1, (h.cellAt _ (by omega)).trans h2⟩
theorem slFormN {w : World} {e : TypeId} {s : Nat} {v : Value} {n : Nat} {xs : List Value} (h : w.ownsRow 0 e s v n xs) : ∃ p c, v = .slice p n c := by
  rcases h.2 with ⟨h, h0⟩ | ⟨g, cap, cur, h, _⟩
  · exact ⟨none, 0, by rw [h, h0]⟩
  · exact ⟨_, _, h⟩
theorem own_cap {w : World} {e : TypeId} {s : Nat} {q : Option Addr} {n d m : Nat} {xs : List Value} (h : w.ownsRow 0 e s (.slice q n d) m xs) : n ≤ d ∧ d ≤ maxLen ∧ (q = none → d = 0) := by
  rcases h.2 with ⟨hv, -⟩ | ⟨g, cap, cur, hv, _, _, h1, h2, _⟩
  · simp only [Value.slice.injEq] at hv
    obtain ⟨-, rfl, rfl⟩ := hv
    exact ⟨Nat.le_refl _, Nat.zero_le _, fun _ => rfl⟩
  · simp only [Value.slice.injEq] at hv
    obtain ⟨rfl, rfl, rfl⟩ := hv
    exact ⟨h1, h2, fun h => by cases h⟩
structure Sl (w : World) (p : Option Addr) (n c : Nat) (l : List Tm) : Prop where
  tmi : TmI w p l
  len : l.length = n
  cap : n ≤ c
  max : c ≤ maxLen
  nil : p = none → c = 0
section
variable {S : Nat → Prop} {w w' : World} {p : Option Addr} {n c : Nat} {l : List Tm}
theorem Sl.fr (h : Sl w p n c l) (f : Fr S w w') (ho : Off S p) : Sl w' p n c l := ⟨h.tmi.fr f ho, h.len, h.cap, h.max, h.nil⟩
theorem Sl.fr0 (h : Sl w p n c l) (f : Fr S0 w w') : Sl w' p n c l := h.fr f (Off.s0 p)
theorem Sl.emp (w : World) : Sl w none 0 0 [] := ⟨TmI.nil _ _, rfl, Nat.le_refl _, Nat.zero_le _, fun _ => rfl⟩
theorem Sl.at (h : Sl w p n c l) (i : Nat) (hi : i < l.length) : ∃ b off, p = some ⟨b, off, none⟩ ∧ w.cell? ⟨b, off + i * 2, none⟩ = some (.int .i64 l[i].1) ∧ w.cell? ⟨b, off + i * 2 + 1, none⟩ = some (.int .u64 (l[i].2 : Nat)) := h.tmi.at i hi
theorem Sl.ofOwns {e : TypeId} (h : w.ownsRow 0 e 2 (.slice p n c) n (prs l)) : Sl w p n c l := by
  obtain ⟨h1, h2, h3⟩ := own_cap h
  have hl := h.1
  rw [prs_len] at hl
  exact ⟨tmi_own h (Nat.le_trans h1 h2), by omega, h1, h2, h3⟩
end
structure Acc (e : TypeId) (w wr : World) (v : Value) (N : Nat) (L : List Tm) : Prop where
  own : wr.ownsRow 0 e 2 v N (prs L)
  fresh : Fresh w v
  fr : Fr S0 w wr
section
variable {e : TypeId} {w wr w2 w3 : World} {v : Value} {N : Nat} {L : List Tm}
theorem Acc.nil (f : Fr S0 w wr) : Acc e w wr (.slice none 0 0) 0 [] := ⟨World.ownsRow_nil _ _ _ _, fresh_nil _ _, f⟩
theorem Acc.len (h : Acc e w wr v N L) : L.length = N := by
  have := h.own.1
  rw [prs_len] at this
  omega
theorem Acc.fr0 (h : Acc e w wr v N L) (f : Fr S0 wr w2) : Acc e w w2 v N L := ⟨f.owns h.own fun _ _ h => h, h.fresh, h.fr.trans0 f⟩
theorem Acc.from (h : Acc e w wr v N L) {w0 : World} (f : Fr S0 w0 w) : Acc e w0 wr v N L := ⟨h.own, fun g hg => Nat.le_trans f.size (h.fresh g hg), f.trans0 h.fr⟩
theorem Acc.app {o : Obj} {g cap n : Nat} {k : Int} (h : Acc e w wr v N L) (own : w3.ownsRow 0 e 2 (.slice (some ⟨g, 0, none⟩) (N + 1) cap) (N + 1) (prs L ++ #[Value.int .i64 k, Value.int .u64 (n : Int)].toList))
    (hg : (wr.alloc o).grownBy w3 v.ownBlock) (hat : v.ownBlock = some g ∨ g = wr.heap.size + 1) : Acc e w w3 (.slice (some ⟨g, 0, none⟩) (N + 1) cap) (N + 1) (L ++ [(k, n)]) :=
  ⟨by rw [prs_snoc]; exact own, fresh_app h.fr h.fresh hat, (h.fr.trans0 (Fr.alloc S0 wr _)).append hg h.fresh⟩
theorem Acc.sl (h : Acc e w wr v N L) : ∃ p c, v = .slice p N c ∧ Sl wr p N c L := by
  obtain ⟨p, c, rfl⟩ := slFormN h.own
  exact ⟨p, c, rfl, Sl.ofOwns h.own⟩
end
theorem run_app2 {t e ty : TypeId} (he : El t e) {W : World} {v : Value} {N : Nat} {L : List Tm} (own : W.ownsRow 0 e 2 v N (prs L)) {p : Option Addr} {m c : Nat} {l : List Tm} (hp : Sl W p m c l) (hr : Room (N + m)) :
    ∃ q d w', (Builtin.append_ #[t, t] ty #[v, .slice p m c]).run Try.prog W = .ok (.slice q (N + m) d) w' ∧ w'.ownsRow 0 e 2 (.slice q (N + m) d) (N + m) (prs (L ++ l)) ∧ W.grownBy w' v.ownBlock ∧
      (Value.ownBlock (.slice q (N + m) d) = v.ownBlock ∨ Value.ownBlock (.slice q (N + m) d) = some W.heap.size) := by
  obtain ⟨i, hi, hz, hsz, hb⟩ := info_parts he.info
  have hr' : N + m ≤ 1099511627776 := hr
  cases p with
  | none =>
    have hl0 : l = [] := by
      by_cases hl : l = []
      · exact hl
      · obtain ⟨b, off, hpp, _⟩ := hp.tmi.cel hl
        cases hpp
    subst hl0
    obtain rfl := hp.nil rfl
    obtain rfl : 0 = m := hp.len
    have hrun := run_append_owned_none (P := Try.prog) (w := W) 0 t ty e i 2 he.und hi v N (prs L) own
    obtain ⟨q, d, rfl⟩ := slFormN own
    exact ⟨q, d, W, hrun, by rw [List.append_nil]; exact own, World.grownBy.refl _ _, .inl rfl⟩
  | some ad =>
    have hcell : ∀ j u, (prs l)[j]? = some u → W.cell? (ad.add j) = some u := fun j u hu => by
      have hne : l ≠ [] := by rintro rfl; simp [prs] at hu
      obtain ⟨b, off, hpe, -⟩ := hp.tmi.cel hne
      obtain rfl := Option.some.inj hpe
      exact hp.tmi.cells j u hu
    obtain ⟨v', w', hrun, h2, h3, -, h5⟩ := run_append_own_at (P := Try.prog) W 0 t ty e i _ 2 16 he.und hi hz hsz hb rfl (by decide) v N (prs L) own ad m c (prs l) (by rw [prs_len, hp.len]) hcell (prs_one l) (by unfold maxLen; omega) (by omega) (Nat.zero_le _)
    rw [← prs_app] at h2
    obtain ⟨q, d, rfl⟩ := slFormN h2
    exact ⟨q, d, w', hrun, h2, h3, h5⟩
theorem app_two {t e : TypeId} (he : El t e) {ops : Array Oper} {rest : List Oper} {o : Oper} {a : Act} {Q : Exit → Act → World → Prop} {w W : World} (s x : Operand) {v : Value} {N : Nat} {L : List Tm} (acc : Acc e w W v N L)
    {p : Option Addr} {m c : Nat} {l : List Tm} (hp : Sl W p m c l) {M : Nat} (hM : N + m = M) (hr : Room M)
    (hgd : o.guard = none) (ho : o.op = .call { callee := .builtin .append, args := #[s, x], argTypes := #[t, t] }) (hs : a.eval s = v) (hx : a.eval x = .slice p m c)
    (h : ∀ q d w', Acc e w w' (.slice q M d) M (L ++ l) → wpList Try.prog ops Q rest (a.put o.dst (.slice q M d)) w') : wpList Try.prog ops Q (o :: rest) a W := by
  subst hM
  refine wpList_plain hgd fun K hK => ?_
  obtain ⟨q, d, w', hrun, h2, h3, h5⟩ := run_app2 (ty := o.type) he acc.own hp hr
  unfold Oper.wp
  simp only [execOp, ho, resolve, invoke, builtin, Sem.run_bind, Sem.run_pure, Result.andThen_ok, List.map_toArray, List.map_cons, List.map_nil, hs, hx, hrun]
  exact hK _ _ (h q d w' ⟨h2, fresh_many acc.fresh acc.fr.size h5, acc.fr.append h3 acc.fresh⟩)
end Go.Proofs.Ytmieeoceckcnkaa

namespace Go.Proofs.Ytmieeoceckcnkaa
open Go.RowKit
def cmpZ (a b : Int) : Int := if a < b then -1 else if b < a then 1 else 0
theorem isnan_no (a : Int) (w : World) : Calls Try.prog 64 #[.int .i64 a] w fun e w' => e = .returned (.bool false) ∧ w = w' := by
  have h : (a != a) = false := by simp
  go_enter Try.func64, Try.ntmps64
  go_wp2_with fail
  go_ret
  exact ⟨by simp, rfl⟩
theorem compare_any (a b : Int) (w : World) : Calls Try.prog 57 #[.int .i64 a, .int .i64 b] w fun e w' => e = .returned (.int .i64 (cmpZ a b)) ∧ w = w' := by
  have HA := Lib.hid (isnan_no a w)
  have HB := Lib.hid (isnan_no b w)
  unfold cmpZ
  by_cases h : a < b
  · rw [if_pos h]
    go_enter Try.func57, Try.ntmps57
    go_wp2_with fail
    refine HA.out.mono ?_
    rintro e w1 ⟨rfl, rfl⟩
    go_wp2_with fail
    refine HB.out.mono ?_
    rintro e w1 ⟨rfl, rfl⟩
    go_wp2_with fail
    go_ret
    exact ⟨rfl, rfl⟩
  · rw [if_neg h]
    by_cases h2 : b < a
    · rw [if_pos h2]
      go_enter Try.func57, Try.ntmps57
      go_wp2_with fail
      refine HA.out.mono ?_
      rintro e w1 ⟨rfl, rfl⟩
      go_wp2_with fail
      refine HB.out.mono ?_
      rintro e w1 ⟨rfl, rfl⟩
      go_wp2_with fail
      go_ret
      exact ⟨rfl, rfl⟩
    · rw [if_neg h2]
      go_enter Try.func57, Try.ntmps57
      go_wp2_with fail
      refine HA.out.mono ?_
      rintro e w1 ⟨rfl, rfl⟩
      go_wp2_with fail
      refine HB.out.mono ?_
      rintro e w1 ⟨rfl, rfl⟩
      go_wp2_with fail
      go_ret
      exact ⟨rfl, rfl⟩
theorem order_any (a b : Int) (n m : Nat) (w : World) : Calls Try.prog 50 #[.agg #[.int .i64 a, .int .u64 (n : Nat)], .agg #[.int .i64 b, .int .u64 (m : Nat)]] w fun e w' => e = .returned (.int .i64 (cmpZ a b)) ∧ Fr S0 w w' := by
  have HC := Lib.hid (fun W => compare_any a b W)
  go_enter Try.func50, Try.ntmps50
  go_wp2_with fail
  refine (HC.out _).mono ?_
  rintro e w1 ⟨rfl, rfl⟩
  go_wp2_with fail
  go_ret
  exact ⟨rfl, (Fr.alloc S0 w _).trans0 (Fr.alloc _ _ _)⟩
section
variable (p : Option Addr) (n c : Nat) (l : List Tm) (w : World)
theorem own_any (h : Sl w p n c l) (hN : n ≤ 1000000000000) :
    Calls Try.prog 48 #[.slice p n c] w fun e w' => ∃ v, e = .returned v ∧ Acc 68 w w' v n l := by
  have H := Lib.hid h
  clear h
  go_enter Try.func48, Try.ntmps48
  go_wp2_with fail
  go_loopw [3, 5, 8, 16] (fun o _ i _ wr => ∃ j : Nat, j ≤ n ∧ i = .int .i64 j ∧ Hid (Acc 68 w wr o j (l.take j))) (fun _ _ i _ _ => n - (intOf i).toNat)
  case atStart => exact ⟨0, by omega, rfl, Lib.hid (Acc.nil (Fr.refl _ _))⟩
  case round =>
    obtain ⟨j, hj, rfl, hacc⟩ := hrel
    obtain ⟨pv, cv, rfl⟩ := slFormN hacc.out.own
    by_cases hjn : (j : Int) < (n : Int)
    · have hjl : j < l.length := by rw [H.out.len]; omega
      obtain ⟨b, o, rfl, c0, c1⟩ := (H.out.fr0 hacc.out.fr).at j hjl
      have HT : Hid (l.take (j + 1) = l.take j ++ [l[j]]) := Lib.hid (List.take_succ_eq_append_getElem hjl)
      have HR : Hid (Room (j + 1)) := Lib.hid (Room.mk (by omega))
      obtain ⟨⟨tk, tn⟩, ht⟩ : ∃ t, l[j] = t := ⟨_, rfl⟩
      rw [ht] at c0 c1 HT
      simp only at c0 c1
      have HA2 := Lib.hid (hacc.out.fr0 (Fr.alloc S0 wr (.cells #[.int .i64 tk, .int .u64 (tn : Int)] 44)))
      clear ht hacc
      go_wp2_with (at_builtin; refine app_one elMn (.tmp 12) (.tmp 14) (size_alloc _ _) HA2.out.own rfl rfl rfl rfl rfl (one_pr tk tn) HR.out ?_; intro g1 cap1 w3 hown hgrow hat hlt; have HA3 := Lib.hid (HA2.out.app hown hgrow (hat.imp id fun h => h.trans (by rw [size_alloc]))); clear hown hgrow hat hlt)
      go_roundw
      case rel => exact ⟨j + 1, by omega, by go_num, by rw [HT.out]; exact HA3⟩
      case measure => simp [intOf]; omega
    · obtain rfl : j = n := by omega
      have HE : Hid (l.take j = l) := Lib.hid (by rw [← H.out.len]; exact List.take_length)
      go_wp2_with fail
      go_ret
      exact ⟨_, rfl, by have := hacc.out; rw [HE.out] at this; exact this⟩
theorem told_any (h : Sl w p n c l) (hN : n ≤ 1000000000000) :
    Calls Try.prog 22 #[.slice p n c] w fun e w' => ∃ v, e = .returned v ∧ Acc 44 w w' v n l := by
  have H := Lib.hid h
  clear h
  go_enter Try.func22, Try.ntmps22
  go_wp2_with fail
  go_loopw [3, 5, 8, 16] (fun o _ i _ wr => ∃ j : Nat, j ≤ n ∧ i = .int .i64 j ∧ Hid (Acc 44 w wr o j (l.take j))) (fun _ _ i _ _ => n - (intOf i).toNat)
  case atStart => exact ⟨0, by omega, rfl, Lib.hid (Acc.nil (Fr.refl _ _))⟩
  case round =>
    obtain ⟨j, hj, rfl, hacc⟩ := hrel
    obtain ⟨pv, cv, rfl⟩ := slFormN hacc.out.own
    by_cases hjn : (j : Int) < (n : Int)
    · have hjl : j < l.length := by rw [H.out.len]; omega
      obtain ⟨b, o, rfl, c0, c1⟩ := (H.out.fr0 hacc.out.fr).at j hjl
      have HT : Hid (l.take (j + 1) = l.take j ++ [l[j]]) := Lib.hid (List.take_succ_eq_append_getElem hjl)
      have HR : Hid (Room (j + 1)) := Lib.hid (Room.mk (by omega))
      obtain ⟨⟨tk, tn⟩, ht⟩ : ∃ t, l[j] = t := ⟨_, rfl⟩
      rw [ht] at c0 c1 HT
      simp only at c0 c1
      have HA2 := Lib.hid (hacc.out.fr0 (Fr.alloc S0 wr (.cells #[.int .i64 tk, .int .u64 (tn : Int)] 68)))
      clear ht hacc
      go_wp2_with (at_builtin; refine app_one elAm (.tmp 12) (.tmp 14) (size_alloc _ _) HA2.out.own rfl rfl rfl rfl rfl (one_pr tk tn) HR.out ?_; intro g1 cap1 w3 hown hgrow hat hlt; have HA3 := Lib.hid (HA2.out.app hown hgrow (hat.imp id fun h => h.trans (by rw [size_alloc]))); clear hown hgrow hat hlt)
      go_roundw
      case rel => exact ⟨j + 1, by omega, by go_num, by rw [HT.out]; exact HA3⟩
      case measure => simp [intOf]; omega
    · obtain rfl : j = n := by omega
      have HE : Hid (l.take j = l) := Lib.hid (by rw [← H.out.len]; exact List.take_length)
      go_wp2_with fail
      go_ret
      exact ⟨_, rfl, by have := hacc.out; rw [HE.out] at this; exact this⟩
end
end Go.Proofs.Ytmieeoceckcnkaa

namespace Go.Proofs.Ytmieeoceckcnkaa
open Go.RowKit
def lenOf : Value → Nat
  | .slice _ n _ => n
  | _ => 0
theorem cmpZ_le {a b : Int} (h : a ≤ b) : cmpZ a b ≤ 0 := by unfold cmpZ; split <;> first | omega | (split <;> omega)
theorem cmpZ_gt {a b : Int} (h : ¬ a ≤ b) : cmpZ a b = 1 := by unfold cmpZ; rw [if_neg (by omega), if_pos (by omega)]
abbrev ordF : Value := .func (.func 50) #[] #[]
theorem Sl.tail {w : World} {b o n c : Nat} {x : Tm} {l : List Tm} (h : Sl w (some ⟨b, o, none⟩) (n + 1) c (x :: l)) : Sl w (some ⟨b, o + 2, none⟩) n (c - 1) l := by
  have h1 := h.tmi.drop 1
  have h2 := h.cap
  have h3 := h.max
  have h4 := h.len
  simp only [List.drop_one, List.tail_cons, List.length_cons, Nat.one_mul] at h1 h4
  exact ⟨h1, by omega, by omega, by omega, fun h => by cases h⟩
theorem Sl.stop {w : World} {p : Option Addr} {b o n : Nat} {x : Tm} {l : List Tm} (h : Sl w (some ⟨b, o, none⟩) (n + 1) 1 (x :: l)) (hp : p ≠ none) : Sl w p n 0 l := by
  have h2 := h.cap
  have h4 := h.len
  simp only [List.length_cons] at h4
  obtain rfl : l = [] := List.eq_nil_of_length_eq_zero (by omega)
  exact ⟨TmI.nil _ _, by simp only [List.length_nil]; omega, by omega, by decide, fun h => absurd h hp⟩
theorem merged_any (p q : Option Addr) (n m c d : Nat) (A B : List Tm) (w : World) (hA : Sl w p n c A) (hB : Sl w q m d B) (hN : n + m ≤ 1000000000000) :
    Calls Try.prog 60 #[.slice p n c, .slice q m d, ordF] w fun e w' => ∃ v, e = .returned v ∧ Acc 68 w w' v (n + m) (mrg A B) := by
  have HA := Lib.hid hA
  have HB := Lib.hid hB
  obtain ⟨N, eN⟩ : ∃ N, n + m = N := ⟨_, rfl⟩
  have eN2 : (n : Int) + (m : Int) = (N : Int) := by omega
  have HEN := Lib.hid eN
  rw [eN] at hN ⊢
  have HR : Hid (Room N) := Lib.hid (Room.mk (by omega))
  have HNB := Lib.hid hN
  have hNi : (N : Int) ≤ 1000000000000 := by omega
  clear hA hB eN
  go_enter Try.func60, Try.ntmps60
  go_wp2_with (at_make; refine make_room elMn (.const (.int .i64 0)) (.tmp 12) rfl rfl rfl rfl HR.out ?_; intro w1 hown hf1; have HACC : Hid (Acc 68 w w1 (.slice (some ⟨w.heap.size, 0, none⟩) 0 N) 0 []) := Lib.hid ⟨hown, fun g hg => by obtain rfl := Option.some.inj hg; exact Nat.le_refl _, hf1⟩; clear hown hf1)
  clear eN2 hNi hN
  go_loopw [0, 1, 7] (fun a b l wr => ∃ (p1 : Option Addr) (n1 c1 : Nat) (q1 : Option Addr) (m1 d1 k : Nat) (A1 B1 L : List Tm), a = .slice p1 n1 c1 ∧ b = .slice q1 m1 d1 ∧ k + n1 + m1 = N ∧ Hid (Sl w p1 n1 c1 A1) ∧ Hid (Sl w q1 m1 d1 B1) ∧ Hid (Acc 68 w wr l k L) ∧ Hid (L ++ mrg A1 B1 = mrg A B)) (fun a b _ _ => lenOf a + lenOf b)
  case atStart => exact ⟨p, n, c, q, m, d, 0, A, B, [], rfl, rfl, by have := HEN.out; omega, HA, HB, HACC, Lib.hid rfl⟩
  case round =>
    obtain ⟨p1, n1, c1, q1, m1, d1, k, A1, B1, L, rfl, rfl, hk, hA, hB, hacc, heq⟩ := hrel
    obtain ⟨pv, cv, rfl⟩ := slFormN hacc.out.own
    have hNB := HNB.out
    by_cases h1 : n1 = 0
    · subst h1
      have HE : Hid (L ++ B1 = mrg A B) := Lib.hid (by have := heq.out; rw [List.eq_nil_of_length_eq_zero hA.out.len] at this; simpa [mrg] using this)
      have eA1 : Hid (A1 = []) := Lib.hid (List.eq_nil_of_length_eq_zero hA.out.len)
      have HRk : Hid (Room k) := Lib.hid (Room.mk (by omega))
      have HRN : Hid (Room (k + m1)) := Lib.hid (Room.mk (by omega))
      clear heq
      go_wp2_with (first
        | ((with_reducible show wpList _ _ _ (Oper.mk (some 49) _ _ _ _ _ :: _) _ _); refine app_two elMn (.tmp 47) (.tmp 48) hacc.out (hA.out.fr0 hacc.out.fr) (Nat.add_zero _) HRk.out rfl rfl rfl rfl ?_; intro q5 d5 w5 ha5; have HA5 := Lib.hid ha5; clear ha5)
        | ((with_reducible show wpList _ _ _ (Oper.mk (some 51) _ _ _ _ _ :: _) _ _); refine app_two elMn (.tmp 49) (.tmp 50) HA5.out (hB.out.fr0 HA5.out.fr) rfl HRN.out rfl rfl rfl rfl ?_; intro q6 d6 w6 ha6; have HA6 := Lib.hid ha6; clear ha6))
      go_ret
      refine ⟨_, rfl, ?_⟩
      have h9 := HA6.out
      rw [eA1.out, List.append_nil, HE.out] at h9
      rw [show N = k + m1 by omega]
      exact h9
    · by_cases h2 : m1 = 0
      · subst h2
        have HE : Hid (L ++ A1 = mrg A B) := Lib.hid (by have := heq.out; rw [List.eq_nil_of_length_eq_zero hB.out.len, mrg_nil] at this; exact this)
        have eB1 : Hid (B1 = []) := Lib.hid (List.eq_nil_of_length_eq_zero hB.out.len)
        have HRk : Hid (Room (k + n1)) := Lib.hid (Room.mk (by omega))
        have HRN : Hid (Room (k + n1)) := Lib.hid (Room.mk (by omega))
        have h1i : (0 : Int) < (n1 : Int) := by omega
        clear heq
        go_wp2_with (first
          | ((with_reducible show wpList _ _ _ (Oper.mk (some 49) _ _ _ _ _ :: _) _ _); refine app_two elMn (.tmp 47) (.tmp 48) hacc.out (hA.out.fr0 hacc.out.fr) rfl HRk.out rfl rfl rfl rfl ?_; intro q5 d5 w5 ha5; have HA5 := Lib.hid ha5; clear ha5)
          | ((with_reducible show wpList _ _ _ (Oper.mk (some 51) _ _ _ _ _ :: _) _ _); refine app_two elMn (.tmp 49) (.tmp 50) HA5.out (hB.out.fr0 HA5.out.fr) (Nat.add_zero _) HRN.out rfl rfl rfl rfl ?_; intro q6 d6 w6 ha6; have HA6 := Lib.hid ha6; clear ha6))
        go_ret
        refine ⟨_, rfl, ?_⟩
        have h9 := HA6.out
        rw [eB1.out, List.append_nil, HE.out] at h9
        rw [show N = k + n1 by omega]
        exact h9
      · have h1i : (0 : Int) < (n1 : Int) := by omega
        have h2i : (0 : Int) < (m1 : Int) := by omega
        obtain ⟨n2, rfl⟩ : ∃ n2, n1 = n2 + 1 := ⟨n1 - 1, by omega⟩
        obtain ⟨m2, rfl⟩ : ∃ m2, m1 = m2 + 1 := ⟨m1 - 1, by omega⟩
        obtain ⟨x, A2, rfl⟩ : ∃ x A2, A1 = x :: A2 := by
          cases A1 with
          | nil => exact absurd hA.out.len (by simp)
          | cons x A2 => exact ⟨x, A2, rfl⟩
        obtain ⟨y, B2, rfl⟩ : ∃ y B2, B1 = y :: B2 := by
          cases B1 with
          | nil => exact absurd hB.out.len (by simp)
          | cons y B2 => exact ⟨y, B2, rfl⟩
        obtain ⟨b, o, rfl, c0, c1x⟩ := (hA.out.fr0 hacc.out.fr).at 0 (by simp)
        obtain ⟨b2, o2, rfl, e0, e1⟩ := (hB.out.fr0 hacc.out.fr).at 0 (by simp)
        simp only [List.getElem_cons_zero, Nat.zero_mul, Nat.add_zero] at c0 c1x e0 e1
        obtain ⟨xv, xn⟩ := x
        obtain ⟨yv, yn⟩ := y
        simp only at c0 c1x e0 e1
        have HCC : Hid (∀ W, Fr S0 wr W → W.cell? ⟨b, o, none⟩ = some (.int .i64 xv) ∧ W.cell? ⟨b, o + 1, none⟩ = some (.int .u64 (xn : Nat)) ∧ W.cell? ⟨b2, o2, none⟩ = some (.int .i64 yv) ∧ W.cell? ⟨b2, o2 + 1, none⟩ = some (.int .u64 (yn : Nat))) := Lib.hid fun W f => ⟨f.cell c0 (fun h => h), f.cell c1x (fun h => h), f.cell e0 (fun h => h), f.cell e1 (fun h => h)⟩
        have HOR := Lib.hid (fun W => order_any xv yv xn yn W)
        have hcf := fun W => show (callFunc 50 #[.agg #[.int .i64 xv, .int .u64 (xn : Nat)], .agg #[.int .i64 yv, .int .u64 (yn : Nat)]]).run Try.prog W = .ok (.enter 50 #[.agg #[.int .i64 xv, .int .u64 (xn : Nat)], .agg #[.int .i64 yv, .int .u64 (yn : Nat)]]) W from by kernel_rfl
        have HR1 : Hid (Room (k + 1)) := Lib.hid (Room.mk (by omega))
        have hcap1 := hA.out.cap
        have hcap2 := hB.out.cap
        have hmx1 := hA.out.max
        have hmx2 := hB.out.max
        unfold maxLen at hmx1 hmx2
        have hk9 : k ≤ 1000000000000 := by omega
        obtain ⟨G, eG⟩ : ∃ G, cmpZ xv yv = G := ⟨_, rfl⟩
        rw [eG] at HOR
        have hneA : (some (⟨b, o, none⟩ : Addr)) ≠ none := by simp
        by_cases hle : xv ≤ yv
        · have hG : G ≤ 0 := by rw [← eG]; exact cmpZ_le hle
          have HE : Hid ((L ++ [(xv, xn)]) ++ mrg A2 ((yv, yn) :: B2) = mrg A B) := Lib.hid (by rw [← heq.out, mrg_one, if_pos hle, List.append_assoc]; rfl)
          clear eG hle heq c0 c1x e0 e1 hcap2 hmx2
          go_wp2_with fail
          obtain ⟨c0, c1x, e0, e1⟩ := HCC.out _ (Fr.refl _ _)
          go_region_held3 (fun w' => w'.cell? ⟨b, o, none⟩ = some (.int .i64 xv) ∧ w'.cell? ⟨b, o + 1, none⟩ = some (.int .u64 (xn : Nat)) ∧ w'.cell? ⟨b2, o2, none⟩ = some (.int .i64 yv) ∧ w'.cell? ⟨b2, o2 + 1, none⟩ = some (.int .u64 (yn : Nat)))
            (first
              | exact HCC.out _ F6.out
              | exact HCC.out _ (Fr.drew S0 _)
              | exact HCC.out _ (Fr.refl S0 _)
              | fail)
            (first
              | (go_at_call 50; ((with_reducible refine (HOR.out _).mono ?_); rintro _ w6 ⟨rfl, f6⟩; have F6 := Lib.hid ((Fr.drew S0 wr).trans0 f6); clear f6))
              | fail)
          have HA6 := Lib.hid (hacc.out.fr0 F6.out)
          obtain ⟨c0, c1x, e0, e1⟩ := HCC.out _ F6.out
          clear HCC HOR hcf hacc
          go_wp2_with fail
          by_cases hc1 : c1 = 1
          · subst hc1
            have HS : Hid (Sl w (some ⟨b, o, none⟩) n2 0 A2) := Lib.hid (hA.out.stop (by simp))
            obtain rfl : n2 = 0 := by omega
            go_region_law (first
              | (refine app_step elMn (.tmp 31) (.tmp 35) rfl HA6.out.own rfl rfl rfl rfl rfl (one_pr xv xn) HR1.out ?_; intro g1 cap1 w7 hown hgrow hat hlt; have HA7 := Lib.hid (HA6.out.app hown hgrow hat); clear hown hgrow hat hlt))
            all_goals
              go_wp2_with fail
              go_roundw
              case rel => (repeat apply Exists.intro); exact ⟨⟨some ⟨b, o, none⟩, 0, 0, _, _, _, k + 1, _, _, _, rfl, rfl, by omega, HS, hB, HA7, HE⟩, rfl⟩
              case measure => first | (simp [lenOf]; done) | (simp [lenOf]; omega) | (simp [lenOf, Act.put]; done) | (simp [lenOf, Act.put]; omega)
          · have HS : Hid (Sl w (some ⟨b, o + 2, none⟩) n2 (c1 - 1) A2) := Lib.hid hA.out.tail
            have hlo : (1 : Int) ≤ (n2 : Int) + 1 := by omega
            go_region_law (first
              | (refine app_step elMn (.tmp 31) (.tmp 35) rfl HA6.out.own rfl rfl rfl rfl rfl (one_pr xv xn) HR1.out ?_; intro g1 cap1 w7 hown hgrow hat hlt; have HA7 := Lib.hid (HA6.out.app hown hgrow hat); clear hown hgrow hat hlt))
            all_goals
              go_wp2_with fail
              go_roundw
              case rel => (repeat apply Exists.intro); exact ⟨⟨some ⟨b, o + 2, none⟩, n2, c1 - 1, _, _, _, k + 1, _, _, _, rfl, rfl, by omega, HS, hB, HA7, HE⟩, rfl⟩
              case measure => first | (simp [lenOf]; done) | (simp [lenOf]; omega) | (simp [lenOf, Act.put]; done) | (simp [lenOf, Act.put]; omega)
        · have hG : ¬ G ≤ 0 := by rw [← eG, cmpZ_gt hle]; decide
          have HE : Hid ((L ++ [(yv, yn)]) ++ mrg ((xv, xn) :: A2) B2 = mrg A B) := Lib.hid (by rw [← heq.out, mrg_one, if_neg hle, List.append_assoc]; rfl)
          clear eG hle heq c0 c1x e0 e1 hcap1 hmx1
          go_wp2_with fail
          obtain ⟨c0, c1x, e0, e1⟩ := HCC.out _ (Fr.refl _ _)
          go_region_held3 (fun w' => w'.cell? ⟨b, o, none⟩ = some (.int .i64 xv) ∧ w'.cell? ⟨b, o + 1, none⟩ = some (.int .u64 (xn : Nat)) ∧ w'.cell? ⟨b2, o2, none⟩ = some (.int .i64 yv) ∧ w'.cell? ⟨b2, o2 + 1, none⟩ = some (.int .u64 (yn : Nat)))
            (first
              | exact HCC.out _ F6.out
              | exact HCC.out _ (Fr.drew S0 _)
              | exact HCC.out _ (Fr.refl S0 _)
              | fail)
            (first
              | (go_at_call 50; ((with_reducible refine (HOR.out _).mono ?_); rintro _ w6 ⟨rfl, f6⟩; have F6 := Lib.hid ((Fr.drew S0 wr).trans0 f6); clear f6))
              | fail)
          have HA6 := Lib.hid (hacc.out.fr0 F6.out)
          obtain ⟨c0, c1x, e0, e1⟩ := HCC.out _ F6.out
          clear HCC HOR hcf hacc
          go_wp2_with fail
          by_cases hc1 : d1 = 1
          · subst hc1
            have HS : Hid (Sl w (some ⟨b2, o2, none⟩) m2 0 B2) := Lib.hid (hB.out.stop (by simp))
            obtain rfl : m2 = 0 := by omega
            go_region_law (first
              | (refine app_step elMn (.tmp 39) (.tmp 43) rfl HA6.out.own rfl rfl rfl rfl rfl (one_pr yv yn) HR1.out ?_; intro g1 cap1 w7 hown hgrow hat hlt; have HA7 := Lib.hid (HA6.out.app hown hgrow hat); clear hown hgrow hat hlt))
            all_goals
              go_wp2_with fail
              go_roundw
              case rel => (repeat apply Exists.intro); exact ⟨⟨_, _, _, some ⟨b2, o2, none⟩, 0, 0, k + 1, _, _, _, rfl, rfl, by omega, hA, HS, HA7, HE⟩, rfl⟩
              case measure => first | (simp [lenOf]; done) | (simp [lenOf]; omega) | (simp [lenOf, Act.put]; done) | (simp [lenOf, Act.put]; omega)
          · have HS : Hid (Sl w (some ⟨b2, o2 + 2, none⟩) m2 (d1 - 1) B2) := Lib.hid hB.out.tail
            have hlo : (1 : Int) ≤ (m2 : Int) + 1 := by omega
            go_region_law (first
              | (refine app_step elMn (.tmp 39) (.tmp 43) rfl HA6.out.own rfl rfl rfl rfl rfl (one_pr yv yn) HR1.out ?_; intro g1 cap1 w7 hown hgrow hat hlt; have HA7 := Lib.hid (HA6.out.app hown hgrow hat); clear hown hgrow hat hlt))
            all_goals
              go_wp2_with fail
              go_roundw
              case rel => (repeat apply Exists.intro); exact ⟨⟨_, _, _, some ⟨b2, o2 + 2, none⟩, m2, d1 - 1, k + 1, _, _, _, rfl, rfl, by omega, hA, HS, HA7, HE⟩, rfl⟩
              case measure => first | (simp [lenOf]; done) | (simp [lenOf]; omega) | (simp [lenOf, Act.put]; done) | (simp [lenOf, Act.put]; omega)
end Go.Proofs.Ytmieeoceckcnkaa

namespace Go.Proofs.Ytmieeoceckcnkaa
open Go.RowKit
theorem ris_near {l : List Tm} (h : ∀ i, (hi : i + 1 < l.length) → l[i].1 ≤ l[i + 1].1) : Ris l := by
  induction l with
  | nil => exact List.Pairwise.nil
  | cons x r ih =>
    have hr : Ris r := ih fun i hi => h (i + 1) (by simpa using hi)
    refine List.pairwise_cons.2 ⟨fun y hy => ?_, hr⟩
    cases r with
    | nil => cases hy
    | cons z s =>
      have h0 : x.1 ≤ z.1 := h 0 (by simp)
      rcases List.mem_cons.1 hy with rfl | hy
      · exact h0
      · exact Int.le_trans h0 ((List.pairwise_cons.1 hr).1 y hy)
theorem ris_at {l : List Tm} (h : Ris l) {i : Nat} (hi : i + 1 < l.length) : l[i].1 ≤ l[i + 1].1 := List.pairwise_iff_getElem.1 h i (i + 1) (by omega) hi (by omega)
noncomputable def risB (l : List Tm) : Bool := @decide (Ris l) (Classical.propDecidable _)
theorem risB_yes {l : List Tm} (h : Ris l) : risB l = true := by unfold risB; simp [h]
theorem risB_no {l : List Tm} (h : ¬ Ris l) : risB l = false := by unfold risB; simp [h]
section
variable (p : Option Addr) (n c : Nat) (l : List Tm) (w : World)
theorem issorted_any (h : Sl w p n c l) (hN : n ≤ 1000000000000) :
    Calls Try.prog 49 #[.slice p n c, ordF] w fun e w' => e = .returned (.bool (risB l)) ∧ Fr S0 w w' := by
  have H := Lib.hid h
  have hNi : (n : Int) ≤ 1000000000000 := by omega
  clear h
  go_enter Try.func49, Try.ntmps49
  go_wp2_with fail
  go_loopw [5] (fun z wr => ∃ k : Int, z = .int .i64 k ∧ -1 ≤ k ∧ k < (n : Int) ∧ Hid (∀ i, (hi : i + 1 < l.length) → k ≤ (i : Int) → l[i].1 ≤ l[i + 1].1) ∧ Hid (Fr S0 w wr)) (fun z _ => (intOf z).toNat)
  case atStart => exact ⟨(n : Int) - 1, rfl, by omega, by omega, Lib.hid fun i hi hk => by have := H.out.len; omega, Lib.hid (Fr.refl _ _)⟩
  case round =>
    obtain ⟨k, rfl, hk1, hkn, hri, hfr⟩ := hrel
    by_cases hk0 : 0 < k
    · obtain ⟨j, rfl⟩ : ∃ j : Nat, k = (j : Int) + 1 := ⟨(k - 1).toNat, by omega⟩
      have hl := H.out.len
      have hj1 : j + 1 < l.length := by omega
      have hsl := H.out.fr0 hfr.out
      obtain ⟨b, o, rfl, c0, c1x⟩ := hsl.at (j + 1) hj1
      obtain ⟨b2, o2, hp2, e0, e1⟩ := hsl.at j (by omega)
      simp only [Option.some.injEq, Addr.mk.injEq] at hp2
      obtain ⟨rfl, rfl, -⟩ := hp2
      have HIF : Hid (l[j].1 ≤ l[j + 1].1 → ∀ i, (hi : i + 1 < l.length) → ((j : Nat) : Int) ≤ (i : Int) → l[i].1 ≤ l[i + 1].1) := Lib.hid fun h i hi hji => by
        rcases Nat.lt_or_ge j i with h1 | h1
        · exact hri.out i hi (by omega)
        · obtain rfl : i = j := by omega
          exact h
      have HNO : Hid (¬ l[j].1 ≤ l[j + 1].1 → ¬ Ris l) := Lib.hid fun h hr => h (ris_at hr hj1)
      obtain ⟨⟨xv, xn⟩, hx⟩ : ∃ t, l[j + 1] = t := ⟨_, rfl⟩
      obtain ⟨⟨yv, yn⟩, hy⟩ : ∃ t, l[j] = t := ⟨_, rfl⟩
      rw [hx] at c0 c1x HIF HNO
      rw [hy] at e0 e1 HIF HNO
      simp only at c0 c1x e0 e1 HIF HNO
      have HCC : Hid (∀ W, Fr S0 wr W → W.cell? ⟨b, o + (j + 1) * 2, none⟩ = some (.int .i64 xv) ∧ W.cell? ⟨b, o + (j + 1) * 2 + 1, none⟩ = some (.int .u64 (xn : Nat)) ∧ W.cell? ⟨b, o + j * 2, none⟩ = some (.int .i64 yv) ∧ W.cell? ⟨b, o + j * 2 + 1, none⟩ = some (.int .u64 (yn : Nat))) := Lib.hid fun W f => ⟨f.cell c0 (fun h => h), f.cell c1x (fun h => h), f.cell e0 (fun h => h), f.cell e1 (fun h => h)⟩
      have HOR := Lib.hid (fun W => order_any xv yv xn yn W)
      have hcf := fun W => show (callFunc 50 #[.agg #[.int .i64 xv, .int .u64 (xn : Nat)], .agg #[.int .i64 yv, .int .u64 (yn : Nat)]]).run Try.prog W = .ok (.enter 50 #[.agg #[.int .i64 xv, .int .u64 (xn : Nat)], .agg #[.int .i64 yv, .int .u64 (yn : Nat)]]) W from by kernel_rfl
      obtain ⟨G, eG⟩ : ∃ G, cmpZ xv yv = G := ⟨_, rfl⟩
      rw [eG] at HOR
      have eJ : (j : Int) + 1 - 1 = (j : Int) := by omega
      have hjn : (j : Int) + 1 < (n : Int) := hkn
      have hjn0 : (j : Int) < (n : Int) := by omega
      have HJ : Hid ((0 : Int) ≤ (j : Int) ∧ (j : Int) < (n : Int) ∧ (0 : Int) ≤ (j : Int) + 1 ∧ (j : Int) + 1 < (n : Int) ∧ ((j : Int) + 1).toNat = j + 1 ∧ IntKind.i64.wrap (j : Int) = (j : Int)) := Lib.hid ⟨by omega, by omega, by omega, by omega, by omega, by rw [IntKind.wrap_i64]; omega⟩
      by_cases hle : yv ≤ xv
      · have hG : ¬ G < 0 := by rw [← eG]; unfold cmpZ; rw [if_neg (by omega)]; split <;> omega
        have hG2 : decide (G < 0) = false := decide_eq_false hG
        have HI2 := Lib.hid (HIF.out hle)
        clear eG hle HIF HNO hx hy hri hl hj1 hsl c0 c1x e0 e1
        go_wp2_with fail
        obtain ⟨c0, c1x, e0, e1⟩ := HCC.out _ (Fr.refl _ _)
        obtain ⟨y1, y2, y3, y4, y5, y6⟩ := HJ.out
        go_region_held3 (fun w' => w'.cell? ⟨b, o + (j + 1) * 2, none⟩ = some (.int .i64 xv) ∧ w'.cell? ⟨b, o + (j + 1) * 2 + 1, none⟩ = some (.int .u64 (xn : Nat)) ∧ w'.cell? ⟨b, o + j * 2, none⟩ = some (.int .i64 yv) ∧ w'.cell? ⟨b, o + j * 2 + 1, none⟩ = some (.int .u64 (yn : Nat)))
          (first
            | exact HCC.out _ F6.out
            | exact HCC.out _ (Fr.drew S0 _)
            | exact HCC.out _ (Fr.refl S0 _)
            | fail)
          (first
            | (go_at_call 50; ((with_reducible refine (HOR.out _).mono ?_); rintro _ w6 ⟨rfl, f6⟩; have F6 := Lib.hid ((Fr.drew S0 wr).trans0 f6); clear f6))
            | fail)
        have HF6 := Lib.hid (hfr.out.trans0 F6.out)
        clear HCC HOR hcf
        go_wp2_with fail
        go_roundw
        case rel => exact ⟨(j : Int), by first | rfl | go_num, by omega, by omega, HI2, HF6⟩
        case measure => first | (simp [intOf]; done) | (simp [intOf]; omega)
      · have hG : G < 0 := by rw [← eG]; unfold cmpZ; rw [if_pos (by omega)]; decide
        have hG2 : decide (G < 0) = true := decide_eq_true hG
        have HN2 := Lib.hid (HNO.out hle)
        clear eG hle HIF HNO hx hy hri hl hj1 hsl c0 c1x e0 e1
        go_wp2_with fail
        obtain ⟨c0, c1x, e0, e1⟩ := HCC.out _ (Fr.refl _ _)
        obtain ⟨y1, y2, y3, y4, y5, y6⟩ := HJ.out
        go_region_held3 (fun w' => w'.cell? ⟨b, o + (j + 1) * 2, none⟩ = some (.int .i64 xv) ∧ w'.cell? ⟨b, o + (j + 1) * 2 + 1, none⟩ = some (.int .u64 (xn : Nat)) ∧ w'.cell? ⟨b, o + j * 2, none⟩ = some (.int .i64 yv) ∧ w'.cell? ⟨b, o + j * 2 + 1, none⟩ = some (.int .u64 (yn : Nat)))
          (first
            | exact HCC.out _ F6.out
            | exact HCC.out _ (Fr.drew S0 _)
            | exact HCC.out _ (Fr.refl S0 _)
            | fail)
          (first
            | (go_at_call 50; ((with_reducible refine (HOR.out _).mono ?_); rintro _ w6 ⟨rfl, f6⟩; have F6 := Lib.hid ((Fr.drew S0 wr).trans0 f6); clear f6))
            | fail)
        have HF6 := Lib.hid (hfr.out.trans0 F6.out)
        clear HCC HOR hcf
        go_wp2_with fail
        go_ret
        exact ⟨by rw [risB_no HN2.out]; rfl, HF6.out⟩
    · have hk9 : k ≤ 0 := by omega
      have HR : Hid (Ris l) := Lib.hid (ris_near fun i hi => hri.out i hi (by omega))
      go_wp2_with fail
      go_ret
      exact ⟨by rw [risB_yes HR.out]; rfl, hfr.out⟩
end
end Go.Proofs.Ytmieeoceckcnkaa
