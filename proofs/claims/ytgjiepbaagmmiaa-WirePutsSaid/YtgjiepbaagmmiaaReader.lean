/- The reader of package wire: what each of its methods reads. -/
import Derived.Test.YtgjiepbaagmmiaaBase
import Derived.Test.YtgjiepbaagmmiaaPure
namespace Go.Proofs.Ytgjiepbaagmmiaa
open Go.RowKit

/-- block g is a reader of the bytes l at p, of which at_ are read -/
structure RdIs (w : World) (g : Nat) (p : Option Addr) (c : Nat) (l : List Nat) (at_ : Nat) : Prop where
  blk : w.heap[g]? = some (.cells #[.slice p l.length c, .int .i64 at_] 57 (0, 0))
  sl : SlI w .u8 p l
  off : l ≠ [] → Off (· = g) p
  le : at_ ≤ l.length
  bd : ∀ x ∈ l, x < 256
structure RdTo (w w' : World) (g : Nat) (p : Option Addr) (c : Nat) (l : List Nat) (at_ : Nat) : Prop where
  is : RdIs w' g p c l at_
  fr : Fr (· = g) w w'
theorem RdIs.c0 {w : World} {g : Nat} {p : Option Addr} {c : Nat} {l : List Nat} {at_ : Nat} (h : RdIs w g p c l at_) : w.cell? ⟨g, 0, none⟩ = some (.slice p l.length c) := by
  simp [World.cell?, h.blk]
theorem RdIs.c1 {w : World} {g : Nat} {p : Option Addr} {c : Nat} {l : List Nat} {at_ : Nat} (h : RdIs w g p c l at_) : w.cell? ⟨g, 0 + 1, none⟩ = some (.int .i64 at_) := by
  simp [World.cell?, h.blk]
theorem RdIs.f1 {w : World} {g : Nat} {p : Option Addr} {c : Nat} {l : List Nat} {at_ : Nat} (h : RdIs w g p c l at_) : w.frozen? ⟨g, 1, none⟩ = false := by
  simp [World.frozen?, h.blk]
theorem RdIs.fr {w w' : World} {g : Nat} {p : Option Addr} {c : Nat} {l : List Nat} {at_ : Nat} {S : Nat → Prop} (h : RdIs w g p c l at_) (hf : Fr S w w') (hg : ¬ S g) (hp : l ≠ [] → Off S p) : RdIs w' g p c l at_ :=
  ⟨hf.row h.blk hg, h.sl.fr hf hp, h.off, h.le, h.bd⟩
theorem RdIs.drewN {w : World} {g : Nat} {p : Option Addr} {c : Nat} {l : List Nat} {at_ : Nat} (h : RdIs w g p c l at_) (k : Nat) : RdTo w (w.drewN k) g p c l at_ :=
  ⟨⟨h.blk, h.sl, h.off, h.le, h.bd⟩, Fr.drewN _ _ _⟩
theorem RdIs.self {w : World} {g : Nat} {p : Option Addr} {c : Nat} {l : List Nat} {at_ : Nat} (h : RdIs w g p c l at_) : RdTo w w g p c l at_ := ⟨h, Fr.refl _ _⟩
theorem RdIs.next {w : World} {g : Nat} {p : Option Addr} {c : Nat} {l : List Nat} {at_ : Nat} (h : RdIs w g p c l at_) (hlt : at_ < l.length) (k : Nat) : RdTo w ((w.drewN k).setCell ⟨g, 1, none⟩ (.int .i64 (at_ + 1))) g p c l (at_ + 1) := by
  have hf : Fr (· = g) w ((w.drewN k).setCell ⟨g, 1, none⟩ (.int .i64 (at_ + 1))) := (Fr.drewN (· = g) w k).trans (Fr.setCell (· = g) _ ⟨g, 1, none⟩ _ rfl) fun _ _ h => h
  refine ⟨⟨?_, h.sl.fr hf h.off, h.off, hlt, h.bd⟩, hf⟩
  rw [heap_setCell_same (w.drewN k) g 1 _ _ _ h.blk]; rfl
theorem RdTo.trans {w w1 w2 : World} {g : Nat} {p : Option Addr} {c : Nat} {l : List Nat} {a b : Nat} (h : RdTo w w1 g p c l a) (k : RdTo w1 w2 g p c l b) : RdTo w w2 g p c l b :=
  ⟨k.is, h.fr.trans k.fr fun _ _ h => h⟩

set_option maxHeartbeats 400000 in
theorem left_any (g at_ c : Nat) (p : Option Addr) (l : List Nat) (w : World) (h : RdIs w g p c l at_) :
    Calls Try.prog 35 #[.pointer (some ⟨g, 0, none⟩)] w fun e w' => e = .returned (.int .i64 (l.length - at_ : Int)) ∧ ∃ k, w' = w.drewN k := by
  have h0 := h.c0
  have h1 := h.c1
  have h4 := h.le
  have h5 := h.sl.1
  unfold maxLen at h5
  go_enter Try.func35, Try.ntmps35
  go_wp2
  go_quiet (fail)
  go_wp2
  go_ret
  exact ⟨rfl, _, rfl⟩

set_option maxHeartbeats 400000 in
theorem step_no (g at_ c : Nat) (p : Option Addr) (l : List Nat) (w : World) (h : RdIs w g p c l at_) (h4 : at_ = l.length) :
    Calls Try.prog 32 #[.pointer (some ⟨g, 0, none⟩)] w fun e w' => e = .returned (.tuple #[.int .u8 0, .bool false]) ∧ RdTo w w' g p c l at_ := by
  subst h4
  go_enter Try.func32, Try.ntmps32
  go_wp2_with (go_at_call 35; refine (left_any g _ c p l _ h).mono ?_; rintro e w' ⟨rfl, k, rfl⟩)
  go_ret2
  exact ⟨rfl, h.drewN _⟩
set_option maxHeartbeats 400000 in
theorem step_yes (g at_ c x : Nat) (p : Option Addr) (l : List Nat) (w : World) (h : RdIs w g p c l at_) (h4 : at_ < l.length) (hx : l[at_] = x) :
    Calls Try.prog 32 #[.pointer (some ⟨g, 0, none⟩)] w fun e w' => e = .returned (.tuple #[.int .u8 x, .bool true]) ∧ RdTo w w' g p c l (at_ + 1) := by
  obtain ⟨b, off, rfl, hc⟩ := h.sl.at at_ h4
  rw [hx] at hc
  have h0 := h.c0
  have h1 := h.c1
  have hf := h.f1
  have h5 := h.sl.1
  unfold maxLen at h5
  have ht : ((l.length : Int) - (at_ : Int) == 0) = false := by simp; omega
  have HX := Lib.hid hx
  clear hx
  go_enter Try.func32, Try.ntmps32
  go_wp2_with (go_at_call 35; refine (left_any g at_ c _ l _ h).mono ?_; rintro e w' ⟨rfl, k, rfl⟩)
  go_quiet (fail)
  go_wp2
  go_ret2
  exact ⟨rfl, h.next h4 _⟩

/-- what a reading is: a number and how many bytes it has, or an error -/
def RdPost (w w' : World) (g : Nat) (p : Option Addr) (c : Nat) (l : List Nat) (at_ : Nat) (e : Ending) : Except Nat (Nat × Nat) → Prop
  | .ok (n, k) => e = .returned (.tuple #[.int .u64 n, .int .i64 0]) ∧ n < 18446744073709551616 ∧ RdTo w w' g p c l (at_ + k)
  | .error x => e = .returned (.tuple #[.int .u64 0, .int .i64 x]) ∧ (x = 20 ∨ x = 21) ∧ ∃ a, RdTo w w' g p c l a

def lDec : List Nat → Nat
  | [] => 0
  | b :: r => b + 256 * lDec r
def fDec (m : Nat) (l : List Nat) : Except Nat (Nat × Nat) := if m ≤ l.length then .ok (lDec (l.take m), m) else .error 20

theorem lDec_snoc : ∀ (l : List Nat) (x : Nat), lDec (l ++ [x]) = lDec l + 256 ^ l.length * x
  | [], x => by simp [lDec]
  | b :: r, x => by rw [List.cons_append, lDec, lDec, lDec_snoc r x, List.length_cons, Nat.pow_succ, Nat.mul_add, ← Nat.add_assoc, ← Nat.mul_assoc, Nat.mul_comm (256 ^ r.length) 256]
theorem lDec_lt : ∀ (l : List Nat), (∀ x ∈ l, x < 256) → lDec l < 256 ^ l.length
  | [], _ => by simp [lDec]
  | b :: r, h => by
    have h1 := lDec_lt r fun x hx => h x (by simp [hx])
    have h2 := h b (by simp)
    rw [lDec, List.length_cons, Nat.pow_succ]; omega
theorem orAcc' (n x i : Nat) (hn : n < 2 ^ i) (hi : i ≤ 63) (h1 : 2 ^ i * x < 18446744073709551616) :
    bits .or .u64 (n : Int) ((2 ^ i * x : Nat) : Int) = ((n + 2 ^ i * x : Nat) : Int) := by
  have hp : 2 ^ i ≤ 2 ^ 63 := Nat.pow_le_pow_right (by decide) hi
  rw [show (2 : Nat) ^ 63 = 9223372036854775808 by decide] at hp
  rw [u64_or_nat _ _ (by omega) (by omega), Nat.or_comm, nat_join i _ _ (by simp) hn, Nat.add_comm]
theorem orAcc (n x i : Nat) (hn : n < 2 ^ i) (hx : x < 256) (hi : i ≤ 56) :
    bits .or .u64 (n : Int) (IntKind.u64.wrap ((x : Int) * 2 ^ i)) = ((n + 2 ^ i * x : Nat) : Int) := by
  have hp : 2 ^ i ≤ 2 ^ 56 := Nat.pow_le_pow_right (by decide) hi
  rw [show (2 : Nat) ^ 56 = 72057594037927936 by decide] at hp
  have h1 : 2 ^ i * x ≤ 72057594037927936 * 255 := Nat.mul_le_mul hp (by omega)
  rw [IntKind.wrap_u64, show ((x : Int) * 2 ^ i % 18446744073709551616) = ((2 ^ i * x : Nat) : Int) from by
    have : ((x : Int) * 2 ^ i) = ((2 ^ i * x : Nat) : Int) := by rw [Nat.mul_comm, Int.natCast_mul, Int.natCast_pow]; rfl
    rw [this]; omega]
  exact orAcc' n x i hn (by omega) (by omega)
theorem last9 (n x : Nat) (hn : n < 2 ^ 56) (hx : x < 256) : bits .or .u64 (n : Int) ((x : Int) * 72057594037927936) = ((n + 128 ^ 8 * x : Nat) : Int) ∧ n + 128 ^ 8 * x < 18446744073709551616 := by
  have e : (128 : Nat) ^ 8 = 72057594037927936 := by decide
  have e' : (2 : Nat) ^ 56 = 72057594037927936 := by decide
  have := orAcc' n x 56 hn (by decide) (by omega)
  rw [e'] at this hn
  rw [e, ← this, show (x : Int) * 72057594037927936 = ((72057594037927936 * x : Nat) : Int) by omega]
  exact ⟨rfl, by omega⟩
theorem last10 (n x : Nat) (hn : n < 2 ^ 63) (hx : x < 2) : bits .or .u64 (n : Int) (IntKind.u64.wrap ((x : Int) * 9223372036854775808)) = ((n + 128 ^ 9 * x : Nat) : Int) ∧ n + 128 ^ 9 * x < 18446744073709551616 := by
  have e : (128 : Nat) ^ 9 = 9223372036854775808 := by decide
  have e' : (2 : Nat) ^ 63 = 9223372036854775808 := by decide
  have := orAcc' n x 63 hn (by decide) (by omega)
  rw [e'] at this hn
  rw [e, ← this, IntKind.wrap_u64, show (x : Int) * 9223372036854775808 % 18446744073709551616 = ((9223372036854775808 * x : Nat) : Int) by omega]
  exact ⟨rfl, by omega⟩

theorem rdOk {w w' : World} {g : Nat} {p : Option Addr} {c : Nat} {l : List Nat} {at_ : Nat} {r : Except Nat (Nat × Nat)} (n k : Nat) {a b : Value} (ha : a = .int .u64 n) (hb : b = .int .i64 0)
    (hr : r = .ok (n, k)) (hn : n < 18446744073709551616) (h : RdTo w w' g p c l (at_ + k)) : RdPost w w' g p c l at_ (.returned (.tuple #[a, b])) r := by
  subst ha hb hr; exact ⟨rfl, hn, h⟩
theorem rdErr {w w' : World} {g : Nat} {p : Option Addr} {c : Nat} {l : List Nat} {at_ : Nat} {r : Except Nat (Nat × Nat)} (x : Nat) {a b : Value} (ha : a = .int .u64 0) (hb : b = .int .i64 x)
    (hr : r = .error x) (hx : x = 20 ∨ x = 21) {k : Nat} (h : RdTo w w' g p c l k) : RdPost w w' g p c l at_ (.returned (.tuple #[a, b])) r := by
  subst ha hb hr; exact ⟨rfl, hx, k, h⟩
theorem RdIs.bytes {w : World} {g : Nat} {p : Option Addr} {c : Nat} {l : List Nat} {at_ : Nat} (h : RdIs w g p c l at_) (i : Nat) (hi : i < l.length) : l[i] < 256 := h.bd _ (List.getElem_mem hi)
theorem take_succ_drop (l : List Nat) (a k : Nat) (h : a + k < l.length) : (l.drop a).take (k + 1) = (l.drop a).take k ++ [l[a + k]] := by
  rw [List.take_succ_eq_append_getElem (by simp; omega)]
  simp
theorem lDec_lt8 (l : List Nat) (h : ∀ x ∈ l, x < 256) (hl : l.length ≤ 8) : lDec l < 18446744073709551616 := by
  have h1 := lDec_lt l h
  have h2 : 256 ^ l.length ≤ 256 ^ 8 := Nat.pow_le_pow_right (by decide) hl
  have : 256 ^ 8 = 18446744073709551616 := by decide
  omega

set_option maxHeartbeats 400000 in
theorem fixed_any (g at_ c m : Nat) (p : Option Addr) (l : List Nat) (w : World) (h : RdIs w g p c l at_) (hm : m ≤ 8) :
    Calls Try.prog 31 #[.int .i64 m, .func (.func 32) #[.pointer (some ⟨g, 0, none⟩)] #[]] w fun e w' => RdPost w w' g p c l at_ e (fDec m (l.drop at_)) := by
  go_enter Try.func31, Try.ntmps31
  go_wp2
  go_loopw [6, 7, 8, 9, 11] (fun n _ _ _ i wr => ∃ k : Nat, k ≤ m ∧ at_ + k ≤ l.length ∧ i = .int .i64 k ∧ n = .int .u64 (lDec ((l.drop at_).take k) : Nat) ∧ RdTo w wr g p c l (at_ + k)) (fun _ _ _ _ i _ => m - (intOf i).toNat)
  case atStart => exact ⟨0, by omega, h.le, rfl, by simp [lDec], h.self⟩
  case round =>
    obtain ⟨k, hk, hle, rfl, rfl, hr⟩ := hrel
    have hr' := hr.is
    by_cases hlt : (k : Int) < (m : Int)
    · by_cases hend : at_ + k < l.length
      · have hk8 : k ≤ 7 := by omega
        have hx := hr'.bytes _ hend
        have HE : Hid (bits .or .u64 ((lDec ((l.drop at_).take k) : Nat) : Int) (IntKind.u64.wrap (((l[at_ + k] : Nat) : Int) * 2 ^ (8 * k))) = ((lDec ((l.drop at_).take (k + 1)) : Nat) : Int)) := Lib.hid (by
          have hl : ((l.drop at_).take k).length = k := by simp; omega
          have hlt : lDec ((l.drop at_).take k) < 2 ^ (8 * k) := by
            have := lDec_lt ((l.drop at_).take k) fun x hx => hr'.bd x (List.mem_of_mem_drop (List.mem_of_mem_take hx))
            rw [hl] at this
            rw [Nat.pow_mul]; exact this
          rw [orAcc _ _ _ hlt hx (by omega), take_succ_drop l at_ k hend, lDec_snoc, hl, Nat.pow_mul])
        go_wp2_with (go_at_call 32; refine (step_yes g _ c _ p l _ hr' hend rfl).mono ?_; rintro e w' ⟨rfl, hw⟩)
        go_roundw
        case rel => exact ⟨k + 1, by omega, by omega, by go_num, by rw [← HE.out], hr.trans hw⟩
        case measure => simp [intOf]; omega
      · go_wp2_with (go_at_call 32; refine (step_no g _ c p l _ hr' (by omega)).mono ?_; rintro e w' ⟨rfl, hw⟩)
        go_ret2
        exact rdErr 20 rfl rfl (by rw [fDec, if_neg (by simp; omega)]) (Or.inl rfl) (hr.trans hw)
    · obtain rfl : k = m := by omega
      go_wp2
      go_ret2
      refine rdOk _ k rfl rfl (by rw [fDec, if_pos (by simp; omega)]) (lDec_lt8 _ (fun x hx => hr'.bd x (List.mem_of_mem_drop (List.mem_of_mem_take hx))) (by simp; omega)) hr

/-- what bytes of seven bits each tell: 'fuel' more may follow; 'room' bits for the last one -/
def vDec (room : Nat) : Nat → Bool → List Nat → Except Nat (Nat × Nat)
  | _, _, [] => .error 20
  | 0, _, c :: _ => if c = 0 ∨ 2 ^ room ≤ c then .error 21 else .ok (c, 1)
  | f + 1, first, c :: r => if c = 0 ∧ first = false then .error 21 else if c < 128 then .ok (c, 1) else
    match vDec room f false r with
    | .ok (n, k) => .ok (c % 128 + 128 * n, k + 1)
    | .error x => .error x
def lastR (room x : Nat) : Except Nat (Nat × Nat) := if x = 0 ∨ 2 ^ room ≤ x then .error 21 else .ok (x, 1)
theorem lastR_err (room x : Nat) (h : x = 0 ∨ 2 ^ room ≤ x) : lastR room x = .error 21 := if_pos h
theorem lastR_ok (room x : Nat) (h0 : ¬ x = 0) (h1 : ¬ 2 ^ room ≤ x) : lastR room x = .ok (x, 1) := if_neg (by rintro (h | h); exact h0 h; exact h1 h)
def after (n k : Nat) : Except Nat (Nat × Nat) → Except Nat (Nat × Nat)
  | .ok (x, u) => .ok (n + 128 ^ k * x, k + u)
  | .error x => .error x

theorem after_step (n k x : Nat) (r : Except Nat (Nat × Nat)) :
    after n k (match r with | .ok (n, k) => .ok (x % 128 + 128 * n, k + 1) | .error x => .error x) = after (n + 128 ^ k * (x % 128)) (k + 1) r := by
  rcases r with e | ⟨y, u⟩
  · rfl
  · simp only [after, Except.ok.injEq, Prod.mk.injEq]
    refine ⟨?_, by omega⟩
    rw [Nat.mul_add, ← Nat.mul_assoc, Nat.pow_succ]; omega
theorem orAcc7 (n x k : Nat) (hn : n < 2 ^ (7 * k)) (hk : k ≤ 8) :
    bits .or .u64 (n : Int) (IntKind.u64.wrap ((x : Int) % 128 * 2 ^ (7 * k))) = ((n + 128 ^ k * (x % 128) : Nat) : Int) := by
  have := orAcc n (x % 128) (7 * k) hn (by omega) (by omega)
  rw [show (x : Int) % 128 = ((x % 128 : Nat) : Int) from rfl, this, Nat.pow_mul]
theorem acc_lt (n x k : Nat) (hn : n < 2 ^ (7 * k)) : n + 128 ^ k * (x % 128) < 2 ^ (7 * (k + 1)) := by
  have e : (2 : Nat) ^ (7 * (k + 1)) = 128 * 128 ^ k := by rw [Nat.pow_mul, Nat.pow_succ, Nat.mul_comm]
  rw [Nat.pow_mul] at hn
  have h1 : 128 ^ k * (x % 128) ≤ 128 ^ k * 127 := Nat.mul_le_mul_left _ (by omega)
  have hn' : n < 128 ^ k := hn
  rw [e]; omega
theorem pow64 (i : Nat) (h : i ≤ 64) : 2 ^ i ≤ 18446744073709551616 := by
  have hp : 2 ^ i ≤ 2 ^ 64 := Nat.pow_le_pow_right (by decide) h
  rwa [show (2 : Nat) ^ 64 = 18446744073709551616 by decide] at hp
theorem drop_at (l : List Nat) (a : Nat) (h : a < l.length) (x : Nat) (hx : l[a] = x) : l.drop a = x :: l.drop (a + 1) := by
  rw [← hx]; exact List.drop_eq_getElem_cons h

set_option maxRecDepth 100000 in
set_option maxHeartbeats 2000000 in
theorem shortest_any (g at_ c m : Nat) (p : Option Addr) (l : List Nat) (w : World) (h : RdIs w g p c l at_) (hm : m = 9 ∨ m = 10) :
    Calls Try.prog 34 #[.int .i64 m, .func (.func 32) #[.pointer (some ⟨g, 0, none⟩)] #[]] w fun e w' => RdPost w w' g p c l at_ e (vDec (64 - 7 * (m - 1)) (m - 1) true (l.drop at_)) := by
  go_enter Try.func34, Try.ntmps34
  go_wp2
  go_loopw [6, 7, 8, 9, 15] (fun a _ _ _ i wr => ∃ k n : Nat, k ≤ m - 1 ∧ at_ + k ≤ l.length ∧ i = .int .i64 k ∧ a = .int .u64 n ∧ n < 2 ^ (7 * k) ∧ RdTo w wr g p c l (at_ + k) ∧
      vDec (64 - 7 * (m - 1)) (m - 1) true (l.drop at_) = after n k (vDec (64 - 7 * (m - 1)) (m - 1 - k) (decide (k = 0)) (l.drop (at_ + k)))) (fun _ _ _ _ i _ => m - (intOf i).toNat)
  case atStart =>
    refine ⟨0, 0, by omega, h.le, rfl, rfl, by omega, h.self, ?_⟩
    show _ = after 0 0 (vDec (64 - 7 * (m - 1)) (m - 1) true (l.drop at_))
    generalize vDec (64 - 7 * (m - 1)) (m - 1) true (l.drop at_) = r
    rcases r with e | ⟨y, u⟩ <;> simp [after]
  case round =>
    obtain ⟨k, n, hk, hle, rfl, rfl, hn, hr, he⟩ := hrel
    have hr' := hr.is
    have HE := Lib.hid he; clear he
    have HN := Lib.hid hn; clear hn
    by_cases hend : at_ + k < l.length
    · have hx := hr'.bytes _ hend
      obtain ⟨x, hX⟩ : ∃ x, l[at_ + k] = x := ⟨_, rfl⟩
      have HX := Lib.hid hX
      have HD := Lib.hid (drop_at l _ hend x hX)
      rw [hX] at hx
      clear hX
      by_cases hlt : (k : Int) < (m : Int) - 1
      · have hk8 : k ≤ 8 := by omega
        have HM : Hid (∃ j, m - 1 - k = j + 1) := Lib.hid ⟨m - 1 - k - 1, by omega⟩
        have hand : bits .and .u8 (x : Int) 127 = (x : Int) % 128 := by
          have := u8_and_nat x 127 hx (by decide)
          rw [show (127 : Int) = ((127 : Nat) : Int) from rfl, this, show (127 : Nat) = 2 ^ 7 - 1 from rfl, Nat.and_two_pow_sub_one_eq_mod]
          rfl
        have HB := Lib.hid (orAcc7 n x k HN.out hk8)
        have HL := Lib.hid (acc_lt n x k HN.out)
        have hp64 : Hid (2 ^ (7 * (k + 1)) ≤ 18446744073709551616) := Lib.hid (pow64 _ (by omega))
        clear hm
        by_cases h128 : (x : Int) < 128
        · by_cases hz : x = 0 ∧ 0 < k
          · have h0 : ((x : Int) == 0) = true := by rw [hz.1]; rfl
            have h0k := hz.2
            have HE' : Hid (vDec (64 - 7 * (m - 1)) (m - 1) true (l.drop at_) = .error 21) := Lib.hid (by
              obtain ⟨j, hj⟩ := HM.out
              rw [HE.out, HD.out, hj, vDec, if_pos ⟨hz.1, by simp; omega⟩]; rfl)
            clear hz
            go_wp2_with (go_at_call 32; refine (step_yes g _ c x p l _ hr' hend HX.out).mono ?_; rintro e w' ⟨rfl, hw⟩)
            go_ret2
            exact rdErr 21 rfl rfl HE'.out (Or.inr rfl) (hr.trans hw)
          · have HE' : Hid (vDec (64 - 7 * (m - 1)) (m - 1) true (l.drop at_) = .ok (n + 128 ^ k * (x % 128), k + 1)) := Lib.hid (by
              obtain ⟨j, hj⟩ := HM.out
              rw [HE.out, HD.out, hj, vDec, if_neg (by simp; omega), if_pos (by omega), after, show x % 128 = x by omega])
            by_cases h0 : x = 0
            · have hb : ((x : Int) == 0) = true := by rw [h0]; rfl
              have hk0 : decide (0 < k) = false := by simp; omega
              clear hz h0
              go_wp2_with (go_at_call 32; refine (step_yes g _ c x p l _ hr' hend HX.out).mono ?_; rintro e w' ⟨rfl, hw⟩)
              go_ret2
              exact rdOk (n + 128 ^ k * (x % 128)) (k + 1) (by rw [← HB.out]; rfl) rfl HE'.out (Nat.lt_of_lt_of_le HL.out hp64.out) (hr.trans hw)
            · have hb : ((x : Int) == 0) = false := by simp; omega
              clear hz h0
              go_wp2_with (go_at_call 32; refine (step_yes g _ c x p l _ hr' hend HX.out).mono ?_; rintro e w' ⟨rfl, hw⟩)
              go_ret2
              exact rdOk (n + 128 ^ k * (x % 128)) (k + 1) (by rw [← HB.out]; rfl) rfl HE'.out (Nat.lt_of_lt_of_le HL.out hp64.out) (hr.trans hw)
        · have hb : ((x : Int) == 0) = false := by simp; omega
          go_wp2_with (go_at_call 32; refine (step_yes g _ c x p l _ hr' hend HX.out).mono ?_; rintro e w' ⟨rfl, hw⟩)
          go_roundw
          case rel =>
            refine ⟨k + 1, n + 128 ^ k * (x % 128), by omega, by omega, by go_num, by rw [← HB.out], HL.out, hr.trans hw, ?_⟩
            obtain ⟨j, hj⟩ := HM.out
            rw [HE.out, HD.out, hj, vDec, if_neg (by omega), if_neg (by omega), after_step, show m - 1 - (k + 1) = j by omega]
            rfl
          case measure => simp [intOf]; omega
      · obtain rfl : k = m - 1 := by omega
        rcases hm with rfl | rfl
        · have HE' : Hid (vDec (64 - 7 * (9 - 1)) (9 - 1) true (l.drop at_) = after n (9 - 1) (lastR 8 x)) := Lib.hid (by rw [HE.out, HD.out]; rfl)
          have hn64 : Hid (n < 2 ^ 56) := Lib.hid HN.out
          clear HE HD HN
          by_cases h0 : x = 0
          · have hb : ((x : Int) == 0) = true := by rw [h0]; rfl
            have HF := Lib.hid (lastR_err 8 x (Or.inl h0))
            clear h0
            go_wp2_with (go_at_call 32; refine (step_yes g _ c x p l _ hr' hend HX.out).mono ?_; rintro e w' ⟨rfl, hw⟩)
            go_ret2
            exact rdErr 21 rfl rfl (by rw [HE'.out, HF.out]; rfl) (Or.inr rfl) (hr.trans hw)
          · have hb : ((x : Int) == 0) = false := by simp; omega
            by_cases h1 : 2 ^ 8 ≤ x
            · have hq : ((x : Int) / 256 != 0) = true := by rw [bne_iff_ne]; omega
              have HF := Lib.hid (lastR_err 8 x (Or.inr h1))
              clear h0 h1
              go_wp2_with (go_at_call 32; refine (step_yes g _ c x p l _ hr' hend HX.out).mono ?_; rintro e w' ⟨rfl, hw⟩)
              go_ret2
              exact rdErr 21 rfl rfl (by rw [HE'.out, HF.out]; rfl) (Or.inr rfl) (hr.trans hw)
            · have hq : ((x : Int) / 256 != 0) = false := by simp; omega
              have HF := Lib.hid (lastR_ok 8 x h0 h1)
              have HB := Lib.hid (last9 n x hn64.out (by omega))
              clear h0 h1
              go_wp2_with (go_at_call 32; refine (step_yes g _ c x p l _ hr' hend HX.out).mono ?_; rintro e w' ⟨rfl, hw⟩)
              go_ret2
              exact rdOk (n + 128 ^ 8 * x) 9 (by rw [← HB.out.1]; rfl) rfl (by rw [HE'.out, HF.out]; rfl) HB.out.2 (hr.trans hw)
        · have HE' : Hid (vDec (64 - 7 * (10 - 1)) (10 - 1) true (l.drop at_) = after n (10 - 1) (lastR 1 x)) := Lib.hid (by rw [HE.out, HD.out]; rfl)
          have hn64 : Hid (n < 2 ^ 63) := Lib.hid HN.out
          clear HE HD HN
          by_cases h0 : x = 0
          · have hb : ((x : Int) == 0) = true := by rw [h0]; rfl
            have HF := Lib.hid (lastR_err 1 x (Or.inl h0))
            clear h0
            go_wp2_with (go_at_call 32; refine (step_yes g _ c x p l _ hr' hend HX.out).mono ?_; rintro e w' ⟨rfl, hw⟩)
            go_ret2
            exact rdErr 21 rfl rfl (by rw [HE'.out, HF.out]; rfl) (Or.inr rfl) (hr.trans hw)
          · have hb : ((x : Int) == 0) = false := by simp; omega
            by_cases h1 : 2 ^ 1 ≤ x
            · have hq : ((x : Int) / 2 != 0) = true := by rw [bne_iff_ne]; omega
              have HF := Lib.hid (lastR_err 1 x (Or.inr h1))
              clear h0 h1
              go_wp2_with (go_at_call 32; refine (step_yes g _ c x p l _ hr' hend HX.out).mono ?_; rintro e w' ⟨rfl, hw⟩)
              go_ret2
              exact rdErr 21 rfl rfl (by rw [HE'.out, HF.out]; rfl) (Or.inr rfl) (hr.trans hw)
            · have hq : ((x : Int) / 2 != 0) = false := by simp; omega
              have HF := Lib.hid (lastR_ok 1 x h0 h1)
              have HB := Lib.hid (last10 n x hn64.out (by omega))
              clear h0 h1
              go_wp2_with (go_at_call 32; refine (step_yes g _ c x p l _ hr' hend HX.out).mono ?_; rintro e w' ⟨rfl, hw⟩)
              go_ret2
              exact rdOk (n + 128 ^ 9 * x) 10 (by rw [← HB.out.1]; rfl) rfl (by rw [HE'.out, HF.out]; rfl) HB.out.2 (hr.trans hw)
    · by_cases hlt : (k : Int) < (m : Int) - 1
      all_goals
        go_wp2_with (go_at_call 32; refine (step_no g _ c p l _ hr' (by omega)).mono ?_; rintro e w' ⟨rfl, hw⟩)
        go_ret2
        refine rdErr 20 rfl rfl ?_ (Or.inl rfl) (hr.trans hw)
        rw [HE.out, List.drop_eq_nil_of_le (by omega)]
        cases m - 1 - k <;> rfl
end Go.Proofs.Ytgjiepbaagmmiaa
