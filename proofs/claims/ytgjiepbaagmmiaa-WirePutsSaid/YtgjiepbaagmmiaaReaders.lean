/- The reader of package wire: what its four methods for letters read. -/
import Derived.Test.YtgjiepbaagmmiaaReader
namespace Go.Proofs.Ytgjiepbaagmmiaa
open Go.RowKit

def rmap (f : Nat → Nat) : Except Nat (Nat × Nat) → Except Nat (Nat × Nat)
  | .ok (n, k) => .ok (f n, k)
  | .error x => .error x

theorem rdAny {w w' : World} {g : Nat} {p : Option Addr} {c : Nat} {l : List Nat} {at_ : Nat} {e : Ending} {r : Except Nat (Nat × Nat)} (h : RdPost w w' g p c l at_ e r) :
    ∃ (n x a : Nat), e = .returned (.tuple #[.int .u64 n, .int .i64 x]) ∧ n < 18446744073709551616 ∧ RdTo w w' g p c l a ∧
      ((x = 0 ∧ ∃ k, r = .ok (n, k) ∧ a = at_ + k) ∨ ((x = 20 ∨ x = 21) ∧ n = 0 ∧ r = .error x)) := by
  rcases r with x | ⟨n, k⟩
  · obtain ⟨he, hx, a, ha⟩ := h
    exact ⟨0, x, a, he, by decide, ha, Or.inr ⟨hx, rfl, rfl⟩⟩
  · obtain ⟨he, hn, ha⟩ := h
    exact ⟨n, 0, _, he, hn, ha, Or.inl ⟨rfl, k, rfl, rfl⟩⟩
theorem rdMade {w w' : World} {g : Nat} {p : Option Addr} {c : Nat} {l : List Nat} {at_ : Nat} {r : Except Nat (Nat × Nat)} {n x a : Nat} (f : Nat → Nat) (h0 : f 0 = 0) (hf : f n < 18446744073709551616) (ht : RdTo w w' g p c l a)
    (h : (x = 0 ∧ ∃ k, r = .ok (n, k) ∧ a = at_ + k) ∨ ((x = 20 ∨ x = 21) ∧ n = 0 ∧ r = .error x)) {u v : Value} (hu : u = .int .u64 (f n : Nat)) (hv : v = .int .i64 x) :
    RdPost w w' g p c l at_ (.returned (.tuple #[u, v])) (rmap f r) := by
  subst hu hv
  rcases h with ⟨rfl, k, rfl, rfl⟩ | ⟨hx, rfl, rfl⟩
  · exact ⟨rfl, hf, ht⟩
  · exact ⟨by rw [h0]; rfl, hx, a, ht⟩

set_option maxHeartbeats 400000 in
theorem rlow_any (g at_ c m : Nat) (p : Option Addr) (l : List Nat) (w : World) (h : RdIs w g p c l at_) (hm : m ≤ 8) :
    Calls Try.prog 24 #[.pointer (some ⟨g, 0, none⟩), .int .i64 m] w fun e w' => RdPost w w' g p c l at_ e (fDec m (l.drop at_)) := by
  go_enter Try.func24, Try.ntmps24
  go_wp2_with fail
  refine (fixed_any g at_ c m p l _ h hm).mono ?_
  intro e w' hp
  obtain ⟨n, x, a, rfl, hn, ht, hr⟩ := rdAny hp
  have HN := Lib.hid hn
  have HR := Lib.hid hr
  clear hp hn hr
  go_wp2
  go_ret2
  have := rdMade (fun n => n) rfl HN.out ht HR.out (u := .int .u64 n) (v := .int .i64 x) rfl rfl
  have e : ∀ r, rmap (fun n => n) r = r := by rintro (x | ⟨n, k⟩) <;> rfl
  rw [e] at this
  exact this

theorem turn0 (m : Nat) : turn 0 m = 0 := by
  have : (rev3 (rev2 (rev1 ((0 : Nat) : Int)))).toNat = 0 := by decide +kernel
  unfold turn
  rw [this, Nat.zero_div]
set_option maxHeartbeats 400000 in
theorem rhigh_any (g at_ c m : Nat) (p : Option Addr) (l : List Nat) (w : World) (h : RdIs w g p c l at_) (hm : m = 2 ∨ m = 4 ∨ m = 8) :
    Calls Try.prog 26 #[.pointer (some ⟨g, 0, none⟩), .int .i64 m] w fun e w' => RdPost w w' g p c l at_ e (rmap (fun n => turn n m) (fDec m (l.drop at_))) := by
  have hm8 : m ≤ 8 := by omega
  have HM := Lib.hid hm
  clear hm
  go_enter Try.func26, Try.ntmps26
  go_wp2_with fail
  refine (fixed_any g at_ c m p l _ h hm8).mono ?_
  intro e w' hp
  obtain ⟨n, x, a, rfl, hn, ht, hr⟩ := rdAny hp
  have HN := Lib.hid hn
  have HR := Lib.hid hr
  clear hp hn hr
  go_wp2_with fail
  refine (turned_any n m _ HN.out hm8).mono ?_
  rintro e w' ⟨rfl, rfl⟩
  go_wp2
  go_ret2
  exact rdMade (fun n => turn n m) (turn0 m) (turn_enc n m HN.out HM.out).2 ht HR.out rfl rfl

set_option maxHeartbeats 400000 in
theorem rfew_any (g at_ c m : Nat) (p : Option Addr) (l : List Nat) (w : World) (h : RdIs w g p c l at_) (hm : m = 9 ∨ m = 10) :
    Calls Try.prog 28 #[.pointer (some ⟨g, 0, none⟩), .int .i64 m] w fun e w' => RdPost w w' g p c l at_ e (vDec (64 - 7 * (m - 1)) (m - 1) true (l.drop at_)) := by
  have HM := Lib.hid hm
  clear hm
  go_enter Try.func28, Try.ntmps28
  go_wp2_with fail
  refine (shortest_any g at_ c m p l _ h HM.out).mono ?_
  intro e w' hp
  obtain ⟨n, x, a, rfl, hn, ht, hr⟩ := rdAny hp
  have HN := Lib.hid hn
  have HR := Lib.hid hr
  clear hp hn hr
  go_wp2
  go_ret2
  have := rdMade (fun n => n) rfl HN.out ht HR.out (u := .int .u64 n) (v := .int .i64 x) rfl rfl
  have e : ∀ r, rmap (fun n => n) r = r := by rintro (x | ⟨n, k⟩) <;> rfl
  rw [e] at this
  exact this

set_option maxHeartbeats 400000 in
theorem rsigned_any (g at_ c m : Nat) (p : Option Addr) (l : List Nat) (w : World) (h : RdIs w g p c l at_) (hm : m = 9 ∨ m = 10) :
    Calls Try.prog 30 #[.pointer (some ⟨g, 0, none⟩), .int .i64 m] w fun e w' => RdPost w w' g p c l at_ e (rmap unzz (vDec (64 - 7 * (m - 1)) (m - 1) true (l.drop at_))) := by
  have HM := Lib.hid hm
  clear hm
  go_enter Try.func30, Try.ntmps30
  go_wp2_with fail
  refine (shortest_any g at_ c m p l _ h HM.out).mono ?_
  intro e w' hp
  obtain ⟨n, x, a, rfl, hn, ht, hr⟩ := rdAny hp
  have HN := Lib.hid hn
  have HR := Lib.hid hr
  have HZ : Hid (IntKind.u64.wrap (uns n) = (unzz n : Nat)) := Lib.hid (by rw [IntKind.wrap_u64]; exact unzz_eq n)
  clear hp hn hr
  go_wp2_with fail
  refine (unsign_any n _ (by omega) (by have := HN.out; omega)).mono ?_
  rintro e w' ⟨rfl, rfl⟩
  go_wp2
  go_ret2
  exact rdMade unzz (by decide) (unzz_lt n) ht HR.out (by rw [← HZ.out]; rfl) rfl
end Go.Proofs.Ytgjiepbaagmmiaa
