/- The landed histograms: values that came late; Correct. -/
import Derived.Test.YthfcfmnaiopogaaHrAdd
namespace Go.Proofs.Ythfcfmnaiopogaa
open Go.RowKit Go.ChangeMaps

/-- the histogram when k of the values have been counted -/
def csM (M : Hm) (v e n : Nat) : Nat → Hm
  | 0 => M
  | j + 1 => M.counts v e n j
theorem csM_next (M : Hm) (v e n : Nat) : ∀ k, csM M v e n (k + 1) = (csM M v e n k).count (v - k * e) n
  | 0 => by rw [csM, csM, Hm.counts, Nat.zero_mul, Nat.sub_zero]
  | j + 1 => rfl
theorem csM_ok {M : Hm} (g : M.Good) {v e n o : Nat} (hv : v < 9223372036854775808) (hn : 0 < n) (hg : M.gr = false → v ≤ top M.u M.m M.b) (ht : ltot M.l + n * (o + 1) ≤ 4611686018427387904) {k : Nat} (hk : k ≤ o) :
    ltot (csM M v e n k).l + n ≤ 4611686018427387904 ∧ ((csM M v e n k).gr = false → v - k * e ≤ top (csM M v e n k).u (csM M v e n k).m (csM M v e n k).b) := by
  cases k with
  | zero =>
    rw [Nat.mul_succ] at ht
    exact ⟨by rw [csM]; omega, fun h => by rw [csM] at h ⊢; have := hg h; omega⟩
  | succ j =>
    have h1 : n * (j + 1 + 1) ≤ n * (o + 1) := Nat.mul_le_mul_left n (by omega)
    rw [Nat.mul_succ n (j + 1)] at h1
    obtain ⟨g1, g2⟩ := Hm.Good.counts g (e := e) hv hn hg j (by omega)
    obtain ⟨-, -, -, s4, s5, s6⟩ := Hm.counts_same M v e n j
    refine ⟨by rw [csM, Hm.counts_tot]; omega, fun h => ?_⟩
    rw [csM] at h ⊢
    rw [s5, s6, g2 (by rw [← s4]; exact h)]
    have := hg (by rw [← s4]; exact h)
    omega

section
variable (g h : Nat) (M : Hm) (w : World) (s : HistIs w g h M)
include s
end
end Go.Proofs.Ythfcfmnaiopogaa
