/- The document's histograms: a value that came late. -/
import Derived.Test.YthfcfmnaiopogaaHrLate
namespace Go.Proofs.Ythfcfmnaiopogaa
open Go.RowKit

theorem lates_len (v e : Int) : ∀ j, (lates v e j).length = j + 1
  | 0 => rfl
  | j + 1 => by rw [lates, List.length_append, lates_len v e j]; rfl
theorem lates_at (v e : Int) : ∀ (N i : Nat) (_ : i ≤ N), (lates v e N)[i]? = some (v - i * e)
  | 0, i, h => by
    obtain rfl : i = 0 := by omega
    simp [lates]
  | N + 1, i, h => by
    have hl := lates_len v e N
    rw [lates]
    by_cases hi : i ≤ N
    · rw [List.getElem?_append_left (by omega), lates_at v e N i hi]
    · obtain rfl : i = N + 1 := by omega
      rw [List.getElem?_append_right (by omega), show N + 1 - (lates v e N).length = 0 by omega]
      rfl
theorem AccZ.row {w wr : World} {q : Option Addr} {N c : Nat} {L : List Int} (h : AccZ w wr (.slice q (N + 1) c) (N + 1) L) : ∃ b, q = some ⟨b, 0, none⟩ ∧ w.heap.size ≤ b ∧ b < wr.heap.size ∧ ∀ i, i ≤ N → ∀ y, L[i]? = some y → wr.cell? ⟨b, i, none⟩ = some (.int .i64 y) := by
  rcases h.own.2 with ⟨-, hn⟩ | ⟨b, cap, cur, hv, -, hb, -⟩
  · omega
  · simp only [Value.slice.injEq] at hv
    obtain ⟨rfl, -, rfl⟩ := hv
    refine ⟨b, rfl, h.fresh b rfl, (Array.getElem?_eq_some_iff.1 hb).1, fun i hi y hy => ?_⟩
    rw [h.own.cellAt i (by omega)]
    unfold zs
    rw [List.getElem?_map, hy]
    rfl
theorem late_val {v x : Int} {i : Nat} (hv : 0 ≤ v) (hi : i ≤ Hm.more v x) : v - i * x = ((v.toNat - i * x.toNat : Nat) : Int) ∧ i * x.toNat ≤ v.toNat := by
  by_cases h0 : i = 0
  · subst h0
    simp; omega
  · have hp : 1 ≤ x ∧ 0 < v := by
      unfold Hm.more at hi
      split at hi
      · omega
      · omega
    obtain ⟨V, rfl⟩ : ∃ V : Nat, v = V := ⟨v.toNat, by omega⟩
    obtain ⟨E, rfl⟩ : ∃ E : Nat, x = E := ⟨x.toNat, by omega⟩
    obtain ⟨j, rfl⟩ : ∃ j, i = j + 1 := ⟨i - 1, by omega⟩
    have h2 := (more_lt (V := V) (E := E) (j := j) (by omega) (by omega)).1 (by omega)
    rw [show (V : Int).toNat = V by omega, show (E : Int).toNat = E by omega]
    have h3 : (j + 1) * E ≤ V := by rw [Nat.add_mul] at h2 ⊢; omega
    refine ⟨?_, h3⟩
    have e : ((j + 1 : Nat) : Int) * (E : Int) = (((j + 1) * E : Nat) : Int) := by rw [Int.natCast_mul]
    rw [e]
    omega
/-- what is counted behind i of the values -/
def Hm.mid (M : Hm) (V E n : Nat) : Nat → Hm
  | 0 => M
  | i + 1 => M.counts V E n i
theorem Hm.mid_next (M : Hm) (V E n i : Nat) : M.mid V E n (i + 1) = (M.mid V E n i).count (V - i * E) n := by
  cases i with
  | zero => simp [Hm.mid, Hm.counts]
  | succ i => rfl
theorem Hm.mid_len (M : Hm) (V E n : Nat) : ∀ i, (M.mid V E n i).l.length ≤ M.l.length + i
  | 0 => Nat.le_refl _
  | i + 1 => by
    have ih := Hm.mid_len M V E n i
    rw [Hm.mid_next]
    have := len_put_le (M.mid V E n i).l (idx (M.mid V E n i).u (M.mid V E n i).m (V - i * E) : Nat) n
    simp only [Hm.count]
    omega
theorem Hm.mid_good {M : Hm} (g : M.Good) {V E n i : Nat} (hv : V < 9223372036854775808) (hn : 0 < n) (hg : M.gr = false → V ≤ top M.u M.m M.b) (ht : ltot M.l + n * i ≤ 4611686018427387904) :
    (M.mid V E n i).Good ∧ (M.mid V E n i).gr = M.gr ∧ (M.mid V E n i).u = M.u ∧ (M.mid V E n i).m = M.m ∧ (M.gr = false → (M.mid V E n i).b = M.b) ∧ ltot (M.mid V E n i).l = ltot M.l + n * i := by
  cases i with
  | zero => exact ⟨g, rfl, rfl, rfl, fun _ => rfl, by simp [Hm.mid]⟩
  | succ i =>
    obtain ⟨h1, h2⟩ := Hm.Good.counts g (e := E) hv hn hg i ht
    obtain ⟨-, -, -, h4, h5, h6⟩ := Hm.counts_same M V E n i
    exact ⟨h1, h4, h5, h6, h2, Hm.counts_tot M V E n i⟩

section
variable (g : Nat) (p : Option Addr) (k c : Nat) (M : Hm) (w : World) (s : RefIs w g p k c M)
include s
end
end Go.Proofs.Ythfcfmnaiopogaa
