/- A slice of numbers without a sign that came in, as a list. -/
import Derived.Test.YtbpfmjekpjfceaaBase
import Derived.OpenShut
namespace Go.Proofs.Ytbpfmjekpjfceaa
open Go.RowKit

theorem rowOpen {k : IntKind} {B : Nat} (hB : ∀ n : Int, (Lit.int k n).wf = true → 0 ≤ n ∧ n < (B : Int)) {w : World} {a : Option Addr} {len cap : Nat} {zs : List Int}
    (h : (a = none ∧ len = 0 ∧ cap = 0 ∧ zs = []) ∨
      ∃ x, a = some x ∧ len ≤ cap ∧ cap ≤ maxLen ∧ zs.length = cap ∧ (∀ i, i < zs.length → w.cell? (x.add i) = some (.int k (zs.getD i 0))) ∧ ∀ n ∈ zs, (Lit.int k n).wf = true) :
    ∃ l : List Nat, l.length = len ∧ SlI w k a l ∧ (∀ x ∈ l, x < B) ∧ (a = none → cap = 0) ∧ len ≤ cap := by
  rcases h with ⟨rfl, rfl, rfl, rfl⟩ | ⟨x, rfl, hlc, hm, hz, hc, hw⟩
  · exact ⟨[], rfl, SlI.nil _ _ _, by simp, fun _ => rfl, Nat.le_refl _⟩
  · refine ⟨(zs.take len).map Int.toNat, by simp; omega, ⟨by simp; omega, fun hne => ?_⟩, ?_, fun h => (by cases h), hlc⟩
    · have hlen : 0 < len := by
        rcases Nat.eq_zero_or_pos len with h | h
        · subst h; simp at hne
        · exact h
      have h0 := hc 0 (by omega)
      obtain ⟨b, off, sp⟩ := x
      have hsp : sp = none := by
        have e : (⟨b, off, sp⟩ : Addr).add 0 = ⟨b, off, sp⟩ := by simp [Addr.add]
        rw [e] at h0
        cases sp with
        | none => rfl
        | some y =>
          simp only [World.cell?] at h0
          split at h0
          · simp at h0
          · cases h0
      subst hsp
      refine ⟨b, off, rfl, fun i hi => ?_⟩
      have hi' : i < len := by simp at hi; omega
      have hplain : (⟨b, off, none⟩ : Addr).add i = ⟨b, off + i, none⟩ := by unfold Addr.add; split <;> simp_all
      have hci := hc i (by omega)
      rw [hplain] at hci
      rw [hci]
      have hiz : i < zs.length := by omega
      have hb := hB zs[i] (hw _ (List.getElem_mem hiz))
      simp only [List.getD, List.getElem?_eq_getElem hiz, Option.getD_some, List.getElem_map, List.getElem_take]
      rw [Int.toNat_of_nonneg hb.1]
    · intro y hy
      obtain ⟨n, hn, rfl⟩ := List.mem_map.1 hy
      have := hB n (hw n (List.mem_of_mem_take hn))
      omega
theorem rowCap {k : IntKind} {w : World} {a : Option Addr} {len cap : Nat} {zs : List Int}
    (h : (a = none ∧ len = 0 ∧ cap = 0 ∧ zs = []) ∨
      ∃ x, a = some x ∧ len ≤ cap ∧ cap ≤ maxLen ∧ zs.length = cap ∧ (∀ i, i < zs.length → w.cell? (x.add i) = some (.int k (zs.getD i 0))) ∧ ∀ n ∈ zs, (Lit.int k n).wf = true) : cap ≤ maxLen := by
  rcases h with ⟨-, -, rfl, -⟩ | ⟨x, -, -, hm, -⟩
  · exact Nat.zero_le _
  · exact hm
theorem row8 {w : World} {a : Option Addr} {len cap : Nat} {zs : List Int}
    (h : (a = none ∧ len = 0 ∧ cap = 0 ∧ zs = []) ∨
      ∃ x, a = some x ∧ len ≤ cap ∧ cap ≤ maxLen ∧ zs.length = cap ∧ (∀ i, i < zs.length → w.cell? (x.add i) = some (.int .u8 (zs.getD i 0))) ∧ ∀ n ∈ zs, (Lit.int .u8 n).wf = true) :
    ∃ l : List Nat, l.length = len ∧ SlI w .u8 a l ∧ (∀ x ∈ l, x < 256) ∧ (a = none → cap = 0) ∧ len ≤ cap :=
  rowOpen (B := 256) (fun n hn => by have := bounds_u8 hn; omega) h
theorem row64 {w : World} {a : Option Addr} {len cap : Nat} {zs : List Int}
    (h : (a = none ∧ len = 0 ∧ cap = 0 ∧ zs = []) ∨
      ∃ x, a = some x ∧ len ≤ cap ∧ cap ≤ maxLen ∧ zs.length = cap ∧ (∀ i, i < zs.length → w.cell? (x.add i) = some (.int .u64 (zs.getD i 0))) ∧ ∀ n ∈ zs, (Lit.int .u64 n).wf = true) :
    ∃ l : List Nat, l.length = len ∧ SlI w .u64 a l ∧ (∀ x ∈ l, x < 18446744073709551616) ∧ (a = none → cap = 0) ∧ len ≤ cap :=
  rowOpen (B := 18446744073709551616) (fun n hn => by have := bounds_u64 hn; omega) h
end Go.Proofs.Ytbpfmjekpjfceaa
