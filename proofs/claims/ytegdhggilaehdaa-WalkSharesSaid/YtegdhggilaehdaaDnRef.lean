/- The document's answers that only read: Count, Total, Wide, Same. -/
import Derived.Test.YtegdhggilaehdaaDnPairs
namespace Go.Proofs.Ytegdhggilaehdaa
open Go.RowKit

theorem cnt_drop {l : List Pr} {k : Int} {j : Nat} (h : j < l.length) : cnt (l.drop j) k = if l[j].1 = k then l[j].2 else cnt (l.drop (j + 1)) k := by
  rw [List.drop_eq_getElem_cons h, cnt]
theorem tot_take {l : List Pr} {j : Nat} (h : j < l.length) : ltot (l.take (j + 1)) = ltot (l.take j) + l[j].2 := by
  rw [List.take_succ_eq_append_getElem h]
  generalize l.take j = d
  induction d with
  | nil => simp [ltot]
  | cons x d ih => rw [List.cons_append, ltot, ltot, ih]; omega
theorem tot_take_le (l : List Pr) (j : Nat) : ltot (l.take j) ≤ ltot l := by
  induction l generalizing j with
  | nil => simp
  | cons x l ih =>
    cases j with
    | zero => simp [ltot]
    | succ j => rw [List.take_succ_cons, ltot, ltot]; have := ih j; omega

set_option maxRecDepth 100000 in
set_option maxHeartbeats 1000000 in
theorem rtotal_any (p : Option Addr) (n c : Nat) (l : List Pr) (w : World) (h : PrI w p l) (hn : l.length = n) (ht : ltot l < 18446744073709551616) :
    Calls Try.prog 12 #[.slice p n c] w fun e w' => e = .returned (.int .u64 (ltot l : Nat)) ∧ Fr S0 w w' := by
  have H := Lib.hid h
  have HN := Lib.hid hn
  have HT := Lib.hid ht
  have hlen := h.len
  rw [hn] at hlen
  unfold maxLen at hlen
  clear h hn ht
  go_enter Try.func12, Try.ntmps12
  go_wp2_with fail
  go_loopw [3, 4] (fun s i wr => ∃ j T : Nat, j ≤ n ∧ i = .int .i64 j ∧ s = .int .u64 T ∧ Hid (ltot (l.take j) = T) ∧ w = wr) (fun _ i _ => n - (intOf i).toNat)
  case atStart => exact ⟨0, 0, by omega, rfl, rfl, (by first | exact Lib.hid rfl | exact Lib.hid trivial), rfl⟩
  case round =>
    obtain ⟨j, T, hj, rfl, rfl, hT, hw⟩ := hrel
    obtain rfl := hw
    by_cases hjn : (j : Int) < (n : Int)
    · have hjl : j < l.length := by rw [HN.out]; omega
      obtain ⟨b, o, rfl, c0, c1⟩ := H.out.at j hjl
      have HD := Lib.hid (tot_take hjl)
      have hle := tot_take_le l (j + 1)
      rw [HD.out, hT.out] at hle
      obtain ⟨⟨tk, tn⟩, ht⟩ : ∃ t, l[j] = t := ⟨_, rfl⟩
      rw [ht] at c0 c1 HD hle
      have hlt : T + tn < 18446744073709551616 := by have := HT.out; simp only at hle; omega
      clear ht hle
      simp only at c0 c1 hlt HD
      have HDD : Hid (ltot (l.take (j + 1)) = T + tn) := Lib.hid (by rw [HD.out, hT.out])
      clear HD hT
      go_wp2_with fail
      go_roundw
      case rel => exact ⟨j + 1, T + tn, by omega, by go_num, by go_num, HDD, trivial⟩
      case measure => simp [intOf]; omega
    · obtain rfl : j = n := by omega
      have HV : Hid (ltot l = T) := Lib.hid (by rw [← hT.out, ← HN.out, List.take_length])
      clear hT
      go_wp2_with fail
      go_ret
      exact ⟨by first | (rw [HV.out]; done) | (rw [HV.out]; rfl), Fr.refl _ _⟩

end Go.Proofs.Ytegdhggilaehdaa
