/- The document's answers of layer 16: which pairs are a table's; what is counted most often. -/
import Derived.Test.YtegdhggilaehdaaWkNew
namespace Go.Proofs.Ytegdhggilaehdaa
open Go.RowKit

set_option maxRecDepth 100000 in
set_option maxHeartbeats 2000000 in
theorem right_any (p : Option Addr) (n c : Nat) (l : List Pr) (w : World) (h : PrI w p l) (hn : l.length = n) :
    Calls Try.prog 10 #[.slice p n c] w fun e w' => Fr S0 w w' ∧ ((Tb l ∧ e = .returned (.bool true)) ∨ (¬ Tb l ∧ e = .returned (.bool false))) := by
  have H := Lib.hid h
  have HN := Lib.hid hn
  have hlen := h.len
  rw [hn] at hlen
  unfold maxLen at hlen
  clear h hn
  go_enter Try.func10, Try.ntmps10
  go_wp2_with fail
  go_loopw [3, 4] (fun s i wr => ∃ j : Nat, j ≤ n ∧ i = .int .i64 j ∧ s = .int .u64 (ahd l j : Nat) ∧ Hid (Tb (l.take j)) ∧ Hid (Fr S0 w wr)) (fun _ i _ => n - (intOf i).toNat)
  case atStart => exact ⟨0, by omega, rfl, rfl, Lib.hid Tb.nil, Lib.hid (Fr.refl _ _)⟩
  case round =>
    obtain ⟨i, hi, rfl, rfl, ht, hfr⟩ := hrel
    by_cases hin : (i : Int) < (n : Int)
    · have hil : i < l.length := by rw [HN.out]; omega
      have hpr := H.out.fr0 hfr.out
      obtain ⟨b, o, hp, k0, k1⟩ := hpr.at i hil
      have HP := Lib.hid hp
      have hnx := fun hh : Tb l => tb_next' hil hh
      have hny := tb_next hil ht.out
      have hsc := ahd_succ hil
      obtain ⟨⟨tk, tn⟩, hx⟩ : ∃ t, l[i] = t := ⟨_, rfl⟩
      rw [hx] at k0 k1 hnx hny hsc
      simp only at k0 k1 hnx hny hsc
      have htot : ahd l i ≤ 4611686018427387904 := ht.out.tot
      have HNX := Lib.hid hnx
      have HNY := Lib.hid hny
      have HSC := Lib.hid hsc
      obtain ⟨T, hT⟩ : ∃ T, ahd l i = T := ⟨_, rfl⟩
      rw [hT] at htot HNX HNY HSC ⊢
      obtain ⟨D, hD⟩ : ∃ D, 4611686018427387904 - T = D := ⟨_, rfl⟩
      have eD : (4611686018427387904 : Int) - (T : Int) = (D : Int) := by omega
      rw [hD] at HNX HNY
      have hDT : D + T = 4611686018427387904 := by omega
      obtain ⟨HNT, j, pk, ej, hjn, k3, hl0, hd0⟩ | ⟨hno, HC5⟩ : (Hid (¬ Tb l) ∧ ∃ (j : Nat) (pk : Int), (i : Int) - 1 = (j : Int) ∧ (j : Int) < (n : Int) ∧ wr.cell? ⟨b, o + j * 2, none⟩ = some (.int .i64 pk) ∧ decide (tk ≤ pk) = true ∧ decide (0 < i) = true) ∨ (Rises l i tk ∧ Hid (i = 0 ∨ ∃ (j : Nat) (pk : Int), (i : Int) - 1 = (j : Int) ∧ (j : Int) < (n : Int) ∧ wr.cell? ⟨b, o + j * 2, none⟩ = some (.int .i64 pk) ∧ decide (tk ≤ pk) = false ∧ decide (0 < i) = true)) := by
        by_cases hi0 : i = 0
        · exact .inr ⟨fun j _ hj => by omega, Lib.hid (.inl hi0)⟩
        · obtain ⟨j, hj⟩ : ∃ j, j + 1 = i := ⟨i - 1, by omega⟩
          have hjl : j < l.length := by omega
          obtain ⟨b2, o2, hp3, k2, -⟩ := hpr.at j hjl
          obtain ⟨rfl, rfl⟩ : b = b2 ∧ o = o2 := by rw [hp] at hp3; simpa using hp3
          by_cases hle : tk ≤ l[j].1
          · exact .inl ⟨Lib.hid fun hh => by have := (HNX.out hh).1 j hjl hj; omega, j, _, by omega, by omega, k2, decide_eq_true hle, decide_eq_true (by omega)⟩
          · exact .inr ⟨fun j2 _ hj2 => by obtain rfl : j = j2 := (by omega); omega, Lib.hid (.inr ⟨j, _, by omega, by omega, k2, decide_eq_false hle, decide_eq_true (by omega)⟩)⟩
      all_goals
        obtain rfl := HP.out
        by_cases hz : tn = 0
        · have hz0 : ((tn : Int) == 0) = true := by rw [beq_iff_eq]; omega
          have HNT : Hid (¬ Tb l) := Lib.hid fun hh => by have := (HNX.out hh).2.1; omega
          clear ht hx hpr hp HNX HNY HSC hil hi htot hDT hz hT hD hnx hny hsc
          go_wp2_with fail
          go_quiet (fail)
          go_wp2_with fail
          go_ret
          exact ⟨hfr.out.trans0 (Fr.drewN _ _ _), .inr ⟨HNT.out, rfl⟩⟩
        have hz0 : ((tn : Int) == 0) = false := by rw [beq_eq_false_iff_ne]; omega
        by_cases hgt : D < tn
        · have hg0 : decide (D < tn) = true := decide_eq_true hgt
          have HNT : Hid (¬ Tb l) := Lib.hid fun hh => by have := (HNX.out hh).2.2; omega
          clear ht hx hpr hp HNX HNY HSC hil hi htot hDT hz hgt hT hD hnx hny hsc
          go_wp2_with fail
          go_quiet (fail)
          go_wp2_with fail
          go_ret
          exact ⟨hfr.out.trans0 (Fr.drewN _ _ _), .inr ⟨HNT.out, rfl⟩⟩
        have hg0 : decide (D < tn) = false := decide_eq_false hgt
      · clear ht hx hpr hp HNX HNY HSC hil hi htot hDT hz hgt hT hD hnx hny hsc
        go_wp2_with fail
        go_quiet (fail)
        go_wp2_with fail
        go_ret
        exact ⟨hfr.out.trans0 (Fr.drewN _ _ _), .inr ⟨HNT.out, rfl⟩⟩
      · have HTN : Hid (Tb (l.take (i + 1))) := Lib.hid (HNY.out hno (by omega) (by omega))
        obtain ⟨T2, hT2⟩ : ∃ T2, ahd l (i + 1) = T2 := ⟨_, rfl⟩
        have HT2 := Lib.hid hT2
        have hTT : T + tn = T2 := by rw [← hT2, HSC.out]
        have eT2 : (T : Int) + (tn : Int) = (T2 : Int) := by omega
        have hb2 : T2 < 18446744073709551616 := by omega
        rcases HC5.out with hi0 | ⟨j, pk, ej, hjn, k3, hl0, hd0⟩
        · have hd0 : decide (0 < i) = false := decide_eq_false (by omega)
          clear ht hx hpr hp HNX HNY HSC hil hi htot hDT hz hgt hT hD hnx hny hsc hno HC5 hi0 hT2 hTT
          go_wp2_with fail
          go_quiet (fail)
          go_wp2_with fail
          go_roundw
          case rel => exact ⟨i + 1, by omega, by go_num, by rw [HT2.out], HTN, Lib.hid (hfr.out.trans0 (Fr.drewN _ _ _))⟩
          case measure => simp [intOf]; omega
        · clear ht hx hpr hp HNX HNY HSC hil hi htot hDT hz hgt hT hD hnx hny hsc hno HC5 hT2 hTT
          go_wp2_with fail
          go_quiet (fail)
          go_wp2_with fail
          go_roundw
          case rel => exact ⟨i + 1, by omega, by go_num, by rw [HT2.out], HTN, Lib.hid (hfr.out.trans0 (Fr.drewN _ _ _))⟩
          case measure => simp [intOf]; omega
    · obtain rfl : i = n := by omega
      have HTB : Hid (Tb l) := Lib.hid (by have := ht.out; rwa [← HN.out, List.take_length] at this)
      obtain ⟨T, hT⟩ : ∃ T, ahd l i = T := ⟨_, rfl⟩
      rw [hT]
      clear ht hT
      go_wp2_with fail
      go_ret
      exact ⟨hfr.out, .inl ⟨HTB.out, rfl⟩⟩
end Go.Proofs.Ytegdhggilaehdaa
