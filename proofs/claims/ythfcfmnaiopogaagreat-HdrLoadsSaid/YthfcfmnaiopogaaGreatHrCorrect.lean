/- The document's histograms: a value that came late. -/
import Derived.Test.YthfcfmnaiopogaaGreatHrLate
namespace Go.Proofs.YthfcfmnaiopogaaGreat
open Go.RowKit

theorem lates_len (v e : Int) : ∀ j, (lates v e j).length = j + 1
  | 0 => rfl
  | j + 1 => by rw [lates, List.length_append, lates_len v e j]; rfl
theorem lates_at (v e : Int) : ∀ (N i : Nat) (_ : i ≤ N), (lates v e N)[i]? = some (v - i * e)
  | 0, i, h => by
    obtain rfl : i = 0 := by omega
    simp [lates]
  | N + 1, i, h => by
    have hl := lates_len v e N
    rw [lates]
    by_cases hi : i ≤ N
    · rw [List.getElem?_append_left (by omega), lates_at v e N i hi]
    · obtain rfl : i = N + 1 := by omega
      rw [List.getElem?_append_right (by omega), show N + 1 - (lates v e N).length = 0 by omega]
      rfl
theorem AccZ.row {w wr : World} {q : Option Addr} {N c : Nat} {L : List Int} (h : AccZ w wr (.slice q (N + 1) c) (N + 1) L) : ∃ b, q = some ⟨b, 0, none⟩ ∧ w.heap.size ≤ b ∧ b < wr.heap.size ∧ ∀ i, i ≤ N → ∀ y, L[i]? = some y → wr.cell? ⟨b, i, none⟩ = some (.int .i64 y) := by
  rcases h.own.2 with ⟨-, hn⟩ | ⟨b, cap, cur, hv, -, hb, -⟩
  · omega
  · simp only [Value.slice.injEq] at hv
    obtain ⟨rfl, -, rfl⟩ := hv
    refine ⟨b, rfl, h.fresh b rfl, (Array.getElem?_eq_some_iff.1 hb).1, fun i hi y hy => ?_⟩
    rw [h.own.cellAt i (by omega)]
    unfold zs
    rw [List.getElem?_map, hy]
    rfl
theorem late_val {v x : Int} {i : Nat} (hv : 0 ≤ v) (hi : i ≤ Hm.more v x) : v - i * x = ((v.toNat - i * x.toNat : Nat) : Int) ∧ i * x.toNat ≤ v.toNat := by
  by_cases h0 : i = 0
  · subst h0
    simp; omega
  · have hp : 1 ≤ x ∧ 0 < v := by
      unfold Hm.more at hi
      split at hi
      · omega
      · omega
    obtain ⟨V, rfl⟩ : ∃ V : Nat, v = V := ⟨v.toNat, by omega⟩
    obtain ⟨E, rfl⟩ : ∃ E : Nat, x = E := ⟨x.toNat, by omega⟩
    obtain ⟨j, rfl⟩ : ∃ j, i = j + 1 := ⟨i - 1, by omega⟩
    have h2 := (more_lt (V := V) (E := E) (j := j) (by omega) (by omega)).1 (by omega)
    rw [show (V : Int).toNat = V by omega, show (E : Int).toNat = E by omega]
    have h3 : (j + 1) * E ≤ V := by rw [Nat.add_mul] at h2 ⊢; omega
    refine ⟨?_, h3⟩
    have e : ((j + 1 : Nat) : Int) * (E : Int) = (((j + 1) * E : Nat) : Int) := by rw [Int.natCast_mul]
    rw [e]
    omega
/-- what is counted behind i of the values -/
def Hm.mid (M : Hm) (V E n : Nat) : Nat → Hm
  | 0 => M
  | i + 1 => M.counts V E n i
theorem Hm.mid_next (M : Hm) (V E n i : Nat) : M.mid V E n (i + 1) = (M.mid V E n i).count (V - i * E) n := by
  cases i with
  | zero => simp [Hm.mid, Hm.counts]
  | succ i => rfl
theorem Hm.mid_len (M : Hm) (V E n : Nat) : ∀ i, (M.mid V E n i).l.length ≤ M.l.length + i
  | 0 => Nat.le_refl _
  | i + 1 => by
    have ih := Hm.mid_len M V E n i
    rw [Hm.mid_next]
    have := len_put_le (M.mid V E n i).l (idx (M.mid V E n i).u (M.mid V E n i).m (V - i * E) : Nat) n
    simp only [Hm.count]
    omega
theorem Hm.mid_good {M : Hm} (g : M.Good) {V E n i : Nat} (hv : V < 9223372036854775808) (hn : 0 < n) (hg : M.gr = false → V ≤ top M.u M.m M.b) (ht : ltot M.l + n * i ≤ 4611686018427387904) :
    (M.mid V E n i).Good ∧ (M.mid V E n i).gr = M.gr ∧ (M.mid V E n i).u = M.u ∧ (M.mid V E n i).m = M.m ∧ (M.gr = false → (M.mid V E n i).b = M.b) ∧ ltot (M.mid V E n i).l = ltot M.l + n * i := by
  cases i with
  | zero => exact ⟨g, rfl, rfl, rfl, fun _ => rfl, by simp [Hm.mid]⟩
  | succ i =>
    obtain ⟨h1, h2⟩ := Hm.Good.counts g (e := E) hv hn hg i ht
    obtain ⟨-, -, -, h4, h5, h6⟩ := Hm.counts_same M V E n i
    exact ⟨h1, h4, h5, h6, h2, Hm.counts_tot M V E n i⟩

section
variable (g : Nat) (p : Option Addr) (k c : Nat) (M : Hm) (w : World) (s : RefIs w g p k c M)
include s
set_option maxRecDepth 100000 in
set_option maxHeartbeats 1000000 in
theorem hcorrect_any (v x : Int) (n : Nat) (hv : -9223372036854775808 ≤ v ∧ v ≤ 9223372036854775807) (hx : -9223372036854775808 ≤ x ∧ x ≤ 9223372036854775807) (hn : n < 18446744073709551616) (hk : k + 5000 ≤ 90000) :
    Calls Tryz.prog 54 #[.pointer (some ⟨g, 0, none⟩), .int .i64 v, .int .u64 (n : Nat), .int .i64 x] w fun e w' => e = .returned (.int .i64 (M.corE v n x : Nat)) ∧ ∃ p' n' c', RTurn w w' g p p' n' c' (M.correct v n x) := by
  have HLT := Lib.hid (hlate_any v x w hv hx)
  have HC := Lib.hid (fun W (f : Fr S0 w W) => hcheck_any g p k c M W (s.fr0 f) v n hv.2 hn)
  have HS := Lib.hid s
  unfold Hm.correct
  by_cases hm : 4096 < Hm.more v x
  · have hE : M.corE v n x = 1 := by unfold Hm.corE; rw [if_pos hm]
    rw [if_neg (by omega), hE]
    have HLN : Hid (∀ e w', LateEnds w w' e v x → e = .returned (.tuple #[.slice none 0 0, .bool false]) ∧ Fr S0 w w') := Lib.hid fun e w' h => by
      rcases h with ⟨-, h⟩ | ⟨h, -⟩
      · exact h
      · omega
    clear s hE
    go_enter Tryz.func54, Tryz.ntmps54
    go_wp2_with fail
    refine HLT.out.mono ?_
    intro e w1 hl
    obtain ⟨rfl, f1⟩ := HLN.out _ _ hl
    have F1 := Lib.hid f1
    clear f1 hl
    go_wp2_with fail
    go_ret
    exact ⟨rfl, p, k, c, HS.out.still F1.out⟩
  obtain ⟨N, eN⟩ : ∃ N, Hm.more v x = N := ⟨_, rfl⟩
  have HLY : Hid (∀ e w', LateEnds w w' e v x → ∃ q cq, e = .returned (.tuple #[.slice q (N + 1) cq, .bool true]) ∧ AccZ w w' (.slice q (N + 1) cq) (N + 1) (lates v x N)) := Lib.hid fun e w' h => by
    rcases h with ⟨h, -⟩ | ⟨-, r, rfl, ha⟩
    · omega
    · rw [eN] at ha
      obtain ⟨q, cq, rfl⟩ := slFormN ha.own
      exact ⟨q, cq, rfl, ha⟩
  by_cases h0 : M.check v n = 0
  · obtain ⟨h1, h2, h3, h4⟩ := s.good.of_check h0
    have hcE : M.corE v n x = if 4611686018427387904 - ltot M.l < n * (N + 1) then 6 else 0 := by
      unfold Hm.corE; rw [if_neg hm, if_neg (fun h => h h0), eN]
    rw [hcE]
    rw [h0] at HC
    have htt := s.good.tot
    have HTOT := Lib.hid (fun W (f : Fr S0 w W) => rtotal_any p k c M.l W (s.pri.fr0 f) s.len (by omega))
    obtain ⟨T, eT⟩ : ∃ T, ltot M.l = T := ⟨_, rfl⟩
    obtain ⟨R, eR⟩ : ∃ R, 4611686018427387904 - T = R := ⟨_, rfl⟩
    rw [eT] at HTOT h4 htt ⊢
    rw [eR]
    have e1 : (4611686018427387904 : Int) - (T : Int) = (R : Int) := by omega
    have hR : R ≤ 4611686018427387904 := by omega
    have hN4 : N ≤ 4096 := by omega
    by_cases hcap : R < n * (N + 1)
    · rw [if_pos hcap, if_neg (by decide)]
      have HCAP := Lib.hid hcap
      clear s hcE h0 htt eT eR hcap h2 h3 h4 eN hm
      go_enter Tryz.func54, Tryz.ntmps54
      go_wp2_with fail
      refine HLT.out.mono ?_
      intro e w1 hl
      obtain ⟨q, cq, rfl, ha⟩ := HLY.out _ _ hl
      obtain ⟨rb, rfl, hrb, hrl, hrow⟩ := ha.row
      have F1 := Lib.hid ha.fr
      have HROW := Lib.hid (And.intro hrb (And.intro hrl hrow))
      clear ha hl hrb hrl hrow HLY HLT
      go_wp2_with fail
      refine (HC.out _ F1.out).mono ?_
      rintro e w2 ⟨rfl, f2⟩
      have F2 := Lib.hid (F1.out.trans0 f2)
      have HROW2 := Lib.hid (And.intro HROW.out.1 (And.intro (Nat.lt_of_lt_of_le HROW.out.2.1 f2.size) (fun i hi y hy => f2.cell (HROW.out.2.2 i hi y hy) (fun h => h))))
      have c7 := (HS.out.fr0 F2.out).c7
      clear f2 HROW HC
      go_wp2_with fail
      refine (HTOT.out _ F2.out).mono ?_
      rintro e w3 ⟨rfl, f3⟩
      have F3 := Lib.hid (F2.out.trans0 f3)
      have HROW3 := Lib.hid (And.intro HROW2.out.1 (And.intro (Nat.lt_of_lt_of_le HROW2.out.2.1 f3.size) (fun i hi y hy => f3.cell (HROW2.out.2.2 i hi y hy) (fun h => h))))
      clear f3 HROW2 HTOT c7
      go_wp2_with fail
      go_loopw [12, 13] (fun y z wr => ∃ i Z : Nat, y = .int .u64 (Z : Int) ∧ z = .int .i64 (i : Int) ∧ i ≤ N + 1 ∧ Hid (Z + n * i = R) ∧ Z ≤ 4611686018427387904 ∧ w3 = wr) (fun _ z _ => N + 1 - (intOf z).toNat)
      case atStart => exact ⟨0, R, rfl, rfl, by omega, Lib.hid (by simp), hR, rfl⟩
      case round =>
        obtain ⟨i, Z, rfl, rfl, hi, hZ, hZb, rfl⟩ := hrel
        by_cases hiN : i < N + 1
        · by_cases hbig : Z < n
          · clear hZ
            go_wp2_with fail
            go_ret
            exact ⟨rfl, p, k, c, HS.out.still F3.out⟩
          · skip
            have hZ2 : Hid (Z - n + n * (i + 1) = R) := Lib.hid (by have := hZ.out; rw [Nat.mul_succ]; omega)
            obtain ⟨Z2, eZ2⟩ : ∃ Z2, Z - n = Z2 := ⟨_, rfl⟩
            rw [eZ2] at hZ2
            have e5 : (Z : Int) - (n : Int) = (Z2 : Int) := by omega
            have hZb2 : Z2 ≤ 4611686018427387904 := by omega
            clear hZ eZ2
            go_wp2_with fail
            go_roundw
            case rel => exact ⟨i + 1, Z2, by go_num, by go_num, by omega, hZ2, hZb2, by trivial⟩
            case measure => simp [intOf]; omega
        · obtain rfl : i = N + 1 := by omega
          have hz := hZ.out
          have hc := HCAP.out
          omega
    · rw [if_neg hcap, if_pos rfl, eN]
      have HCAP := Lib.hid hcap
      have HGL := Lib.hid s.lt
      have HVAL := Lib.hid (fun i (hi : i ≤ N) => late_val (v := v) (x := x) (i := i) h2 (by omega))
      have HCNT := Lib.hid (fun i (hi : i ≤ N) W p' n' c' (r : RefIs W g p' n' c' (M.mid v.toNat x.toNat n i)) => show Calls Tryz.prog 82 #[.pointer (some ⟨g, 0, none⟩), .int .i64 (v.toNat - i * x.toNat : Nat), .int .u64 (n : Nat)] W (fun e w' => e = .returned (.tuple #[]) ∧ ∃ p2 n2 c2, RTurn W w' g p' p2 n2 c2 (M.mid v.toNat x.toNat n (i + 1))) by
        have hni : n * (i + 1) ≤ n * (N + 1) := Nat.mul_le_mul_left _ (by omega)
        have hns : n * (i + 1) = n * i + n := Nat.mul_succ n i
        obtain ⟨-, g2, g3, g4, g5, g6⟩ := Hm.mid_good s.good (V := v.toNat) (E := x.toNat) (n := n) (i := i) (by omega) h1 (fun hg => by have := h3 hg; omega) (by rw [eT]; omega)
        have hl := Hm.mid_len M v.toNat x.toNat n i
        have hrl := r.len
        have hsl := s.len
        refine (hcount_any g p' n' c' _ W r (v.toNat - i * x.toNat) n (by omega) h1 (by rw [g6, eT]; omega) (fun hg => ?_) (by omega)).mono fun e w' h => ?_
        · rw [g2] at hg
          rw [g3, g4, g5 hg]
          have := h3 hg
          omega
        · rw [Hm.mid_next]; exact h)
      clear s hcE h0 htt eT eR hcap h2 h3 h4 eN hm
      go_enter Tryz.func54, Tryz.ntmps54
      go_wp2_with fail
      refine HLT.out.mono ?_
      intro e w1 hl
      obtain ⟨q, cq, rfl, ha⟩ := HLY.out _ _ hl
      obtain ⟨rb, rfl, hrb, hrl, hrow⟩ := ha.row
      have F1 := Lib.hid ha.fr
      have HROW := Lib.hid (And.intro hrb (And.intro hrl hrow))
      clear ha hl hrb hrl hrow HLY HLT
      go_wp2_with fail
      refine (HC.out _ F1.out).mono ?_
      rintro e w2 ⟨rfl, f2⟩
      have F2 := Lib.hid (F1.out.trans0 f2)
      have HROW2 := Lib.hid (And.intro HROW.out.1 (And.intro (Nat.lt_of_lt_of_le HROW.out.2.1 f2.size) (fun i hi y hy => f2.cell (HROW.out.2.2 i hi y hy) (fun h => h))))
      have c7 := (HS.out.fr0 F2.out).c7
      clear f2 HROW HC
      go_wp2_with fail
      refine (HTOT.out _ F2.out).mono ?_
      rintro e w3 ⟨rfl, f3⟩
      have F3 := Lib.hid (F2.out.trans0 f3)
      have HROW3 := Lib.hid (And.intro HROW2.out.1 (And.intro (Nat.lt_of_lt_of_le HROW2.out.2.1 f3.size) (fun i hi y hy => f3.cell (HROW2.out.2.2 i hi y hy) (fun h => h))))
      clear f3 HROW2 HTOT c7
      go_wp2_with fail
      go_loopw [12, 13] (fun y z wr => ∃ i Z : Nat, y = .int .u64 (Z : Int) ∧ z = .int .i64 (i : Int) ∧ i ≤ N + 1 ∧ Hid (Z + n * i = R) ∧ Z ≤ 4611686018427387904 ∧ w3 = wr) (fun _ z _ => N + 1 - (intOf z).toNat)
      case atStart => exact ⟨0, R, rfl, rfl, by omega, Lib.hid (by simp), hR, rfl⟩
      case round =>
        obtain ⟨i, Z, rfl, rfl, hi, hZ, hZb, rfl⟩ := hrel
        by_cases hiN : i < N + 1
        · by_cases hbig : Z < n
          · have hz := hZ.out
            have hc := HCAP.out
            have hni : n * (i + 1) ≤ n * (N + 1) := Nat.mul_le_mul_left _ (by omega)
            rw [Nat.mul_succ n i] at hni
            omega
          · skip
            have hZ2 : Hid (Z - n + n * (i + 1) = R) := Lib.hid (by have := hZ.out; rw [Nat.mul_succ]; omega)
            obtain ⟨Z2, eZ2⟩ : ∃ Z2, Z - n = Z2 := ⟨_, rfl⟩
            rw [eZ2] at hZ2
            have e5 : (Z : Int) - (n : Int) = (Z2 : Int) := by omega
            have hZb2 : Z2 ≤ 4611686018427387904 := by omega
            clear hZ eZ2
            go_wp2_with fail
            go_roundw
            case rel => exact ⟨i + 1, Z2, by go_num, by go_num, by omega, hZ2, hZb2, by trivial⟩
            case measure => simp [intOf]; omega
        · have hge : decide (i < N + 1) = false := decide_eq_false hiN
          go_wp2_with fail
          clear hZ HCAP hi hiN hge
          go_loopw [14] (fun y wr => ∃ (i : Nat) (p' : Option Addr) (n' c' : Nat), y = .int .i64 (i : Int) ∧ i ≤ N + 1 ∧ Hid (RTurn w3 wr g p p' n' c' (M.mid v.toNat x.toNat n i))) (fun y _ => N + 1 - (intOf y).toNat)
          case atStart => exact ⟨0, p, k, c, rfl, by omega, Lib.hid ((HS.out.fr0 F3.out).still (Fr.refl _ _))⟩
          case round =>
            obtain ⟨i, p', n', c', rfl, hi, hr⟩ := hrel
            by_cases hiN : i < N + 1
            · have k0 : wr.cell? ⟨rb, i, none⟩ = some (.int .i64 (v - i * x)) := hr.out.fr.cell (HROW3.out.2.2 i (by omega) _ (lates_at v x N i (by omega))) (fun h => by have h1 := HROW3.out.1; have h2 := HGL.out; have h3 : rb = g := h; omega)
              rw [(HVAL.out i (by omega)).1] at k0
              have HCI := Lib.hid (HCNT.out i (by omega) _ _ _ _ hr.out.is)
              obtain ⟨X, eX⟩ : ∃ X, v.toNat - i * x.toNat = X := ⟨_, rfl⟩
              rw [eX] at k0 HCI
              have hin : (i : Int) < ((N + 1 : Nat) : Int) := by omega
              clear eX
              go_wp2_with fail
              refine HCI.out.mono ?_
              rintro e w5 ⟨rfl, p5, n5, c5, ht⟩
              have HT := Lib.hid (hr.out.on ht)
              clear ht HCI k0
              go_wp2_with fail
              go_roundw
              case rel => exact ⟨i + 1, p5, n5, c5, by go_num, by omega, HT⟩
              case measure => simp [intOf]; omega
            · obtain rfl : i = N + 1 := by omega
              go_wp2_with fail
              go_ret
              exact ⟨rfl, p', n', c', hr.out.from F3.out⟩
  · have hE : M.corE v n x = M.check v n := by unfold Hm.corE; rw [if_neg hm, if_pos h0]
    rw [hE, if_neg h0]
    obtain ⟨E, eE⟩ : ∃ E, M.check v n = E := ⟨_, rfl⟩
    rw [eE] at HC h0 ⊢
    have hne : ((E : Int) == 0) = false := by rw [beq_eq_false_iff_ne]; omega
    clear s hE eE eN
    go_enter Tryz.func54, Tryz.ntmps54
    go_wp2_with fail
    refine HLT.out.mono ?_
    intro e w1 hl
    obtain ⟨q, cq, rfl, ha⟩ := HLY.out _ _ hl
    have F1 := Lib.hid ha.fr
    clear ha hl
    go_wp2_with fail
    refine (HC.out _ F1.out).mono ?_
    rintro e w2 ⟨rfl, f2⟩
    have F2 := Lib.hid (F1.out.trans0 f2)
    clear f2
    go_wp2_with fail
    go_ret
    exact ⟨rfl, p, k, c, HS.out.still F2.out⟩
end
end Go.Proofs.YthfcfmnaiopogaaGreat
