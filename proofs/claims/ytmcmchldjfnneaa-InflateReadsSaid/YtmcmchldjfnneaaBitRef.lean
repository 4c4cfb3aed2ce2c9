/- The document's answers of layer 4: what each of them computes. -/
import Derived.Test.YtmcmchldjfnneaaBitRd
namespace Go.Proofs.Ytmcmchldjfnneaa
open Go.RowKit

set_option maxRecDepth 100000 in
set_option maxHeartbeats 400000 in
theorem rgrp_any (n c : Nat) (w : World) (hn : n < 4294967296) (hc : c ≤ 32) :
    Calls Try.prog 30 #[.int .u32 n, .int .i64 c] w fun e w' => ∃ v, e = .returned v ∧ Fr S0 w w' ∧ RowNew w w' v (grp n c) := by
  have HR : Hid (∀ j : Nat, j < c → Room (j + 1)) := Lib.hid fun j h => Room.mk (by omega)
  go_enter Try.func30, Try.ntmps30
  go_wp2
  go_loopw [0, 5, 6] (fun m v i wr => ∃ j : Nat, j ≤ c ∧ i = .int .i64 j ∧ m = .int .u32 (n / 2 ^ j : Nat) ∧ Fr S0 w wr ∧ wr.ownsRow 0 5 1 v j (u8s (grp n j)) ∧ Fresh w v) (fun _ _ i _ => c - (intOf i).toNat)
  case atStart => exact ⟨0, by omega, rfl, by rw [Nat.pow_zero, Nat.div_one], Fr.refl _ _, World.ownsRow_nil _ _ _ _, fresh_nil _ _⟩
  case round =>
    obtain ⟨j, hj, rfl, rfl, hfr, own, hfv⟩ := hrel
    have HD : Hid (n / 2 ^ (j + 1) = n / 2 ^ j / 2) := Lib.hid (by rw [Nat.div_div_eq_div_mul, Nat.pow_succ])
    have HG : Hid (grp n (j + 1) = grp n j ++ [n / 2 ^ j % 2]) := Lib.hid (grp_succ n j)
    obtain ⟨m, hm⟩ : ∃ m, n / 2 ^ j = m := ⟨_, rfl⟩
    have hms : m < 4294967296 := by rw [← hm]; exact Nat.lt_of_le_of_lt (Nat.div_le_self _ _) hn
    have em : (m : Int) % 2 = ((m % 2 : Nat) : Int) := by omega
    have EM := Lib.hid em
    rw [hm] at HD HG ⊢
    clear hm em
    by_cases hjc : (j : Int) < (c : Int)
    · have HRJ := Lib.hid (HR.out j (by omega))
      obtain ⟨p, cp, rfl, -, -, -⟩ := slForm own
      go_wp2_with (first
        | ((with_reducible show wpList _ _ _ (Oper.mk (some 17) _ _ _ _ _ :: _) _ _); refine app_one el8 (.tmp 12) (.tmp 16) rfl own rfl rfl rfl rfl rfl one8 HRJ.out ?_; intro q cap w1 hown hgrow hat hlt1; have f1 := (hfr.trans0 (Fr.alloc S0 wr _)).append hgrow hfv; have v1 := fresh_app (n := j + 1) (c := cap) hfr hfv hat; clear hgrow hat hlt1)
        | fail)
      go_roundw
      case rel =>
        refine ⟨j + 1, by omega, by go_num, by rw [HD.out]; go_num, f1, ?_, v1⟩
        rw [HG.out, ← u8s_append, u8s_one, ← EM.out]
        exact hown
      case measure => simp [intOf]; omega
    · obtain rfl : j = c := by omega
      go_wp2
      go_ret
      exact ⟨_, rfl, hfr, by rw [grp_length]; exact own, hfv⟩

theorem num_drop (l : List Nat) (i : Nat) (h : i < l.length) : num (l.drop i) = 2 * num (l.drop (i + 1)) + l[i] := by
  rw [List.drop_eq_getElem_cons h, num]; omega
theorem num_32 {l : List Nat} (h : Bit01 l) (hl : l.length ≤ 32) : num l < 4294967296 :=
  Nat.lt_of_lt_of_le (num_lt l h) (Nat.pow_le_pow_right (n := 2) (by decide) hl)

set_option maxRecDepth 100000 in
set_option maxHeartbeats 400000 in
theorem rnumber_any (q : Option Addr) (d : Nat) (l : List Nat) (w : World) (hl : SlI w .u8 q l) (hb : Bit01 l) (hL : l.length ≤ 32) :
    Calls Try.prog 31 #[.slice q l.length d] w fun e w' => e = .returned (.int .u32 (num l : Nat)) ∧ w = w' := by
  have HL := Lib.hid hl
  have HB := Lib.hid hb
  clear hl hb
  go_enter Try.func31, Try.ntmps31
  go_wp2
  go_loopw [3, 4] (fun v i wr => ∃ j : Nat, j ≤ l.length ∧ i = .int .i64 ((j : Int) - 1) ∧ v = .int .u32 (num (l.drop j) : Nat) ∧ w = wr) (fun _ i _ => (intOf i + 1).toNat)
  case atStart => exact ⟨l.length, by omega, rfl, by rw [List.drop_length]; rfl, rfl⟩
  case round =>
    obtain ⟨j, hj, rfl, rfl, rfl⟩ := hrel
    by_cases hjc : 0 < j
    · obtain ⟨i, rfl⟩ : ∃ i, j = i + 1 := ⟨j - 1, by omega⟩
      have HN := Lib.hid (num_drop l i (by omega))
      have h32 := num_32 (l := l.drop i) (HB.out.sub fun _ hx => List.mem_of_mem_drop hx) (by rw [List.length_drop]; omega)
      rw [HN.out] at h32
      obtain ⟨b, o, rfl, hc⟩ := HL.out.at i (by omega)
      obtain ⟨x, hx⟩ : ∃ x, l[i] = x := ⟨_, rfl⟩
      obtain ⟨m, hm⟩ : ∃ m, num (l.drop (i + 1)) = m := ⟨_, rfl⟩
      rw [hx] at hc HN h32
      rw [hm] at HN h32 ⊢
      have hil : i < l.length := by omega
      have ei : ((i + 1 : Nat) : Int) - 1 = (i : Int) := by omega
      rw [ei]
      clear hx hm ei
      go_wp2
      go_roundw
      case rel => exact ⟨i, by omega, rfl, by rw [HN.out]; go_num, by trivial⟩
      case measure => simp [intOf]
    · obtain rfl : j = 0 := by omega
      rw [List.drop_zero]
      obtain ⟨m, hm⟩ : ∃ m, num l = m := ⟨_, rfl⟩
      rw [hm]
      have HM := Lib.hid hm
      clear hm
      go_wp2
      go_ret
      exact ⟨by rw [HM.out]; rfl, rfl⟩

theorem u8_wrap (x : Nat) (h : x < 256) : (x : Int) % 256 = (x : Int) := by omega

set_option maxRecDepth 100000 in
set_option maxHeartbeats 400000 in
theorem rbits_any (q : Option Addr) (d : Nat) (l : List Nat) (w : World) (hl : SlI w .u8 q l) (h8 : ∀ x ∈ l, x < 256) (hL : l.length ≤ 100000) :
    Calls Try.prog 20 #[.slice q l.length d] w fun e w' => ∃ v, e = .returned v ∧ Fr S0 w w' ∧ RowNew w w' v (bts l) := by
  have HL := Lib.hid hl
  have H8 := Lib.hid h8
  clear hl h8
  go_enter Try.func20, Try.ntmps20
  go_wp2
  go_loopw [3, 4] (fun v i wr => ∃ j : Nat, j ≤ l.length ∧ i = .int .i64 j ∧ Fr S0 w wr ∧ (∃ N, N = 8 * j ∧ wr.ownsRow 0 5 1 v N (u8s (bts (l.take j)))) ∧ Fresh w v) (fun _ i _ => l.length - (intOf i).toNat)
  case atStart => exact ⟨0, by omega, rfl, Fr.refl _ _, ⟨0, rfl, World.ownsRow_nil _ _ _ _⟩, fresh_nil _ _⟩
  case round =>
    obtain ⟨j, hj, rfl, hfr, ⟨N, hN, own⟩, hfv⟩ := hrel
    by_cases hjc : (j : Int) < (l.length : Int)
    · have hjl : j < l.length := by omega
      obtain ⟨b, o, rfl, hc⟩ := (HL.out.fr0 hfr).at j hjl
      have HG := Lib.hid (bts_take l j hjl)
      have hx8 := H8.out _ (List.getElem_mem hjl)
      obtain ⟨x, hx⟩ : ∃ x, l[j] = x := ⟨_, rfl⟩
      rw [hx] at hc HG hx8
      have HC := Lib.hid (rgrp_any x 8 wr (by omega) (by decide))
      have HRm : Hid (Room (N + 8)) := Lib.hid (Room.mk (by omega))
      have HN := Lib.hid hN
      clear hx hN
      go_wp2_with (first
        | (go_at_call 30; refine HC.out.mono ?_; rintro e w1 ⟨v1, rfl, f1, hv1⟩; have own1 := f1.owns own (fun _ _ h => h); have src := SrcIs.ofOwns hv1.own; rw [grp_length] at src)
        | ((with_reducible show wpList _ _ _ (Oper.mk (some 18) _ _ _ _ _ :: _) _ _); refine app_many el8 (.tmp 11) (.tmp 17) own1 src rfl rfl rfl rfl rfl (one8s _) HRm.out ?_; intro p4 c4 w4 own4 g4 at4; have f4 := (hfr.trans0 f1).append g4 hfv; have v4 := fresh_many hfv (hfr.trans0 f1).size at4; clear g4 at4))
      go_roundw
      case rel =>
        exact ⟨j + 1, by omega, by go_num, f4, ⟨N + 8, by have := HN.out; omega, by rw [HG.out, ← u8s_append]; exact own4⟩, v4⟩
      case measure => simp [intOf]; omega
    · obtain rfl : j = l.length := by omega
      rw [List.take_length] at own
      have HN := Lib.hid hN
      clear hN
      go_wp2
      go_ret
      exact ⟨_, rfl, hfr, by rw [bts_length, ← HN.out]; exact own, hfv⟩

set_option maxRecDepth 100000 in
set_option maxHeartbeats 400000 in
theorem rup_any (n : Nat) (w : World) (hn : n < 1099511627776) :
    Calls Try.prog 32 #[.int .i64 n] w fun e w' => e = .returned (.int .i64 (upN n : Nat)) ∧ w = w' := by
  have HU : Hid (upN n = (n + 7) / 8 * 8) := Lib.hid rfl
  obtain ⟨U, hU⟩ : ∃ U, upN n = U := ⟨_, rfl⟩
  rw [hU] at HU ⊢
  clear hU
  go_enter Try.func32, Try.ntmps32
  go_wp2
  go_loopw [0] (fun m wr => ∃ j : Nat, n ≤ j ∧ j ≤ U ∧ m = .int .i64 j ∧ w = wr) (fun m _ => U - (intOf m).toNat)
  case atStart => exact ⟨n, by omega, by have := HU.out; omega, rfl, rfl⟩
  case round =>
    obtain ⟨j, hj, hju, rfl, rfl⟩ := hrel
    have HU2 := HU.out
    by_cases hz : j % 8 = 0
    · have ht : ((j : Int) % 8 != 0) = false := by rw [bne_eq_false_iff_eq]; omega
      have he : Hid (j = U) := Lib.hid (by omega)
      clear hz HU2
      go_wp2
      go_ret
      exact ⟨by rw [← he.out]; rfl, rfl⟩
    · have ht : ((j : Int) % 8 != 0) = true := by rw [bne_iff_ne]; omega
      have hlt : j + 1 ≤ U := by omega
      have hjs : j ≤ 1099511627790 := by omega
      clear hz HU2
      go_wp2
      go_roundw
      case rel => exact ⟨j + 1, by omega, by omega, by go_num, by trivial⟩
      case measure => simp [intOf]; omega
end Go.Proofs.Ytmcmchldjfnneaa
