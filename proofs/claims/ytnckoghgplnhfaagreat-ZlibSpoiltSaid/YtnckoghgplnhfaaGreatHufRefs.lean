/- BitRef, HufRef, HufRead in one text. -/
import Derived.Test.YtnckoghgplnhfaaGreatBitAll
import Derived.Test.YtnckoghgplnhfaaGreatHufAll
import Derived.Deep.RegionHeld3

/- The document's answers of layer 4: what each of them computes. -/
namespace Go.Proofs.YtnckoghgplnhfaaGreat
open Go.RowKit

set_option maxRecDepth 100000 in
set_option maxHeartbeats 400000 in
theorem rgrp_any (n c : Nat) (w : World) (hn : n < 4294967296) (hc : c ≤ 32) :
    Calls Tryz.prog 57 #[.int .u32 n, .int .i64 c] w fun e w' => ∃ v, e = .returned v ∧ Fr S0 w w' ∧ RowNew w w' v (grp n c) := by
  have HR : Hid (∀ j : Nat, j < c → Room (j + 1)) := Lib.hid fun j h => Room.mk (by omega)
  go_enter Tryz.func57, Tryz.ntmps57
  go_wp2
  go_loopw [0, 5, 6] (fun m v i wr => ∃ j : Nat, j ≤ c ∧ i = .int .i64 j ∧ m = .int .u32 (n / 2 ^ j : Nat) ∧ Fr S0 w wr ∧ wr.ownsRow 0 5 1 v j (u8s (grp n j)) ∧ Fresh w v) (fun _ _ i _ => c - (intOf i).toNat)
  case atStart => exact ⟨0, by omega, rfl, by rw [Nat.pow_zero, Nat.div_one], Fr.refl _ _, World.ownsRow_nil _ _ _ _, fresh_nil _ _⟩
  case round =>
    obtain ⟨j, hj, rfl, rfl, hfr, own, hfv⟩ := hrel
    have HD : Hid (n / 2 ^ (j + 1) = n / 2 ^ j / 2) := Lib.hid (by rw [Nat.div_div_eq_div_mul, Nat.pow_succ])
    have HG : Hid (grp n (j + 1) = grp n j ++ [n / 2 ^ j % 2]) := Lib.hid (grp_succ n j)
    obtain ⟨m, hm⟩ : ∃ m, n / 2 ^ j = m := ⟨_, rfl⟩
    have hms : m < 4294967296 := by rw [← hm]; exact Nat.lt_of_le_of_lt (Nat.div_le_self _ _) hn
    have em : (m : Int) % 2 = ((m % 2 : Nat) : Int) := by omega
    have EM := Lib.hid em
    rw [hm] at HD HG ⊢
    clear hm em
    by_cases hjc : (j : Int) < (c : Int)
    · have HRJ := Lib.hid (HR.out j (by omega))
      obtain ⟨p, cp, rfl, -, -, -⟩ := slForm own
      go_wp2_with (first
        | ((with_reducible show wpList _ _ _ (Oper.mk (some 17) _ _ _ _ _ :: _) _ _); refine app_one el8 (.tmp 12) (.tmp 16) rfl own rfl rfl rfl rfl rfl one8 HRJ.out ?_; intro q cap w1 hown hgrow hat hlt1; have f1 := (hfr.trans0 (Fr.alloc S0 wr _)).append hgrow hfv; have v1 := fresh_app (n := j + 1) (c := cap) hfr hfv hat; clear hgrow hat hlt1)
        | fail)
      go_roundw
      case rel =>
        refine ⟨j + 1, by omega, by go_num, by rw [HD.out]; go_num, f1, ?_, v1⟩
        rw [HG.out, ← u8s_append, u8s_one, ← EM.out]
        exact hown
      case measure => simp [intOf]; omega
    · obtain rfl : j = c := by omega
      go_wp2
      go_ret
      exact ⟨_, rfl, hfr, by rw [grp_length]; exact own, hfv⟩

theorem num_drop (l : List Nat) (i : Nat) (h : i < l.length) : num (l.drop i) = 2 * num (l.drop (i + 1)) + l[i] := by
  rw [List.drop_eq_getElem_cons h, num]; omega
theorem num_32 {l : List Nat} (h : Bit01 l) (hl : l.length ≤ 32) : num l < 4294967296 :=
  Nat.lt_of_lt_of_le (num_lt l h) (Nat.pow_le_pow_right (n := 2) (by decide) hl)

set_option maxRecDepth 100000 in
set_option maxHeartbeats 400000 in
theorem rnumber_any (q : Option Addr) (d : Nat) (l : List Nat) (w : World) (hl : SlI w .u8 q l) (hb : Bit01 l) (hL : l.length ≤ 32) :
    Calls Tryz.prog 66 #[.slice q l.length d] w fun e w' => e = .returned (.int .u32 (num l : Nat)) ∧ w = w' := by
  have HL := Lib.hid hl
  have HB := Lib.hid hb
  clear hl hb
  go_enter Tryz.func66, Tryz.ntmps66
  go_wp2
  go_loopw [3, 4] (fun v i wr => ∃ j : Nat, j ≤ l.length ∧ i = .int .i64 ((j : Int) - 1) ∧ v = .int .u32 (num (l.drop j) : Nat) ∧ w = wr) (fun _ i _ => (intOf i + 1).toNat)
  case atStart => exact ⟨l.length, by omega, rfl, by rw [List.drop_length]; rfl, rfl⟩
  case round =>
    obtain ⟨j, hj, rfl, rfl, rfl⟩ := hrel
    by_cases hjc : 0 < j
    · obtain ⟨i, rfl⟩ : ∃ i, j = i + 1 := ⟨j - 1, by omega⟩
      have HN := Lib.hid (num_drop l i (by omega))
      have h32 := num_32 (l := l.drop i) (HB.out.sub fun _ hx => List.mem_of_mem_drop hx) (by rw [List.length_drop]; omega)
      rw [HN.out] at h32
      obtain ⟨b, o, rfl, hc⟩ := HL.out.at i (by omega)
      obtain ⟨x, hx⟩ : ∃ x, l[i] = x := ⟨_, rfl⟩
      obtain ⟨m, hm⟩ : ∃ m, num (l.drop (i + 1)) = m := ⟨_, rfl⟩
      rw [hx] at hc HN h32
      rw [hm] at HN h32 ⊢
      have hil : i < l.length := by omega
      have ei : ((i + 1 : Nat) : Int) - 1 = (i : Int) := by omega
      rw [ei]
      clear hx hm ei
      go_wp2
      go_roundw
      case rel => exact ⟨i, by omega, rfl, by rw [HN.out]; go_num, by trivial⟩
      case measure => simp [intOf]
    · obtain rfl : j = 0 := by omega
      rw [List.drop_zero]
      obtain ⟨m, hm⟩ : ∃ m, num l = m := ⟨_, rfl⟩
      rw [hm]
      have HM := Lib.hid hm
      clear hm
      go_wp2
      go_ret
      exact ⟨by rw [HM.out]; rfl, rfl⟩

theorem u8_wrap (x : Nat) (h : x < 256) : (x : Int) % 256 = (x : Int) := by omega

set_option maxRecDepth 100000 in
set_option maxHeartbeats 1000000 in
theorem rbytes_any (q : Option Addr) (d : Nat) (l : List Nat) (w : World) (hl : SlI w .u8 q l) (hb : Bit01 l) (hL : l.length ≤ 1099511627776) (hd : l.length ≤ d) :
    Calls Tryz.prog 59 #[.slice q l.length d] w fun e w' => ∃ v, e = .returned v ∧ Fr S0 w w' ∧ RowNew w w' v (byt l) := by
  have HR : Hid (∀ j : Nat, 8 * j < l.length → Room (j + 1)) := Lib.hid fun j h => Room.mk (by omega)
  have HL := Lib.hid hl
  have HB := Lib.hid hb
  have HLEN := Lib.hid (byt_length l)
  clear hl hb
  go_enter Tryz.func59, Tryz.ntmps59
  go_wp2
  go_loopw [3, 4] (fun v i wr => ∃ j : Nat, j ≤ (byt l).length ∧ i = .int .i64 (8 * j : Nat) ∧ Fr S0 w wr ∧ wr.ownsRow 0 5 1 v j (u8s ((byt l).take j)) ∧ Fresh w v) (fun _ i _ => l.length + 8 - (intOf i).toNat)
  case atStart => exact ⟨0, by omega, rfl, Fr.refl _ _, World.ownsRow_nil _ _ _ _, fresh_nil _ _⟩
  case round =>
    obtain ⟨j, hj, rfl, hfr, own, hfv⟩ := hrel
    obtain ⟨J, hJ⟩ : ∃ J, 8 * j = J := ⟨_, rfl⟩
    have HJ := Lib.hid hJ
    rw [hJ]
    by_cases hjc : (J : Int) < (l.length : Int)
    · have HRJ := Lib.hid (HR.out j (by omega))
      have hjl : j < (byt l).length := by rw [HLEN.out]; omega
      have hG : (byt l).take (j + 1) = (byt l).take j ++ [num ((l.drop J).take 8)] := by rw [List.take_succ_eq_append_getElem hjl, byt_get]; unfold oct; rw [hJ]
      have hx8 := oct_lt l HB.out j
      unfold oct at hx8
      rw [hJ] at hx8
      obtain ⟨b, o, rfl, -⟩ := (HL.out.fr0 hfr).at J (by omega)
      have hs := ((HL.out.fr0 hfr).drop J).take 8
      obtain ⟨m, hm⟩ : ∃ m, ((l.drop J).take 8).length = m := ⟨_, rfl⟩
      have hN := rnumber_any (some ⟨b, o + J, none⟩) (d - J) ((l.drop J).take 8) wr hs (HB.out.sub fun _ hx => List.mem_of_mem_drop (List.mem_of_mem_take hx)) (by rw [List.length_take]; omega)
      have hmm : m = min 8 (l.length - J) := by rw [← hm, List.length_take, List.length_drop]
      rw [hm] at hN
      obtain ⟨x, hx⟩ : ∃ x, num ((l.drop J).take 8) = x := ⟨_, rfl⟩
      rw [hx] at hG hx8 hN
      have HG := Lib.hid hG
      have HN := Lib.hid hN
      have ex := u8_wrap x hx8
      have HMM := Lib.hid hmm
      obtain ⟨p, cp, rfl, -, -, -⟩ := slForm own
      clear hG hN hs hx hm hmm hJ
      have hcd : ¬ d = J := by omega
      by_cases h8 : (l.length : Int) ≤ (J : Int) + 8
      · have HE : Hid (l.length - J = m) := Lib.hid (by have := HMM.out; omega)
        go_wp2_with fail
        rw [HE.out]
        refine HN.out.mono ?_
        rintro e w1 ⟨rfl, rfl⟩
        go_wp2_with (first
          | ((with_reducible show wpList _ _ _ (Oper.mk (some 23) _ _ _ _ _ :: _) _ _); refine app_one el8 (.tmp 11) (.tmp 22) rfl own rfl rfl rfl rfl rfl one8 HRJ.out ?_; intro g cap w1 hown hgrow hat hlt1; have f1 := (hfr.trans0 (Fr.alloc S0 wr _)).append hgrow hfv; have v1 := fresh_app (n := j + 1) (c := cap) hfr hfv hat; clear hgrow hat hlt1)
          | fail)
        go_roundw
        case rel =>
          refine ⟨j + 1, by omega, ?_, f1, ?_, v1⟩
          · have := HJ.out
            congr 1
            omega
          · rw [HG.out, ← u8s_append, u8s_one]
            exact hown
        case measure => simp [intOf]; omega
      · obtain rfl : m = 8 := by have := HMM.out; omega
        go_wp2_with fail
        refine HN.out.mono ?_
        rintro e w1 ⟨rfl, rfl⟩
        go_wp2_with (first
          | ((with_reducible show wpList _ _ _ (Oper.mk (some 23) _ _ _ _ _ :: _) _ _); refine app_one el8 (.tmp 11) (.tmp 22) rfl own rfl rfl rfl rfl rfl one8 HRJ.out ?_; intro g cap w1 hown hgrow hat hlt1; have f1 := (hfr.trans0 (Fr.alloc S0 wr _)).append hgrow hfv; have v1 := fresh_app (n := j + 1) (c := cap) hfr hfv hat; clear hgrow hat hlt1)
          | fail)
        go_roundw
        case rel =>
          refine ⟨j + 1, by omega, ?_, f1, ?_, v1⟩
          · have := HJ.out
            congr 1
            omega
          · rw [HG.out, ← u8s_append, u8s_one]
            exact hown
        case measure => simp [intOf]; omega
    · obtain rfl : j = (byt l).length := by have := HLEN.out; have := HJ.out; omega
      rw [List.take_length] at own
      go_wp2
      go_ret
      exact ⟨_, rfl, hfr, own, hfv⟩

set_option maxRecDepth 100000 in
set_option maxHeartbeats 400000 in
theorem rbits_any (q : Option Addr) (d : Nat) (l : List Nat) (w : World) (hl : SlI w .u8 q l) (h8 : ∀ x ∈ l, x < 256) (hL : l.length ≤ 100000) :
    Calls Tryz.prog 41 #[.slice q l.length d] w fun e w' => ∃ v, e = .returned v ∧ Fr S0 w w' ∧ RowNew w w' v (bts l) := by
  have HL := Lib.hid hl
  have H8 := Lib.hid h8
  clear hl h8
  go_enter Tryz.func41, Tryz.ntmps41
  go_wp2
  go_loopw [3, 4] (fun v i wr => ∃ j : Nat, j ≤ l.length ∧ i = .int .i64 j ∧ Fr S0 w wr ∧ (∃ N, N = 8 * j ∧ wr.ownsRow 0 5 1 v N (u8s (bts (l.take j)))) ∧ Fresh w v) (fun _ i _ => l.length - (intOf i).toNat)
  case atStart => exact ⟨0, by omega, rfl, Fr.refl _ _, ⟨0, rfl, World.ownsRow_nil _ _ _ _⟩, fresh_nil _ _⟩
  case round =>
    obtain ⟨j, hj, rfl, hfr, ⟨N, hN, own⟩, hfv⟩ := hrel
    by_cases hjc : (j : Int) < (l.length : Int)
    · have hjl : j < l.length := by omega
      obtain ⟨b, o, rfl, hc⟩ := (HL.out.fr0 hfr).at j hjl
      have HG := Lib.hid (bts_take l j hjl)
      have hx8 := H8.out _ (List.getElem_mem hjl)
      obtain ⟨x, hx⟩ : ∃ x, l[j] = x := ⟨_, rfl⟩
      rw [hx] at hc HG hx8
      have HC := Lib.hid (rgrp_any x 8 wr (by omega) (by decide))
      have HRm : Hid (Room (N + 8)) := Lib.hid (Room.mk (by omega))
      have HN := Lib.hid hN
      clear hx hN
      go_wp2_with (first
        | (go_at_call 57; refine HC.out.mono ?_; rintro e w1 ⟨v1, rfl, f1, hv1⟩; have own1 := f1.owns own (fun _ _ h => h); have src := SrcIs.ofOwns hv1.own; rw [grp_length] at src)
        | ((with_reducible show wpList _ _ _ (Oper.mk (some 18) _ _ _ _ _ :: _) _ _); refine app_many el8 (.tmp 11) (.tmp 17) own1 src rfl rfl rfl rfl rfl (one8s _) HRm.out ?_; intro p4 c4 w4 own4 g4 at4; have f4 := (hfr.trans0 f1).append g4 hfv; have v4 := fresh_many hfv (hfr.trans0 f1).size at4; clear g4 at4))
      go_roundw
      case rel =>
        exact ⟨j + 1, by omega, by go_num, f4, ⟨N + 8, by have := HN.out; omega, by rw [HG.out, ← u8s_append]; exact own4⟩, v4⟩
      case measure => simp [intOf]; omega
    · obtain rfl : j = l.length := by omega
      rw [List.take_length] at own
      have HN := Lib.hid hN
      clear hN
      go_wp2
      go_ret
      exact ⟨_, rfl, hfr, by rw [bts_length, ← HN.out]; exact own, hfv⟩

set_option maxRecDepth 100000 in
set_option maxHeartbeats 400000 in
theorem rup_any (n : Nat) (w : World) (hn : n < 1099511627776) :
    Calls Tryz.prog 67 #[.int .i64 n] w fun e w' => e = .returned (.int .i64 (upN n : Nat)) ∧ w = w' := by
  have HU : Hid (upN n = (n + 7) / 8 * 8) := Lib.hid rfl
  obtain ⟨U, hU⟩ : ∃ U, upN n = U := ⟨_, rfl⟩
  rw [hU] at HU ⊢
  clear hU
  go_enter Tryz.func67, Tryz.ntmps67
  go_wp2
  go_loopw [0] (fun m wr => ∃ j : Nat, n ≤ j ∧ j ≤ U ∧ m = .int .i64 j ∧ w = wr) (fun m _ => U - (intOf m).toNat)
  case atStart => exact ⟨n, by omega, by have := HU.out; omega, rfl, rfl⟩
  case round =>
    obtain ⟨j, hj, hju, rfl, rfl⟩ := hrel
    have HU2 := HU.out
    by_cases hz : j % 8 = 0
    · have ht : ((j : Int) % 8 != 0) = false := by rw [bne_eq_false_iff_eq]; omega
      have he : Hid (j = U) := Lib.hid (by omega)
      clear hz HU2
      go_wp2
      go_ret
      exact ⟨by rw [← he.out]; rfl, rfl⟩
    · have ht : ((j : Int) % 8 != 0) = true := by rw [bne_iff_ne]; omega
      have hlt : j + 1 ≤ U := by omega
      have hjs : j ≤ 1099511627790 := by omega
      clear hz HU2
      go_wp2
      go_roundw
      case rel => exact ⟨j + 1, by omega, by omega, by go_num, by trivial⟩
      case measure => simp [intOf]; omega
end Go.Proofs.YtnckoghgplnhfaaGreat

/- The document's answers of layer 5: which lengths may be, and the codes. -/
namespace Go.Proofs.YtnckoghgplnhfaaGreat
open Go.RowKit

/-- the number of the error -/
def ckN (l : List Nat) : Nat := if 320 < l.length ∨ long l = true then 1 else if okl l then 0 else 62
/-- whether they are full -/
def ckF (l : List Nat) : Bool := if 320 < l.length ∨ long l = true then false else decide (ful l)
theorem ck_long {l : List Nat} (h : 320 < l.length ∨ long l = true) : ckN l = 1 ∧ ckF l = false := by unfold ckN ckF; rw [if_pos h, if_pos h]; exact ⟨rfl, rfl⟩
theorem ck_ok {l : List Nat} (h : ¬ (320 < l.length ∨ long l = true)) (ok : okl l) : ckN l = 0 ∧ ckF l = decide (ful l) := by unfold ckN ckF; rw [if_neg h, if_neg h, if_pos ok]; exact ⟨rfl, rfl⟩
theorem ck_no {l : List Nat} (h : ¬ (320 < l.length ∨ long l = true)) (ok : ¬ okl l) : ckN l = 62 ∧ ckF l = false := by
  unfold ckN ckF
  rw [if_neg h, if_neg h, if_neg ok, decide_eq_false (fun q => ok (.inl q))]; exact ⟨rfl, rfl⟩
theorem long_of {l : List Nat} {j : Nat} (hj : j < l.length) (h : 15 < l[j]) : long l = true := by
  unfold long
  rw [List.any_eq_true]
  exact ⟨l[j], List.getElem_mem hj, decide_eq_true h⟩
theorem long_none {l : List Nat} (h : ∀ x ∈ l, x ≤ 15) : long l = false := by
  unfold long
  rw [List.any_eq_false]
  intro x hx
  have := h x hx
  simpa using this
theorem all_take {l : List Nat} {j : Nat} (hj : j < l.length) (h : ∀ x ∈ l.take j, x ≤ 15) (hx : l[j] ≤ 15) : ∀ x ∈ l.take (j + 1), x ≤ 15 := by
  rw [take_snoc l j hj]
  intro x hxm
  rcases List.mem_append.1 hxm with h' | h'
  · exact h x h'
  · rw [List.mem_singleton.1 h']; exact hx
/-- the last test, by numbers -/
def ckB (t s e : Nat) : Bool := decide (t = 32768 ∨ s = 0 ∨ (s = 1 ∧ e = 1))
theorem ckB_iff {l : List Nat} (h : ∀ x ∈ l, x ≤ 15) : ckB (tooks l) (some' l) (lst l) = decide (okl l) := by
  have h1 := some_zero l
  have h2 := lone_iff l
  have h3 : ful l ↔ tooks l = 32768 := by unfold ful; rw [top_tooks l h]
  unfold ckB
  rw [decide_eq_decide, h1, h2, ← h3]
  show ful l ∨ mx l = 0 ∨ lon l ↔ ful l ∨ lon l ∨ mx l = 0
  constructor
  · rintro (h | h | h)
    · exact .inl h
    · exact .inr (.inr h)
    · exact .inr (.inl h)
  · rintro (h | h | h)
    · exact .inl h
    · exact .inr (.inr h)
    · exact .inr (.inl h)

theorem pow_half (k : Nat) (h : k < 15) : (2 : Nat) ^ (15 - k) / 2 = 2 ^ (15 - (k + 1)) := by
  rw [show 15 - k = 15 - (k + 1) + 1 by omega, Nat.pow_succ]
  omega
theorem pow_small (k : Nat) : (2 : Nat) ^ (15 - k) ≤ 32768 := Nat.le_trans (Nat.pow_le_pow_right (n := 2) (by decide) (show 15 - k ≤ 15 by omega)) (by decide)

set_option maxRecDepth 100000 in
set_option maxHeartbeats 2000000 in
theorem rcheck_any (p : Option Addr) (d : Nat) (l : List Nat) (w : World) (hl : SlI w .u8 p l) (h8 : ∀ x ∈ l, x < 256) (hL : l.length ≤ 1000) :
    Calls Tryz.prog 72 #[.slice p l.length d] w fun e w' => e = .returned (.tuple #[.int .i64 (ckN l : Nat), .bool (ckF l)]) ∧ w = w' := by
  have HL := Lib.hid hl
  have H8 := Lib.hid h8
  clear hl h8
  go_enter Tryz.func72, Tryz.ntmps72
  go_wp2_with fail
  go_loopw [4, 5, 6, 7, 8, 9] (fun t s e i _ _ wr => ∃ (j T S E : Nat), j ≤ l.length ∧ j ≤ 321 ∧ i = .int .i64 j ∧ t = .int .i64 T ∧ T = tooks (l.take j) ∧ s = .int .i64 S ∧ S = some' (l.take j) ∧ e = .int .u8 E ∧ E = lst (l.take j) ∧ (∀ x ∈ l.take j, x ≤ 15) ∧ w = wr) (fun _ _ _ i _ _ _ => l.length - (intOf i).toNat)
  case atStart => exact ⟨0, 0, 0, 0, by omega, by omega, rfl, rfl, rfl, rfl, rfl, rfl, rfl, by simp, rfl⟩
  case round =>
    obtain ⟨j, T, S, E, hj, hj2, rfl, rfl, hT, rfl, hS, rfl, hE, h15, rfl⟩ := hrel
    have HT := Lib.hid hT
    have HS := Lib.hid hS
    have HE := Lib.hid hE
    have H15 := Lib.hid h15
    have bT : T ≤ 32768 * 1000 := by rw [hT]; exact Nat.le_trans (tooks_le _) (Nat.mul_le_mul_left _ (by rw [List.length_take]; omega))
    have bS : S ≤ 1000 := by rw [hS]; exact Nat.le_trans List.countP_le_length (by rw [List.length_take]; omega)
    clear hT hS hE h15
    by_cases hjc : (j : Int) < (l.length : Int)
    · have hjl : j < l.length := by omega
      by_cases hj3 : (j : Int) < 321
      · obtain ⟨b, o, hpe, hcl⟩ := HL.out.at j hjl
        have HLEN := Lib.hid (len_get l j hjl)
        have hx8 := H8.out _ (List.getElem_mem hjl)
        have HLO := Lib.hid (fun h => ck_long (.inr (long_of hjl h)))
        have HALL := Lib.hid (all_take hjl H15.out)
        have HTT := Lib.hid (tooks_take l j hjl)
        have HST := Lib.hid (some_take l j hjl)
        have HET := Lib.hid (lst_take l j hjl)
        rw [HLEN.out] at HTT HST HET
        obtain ⟨x, hx⟩ : ∃ x, l[j] = x := ⟨_, rfl⟩
        rw [hx] at hcl HLO HALL HTT HST HET hx8
        subst hpe
        clear hx
        by_cases hlong : (x : Int) > 15
        · have K := Lib.hid (HLO.out (by omega))
          clear HLO HALL HTT HST HET
          go_wp2_with fail
          go_ret2
          exact ⟨by rw [K.out.1, K.out.2]; rfl, rfl⟩
        · have HA := Lib.hid (HALL.out (by omega))
          clear HLO HALL
          by_cases hx0 : (x : Int) > 0
          · go_wp2_with fail
            go_loopw [8, 9] (fun t i wr => ∃ k : Nat, k ≤ x ∧ i = .int .u8 k ∧ t = .int .i64 (2 ^ (15 - k) : Nat) ∧ w = wr) (fun _ i _ => x - (intOf i).toNat)
            case atStart => exact ⟨0, by omega, rfl, rfl, rfl⟩
            case round =>
              obtain ⟨k, hk, rfl, rfl, rfl⟩ := hrel
              have bP := pow_small k
              by_cases hkc : (k : Int) < (x : Int)
              · have HP := Lib.hid (pow_half k (by omega))
                obtain ⟨P, hP⟩ : ∃ P : Nat, 2 ^ (15 - k) = P := ⟨_, rfl⟩
                rw [hP] at HP bP ⊢
                clear hP
                go_wp2_with fail
                go_roundw
                case rel => exact ⟨k + 1, by omega, by go_num, by rw [← HP.out]; go_num, by trivial⟩
                case measure => simp [intOf]; omega
              · obtain rfl : k = x := by omega
                have HTK : Hid (tooks (l.take (j + 1)) = T + 2 ^ (15 - k)) := Lib.hid (by rw [HTT.out, ← HT.out]; unfold took; rw [if_neg (by omega)])
                obtain ⟨P, hP⟩ : ∃ P : Nat, 2 ^ (15 - k) = P := ⟨_, rfl⟩
                rw [hP] at HTK bP ⊢
                have HSK : Hid (some' (l.take (j + 1)) = S + 1) := Lib.hid (by rw [HST.out, ← HS.out, if_pos (by omega)])
                have HEK : Hid (lst (l.take (j + 1)) = k) := Lib.hid (by rw [HET.out, if_pos (by omega)])
                clear hP HTT HST HET
                go_wp2_with fail
                go_roundw
                case rel => exact ⟨j + 1, T + P, S + 1, k, by omega, by omega, by go_num, by go_num, HTK.out.symm, by go_num, HSK.out.symm, rfl, HEK.out.symm, HA.out, by trivial⟩
                case measure => simp [intOf]; omega
          · have HTK : Hid (tooks (l.take (j + 1)) = T) := Lib.hid (by rw [HTT.out, ← HT.out]; unfold took; rw [if_pos (by omega)]; rfl)
            have HSK : Hid (some' (l.take (j + 1)) = S) := Lib.hid (by rw [HST.out, ← HS.out, if_neg (by omega)]; rfl)
            have HEK : Hid (lst (l.take (j + 1)) = E) := Lib.hid (by rw [HET.out, ← HE.out, if_neg (by omega)])
            clear HTT HST HET
            go_wp2_with fail
            go_roundw
            case rel => exact ⟨j + 1, T, S, E, by omega, by omega, by go_num, rfl, HTK.out.symm, rfl, HSK.out.symm, rfl, HEK.out.symm, HA.out, by trivial⟩
            case measure => simp [intOf]; omega
      · have hgt : (l.length : Int) > 320 := by omega
        have K := Lib.hid (ck_long (l := l) (.inl (by omega)))
        go_wp2_with fail
        go_ret2
        exact ⟨by rw [K.out.1, K.out.2]; rfl, rfl⟩
    · obtain rfl : j = l.length := by omega
      rw [List.take_length] at HT HS HE H15
      by_cases hgt : (l.length : Int) > 320
      · have K := Lib.hid (ck_long (l := l) (.inl (by omega)))
        go_wp2_with fail
        go_ret2
        exact ⟨by rw [K.out.1, K.out.2]; rfl, rfl⟩
      · have hnl : ¬ (320 < l.length ∨ long l = true) := by
          rw [long_none H15.out]
          rintro (h | h)
          · omega
          · cases h
        have HK := Lib.hid (ckB_iff H15.out)
        have HFU : Hid (((T : Int) == 32768) = decide (ful l)) := Lib.hid (by
          rw [HT.out, ← top_tooks l H15.out, Bool.eq_iff_iff, beq_iff_eq, decide_eq_true_iff]; exact ful_bool l)
        rw [← HT.out, ← HS.out, ← HE.out] at HK
        by_cases t1 : T = 32768
        · subst t1
          have K : Hid (ckN l = 0 ∧ ckF l = true) := Lib.hid (by
            have h := ck_ok hnl (of_decide_eq_true (HK.out.symm.trans (decide_eq_true (.inl rfl))))
            rw [← HFU.out] at h
            exact h)
          clear HK HFU hnl HT HS HE
          go_wp2_with fail
          go_ret2
          exact ⟨by rw [K.out.1, K.out.2]; rfl, rfl⟩
        · have hb1 : ((T : Int) == 32768) = false := by rw [beq_eq_false_iff_ne]; omega
          rw [hb1] at HFU
          by_cases t2 : S = 0
          · subst t2
            have K : Hid (ckN l = 0 ∧ ckF l = false) := Lib.hid (by
              have h := ck_ok hnl (of_decide_eq_true (HK.out.symm.trans (decide_eq_true (.inr (.inl rfl)))))
              rw [← HFU.out] at h
              exact h)
            clear HK HFU hnl HT HS HE t1
            go_wp2_with fail
            go_ret2
            exact ⟨by rw [K.out.1, K.out.2]; rfl, rfl⟩
          · have hb2 : ((S : Int) == 0) = false := by rw [beq_eq_false_iff_ne]; omega
            by_cases t3 : S = 1
            · subst t3
              by_cases t4 : E = 1
              · subst t4
                have K : Hid (ckN l = 0 ∧ ckF l = false) := Lib.hid (by
                  have h := ck_ok hnl (of_decide_eq_true (HK.out.symm.trans (decide_eq_true (.inr (.inr ⟨rfl, rfl⟩)))))
                  rw [← HFU.out] at h
                  exact h)
                clear HK HFU hnl HT HS HE t1 t2
                go_wp2_with fail
                go_ret2
                exact ⟨by rw [K.out.1, K.out.2]; rfl, rfl⟩
              · have hb4 : ((E : Int) == 1) = false := by rw [beq_eq_false_iff_ne]; omega
                have K : Hid (ckN l = 62 ∧ ckF l = false) := Lib.hid (ck_no hnl (fun ok => by
                  have := HK.out.trans (decide_eq_true ok)
                  have := of_decide_eq_true this
                  omega))
                clear HK HFU hnl HT HS HE t1 t2 t4
                go_wp2_with fail
                go_ret2
                exact ⟨by rw [K.out.1, K.out.2]; rfl, rfl⟩
            · have hb3 : ((S : Int) == 1) = false := by rw [beq_eq_false_iff_ne]; omega
              have K : Hid (ckN l = 62 ∧ ckF l = false) := Lib.hid (ck_no hnl (fun ok => by
                have := HK.out.trans (decide_eq_true ok)
                have := of_decide_eq_true this
                omega))
              clear HK HFU hnl HT HS HE t1 t2 t3
              go_wp2_with fail
              go_ret2
              exact ⟨by rw [K.out.1, K.out.2]; rfl, rfl⟩

/-- the codes of less than n bits, and those of n bits below the symbol j -/
def outTo (l : List Nat) (n j : Nat) : List Nat := (List.range l.length).map fun i => if 0 < len l i ∧ (len l i < n ∨ (len l i = n ∧ i < j)) then cod l i else 0
theorem outTo_length (l : List Nat) (n j : Nat) : (outTo l n j).length = l.length := by simp [outTo]
theorem outTo_get (l : List Nat) (n j i : Nat) (h : i < (outTo l n j).length) : (outTo l n j)[i] = if 0 < len l i ∧ (len l i < n ∨ (len l i = n ∧ i < j)) then cod l i else 0 := by simp [outTo]
theorem outTo_zero (l : List Nat) : outTo l 1 0 = List.replicate l.length 0 := by
  apply List.ext_getElem
  · simp [outTo]
  · intro i h1 h2
    rw [outTo_get, if_neg (by omega)]
    simp
theorem outTo_turn (l : List Nat) (n : Nat) : outTo l n l.length = outTo l (n + 1) 0 := by
  apply List.ext_getElem
  · simp [outTo]
  · intro i h1 h2
    rw [outTo_get, outTo_get]
    have hi : i < l.length := by rw [outTo_length] at h1; exact h1
    by_cases h : 0 < len l i ∧ len l i ≤ n
    · rw [if_pos (by omega), if_pos (by omega)]
    · rw [if_neg (by omega), if_neg (by omega)]
theorem outTo_end (l : List Nat) (h : ∀ x ∈ l, x ≤ 15) : outTo l 16 0 = cods l := by
  apply List.ext_getElem
  · simp [outTo, cods]
  · intro i h1 h2
    rw [outTo_get, cods_get]
    have h3 := Nat.le_trans (mx_len l i) (mx_le h)
    by_cases h0 : 0 < len l i
    · rw [if_pos (by omega)]
    · rw [if_neg (by omega)]
      unfold cod; rw [if_pos (by omega)]
theorem outTo_no (l : List Nat) (n j : Nat) (h : len l j ≠ n) : outTo l n (j + 1) = outTo l n j := by
  apply List.ext_getElem
  · simp [outTo]
  · intro i h1 h2
    rw [outTo_get, outTo_get]
    by_cases e : i = j
    · subst e
      by_cases k : 0 < len l i ∧ len l i < n
      · rw [if_pos (by omega), if_pos (by omega)]
      · rw [if_neg (by omega), if_neg (by omega)]
    · by_cases k : 0 < len l i ∧ (len l i < n ∨ (len l i = n ∧ i < j))
      · rw [if_pos (by omega), if_pos k]
      · rw [if_neg (by omega), if_neg k]
theorem outTo_yes (l : List Nat) (n j : Nat) (h : len l j = n) (hn : 0 < n) : outTo l n (j + 1) = (outTo l n j).set j (cod l j) := by
  apply List.ext_getElem
  · simp [outTo]
  · intro i h1 h2
    rw [List.getElem_set, outTo_get]
    by_cases e : j = i
    · subst e; rw [if_pos (by omega), if_pos rfl]
    · rw [if_neg e, outTo_get]
      by_cases k : 0 < len l i ∧ (len l i < n ∨ (len l i = n ∧ i < j))
      · rw [if_pos (by omega), if_pos k]
      · rw [if_neg (by omega), if_neg k]
theorem cod_next (l : List Nat) (n j : Nat) (hj : j < l.length) (hn : 0 < n) (h : len l j = n) : cod l j = fst l n + mny (l.take j) n ∧ fst l n + mny (l.take (j + 1)) n = cod l j + 1 := by
  have hc : cod l j = fst l n + mny (l.take j) n := by rw [cod_pos (by omega), h, mny_pos _ hn]; unfold rnk; rw [h]
  refine ⟨hc, ?_⟩
  rw [mny_take l j hj, if_pos ⟨h, hn⟩, hc]; omega
theorem row_len {w : World} {t : TypeId} {v : Value} {n : Nat} {k : IntKind} {xs : List Nat} (h : w.ownsRow 0 t 1 v n (xs.map fun (x : Nat) => Value.int k (x : Int))) : xs.length = n := by
  have := h.1
  simpa using this

set_option maxRecDepth 100000 in
set_option maxHeartbeats 2000000 in
theorem rcodes_any (p : Option Addr) (d : Nat) (l : List Nat) (w : World) (hl : SlI w .u8 p l) (h15 : ∀ x ∈ l, x ≤ 15) (hL : l.length ≤ 320) :
    Calls Tryz.prog 53 #[.slice p l.length d] w fun e w' => ∃ v, e = .returned v ∧ Fr S0 w w' ∧ Row32 w w' v (cods l) := by
  have HL := Lib.hid hl
  have H15 := Lib.hid h15
  have HM := fun w => make_u32 w l.length (by omega)
  clear hl h15
  go_enter Tryz.func53, Tryz.ntmps53
  go_wp2_with fail
  have f0 : Fr S0 w (w.alloc (.cells (zers .u32 l.length) 51)) := Fr.alloc _ _ _
  have o0 := zers_own w .u32 51 l.length (by omega)
  obtain ⟨g, hg⟩ : ∃ g, w.heap.size = g := ⟨_, rfl⟩
  rw [hg] at o0 ⊢
  have HG : Hid (w.heap.size ≤ g) := Lib.hid (by omega)
  generalize w.alloc (.cells (zers .u32 l.length) 51) = W at f0 o0 ⊢
  have HO := Lib.hid o0
  clear o0 hg HM
  go_loopw [4, 5, 6] (fun c n _ wr => ∃ (k C : Nat), 1 ≤ k ∧ k ≤ 16 ∧ n = .int .u8 k ∧ c = .int .u32 C ∧ C = top l (k - 1) ∧ Fr S0 w wr ∧ wr.ownsRow 0 51 1 (.slice (some ⟨g, 0, none⟩) l.length l.length) l.length (u32s (outTo l k 0))) (fun _ n _ _ => 16 - (intOf n).toNat)
  case atStart => exact ⟨1, 0, by omega, by omega, rfl, rfl, rfl, f0, by rw [outTo_zero]; exact HO.out⟩
  case round =>
    obtain ⟨k, C, hk1, hk, rfl, rfl, hC, hfr, own⟩ := hrel
    by_cases hkc : (k : Int) ≤ 15
    · have bC : C ≤ 65535000 := by rw [hC]; exact top_small l (k - 1) (by omega) (by omega)
      have HC : Hid (2 * C = fst l k) := Lib.hid (by rw [hC]; obtain ⟨q, rfl⟩ : ∃ q, k = q + 1 := ⟨k - 1, by omega⟩; rw [fst_succ]; rfl)
      have HO2 := Lib.hid own
      clear hC own
      go_wp2_with fail
      go_loopw [4, 6] (fun c i wr => ∃ (j D : Nat), j ≤ l.length ∧ i = .int .i64 j ∧ c = .int .u32 D ∧ D = fst l k + mny (l.take j) k ∧ Fr S0 w wr ∧ wr.ownsRow 0 51 1 (.slice (some ⟨g, 0, none⟩) l.length l.length) l.length (u32s (outTo l k j))) (fun _ i _ => l.length - (intOf i).toNat)
      case atStart => exact ⟨0, 2 * C, by omega, rfl, by go_num, by rw [HC.out, cnt_zero]; rfl, hfr, HO2.out⟩
      case round =>
        obtain ⟨j, D, hj, rfl, rfl, hD, hfr2, own⟩ := hrel
        by_cases hjc : (j : Int) < (l.length : Int)
        · have hjl : j < l.length := by omega
          obtain ⟨b, o, hpe, hcl⟩ := (HL.out.fr0 hfr2).at j hjl
          have hx15 := H15.out _ (List.getElem_mem hjl)
          have HLEN := Lib.hid (len_get l j hjl)
          have bD : D ≤ 65535000 + 320 := by
            rw [hD]
            have := fst_small l k (by omega) (by omega)
            have := mny_le (l.take j) k
            rw [List.length_take] at this
            omega
          have HD := Lib.hid hD
          obtain ⟨x, hx⟩ : ∃ x, l[j] = x := ⟨_, rfl⟩
          rw [hx] at hcl hx15 HLEN
          subst hpe
          clear hx hD
          by_cases hxk : x = k
          · subst hxk
            have HN := Lib.hid (cod_next l x j hjl (by omega) HLEN.out)
            have HY := Lib.hid (outTo_yes l x j HLEN.out (by omega))
            have k7 := own.cellAt j (by omega)
            have k8 := own.frozenAt j
            have hu : j < (u32s (outTo l x j)).length := by unfold u32s; rw [List.length_map, outTo_length]; exact hjl
            rw [List.getElem?_eq_getElem hu] at k7
            obtain ⟨u, hu'⟩ : ∃ u, (u32s (outTo l x j))[j] = u := ⟨_, rfl⟩
            rw [hu'] at k7
            have HS := Lib.hid (own.stored j (.int .u32 (D : Nat))).1
            clear hu hu' own
            go_wp2_with fail
            go_roundw
            case rel =>
              refine ⟨j + 1, D + 1, by omega, by go_num, by go_num, by rw [HN.out.2, HN.out.1, ← HD.out], hfr2.trans (Fr.setCell (· = g) _ ⟨g, j, none⟩ _ rfl) (fun q hq e => by have := HG.out; omega), ?_⟩
              rw [HY.out, HN.out.1, ← HD.out]
              unfold u32s
              rw [List.map_set]
              exact HS.out
            case measure => simp [intOf]; omega
          · have hne : ((x : Int) == (k : Int)) = false := by rw [beq_eq_false_iff_ne]; omega
            have HN := Lib.hid (outTo_no l k j (by rw [HLEN.out]; exact hxk))
            have HMT : Hid (mny (l.take (j + 1)) k = mny (l.take j) k) := Lib.hid (by rw [mny_take l j hjl, if_neg (by rw [HLEN.out]; omega)])
            have HO3 := Lib.hid own
            clear hxk own
            go_wp2_with fail
            go_roundw
            case rel => exact ⟨j + 1, D, by omega, by go_num, rfl, by rw [HMT.out]; exact HD.out, hfr2, by rw [HN.out]; exact HO3.out⟩
            case measure => simp [intOf]; omega
        · obtain rfl : j = l.length := by omega
          rw [List.take_length] at hD
          have HD : Hid (D = top l k) := Lib.hid (by rw [hD, top_eq])
          have HO3 := Lib.hid own
          clear hD own
          go_wp2_with fail
          go_roundw
          case rel => exact ⟨k + 1, D, by omega, by omega, by go_num, rfl, by rw [HD.out]; rfl, hfr2, by rw [← outTo_turn]; exact HO3.out⟩
          case measure => simp [intOf]; omega
    · obtain rfl : k = 16 := by omega
      have HO2 := Lib.hid own
      clear own hC
      go_wp2_with fail
      go_ret
      refine ⟨.slice (some ⟨g, 0, none⟩) l.length l.length, rfl, hfr, ?_, fun q hq => by simp only [Value.ownBlock, Option.some.injEq] at hq; have := HG.out; omega⟩
      rw [cods_length, ← outTo_end l H15.out]
      exact HO2.out
end Go.Proofs.YtnckoghgplnhfaaGreat

/- The document's answers of layer 5: what is read. -/
namespace Go.Proofs.YtnckoghgplnhfaaGreat
open Go.RowKit

theorem code_succ (c j : Nat) : code c (j + 1) = [c / 2 ^ j % 2] ++ code c j := by
  unfold code
  rw [grp_succ, List.reverse_append]
  rfl

set_option maxRecDepth 100000 in
set_option maxHeartbeats 400000 in
theorem rbits5_any (c n : Nat) (w : World) (hc : c < 4294967296) (hn : n ≤ 15) :
    Calls Tryz.prog 55 #[.int .u32 c, .int .u8 n] w fun e w' => ∃ v, e = .returned v ∧ Fr S0 w w' ∧ RowNew w w' v (code c n) := by
  have HR : Hid (∀ j : Nat, j < n → Room (1 + j)) := Lib.hid fun j h => Room.mk (by omega)
  go_enter Tryz.func55, Tryz.ntmps55
  go_wp2_with fail
  go_loopw [0, 5, 6] (fun m v i wr => ∃ j : Nat, j ≤ n ∧ i = .int .u8 j ∧ m = .int .u32 (c / 2 ^ j : Nat) ∧ Fr S0 w wr ∧ wr.ownsRow 0 5 1 v j (u8s (code c j)) ∧ Fresh w v) (fun _ _ i _ => n - (intOf i).toNat)
  case atStart => exact ⟨0, by omega, rfl, by rw [Nat.pow_zero, Nat.div_one], Fr.refl _ _, World.ownsRow_nil _ _ _ _, fresh_nil _ _⟩
  case round =>
    obtain ⟨j, hj, rfl, rfl, hfr, own, hfv⟩ := hrel
    have HD : Hid (c / 2 ^ (j + 1) = c / 2 ^ j / 2) := Lib.hid (by rw [Nat.div_div_eq_div_mul, Nat.pow_succ])
    have HG := Lib.hid (code_succ c j)
    obtain ⟨m, hm⟩ : ∃ m, c / 2 ^ j = m := ⟨_, rfl⟩
    have hms : m < 4294967296 := by rw [← hm]; exact Nat.lt_of_le_of_lt (Nat.div_le_self _ _) hc
    have em : (m : Int) % 2 = ((m % 2 : Nat) : Int) := by omega
    have EM := Lib.hid em
    rw [hm] at HD HG ⊢
    clear hm em
    by_cases hjc : (j : Int) < (n : Int)
    · have HRJ := Lib.hid (HR.out j (by omega))
      obtain ⟨p, cp, rfl, -, -, -⟩ := slForm own
      have HSZ := Lib.hid hfr.size
      go_wp2_with (first
        | ((with_reducible show wpList _ _ _ (Oper.mk (some 17) _ _ _ _ _ :: _) _ _); refine app_many el8 (.tmp 15) (.tmp 16) (own_one wr _ 5) (SrcIs.ofOwns (own.alloc _)) rfl rfl rfl rfl rfl (one8s _) HRJ.out ?_; intro q1 c1 w1 own1 g1 at1; have f1 := fr_made hfr g1; have v1 := fresh_many (fresh_made (n := 1) (c := 1) hfr) (size_le hfr) at1; clear g1 at1)
        | fail)
      go_roundw
      case rel =>
        refine ⟨j + 1, by omega, by go_num, by rw [HD.out]; go_num, f1, ?_, v1⟩
        rw [HG.out, ← u8s_append, u8s_one, ← EM.out, Nat.add_comm j 1]
        exact own1
      case measure => simp [intOf]; omega
    · obtain rfl : j = n := by omega
      go_wp2
      go_ret
      exact ⟨_, rfl, hfr, by rw [code_length]; exact own, hfv⟩

/-- bits begin with others -/
def begB (A C : List Nat) : Bool := decide (C.length ≤ A.length ∧ A.take C.length = C)

set_option maxRecDepth 100000 in
set_option maxHeartbeats 400000 in
theorem begins_any (p q : Option Addr) (d e : Nat) (A C : List Nat) (w : World) (ha : SlI w .u8 p A) (hc : SlI w .u8 q C) (hp : p = none → d = 0) (hd : A.length ≤ d) (hdm : d ≤ maxLen) (hA : ∀ x ∈ A, x < 256) (hC : ∀ x ∈ C, x < 256) :
    Calls Tryz.prog 109 #[.slice p A.length d, .slice q C.length e] w fun r w' => r = .returned (.bool (begB A C)) ∧ ∃ n, w' = w.drewN n := by
  obtain ⟨M, hM⟩ : ∃ M, C.length = M := ⟨_, rfl⟩
  by_cases hle : M ≤ A.length
  · have k1 : ∀ w', Fr S0 w w' → (convert 22 9 (.slice p M d)).run Tryz.prog w' = .ok (.string (strB (A.take M))) w' := fun w' f => conv_sl (ha.fr0 f) M d hle
    have k2 : ∀ w', Fr S0 w w' → (convert 22 9 (.slice q M e)).run Tryz.prog w' = .ok (.string (strB C)) w' := fun w' f => by
      have := conv_sl (hc.fr0 f) C.length e (Nat.le_refl _)
      rw [List.take_length, hM] at this
      exact this
    have hAT : ∀ x ∈ A.take M, x < 256 := fun x hx => hA x (List.mem_of_mem_take hx)
    have E : Hid (((strB (A.take M)).toList == (strB C).toList) = begB A C) := Lib.hid (by
      rw [strB_beq _ _ hAT hC]
      unfold begB
      rw [hM, decide_eq_decide]
      exact ⟨fun h => ⟨hle, h⟩, fun h => h.2⟩)
    obtain ⟨S1, hS1⟩ : ∃ X, strB (A.take M) = X := ⟨_, rfl⟩
    obtain ⟨S2, hS2⟩ : ∃ X, strB C = X := ⟨_, rfl⟩
    rw [hS1] at k1 E
    rw [hS2] at k2 E
    have k3 := k1 w (Fr.refl _ _)
    have k4 := k2 w (Fr.refl _ _)
    have k5 := fun n => k1 (w.drewN n) (Fr.drewN _ _ _)
    have k6 := fun n => k2 (w.drewN n) (Fr.drewN _ _ _)
    clear k1 k2
    have hle' : decide (M ≤ A.length) = true := decide_eq_true hle
    have hMd : (M : Int) ≤ (d : Int) := by omega
    have hM0 : (0 : Int) ≤ (M : Int) := by omega
    unfold maxLen at hdm
    cases p with
    | none =>
      obtain rfl := hp rfl
      clear ha hc hp hA hC hAT hS1 hS2
      rw [hM]
      clear hM
      go_enter Tryz.func109, Tryz.ntmps109
      go_wp2_with fail
      go_quiet (fail)
      go_wp2_with fail
      go_ret
      exact ⟨by rw [← E.out]; rfl, _, rfl⟩
    | some a =>
      clear ha hc hp hA hC hAT hS1 hS2
      rw [hM]
      clear hM
      by_cases hd0 : d = 0
      · subst hd0
        go_enter Tryz.func109, Tryz.ntmps109
        go_wp2_with fail
        go_quiet (fail)
        go_wp2_with fail
        go_ret
        exact ⟨by rw [← E.out]; rfl, _, rfl⟩
      · go_enter Tryz.func109, Tryz.ntmps109
        go_wp2_with fail
        go_quiet (fail)
        go_wp2_with fail
        go_ret
        exact ⟨by rw [← E.out]; rfl, _, rfl⟩
  · have E : Hid (begB A C = false) := Lib.hid (decide_eq_false fun h => hle (hM ▸ h.1))
    have hlt : decide (M ≤ A.length) = false := decide_eq_false hle
    rw [hM]
    clear ha hc hle hM
    go_enter Tryz.func109, Tryz.ntmps109
    go_wp2_with fail
    go_quiet (fail)
    go_wp2_with fail
    go_ret
    exact ⟨by rw [E.out]; rfl, _, rfl⟩

/-- what the document says is read -/
def RefFound (l B : List Nat) (e : Ending) : Prop :=
  (∃ i, hits l B i ∧ e = .returned (.tuple #[.int .i64 (i : Nat), .int .i64 (len l i : Nat), .int .i64 0])) ∨
  ((∀ i, ¬ hits l B i) ∧ mx l = 0 ∧ e = .returned (.tuple #[.int .i64 0, .int .i64 0, .int .i64 62])) ∨
  ((∀ i, ¬ hits l B i) ∧ mx l ≠ 0 ∧ (ful l ∨ B.length = 0) ∧ e = .returned (.tuple #[.int .i64 0, .int .i64 (B.length : Nat), .int .i64 20])) ∨
  ((∀ i, ¬ hits l B i) ∧ mx l ≠ 0 ∧ ¬ (ful l ∨ B.length = 0) ∧ e = .returned (.tuple #[.int .i64 0, .int .i64 1, .int .i64 62]))
def RefTold (w : World) (l B : List Nat) (e : Ending) (w' : World) : Prop := RefFound l B e ∧ Fr S0 w w'
theorem begB_hits {l B : List Nat} (hb : Bit01 B) (ok : okl l) (hm : mx l ≤ 15) {i : Nat} (hi : 0 < len l i) : begB B (code (cod l i) (len l i)) = decide (hits l B i) := by
  have hc := cod_two ok hi hm
  unfold begB
  rw [decide_eq_decide, code_length]
  constructor
  · rintro ⟨h1, h2⟩
    refine ⟨hi, h1, ?_⟩
    rw [h2, val_code, Nat.mod_eq_of_lt hc]
  · rintro ⟨-, h1, h2⟩
    refine ⟨h1, val_inj (hb.sub fun _ hx => List.mem_of_mem_take hx) (code_bit _ _) (by rw [List.length_take, code_length]; omega) ?_⟩
    rw [h2, val_code, Nat.mod_eq_of_lt hc]
theorem hits_none {l B : List Nat} (h : ∀ i, i < l.length → ¬ hits l B i) : ∀ i, ¬ hits l B i := fun i hi => h i (len_in hi.1) hi
theorem mx_flag {l : List Nat} {j : Nat} (hj : j < l.length) {F : Bool} (hF : F = decide (mx (l.take j) ≠ 0)) (h : F = true ∨ 0 < len l j) : true = decide (mx (l.take (j + 1)) ≠ 0) := by
  rw [mx_take l j hj]
  refine (decide_eq_true ?_).symm
  rcases h with h | h
  · rw [hF] at h
    have := of_decide_eq_true h
    omega
  · omega
theorem mx_flag0 {l : List Nat} {j : Nat} (hj : j < l.length) {F : Bool} (hF : F = decide (mx (l.take j) ≠ 0)) (h0 : len l j = 0) : F = decide (mx (l.take (j + 1)) ≠ 0) := by
  rw [mx_take l j hj, h0, hF, decide_eq_decide]
  omega

set_option maxRecDepth 100000 in
set_option maxHeartbeats 4000000 in
theorem rread_any (p q : Option Addr) (d e : Nat) (l B : List Nat) (w : World) (hl : SlI w .u8 p l) (h15 : ∀ x ∈ l, x ≤ 15) (hL : l.length ≤ 320) (ok : okl l)
    (hB : SlI w .u8 q B) (hq : q = none → e = 0) (he : B.length ≤ e) (hem : e ≤ maxLen) (hb : Bit01 B) :
    Calls Tryz.prog 91 #[.slice p l.length d, .slice q B.length e] w (RefTold w l B) := by
  have hm : mx l ≤ 15 := mx_le h15
  have HL := Lib.hid hl
  have H15 := Lib.hid h15
  have HBT := Lib.hid hb
  have HBG := Lib.hid (fun (W : World) (r : Option Addr) (c : Nat) (C : List Nat) (f : Fr S0 w W) (hc : SlI W .u8 r C) (h8 : ∀ x ∈ C, x < 256) => begins_any q r e c B C W (hB.fr0 f) hc hq he hem (fun x hx => by have := hb x hx; omega) h8)
  have HC := Lib.hid (rcodes_any p d l w hl h15 hL)
  have HK := Lib.hid (rcheck_any p d l)
  have HOK := Lib.hid ok
  have HBH := Lib.hid (fun i hi => begB_hits (i := i) hb ok hm hi)
  have HTWO := Lib.hid (fun i hi => cod_two (i := i) ok hi hm)
  have HQ := Lib.hid hq
  have bB : B.length ≤ maxLen := hB.1
  unfold maxLen at bB
  clear hl h15 hB hq hb ok he hem
  go_enter Tryz.func91, Tryz.ntmps91
  go_wp2_with fail
  refine HC.out.mono ?_
  rintro r w1 ⟨v, rfl, f1, hv⟩
  obtain ⟨pc, cc, rfl, -, -, -⟩ := slForm hv.own
  have HCO : Hid (SlI w1 .u32 pc (cods l)) := Lib.hid (SlI.ofOwns hv.own)
  rw [cods_length]
  clear hv HC
  go_wp2_with fail
  go_loopw [8, 9] (fun s i wr => ∃ (j : Nat) (F : Bool), j ≤ l.length ∧ i = .int .i64 j ∧ s = .bool F ∧ F = decide (mx (l.take j) ≠ 0) ∧ (∀ i, i < j → ¬ hits l B i) ∧ Fr S0 w wr ∧ Fr S0 w1 wr) (fun _ i _ => l.length - (intOf i).toNat)
  case atStart => exact ⟨0, false, by omega, rfl, rfl, by simp [mx], fun i hi => by omega, f1, Fr.refl _ _⟩
  case round =>
    obtain ⟨j, F, hj, rfl, rfl, hF, hno, hfr, hfr1⟩ := hrel
    have HF := Lib.hid hF
    have HNO := Lib.hid hno
    clear hF hno
    by_cases hjc : (j : Int) < (l.length : Int)
    · have hjl : j < l.length := by omega
      obtain ⟨b, o, hpe, hcl⟩ := (HL.out.fr0 hfr).at j hjl
      obtain ⟨b2, o2, hpe2, hcl2⟩ := (HCO.out.fr0 hfr1).at j (by rw [cods_length]; exact hjl)
      rw [cods_get] at hcl2
      have hx15 := H15.out _ (List.getElem_mem hjl)
      have HLEN := Lib.hid (len_get l j hjl)
      have HC32 : Hid (cod l j < 32768) := Lib.hid (by
        by_cases h0 : 0 < len l j
        · have h1 := HTWO.out j h0
          have h2 : 2 ^ len l j ≤ 32768 := Nat.le_trans (Nat.pow_le_pow_right (n := 2) (by decide) (Nat.le_trans (mx_len l j) hm)) (by decide)
          omega
        · unfold cod; rw [if_pos (by omega)]; omega)
      have HBJ := Lib.hid (HBH.out j)
      obtain ⟨x, hx⟩ : ∃ x, l[j] = x := ⟨_, rfl⟩
      obtain ⟨c, hc⟩ : ∃ c, cod l j = c := ⟨_, rfl⟩
      rw [hx] at hcl hx15 HLEN
      rw [hc] at hcl2 HC32 HBJ
      rw [HLEN.out] at HBJ
      subst hpe hpe2
      clear hx hc
      by_cases hx0 : 0 < x
      · have HFL : Hid (true = decide (mx (l.take (j + 1)) ≠ 0)) := Lib.hid (mx_flag hjl HF.out (.inr (by rw [HLEN.out]; exact hx0)))
        have HBI := Lib.hid (fun W => rbits5_any c x W (by have := HC32.out; omega) hx15)
        have HB1 := Lib.hid (HBJ.out hx0)
        have hx0' : ((x : Int) > 0) := by omega
        clear HBJ
        by_cases hh : hits l B j
        · cases F with
          | true =>
            have HHI := Lib.hid hh
            clear hh
            rw [decide_eq_true HHI.out] at HB1
            go_wp2_with fail
            go_region_held3 (fun w' => w'.cell? ⟨b, o + j, none⟩ = some (.int .u8 (x : Nat)) ∧ w'.cell? ⟨b2, o2 + j, none⟩ = some (.int .u32 (c : Nat)))
              (first | go_keep | (go_split_ands; exact ⟨f2.cell (by assumption) (fun h => h), f2.cell (by assumption) (fun h => h)⟩) | (go_split_ands; exact ⟨by assumption, by assumption⟩))
              (first
                | (go_at_call 55; refine (HBI.out _).mono ?_; rintro r w2 ⟨v, rfl, f2, hv⟩; obtain ⟨rq, rc, rfl, -, -, -⟩ := slForm hv.own; have HV := Lib.hid hv; clear hv)
                | (go_at_call 109; refine (HBG.out w2 rq rc (code c x) (hfr.trans0 ((Fr.drew S0 wr).trans0 f2)) (SlI.ofOwns HV.out.own) (fun y hy => by have := code_bit c x y hy; omega)).mono ?_; rw [HB1.out]; rintro r w3 ⟨rfl, nn, rfl⟩))
            have F2 := Lib.hid (hfr.trans0 (((Fr.drew S0 wr).trans0 f2).trans0 (Fr.drewN S0 w2 nn)))
            have F3 := Lib.hid (hfr1.trans0 (((Fr.drew S0 wr).trans0 f2).trans0 (Fr.drewN S0 w2 nn)))
            have hx2 : (w2.drewN nn).cell? ⟨b, o + j, none⟩ = some (.int .u8 (x : Nat)) := (Fr.drewN S0 w2 nn).cell (f2.cell ((Fr.drew S0 wr).cell hcl (fun h => h)) (fun h => h)) (fun h => h)
            generalize w2.drewN nn = W at F2 F3 hx2 ⊢
            clear f2 HV hcl hcl2
            go_wp2_with fail
            go_quiet (fail)
            go_wp2_with fail
            go_ret3
            exact ⟨.inl ⟨j, HHI.out, by rw [HLEN.out]; rfl⟩, F2.out.trans0 (Fr.drewN _ _ _)⟩
          | false =>
            have HHI := Lib.hid hh
            clear hh
            rw [decide_eq_true HHI.out] at HB1
            go_wp2_with fail
            go_region_held3 (fun w' => w'.cell? ⟨b, o + j, none⟩ = some (.int .u8 (x : Nat)) ∧ w'.cell? ⟨b2, o2 + j, none⟩ = some (.int .u32 (c : Nat)))
              (first | go_keep | (go_split_ands; exact ⟨f2.cell (by assumption) (fun h => h), f2.cell (by assumption) (fun h => h)⟩) | (go_split_ands; exact ⟨by assumption, by assumption⟩))
              (first
                | (go_at_call 55; refine (HBI.out _).mono ?_; rintro r w2 ⟨v, rfl, f2, hv⟩; obtain ⟨rq, rc, rfl, -, -, -⟩ := slForm hv.own; have HV := Lib.hid hv; clear hv)
                | (go_at_call 109; refine (HBG.out w2 rq rc (code c x) (hfr.trans0 ((Fr.drew S0 wr).trans0 f2)) (SlI.ofOwns HV.out.own) (fun y hy => by have := code_bit c x y hy; omega)).mono ?_; rw [HB1.out]; rintro r w3 ⟨rfl, nn, rfl⟩))
            have F2 := Lib.hid (hfr.trans0 (((Fr.drew S0 wr).trans0 f2).trans0 (Fr.drewN S0 w2 nn)))
            have F3 := Lib.hid (hfr1.trans0 (((Fr.drew S0 wr).trans0 f2).trans0 (Fr.drewN S0 w2 nn)))
            have hx2 : (w2.drewN nn).cell? ⟨b, o + j, none⟩ = some (.int .u8 (x : Nat)) := (Fr.drewN S0 w2 nn).cell (f2.cell ((Fr.drew S0 wr).cell hcl (fun h => h)) (fun h => h)) (fun h => h)
            generalize w2.drewN nn = W at F2 F3 hx2 ⊢
            clear f2 HV hcl hcl2
            go_wp2_with fail
            go_quiet (fail)
            go_wp2_with fail
            go_ret3
            exact ⟨.inl ⟨j, HHI.out, by rw [HLEN.out]; rfl⟩, F2.out.trans0 (Fr.drewN _ _ _)⟩
        · cases F with
          | true =>
            have HNJ : Hid (∀ i, i < j + 1 → ¬ hits l B i) := Lib.hid (fun i hi => by
              by_cases e : i = j
              · subst e; exact hh
              · exact HNO.out i (by omega))
            rw [decide_eq_false hh] at HB1
            clear hh
            go_wp2_with fail
            go_region_held3 (fun w' => w'.cell? ⟨b, o + j, none⟩ = some (.int .u8 (x : Nat)) ∧ w'.cell? ⟨b2, o2 + j, none⟩ = some (.int .u32 (c : Nat)))
              (first | go_keep | (go_split_ands; exact ⟨f2.cell (by assumption) (fun h => h), f2.cell (by assumption) (fun h => h)⟩) | (go_split_ands; exact ⟨by assumption, by assumption⟩))
              (first
                | (go_at_call 55; refine (HBI.out _).mono ?_; rintro r w2 ⟨v, rfl, f2, hv⟩; obtain ⟨rq, rc, rfl, -, -, -⟩ := slForm hv.own; have HV := Lib.hid hv; clear hv)
                | (go_at_call 109; refine (HBG.out w2 rq rc (code c x) (hfr.trans0 ((Fr.drew S0 wr).trans0 f2)) (SlI.ofOwns HV.out.own) (fun y hy => by have := code_bit c x y hy; omega)).mono ?_; rw [HB1.out]; rintro r w3 ⟨rfl, nn, rfl⟩))
            have F2 := Lib.hid (hfr.trans0 (((Fr.drew S0 wr).trans0 f2).trans0 (Fr.drewN S0 w2 nn)))
            have F3 := Lib.hid (hfr1.trans0 (((Fr.drew S0 wr).trans0 f2).trans0 (Fr.drewN S0 w2 nn)))
            have hx2 : (w2.drewN nn).cell? ⟨b, o + j, none⟩ = some (.int .u8 (x : Nat)) := (Fr.drewN S0 w2 nn).cell (f2.cell ((Fr.drew S0 wr).cell hcl (fun h => h)) (fun h => h)) (fun h => h)
            generalize w2.drewN nn = W at F2 F3 hx2 ⊢
            clear f2 HV hcl hcl2
            go_wp2_with fail
            go_roundw
            case rel => exact ⟨j + 1, true, by omega, by go_num, rfl, HFL.out, HNJ.out, F2.out, F3.out⟩
            case measure => simp [intOf]; omega
          | false =>
            have HNJ : Hid (∀ i, i < j + 1 → ¬ hits l B i) := Lib.hid (fun i hi => by
              by_cases e : i = j
              · subst e; exact hh
              · exact HNO.out i (by omega))
            rw [decide_eq_false hh] at HB1
            clear hh
            go_wp2_with fail
            go_region_held3 (fun w' => w'.cell? ⟨b, o + j, none⟩ = some (.int .u8 (x : Nat)) ∧ w'.cell? ⟨b2, o2 + j, none⟩ = some (.int .u32 (c : Nat)))
              (first | go_keep | (go_split_ands; exact ⟨f2.cell (by assumption) (fun h => h), f2.cell (by assumption) (fun h => h)⟩) | (go_split_ands; exact ⟨by assumption, by assumption⟩))
              (first
                | (go_at_call 55; refine (HBI.out _).mono ?_; rintro r w2 ⟨v, rfl, f2, hv⟩; obtain ⟨rq, rc, rfl, -, -, -⟩ := slForm hv.own; have HV := Lib.hid hv; clear hv)
                | (go_at_call 109; refine (HBG.out w2 rq rc (code c x) (hfr.trans0 ((Fr.drew S0 wr).trans0 f2)) (SlI.ofOwns HV.out.own) (fun y hy => by have := code_bit c x y hy; omega)).mono ?_; rw [HB1.out]; rintro r w3 ⟨rfl, nn, rfl⟩))
            have F2 := Lib.hid (hfr.trans0 (((Fr.drew S0 wr).trans0 f2).trans0 (Fr.drewN S0 w2 nn)))
            have F3 := Lib.hid (hfr1.trans0 (((Fr.drew S0 wr).trans0 f2).trans0 (Fr.drewN S0 w2 nn)))
            have hx2 : (w2.drewN nn).cell? ⟨b, o + j, none⟩ = some (.int .u8 (x : Nat)) := (Fr.drewN S0 w2 nn).cell (f2.cell ((Fr.drew S0 wr).cell hcl (fun h => h)) (fun h => h)) (fun h => h)
            generalize w2.drewN nn = W at F2 F3 hx2 ⊢
            clear f2 HV hcl hcl2
            go_wp2_with fail
            go_roundw
            case rel => exact ⟨j + 1, true, by omega, by go_num, rfl, HFL.out, HNJ.out, F2.out, F3.out⟩
            case measure => simp [intOf]; omega
      · obtain rfl : x = 0 := by omega
        have HFL := Lib.hid (mx_flag0 hjl HF.out HLEN.out)
        have HNJ : Hid (∀ i, i < j + 1 → ¬ hits l B i) := Lib.hid (fun i hi => by
          by_cases e : i = j
          · subst e; intro h; have := h.1; rw [HLEN.out] at this; omega
          · exact HNO.out i (by omega))
        have hd : decide ((0 : Int) < 0) = false := by decide
        clear HBJ hx0
        cases F with
        | true =>
          go_wp2_with fail
          go_quiet (fail)
          go_wp2_with fail
          go_roundw
          case rel => exact ⟨j + 1, true, by omega, by go_num, rfl, HFL.out, HNJ.out, hfr.trans0 (Fr.drewN _ _ _), hfr1.trans0 (Fr.drewN _ _ _)⟩
          case measure => simp [intOf]; omega
        | false =>
          go_wp2_with fail
          go_quiet (fail)
          go_wp2_with fail
          go_roundw
          case rel => exact ⟨j + 1, false, by omega, by go_num, rfl, HFL.out, HNJ.out, hfr.trans0 (Fr.drewN _ _ _), hfr1.trans0 (Fr.drewN _ _ _)⟩
          case measure => simp [intOf]; omega
    · obtain rfl : j = l.length := by omega
      rw [List.take_length] at HF
      have HNA := Lib.hid (hits_none HNO.out)
      cases F with
      | false =>
        have HM0 : Hid (mx l = 0) := Lib.hid (by
          have := of_decide_eq_false HF.out.symm
          omega)
        go_wp2_with fail
        go_ret3
        exact ⟨.inr (.inl ⟨HNA.out, HM0.out, rfl⟩), hfr⟩
      | true =>
        have HM0 : Hid (mx l ≠ 0) := Lib.hid (of_decide_eq_true HF.out.symm)
        have hck := ck_ok (l := l) (by rw [long_none H15.out]; rintro (h | h); · omega
                                       · cases h) HOK.out
        have hK := HK.out wr (HL.out.fr0 hfr) (fun y hy => by have := H15.out y hy; omega) (by omega)
        rw [hck.1, hck.2] at hK
        have HK1 := Lib.hid hK
        clear hK hck HK
        by_cases hfu : ful l
        · have HFU := Lib.hid hfu
          rw [decide_eq_true hfu] at HK1
          clear hfu
          go_wp2_with fail
          refine HK1.out.mono ?_
          rintro r w' ⟨rfl, rfl⟩
          go_wp2_with fail
          go_ret3
          exact ⟨.inr (.inr (.inl ⟨HNA.out, HM0.out, .inl HFU.out, rfl⟩)), hfr⟩
        · have HFU := Lib.hid hfu
          rw [decide_eq_false hfu] at HK1
          clear hfu
          by_cases hB0 : B.length = 0
          · have HB0 := Lib.hid hB0
            rw [hB0]
            clear hB0
            go_wp2_with fail
            refine HK1.out.mono ?_
            rintro r w' ⟨rfl, rfl⟩
            go_wp2_with fail
            go_ret3
            exact ⟨.inr (.inr (.inl ⟨HNA.out, HM0.out, .inr HB0.out, by rw [HB0.out]; rfl⟩)), hfr⟩
          · have HB0 := Lib.hid hB0
            have hbb : ((B.length : Int) == 0) = false := by rw [beq_eq_false_iff_ne]; omega
            clear hB0
            go_wp2_with fail
            refine HK1.out.mono ?_
            rintro r w' ⟨rfl, rfl⟩
            go_wp2_with fail
            go_ret3
            exact ⟨.inr (.inr (.inr ⟨HNA.out, HM0.out, (fun h => h.elim HFU.out HB0.out), rfl⟩)), hfr⟩
end Go.Proofs.YtnckoghgplnhfaaGreat
