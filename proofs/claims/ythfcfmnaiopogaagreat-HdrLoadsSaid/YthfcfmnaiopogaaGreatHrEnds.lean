/- The document's histograms: a cell's ends, what is between two values, the steps' ends. -/
import Derived.Test.YthfcfmnaiopogaaGreatHrDo
import Derived.Test.YthfcfmnaiopogaaGreatWdAll
namespace Go.Proofs.YthfcfmnaiopogaaGreat
open Go.RowKit

theorem rvalue_yes (u m n : Nat) (w : World) (hm : 1 ≤ m) (hx : m ≤ 18) (hs : u + m ≤ 62) (h : ibk m n ≤ 63 - (u + m)) :
    Calls Tryz.prog 40 #[.int .i64 (u : Nat), .int .i64 (m : Nat), .int .i64 (n : Nat)] w fun e w' => e = .returned (.tuple #[.int .i64 (vof u m n : Nat), .bool true]) ∧ w' = w := by
  have p := two_pos (m - 1)
  have h0 : n < 66 * 2 ^ (m - 1) := by
    rw [← Nat.div_lt_iff_lt_mul p]; rw [ibk] at h; generalize n / 2 ^ (m - 1) = Q at *; omega
  have hl := vof_lt u m n hm (by omega) h
  have hp := two_pos (u + ibk m n)
  refine (rvalue_any u m n w hm hx hs h0).mono ?_
  rintro e w' ⟨⟨-, rfl⟩ | ⟨hno, -⟩, rfl⟩
  · exact ⟨rfl, rfl⟩
  · omega
theorem rvalue_no (u m n : Nat) (w : World) (hm : 1 ≤ m) (hx : m ≤ 18) (hs : u + m ≤ 62) (h : 63 - (u + m) < ibk m n) :
    Calls Tryz.prog 40 #[.int .i64 (u : Nat), .int .i64 (m : Nat), .int .i64 (n : Nat)] w fun e w' => e = .returned (.tuple #[.int .i64 0, .bool false]) ∧ w' = w := by
  by_cases h0 : n < 66 * 2 ^ (m - 1)
  · have hl := vof_ge u m n hm h
    refine (rvalue_any u m n w hm hx hs h0).mono ?_
    rintro e w' ⟨⟨hno, -⟩ | ⟨-, rfl⟩, rfl⟩
    · omega
    · exact ⟨rfl, rfl⟩
  · exact rvalue_big u m n w hm hx (by omega)

section
variable (g : Nat) (p : Option Addr) (k c : Nat) (M : Hm) (w : World) (s : RefIs w g p k c M)
include s
set_option maxRecDepth 100000 in
set_option maxHeartbeats 400000 in
theorem hends_any (n : Nat) (hb : ibk M.m n ≤ 63 - (M.u + M.m)) :
    Calls Tryz.prog 22 #[.pointer (some ⟨g, 0, none⟩), .int .i64 (n : Nat)] w fun e w' => e = .returned (.tuple #[.int .i64 (M.least n : Nat), .int .i64 (M.most n : Nat)]) ∧ Fr S0 w w' := by
  have hd := s.good
  have hs := hd.s
  have hvl := vof_lt M.u M.m n hd.m1 (by omega) hb
  have p2 := two_pos (M.u + ibk M.m n)
  have HV := Lib.hid (fun W => rvalue_yes M.u M.m n W hd.m1 hd.m5.2 hs hb)
  have HC := fun W => rcell_any M.u M.m (vof M.u M.m n) W hd.m1 hs (by omega)
  rw [beg_vof _ _ _ hd.m1 (by omega) hb, hwid_vof _ _ _ hd.m1 (by omega) hb] at HC
  have c3 := s.c3
  have c4 := s.c4
  unfold Hm.least Hm.most
  rw [show ((n : Nat) : Int).toNat = n by omega]
  obtain ⟨V, eV⟩ : ∃ V, vof M.u M.m n = V := ⟨_, rfl⟩
  obtain ⟨Z, eZ⟩ : ∃ Z, 2 ^ (M.u + ibk M.m n) = Z := ⟨_, rfl⟩
  obtain ⟨Y, eY⟩ : ∃ Y, Z - 1 = Y := ⟨_, rfl⟩
  obtain ⟨X, eX⟩ : ∃ X, V + Y = X := ⟨_, rfl⟩
  rw [eV] at HV HC hvl ⊢
  rw [eZ] at HC hvl p2 ⊢
  rw [eY, eX]
  have HC := Lib.hid HC
  obtain ⟨u, eu⟩ : ∃ u, M.u = u := ⟨_, rfl⟩
  obtain ⟨m, em⟩ : ∃ m, M.m = m := ⟨_, rfl⟩
  rw [eu] at HV HC c3
  rw [em] at HV HC c4
  have e1 : (Z : Int) - 1 = (Y : Int) := by omega
  have e2 : (V : Int) + (Y : Int) = (X : Int) := by omega
  have hY : Y ≤ 9223372036854775807 := by omega
  have hX : X ≤ 9223372036854775807 := by omega
  have S2 := Lib.hid (show ∀ W, Fr S0 w W → W.cell? ⟨g, 3, none⟩ = some (.int .i64 (u : Nat)) ∧ W.cell? ⟨g, 4, none⟩ = some (.int .i64 (m : Nat)) from fun W f => ⟨f.cell c3 (fun h => h), f.cell c4 (fun h => h)⟩)
  clear s hd hs hvl p2 eV eZ eY eX eu em hb
  go_enter Tryz.func22, Tryz.ntmps22
  go_upto_region 15 with fail
  go_region_held3 (fun w' => w'.cell? ⟨g, 3, none⟩ = some (.int .i64 (u : Nat)) ∧ w'.cell? ⟨g, 4, none⟩ = some (.int .i64 (m : Nat)))
    (first | (go_split_ands; exact ⟨by assumption, by assumption⟩))
    (first | (go_at_call 40; ((with_reducible refine (HV.out _).mono ?_); rintro _ _ ⟨rfl, rfl⟩)))
  obtain ⟨d3, d4⟩ := S2.out _ (Fr.drew _ _)
  go_upto_region 15 with fail
  go_region_held3 (fun w' => w'.cell? ⟨g, 3, none⟩ = some (.int .i64 (u : Nat)) ∧ w'.cell? ⟨g, 4, none⟩ = some (.int .i64 (m : Nat)))
    (first | (go_split_ands; exact ⟨by assumption, by assumption⟩))
    (first | (go_at_call 50; ((with_reducible refine (HC.out _).mono ?_); rintro _ _ ⟨rfl, rfl⟩)))
  go_wp2_with fail
  go_ret2
  exact ⟨rfl, (Fr.drew S0 w).trans0 (Fr.drew _ _)⟩

set_option maxRecDepth 100000 in
set_option maxHeartbeats 1000000 in
theorem hbetween_any (v x : Int) (hv : v ≤ 9223372036854775807) (hx : x ≤ 9223372036854775807) (hk : k ≤ 100000) :
    Calls Tryz.prog 26 #[.pointer (some ⟨g, 0, none⟩), .int .i64 v, .int .i64 x] w fun e w' => e = .returned (.int .u64 (M.between v x : Nat)) ∧ Fr S0 w w' := by
  have hd := s.good
  unfold Hm.between
  by_cases hlt : x < v
  · rw [if_pos hlt]
    clear s hd
    go_enter Tryz.func26, Tryz.ntmps26
    go_wp2_with fail
    go_ret
    exact ⟨rfl, Fr.refl _ _⟩
  rw [if_neg hlt]
  have HIA0 := fun (W : World) (n : Nat) => rindex_any M.u M.m v.toNat (W.drewN n) hd.m1 hd.m5.2 hd.s (by omega)
  have HIB0 := fun (W : World) (n : Nat) => rindex_any M.u M.m x.toNat (W.drewN n) hd.m1 hd.m5.2 hd.s (by omega)
  have hbt := btw_le M.l (M.cell v) (M.cell x)
  have htt := hd.tot
  have HTK := Lib.hid (fun (j : Nat) (hj : j < M.l.length) => btw_take hj (M.cell v) (M.cell x))
  have HTL := Lib.hid (fun (j : Nat) => Nat.le_trans (btw_le (M.l.take j) (M.cell v) (M.cell x)) (tot_take_le M.l j))
  unfold Hm.cell at HTK HTL hbt ⊢
  obtain ⟨V, eV⟩ : ∃ V, v.toNat = V := ⟨_, rfl⟩
  obtain ⟨X, eX⟩ : ∃ X, x.toNat = X := ⟨_, rfl⟩
  have em1 : max v 0 = (V : Int) := by omega
  have em2 : max x 0 = (X : Int) := by omega
  rw [eV] at HIA0 HTK HTL hbt ⊢
  rw [eX] at HIB0 HTK HTL hbt ⊢
  obtain ⟨A, eA⟩ : ∃ A, idx M.u M.m V = A := ⟨_, rfl⟩
  obtain ⟨B, eB⟩ : ∃ B, idx M.u M.m X = B := ⟨_, rfl⟩
  rw [eA] at HIA0 HTK HTL hbt ⊢
  rw [eB] at HIB0 HTK HTL hbt ⊢
  have HIA := Lib.hid HIA0
  have HIB := Lib.hid HIB0
  have c3 := s.c3
  have c4 := s.c4
  have c7 := s.c7
  have HCE := Lib.hid (fun W (f : Fr S0 w W) => And.intro (f.cell c3 (fun h => h)) (And.intro (f.cell c4 (fun h => h)) (f.cell c7 (fun h => h))))
  have HAT := Lib.hid (fun W (f : Fr S0 w W) => (s.pri.fr0 f).at)
  have HLEN := Lib.hid s.len
  have hln := s.len
  have HTT := Lib.hid htt
  clear HIA0 HIB0 s hd eV eX eA eB hv hx hbt htt
  go_enter Tryz.func26, Tryz.ntmps26
  go_wp2_with fail
  go_loopw [7, 8] (fun y z wr => ∃ n i : Nat, y = .int .u64 (n : Int) ∧ z = .int .i64 (i : Int) ∧ i ≤ k ∧ Hid (btw (M.l.take i) (A : Nat) (B : Nat) = n) ∧ Hid (Fr S0 w wr)) (fun _ z _ => k - (intOf z).toNat)
  case atStart => exact ⟨0, 0, rfl, rfl, by omega, Lib.hid rfl, Lib.hid (Fr.refl _ _)⟩
  case round =>
    obtain ⟨n, i, rfl, rfl, hi, hn, hf⟩ := hrel
    obtain ⟨d3, d4, d7⟩ := HCE.out _ hf.out
    by_cases hik : i < k
    · have hil : i < M.l.length := by omega
      have htk := HTK.out i hil
      have hle := HTL.out (i + 1)
      have hle0 := HTL.out i
      rw [htk] at hle
      rw [hn.out] at hle hle0 htk
      obtain ⟨b, o, rfl, k0, k1⟩ := HAT.out _ hf.out i hil
      obtain ⟨K, eK⟩ : ∃ K, (M.l[i]).1 = K := ⟨_, rfl⟩
      obtain ⟨C, eC⟩ : ∃ C, (M.l[i]).2 = C := ⟨_, rfl⟩
      rw [eK] at k0 htk hle
      rw [eC] at k1 htk hle
      have hin : (i : Int) < (k : Int) := by omega
      have htt2 := HTT.out
      have hnn : n ≤ 4611686018427387904 := by omega
      by_cases hA : (A : Int) ≤ K
      · have dA : decide ((A : Int) ≤ K) = true := decide_eq_true hA
        by_cases hB : K ≤ (B : Int)
        · rw [if_pos ⟨hA, hB⟩] at htk hle
          have hnc : n + C ≤ 4611686018427387904 := by omega
          have HN2 := Lib.hid htk
          clear htk hn HTK HTL HAT hle hle0 htt2 HTT
          go_upto_region 42 with fail
          go_quiet (first
            | (go_at_call 28; with_reducible exact Calls.quiet_of_same (HIA.out _ _))
            | (go_at_call 28; with_reducible exact Calls.quiet_of_same (HIB.out _ _)))
          go_wp2_with fail
          go_roundw
          case rel => exact ⟨n + C, i + 1, by go_num, by go_num, by omega, HN2, Lib.hid (hf.out.trans0 (Fr.drewN _ _ _))⟩
          case measure => simp [intOf]; omega
        · rw [if_neg (fun h => hB h.2)] at htk hle
          have HN2 := Lib.hid htk
          clear htk hn HTK HTL HAT hle hle0 htt2 HTT
          go_upto_region 42 with fail
          go_quiet (first
            | (go_at_call 28; with_reducible exact Calls.quiet_of_same (HIA.out _ _))
            | (go_at_call 28; with_reducible exact Calls.quiet_of_same (HIB.out _ _)))
          go_wp2_with fail
          go_roundw
          case rel => exact ⟨n, i + 1, by go_num, by go_num, by omega, HN2, Lib.hid (hf.out.trans0 (Fr.drewN _ _ _))⟩
          case measure => simp [intOf]; omega
      · have dA : decide ((A : Int) ≤ K) = false := decide_eq_false hA
        rw [if_neg (fun h => hA h.1)] at htk hle
        have HN2 := Lib.hid htk
        clear htk hn HTK HTL HAT hle hle0 htt2 HTT
        go_upto_region 42 with fail
        go_quiet (first
          | (go_at_call 28; with_reducible exact Calls.quiet_of_same (HIA.out _ _))
          | (go_at_call 28; with_reducible exact Calls.quiet_of_same (HIB.out _ _)))
        go_wp2_with fail
        go_roundw
        case rel => exact ⟨n, i + 1, by go_num, by go_num, by omega, HN2, Lib.hid (hf.out.trans0 (Fr.drewN _ _ _))⟩
        case measure => simp [intOf]; omega
    · obtain rfl : i = k := by omega
      have e := hn.out
      rw [List.take_of_length_le (by omega)] at e
      clear hn HTK HTL HIA HIB HAT HCE
      go_wp2_with fail
      go_ret
      exact ⟨by rw [e]; rfl, hf.out⟩
end
end Go.Proofs.YthfcfmnaiopogaaGreat
