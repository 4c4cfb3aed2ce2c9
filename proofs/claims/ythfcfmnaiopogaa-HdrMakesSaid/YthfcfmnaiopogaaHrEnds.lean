/- The document's histograms: a cell's ends, what is between two values, the steps' ends. -/
import Derived.Test.YthfcfmnaiopogaaHrDo
import Derived.Test.YthfcfmnaiopogaaWdAll
namespace Go.Proofs.Ythfcfmnaiopogaa
open Go.RowKit

theorem rvalue_yes (u m n : Nat) (w : World) (hm : 1 ≤ m) (hx : m ≤ 18) (hs : u + m ≤ 62) (h : ibk m n ≤ 63 - (u + m)) :
    Calls Try.prog 45 #[.int .i64 (u : Nat), .int .i64 (m : Nat), .int .i64 (n : Nat)] w fun e w' => e = .returned (.tuple #[.int .i64 (vof u m n : Nat), .bool true]) ∧ w' = w := by
  have p := two_pos (m - 1)
  have h0 : n < 66 * 2 ^ (m - 1) := by
    rw [← Nat.div_lt_iff_lt_mul p]; rw [ibk] at h; generalize n / 2 ^ (m - 1) = Q at *; omega
  have hl := vof_lt u m n hm (by omega) h
  have hp := two_pos (u + ibk m n)
  refine (rvalue_any u m n w hm hx hs h0).mono ?_
  rintro e w' ⟨⟨-, rfl⟩ | ⟨hno, -⟩, rfl⟩
  · exact ⟨rfl, rfl⟩
  · omega
theorem rvalue_no (u m n : Nat) (w : World) (hm : 1 ≤ m) (hx : m ≤ 18) (hs : u + m ≤ 62) (h : 63 - (u + m) < ibk m n) :
    Calls Try.prog 45 #[.int .i64 (u : Nat), .int .i64 (m : Nat), .int .i64 (n : Nat)] w fun e w' => e = .returned (.tuple #[.int .i64 0, .bool false]) ∧ w' = w := by
  by_cases h0 : n < 66 * 2 ^ (m - 1)
  · have hl := vof_ge u m n hm h
    refine (rvalue_any u m n w hm hx hs h0).mono ?_
    rintro e w' ⟨⟨hno, -⟩ | ⟨-, rfl⟩, rfl⟩
    · omega
    · exact ⟨rfl, rfl⟩
  · exact rvalue_big u m n w hm hx (by omega)

section
variable (g : Nat) (p : Option Addr) (k c : Nat) (M : Hm) (w : World) (s : RefIs w g p k c M)
include s
set_option maxRecDepth 100000 in
set_option maxHeartbeats 400000 in
theorem hends_any (n : Nat) (hb : ibk M.m n ≤ 63 - (M.u + M.m)) :
    Calls Try.prog 26 #[.pointer (some ⟨g, 0, none⟩), .int .i64 (n : Nat)] w fun e w' => e = .returned (.tuple #[.int .i64 (M.least n : Nat), .int .i64 (M.most n : Nat)]) ∧ Fr S0 w w' := by
  have hd := s.good
  have hs := hd.s
  have hvl := vof_lt M.u M.m n hd.m1 (by omega) hb
  have p2 := two_pos (M.u + ibk M.m n)
  have HV := Lib.hid (fun W => rvalue_yes M.u M.m n W hd.m1 hd.m5.2 hs hb)
  have HC := fun W => rcell_any M.u M.m (vof M.u M.m n) W hd.m1 hs (by omega)
  rw [beg_vof _ _ _ hd.m1 (by omega) hb, hwid_vof _ _ _ hd.m1 (by omega) hb] at HC
  have c3 := s.c3
  have c4 := s.c4
  unfold Hm.least Hm.most
  rw [show ((n : Nat) : Int).toNat = n by omega]
  obtain ⟨V, eV⟩ : ∃ V, vof M.u M.m n = V := ⟨_, rfl⟩
  obtain ⟨Z, eZ⟩ : ∃ Z, 2 ^ (M.u + ibk M.m n) = Z := ⟨_, rfl⟩
  obtain ⟨Y, eY⟩ : ∃ Y, Z - 1 = Y := ⟨_, rfl⟩
  obtain ⟨X, eX⟩ : ∃ X, V + Y = X := ⟨_, rfl⟩
  rw [eV] at HV HC hvl ⊢
  rw [eZ] at HC hvl p2 ⊢
  rw [eY, eX]
  have HC := Lib.hid HC
  obtain ⟨u, eu⟩ : ∃ u, M.u = u := ⟨_, rfl⟩
  obtain ⟨m, em⟩ : ∃ m, M.m = m := ⟨_, rfl⟩
  rw [eu] at HV HC c3
  rw [em] at HV HC c4
  have e1 : (Z : Int) - 1 = (Y : Int) := by omega
  have e2 : (V : Int) + (Y : Int) = (X : Int) := by omega
  have hY : Y ≤ 9223372036854775807 := by omega
  have hX : X ≤ 9223372036854775807 := by omega
  have S2 := Lib.hid (show ∀ W, Fr S0 w W → W.cell? ⟨g, 3, none⟩ = some (.int .i64 (u : Nat)) ∧ W.cell? ⟨g, 4, none⟩ = some (.int .i64 (m : Nat)) from fun W f => ⟨f.cell c3 (fun h => h), f.cell c4 (fun h => h)⟩)
  clear s hd hs hvl p2 eV eZ eY eX eu em hb
  go_enter Try.func26, Try.ntmps26
  go_upto_region 15 with fail
  go_region_held3 (fun w' => w'.cell? ⟨g, 3, none⟩ = some (.int .i64 (u : Nat)) ∧ w'.cell? ⟨g, 4, none⟩ = some (.int .i64 (m : Nat)))
    (first | (go_split_ands; exact ⟨by assumption, by assumption⟩))
    (first | (go_at_call 45; ((with_reducible refine (HV.out _).mono ?_); rintro _ _ ⟨rfl, rfl⟩)))
  obtain ⟨d3, d4⟩ := S2.out _ (Fr.drew _ _)
  go_upto_region 15 with fail
  go_region_held3 (fun w' => w'.cell? ⟨g, 3, none⟩ = some (.int .i64 (u : Nat)) ∧ w'.cell? ⟨g, 4, none⟩ = some (.int .i64 (m : Nat)))
    (first | (go_split_ands; exact ⟨by assumption, by assumption⟩))
    (first | (go_at_call 46; ((with_reducible refine (HC.out _).mono ?_); rintro _ _ ⟨rfl, rfl⟩)))
  go_wp2_with fail
  go_ret2
  exact ⟨rfl, (Fr.drew S0 w).trans0 (Fr.drew _ _)⟩

end
end Go.Proofs.Ythfcfmnaiopogaa
