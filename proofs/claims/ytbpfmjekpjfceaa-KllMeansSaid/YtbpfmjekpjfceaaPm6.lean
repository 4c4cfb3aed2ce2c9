/- KrRoom -/
import Derived.Test.YtbpfmjekpjfceaaPm1
import Derived.Test.YtbpfmjekpjfceaaPm2
import Derived.Test.YtbpfmjekpjfceaaPm3
import Derived.Test.YtbpfmjekpjfceaaPm4
import Derived.Maps.AppendAt
import Derived.Laws.AppendOwnNone
import Derived.Laws.OwnMore
import Derived.Lib.AppendZerosOnto
import Derived.Lib.SliceRun
import Derived.Lib.Walk
import Derived.WalkKit
import Derived.Laws.BytesArg
import Derived.Lib.SlBytesConst
import Derived.WalkSpells
import Derived.WalkLawsBesides
import Derived.Deep.QuietTactic
import Derived.BigQuiet
import Derived.RegionTactic
import Derived.Deep.AppendLies
import Derived.Deep.RegionLaw
import Derived.Laws.ResultCell
import Derived.Laws.EntriesVeiled
import Derived.Lib.Hide
import Derived.Test.YtbpfmjekpjfceaaRows
set_option maxRecDepth 100000
set_option maxHeartbeats 8000000
namespace Go.Proofs.Ytbpfmjekpjfceaa
open Go.RowKit
section
variable (k H h : Nat) (w : World)
theorem rroom_any (hk : 2 ≤ k) (hk2 : k ≤ 100000) (hH : H ≤ 100000) :
    Calls Try.prog 45 #[.int .i64 (k : Nat), .int .i64 (H : Nat), .int .i64 (h : Nat)] w fun e w' => e = .returned (.int .i64 (room k H h : Nat)) ∧ w = w' := by
  by_cases hh : h < H
  · have HR : Hid (room k H h = max (cr k (H - 1 - h)) 2) := Lib.hid (by unfold room; rw [if_pos hh])
    have HC : Hid (∀ j, 2 ≤ cr k j ∧ cr k j ≤ 100000) := Lib.hid fun j => ⟨cr_two hk j, Nat.le_trans (cr_le k hk j) hk2⟩
    have k1 : decide ((h : Int) < 0) = false := decide_eq_false (by omega)
    have k2 : decide (H ≤ h) = false := decide_eq_false (by omega)
    have hHi : (H : Int) ≤ 100000 := by omega
    obtain ⟨H1, hH1⟩ : ∃ x, H - 1 = x := ⟨_, rfl⟩
    have e1 : (H : Int) - 1 = (H1 : Int) := by omega
    have hHH : (H1 : Int) < 100000 := by omega
    have hhh : h ≤ H1 := by omega
    obtain ⟨R, hR⟩ : ∃ R, room k H h = R := ⟨_, rfl⟩
    rw [hR] at HR ⊢
    rw [hH1] at HR
    have hkk : (k : Int) ≤ 100000 := by omega
    clear hh hk hH hH1 hR
    go_enter Try.func45, Try.ntmps45
    go_wp2_with fail
    go_loopw [7, 8, 9] (fun z i _ wr => ∃ j c x : Nat, z = .int .i64 (c : Nat) ∧ i = .int .i64 (x : Nat) ∧ Hid (c = cr k j ∧ x = h + j) ∧ x ≤ H1 ∧ wr = w) (fun _ i _ _ => H1 - (intOf i).toNat)
    case atStart => exact ⟨0, k, h, rfl, rfl, Lib.hid ⟨rfl, rfl⟩, by omega, rfl⟩
    case round =>
      obtain ⟨j, c, x, rfl, rfl, hcx, hj, rfl⟩ := hrel
      have hc2 := (HC.out j).1
      have hc3 := (HC.out j).2
      rw [← hcx.out.1] at hc2 hc3
      have hci : (c : Int) ≤ 100000 := by omega
      by_cases hxl : (x : Int) < (H1 : Int)
      · have HNX : Hid ((2 * c + 2) / 3 = cr k (j + 1) ∧ x + 1 = h + (j + 1)) := Lib.hid ⟨by rw [cr, cut23, ← hcx.out.1], by have := hcx.out.2; omega⟩
        obtain ⟨q, hq⟩ : ∃ q, 2 * c / 3 = q := ⟨_, rfl⟩
        have eq1 : 2 * (c : Int) / 3 = (q : Int) := by omega
        have eq2 : (2 * (c : Int)).tdiv 3 = (q : Int) := by rw [Int.tdiv_eq_ediv_of_nonneg (by omega)]; exact eq1
        have hqb : (q : Int) ≤ 100000 := by omega
        by_cases hlt : 3 * q < 2 * c
        · have hlti : 3 * (q : Int) < 2 * (c : Int) := by omega
          have HV : Hid (q + 1 = cr k (j + 1)) := Lib.hid (by rw [← HNX.out.1]; omega)
          clear hcx hq hc2 hc3 hlt
          go_wp2_with fail
          go_roundw
          case rel => exact ⟨j + 1, q + 1, x + 1, by go_num, by go_num, Lib.hid ⟨HV.out, HNX.out.2⟩, by omega, trivial⟩
          case measure => simp [intOf]; omega
        · have hlti : ¬ 3 * (q : Int) < 2 * (c : Int) := by omega
          have HV : Hid (q = cr k (j + 1)) := Lib.hid (by rw [← HNX.out.1]; omega)
          clear hcx hq hc2 hc3 hlt
          go_wp2_with fail
          go_roundw
          case rel => exact ⟨j + 1, q, x + 1, rfl, by go_num, Lib.hid ⟨HV.out, HNX.out.2⟩, by omega, trivial⟩
          case measure => simp [intOf]; omega
      · have hjj : H1 - h = j := by have := hcx.out.2; omega
        have hRc : R = c := by
          rw [HR.out, hjj, ← hcx.out.1]
          omega
        have hc22 : ¬ (c : Int) < 2 := by omega
        clear hcx hjj hc2 hc3
        go_wp2_with fail
        go_ret
        exact ⟨rfl, rfl⟩
  · have HR : room k H h = 0 := by unfold room; rw [if_neg hh]
    rw [HR]
    have k1 : decide ((h : Int) < 0) = false := decide_eq_false (by omega)
    have k2 : decide (H ≤ h) = true := decide_eq_true (by omega)
    clear hk hk2 hH HR hh
    go_enter Try.func45, Try.ntmps45
    go_wp2_with fail
    go_ret
    exact ⟨rfl, rfl⟩
end
structure RcIs (w : World) (r : Nat) (p : Option Addr) (n c : Nat) (bs : List Nat) (a : Nat) : Prop where
  blk : w.heap[r]? = some (.cells #[.slice p n c, .int .i64 (a : Nat)] 42 (0, 0))
  sl : SlI w .u8 p bs
  len : bs.length = n
  off : bs ≠ [] → Off (· = r) p
  bd : ∀ x ∈ bs, x < 256
section
variable {S : Nat → Prop} {w w' : World} {r : Nat} {p : Option Addr} {n c : Nat} {bs : List Nat} {a : Nat}
theorem RcIs.fr (h : RcIs w r p n c bs a) (f : Fr S w w') (h1 : ¬ S r) (h2 : bs ≠ [] → Off S p) : RcIs w' r p n c bs a := ⟨f.row h.blk h1, h.sl.fr f h2, h.len, h.off, h.bd⟩
theorem RcIs.fr0 (h : RcIs w r p n c bs a) (f : Fr S0 w w') : RcIs w' r p n c bs a := h.fr f (fun h => h) fun _ => Off.s0 p
theorem RcIs.c0 (h : RcIs w r p n c bs a) : w.cell? ⟨r, 0, none⟩ = some (.slice p n c) := by simp [World.cell?, h.blk]
theorem RcIs.c1 (h : RcIs w r p n c bs a) : w.cell? ⟨r, 1, none⟩ = some (.int .i64 (a : Nat)) := by simp [World.cell?, h.blk]
theorem RcIs.set (h : RcIs w r p n c bs a) (b : Nat) : RcIs (w.setCell ⟨r, 1, none⟩ (.int .i64 (b : Nat))) r p n c bs b ∧ Fr (· = r) w (w.setCell ⟨r, 1, none⟩ (.int .i64 (b : Nat))) := by
  have f : Fr (· = r) w (w.setCell ⟨r, 1, none⟩ (.int .i64 (b : Nat))) := Fr.setCell _ _ _ _ rfl
  exact ⟨⟨by rw [heap_setCell_same w r 1 _ _ _ h.blk]; rfl, h.sl.fr f h.off, h.len, h.off, h.bd⟩, f⟩
end
theorem rcoin_any (r : Nat) (p : Option Addr) (n c : Nat) (bs : List Nat) (a : Nat) (w : World) (h : RcIs w r p n c bs a) (hn : n ≤ 100000) (ha : a ≤ 8 * n) :
    Calls Try.prog 21 #[.pointer (some ⟨r, 0, none⟩)] w fun e w' => e = .returned (.int .i64 (coin bs a : Nat)) ∧ RcIs w' r p n c bs (nxt bs a) ∧ Fr (· = r) w w' := by
  have k0 := h.c0
  have k1 := h.c1
  have hl := h.len
  have hni : (n : Int) ≤ 100000 := by omega
  by_cases hlt : a < 8 * n
  · have hq8 : a / 8 < bs.length := by omega
    have hX256 := h.bd _ (List.getElem_mem hq8)
    have hco : coin bs a = bs[a / 8] / 2 ^ (a % 8) % 2 := by
      unfold coin
      rw [if_pos (by omega), List.getD_eq_getElem?_getD, List.getElem?_eq_getElem hq8]
      rfl
    have hnx : nxt bs a = a + 1 := by unfold nxt; rw [if_pos (by omega)]
    rw [hco, hnx]
    obtain ⟨b, o, rfl, d0⟩ := h.sl.at (a / 8) hq8
    have HSET := Lib.hid (fun W (f : Fr S0 w W) => (h.fr0 f).set (a + 1))
    obtain ⟨X, hX⟩ : ∃ X, bs[a / 8] = X := ⟨_, rfl⟩
    rw [hX] at d0 hX256 ⊢
    obtain ⟨q8, eq8⟩ : ∃ x, a / 8 = x := ⟨_, rfl⟩
    obtain ⟨r8, er8⟩ : ∃ x, a % 8 = x := ⟨_, rfl⟩
    rw [eq8] at d0 hq8
    rw [er8]
    have i1 : (a : Int) / 8 = (q8 : Int) := by omega
    have i2 : (a : Int).tdiv 8 = (q8 : Int) := by rw [Int.tdiv_eq_ediv_of_nonneg (by omega)]; exact i1
    have i3 : (a : Int) % 8 = (r8 : Int) := by omega
    have i4 : (a : Int).tmod 8 = (r8 : Int) := by rw [Int.tmod_eq_emod_of_nonneg (by omega)]; exact i3
    obtain ⟨V, eV⟩ : ∃ x, X / 2 ^ r8 = x := ⟨_, rfl⟩
    rw [eV]
    have iV : (X : Int) / 2 ^ r8 = (V : Int) := by rw [← eV]; push_cast; rfl
    have hV : V < 256 := by rw [← eV]; exact Nat.lt_of_le_of_lt (Nat.div_le_self _ _) hX256
    obtain ⟨B, eB⟩ : ∃ x, V % 2 = x := ⟨_, rfl⟩
    rw [eB]
    have iB : (V : Int) % 2 = (B : Int) := by omega
    have iB2 : (V : Int).tmod 2 = (B : Int) := by rw [Int.tmod_eq_emod_of_nonneg (by omega)]; exact iB
    have hVi : (V : Int) < 256 := by omega
    have hr8 : (r8 : Int) < 8 := by omega
    have hr8n : r8 < 8 := by omega
    have hq8n : q8 < n := by omega
    have hq8i : (q8 : Int) < (n : Int) := by omega
    have hai : (a : Int) < 8 * (n : Int) := by omega
    have hab : (a : Int) < 800000 := by omega
    have kk : decide (8 * (n : Int) ≤ (a : Int)) = false := decide_eq_false (by omega)
    have HZ : Hid (∀ k, w.frozen? ⟨r, k, none⟩ = false) := Lib.hid fun k => by simp [World.frozen?, h.blk]
    have z1 := HZ.out 1
    clear h hco hnx hX eq8 er8 eV eB hq8 hl hlt hai HZ
    go_enter Try.func21, Try.ntmps21
    go_wp2_with fail
    go_quiet (fail)
    go_wp2_with fail
    go_quiet (fail)
    go_wp2_with fail
    go_ret
    obtain ⟨s1, s2⟩ := HSET.out _ (Fr.drewN S0 w _)
    rw [show ((a + 1 : Nat) : Int) = (a : Int) + 1 from by push_cast; rfl] at s1 s2
    exact ⟨rfl, s1, ((Fr.drewN S0 w _).mono fun _ _ h => h.elim).trans s2 fun _ _ e => e⟩
  · have hco : coin bs a = 0 := by unfold coin; rw [if_neg (by omega)]
    have hnx : nxt bs a = a := by unfold nxt; rw [if_neg (by omega)]
    rw [hco, hnx]
    have HR := Lib.hid (fun W (f : Fr S0 w W) => h.fr0 f)
    have kk : decide (8 * (n : Int) ≤ (a : Int)) = true := decide_eq_true (by omega)
    have hab : (a : Int) ≤ 800000 := by omega
    clear h hco hnx hl hlt
    go_enter Try.func21, Try.ntmps21
    go_wp2_with fail
    go_quiet (fail)
    go_wp2_with fail
    go_ret
    exact ⟨rfl, HR.out _ (Fr.drewN S0 _ _), (Fr.drewN S0 _ _).mono fun _ _ h => h.elim⟩
end Go.Proofs.Ytbpfmjekpjfceaa
