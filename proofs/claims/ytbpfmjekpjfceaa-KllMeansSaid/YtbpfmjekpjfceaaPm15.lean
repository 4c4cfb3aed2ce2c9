/- RkAdd -/
import Derived.Test.YtbpfmjekpjfceaaPm1
import Derived.Test.YtbpfmjekpjfceaaPm2
import Derived.Test.YtbpfmjekpjfceaaPm3
import Derived.Test.YtbpfmjekpjfceaaPm4
import Derived.Test.YtbpfmjekpjfceaaPm6
import Derived.Test.YtbpfmjekpjfceaaPm7
import Derived.Test.YtbpfmjekpjfceaaPm8
import Derived.Test.YtbpfmjekpjfceaaPm9
import Derived.Test.YtbpfmjekpjfceaaPm10
import Derived.Test.YtbpfmjekpjfceaaPm11
import Derived.Test.YtbpfmjekpjfceaaPm12
import Derived.Test.YtbpfmjekpjfceaaPm13
import Derived.Test.YtbpfmjekpjfceaaPm14
import Derived.Deep.LoopGhost
import Derived.BigQuiet
import Derived.Deep.CutRange
import Derived.Maps.AppendAt
import Derived.Laws.AppendOwnNone
import Derived.Laws.OwnMore
import Derived.Lib.AppendZerosOnto
import Derived.Lib.SliceRun
import Derived.Lib.Walk
import Derived.WalkKit
import Derived.Laws.BytesArg
import Derived.Lib.SlBytesConst
import Derived.WalkSpells
import Derived.WalkLawsBesides
import Derived.Deep.QuietTactic
import Derived.RegionTactic
import Derived.Deep.AppendLies
import Derived.Deep.RegionLaw
import Derived.Laws.ResultCell
import Derived.Laws.EntriesVeiled
import Derived.Lib.Hide
import Derived.Test.YtbpfmjekpjfceaaRows
import Derived.Laws.BitsAllLaws
import Derived.Deep.RegionHeld3
import Derived.BigRegion
import Derived.RangeFuncNested
import Derived.RangeFuncBound
import Derived.RangeFuncCalls
import Derived.RangeFuncLeaves
import Derived.Shelf.Abstract
import Derived.Shelf.RegionOpen
import Derived.OwnWalkIn
import Derived.TacticsInMore
import Derived.LoopNIn
import Derived.LoopIn
import Derived.StillTailTactics
set_option maxRecDepth 100000
set_option maxHeartbeats 8000000
namespace Go.Proofs.Ytbpfmjekpjfceaa
open Go.RowKit
theorem PkTurn.after {w W w' : World} {g r k E a n c : Nat} {q : Option Addr} {C D C1 D1 : Nat → Prop} {M : Lv} {bs : List Nat} (f : Fr (fun b => C b ∨ b = r) w W) (hC : ∀ b, C1 b → C b ∨ w.heap.size ≤ b) (hD : ∀ b, D1 b → D b ∨ w.heap.size ≤ b)
    (t : PkTurn W w' g r C1 D1 k M E q n c bs a) : PkTurn w w' g r C D k M E q n c bs a := by
  obtain ⟨C', D', s, x, f2, h1, h2⟩ := t
  refine ⟨C', D', s, x, f.trans f2 fun j hj h => ?_, fun b hb => ?_, fun b hb => ?_⟩
  · rcases h with h | h
    · rcases hC j h with h | h
      · exact .inl h
      · omega
    · exact .inr h
  · rcases h1 b hb with h | h
    · exact hC b h
    · exact .inr (Nat.le_trans f.size h)
  · rcases h2 b hb with h | h
    · exact hD b h
    · exact .inr (Nat.le_trans f.size h)
theorem Aparts.later {w W : World} {r : Nat} {q : Option Addr} {bs : List Nat} {C D C1 D1 : Nat → Prop} (ap : Aparts w r q bs C D) (hs : w.heap.size ≤ W.heap.size) (hC : ∀ b, C1 b → C b ∨ w.heap.size ≤ b) (hD : ∀ b, D1 b → D b ∨ w.heap.size ≤ b) : Aparts W r q bs C1 D1 := by
  have hl := ap.lt
  refine ⟨fun h => (hC r h).elim ap.rc fun h => by omega, fun h => (hD r h).elim ap.rd fun h => by omega, by omega, fun hb a ha => ?_⟩
  obtain ⟨h1, h2⟩ := ap.off hb a ha
  exact ⟨fun h => (hC _ h).elim h1 fun h => by omega, by omega⟩
theorem RkS.fr0 {w w' : World} {g k E : Nat} {C D : Nat → Prop} {L : Lv} (s : RkS w g C D k L E) (f : Fr S0 w w') : RkS w' g C D k L E := let ⟨p, n, c, rs, s⟩ := s; ⟨p, n, c, rs, s.fr0 f⟩
section
variable (g r k E a n qn qc : Nat) (v : Int) (q : Option Addr) (C D : Nat → Prop) (L : Lv) (bs : List Nat) (w : World)
theorem radd_zero (c : Value) : Calls Try.prog 39 #[.pointer (some ⟨g, 0, none⟩), .int .i64 v, .int .u64 0, c] w fun e w' => e = .returned (.int .i64 4) ∧ w' = w := by
  go_enter Try.func39, Try.ntmps39
  go_wp2_with fail
  go_ret
  exact ⟨rfl, rfl⟩
theorem radd_cap (s : RkS w g C D k L E) (c : Value) (hH : L.length ≤ 60) (hT : wtL L ≤ 281474976710656) (hn : 281474976710656 - wtL L < n) : Calls Try.prog 39 #[.pointer (some ⟨g, 0, none⟩), .int .i64 v, .int .u64 (n : Nat), c] w fun e w' => e = .returned (.int .i64 6) ∧ w' = w := by
  have HB := Lib.hid (rstotal_any g k E C D L w s hH (by omega))
  obtain ⟨T, hTw⟩ : ∃ T, wtL L = T := ⟨_, rfl⟩
  rw [hTw] at HB hn hT
  obtain ⟨U, hU⟩ : ∃ U, 281474976710656 - T = U := ⟨_, rfl⟩
  rw [hU] at hn
  have iU : (281474976710656 : Int) - (T : Int) = (U : Int) := by omega
  have k0 : ((n : Int) == 0) = false := by rw [beq_eq_false_iff_ne]; omega
  have k1 : decide (U < n) = true := decide_eq_true hn
  have hUb : (U : Int) ≤ 281474976710656 := by omega
  clear s hU hTw hn hT
  go_enter Try.func39, Try.ntmps39
  go_wp2_with fail
  refine HB.out.mono ?_
  rintro e w1 ⟨rfl, rfl⟩
  go_wp2_with fail
  go_ret
  exact ⟨rfl, rfl⟩
theorem radd_yes (s : RkS w g C D k L E) (x : RcIs w r q qn qc bs a) (ap : Aparts w r q bs C D) (hk : 8 ≤ k) (hk2 : k ≤ 4096) (hF : Fine L E) (hkp : kept L ≤ 900000) (hqn : qn ≤ 100000) (ha : a ≤ 8 * qn) (h0 : 0 < n) (hn : n ≤ 281474976710656 - wtL L) :
    Calls Try.prog 39 #[.pointer (some ⟨g, 0, none⟩), .int .i64 v, .int .u64 (n : Nat), .pointer (some ⟨r, 0, none⟩)] w fun e w' => e = .returned (.int .i64 0) ∧
      PkTurn w w' g r C D k (pack k bs (addN L v n) E a).1 (pack k bs (addN L v n) E a).2.1 q qn qc bs (pack k bs (addN L v n) E a).2.2 := by
  have hwt := hF.wt
  have hH := top_len hF.top hwt
  have HB := Lib.hid (rstotal_any g k E C D L w s (by omega) (by omega))
  obtain ⟨T, hTw⟩ : ∃ T, wtL L = T := ⟨_, rfl⟩
  have HFN := Lib.hid (fine_addN hF v n hn hkp)
  rw [hTw] at HB hn hwt
  obtain ⟨U, hU⟩ : ∃ U, 281474976710656 - T = U := ⟨_, rfl⟩
  rw [hU] at hn
  have iU : (281474976710656 : Int) - (T : Int) = (U : Int) := by omega
  have k0 : ((n : Int) == 0) = false := by rw [beq_eq_false_iff_ne]; omega
  have k1 : decide (U < n) = false := decide_eq_false (by omega)
  have hUb : (U : Int) ≤ 281474976710656 := by omega
  have hnb : n ≤ 281474976710656 := by omega
  have HT0 := Lib.hid (RkTurn.same s (Fr.refl S0 w))
  have HX := Lib.hid x
  have HAP := Lib.hid ap
  have HF := Lib.hid hF
  have HKP := Lib.hid (And.intro hkp (And.intro hk (And.intro hk2 (And.intro hqn ha))))
  have HNB := Lib.hid hnb
  clear s x ap hF hkp hk hk2 hqn ha hU hTw hn hwt hH h0
  go_enter Try.func39, Try.ntmps39
  go_wp2_with fail
  refine HB.out.mono ?_
  rintro e w1 ⟨rfl, rfl⟩
  clear HB
  go_wp2_with fail
  go_loopw [9, 10] (fun z y wr => ∃ h m : Nat, z = .int .i64 (h : Nat) ∧ y = .int .u64 (m : Nat) ∧ h ≤ 49 ∧ Hid (n / 2 ^ h = m) ∧ m ≤ 281474976710656 ∧ Hid (RkTurn w1 wr g C D k (addB L v n h) E)) (fun _ y _ => (intOf y).toNat)
  case atStart => exact ⟨0, n, rfl, rfl, by omega, Lib.hid (by simp), hnb, HT0⟩
  case round =>
    obtain ⟨h, m, rfl, rfl, hh, hm, hmb, ht⟩ := hrel
    by_cases hpos : 0 < m
    · have kp : decide (0 < m) = true := decide_eq_true hpos
      have hh48 : h ≤ 48 := by
        rcases (by omega : h ≤ 48 ∨ h = 49) with h1 | rfl
        · exact h1
        · have h2 := hm.out
          have h3 := HNB.out
          rw [Nat.div_eq_of_lt (Nat.lt_of_le_of_lt h3 (by decide))] at h2
          omega
      obtain ⟨m2, hm2⟩ : ∃ m2, m / 2 = m2 := ⟨_, rfl⟩
      have im2 : (m : Int) / 2 = (m2 : Int) := by omega
      have im3 : (m : Int).tdiv 2 = (m2 : Int) := by rw [Int.tdiv_eq_ediv_of_nonneg (by omega)]; exact im2
      have HM2 : Hid (n / 2 ^ (h + 1) = m2) := Lib.hid (by rw [Nat.pow_succ, ← Nat.div_div_eq_div_mul, hm.out, hm2])
      have hlt2 : m2 < m := by omega
      have hm2b : m2 ≤ 281474976710656 := by omega
      have hmi : (m : Int) ≤ 281474976710656 := by omega
      have hh0 : (0 : Int) ≤ (h : Int) := by omega
      rcases (by omega : m % 2 = 0 ∨ m % 2 = 1) with hp | hp
      · have ip : (m : Int) % 2 = 0 := by omega
        have ip2 : (m : Int).tmod 2 = 0 := by rw [Int.tmod_eq_emod_of_nonneg (by omega)]; exact ip
        have HN : Hid (addB L v n (h + 1) = addB L v n h) := Lib.hid (by rw [addB, hm.out, if_neg (by omega)])
        clear hp hm hm2
        go_wp2_with fail
        go_roundw
        case rel => exact ⟨h + 1, m2, by go_num, by go_num, by omega, HM2, hm2b, by rw [HN.out]; exact ht⟩
        case measure => simp [intOf]; omega
      · have ip : (m : Int) % 2 = 1 := by omega
        have ip2 : (m : Int).tmod 2 = 1 := by rw [Int.tmod_eq_emod_of_nonneg (by omega)]; exact ip
        have HN : Hid (addB L v n (h + 1) = putL (addB L v n h) h v) := Lib.hid (by rw [addB, hm.out, if_pos hp])
        obtain ⟨C1, D1, s1, f1, hC, hD⟩ := ht.out
        have hkb := addB_kept L v n h
        have hkl := HKP.out.1
        have HP := Lib.hid (rput_any g k E h C1 D1 (addB L v n h) v wr s1 (by omega) fun l hl => by have := len_kept _ l hl; omega)
        have HFR := Lib.hid (And.intro f1 (And.intro hC hD))
        clear hp hm hm2 ht s1 f1 hC hD hkb hkl
        go_wp2_with fail
        refine HP.out.mono ?_
        rintro e w3 ⟨rfl, t3⟩
        have HT3 := Lib.hid (RkTurn.after HFR.out.1 HFR.out.2.1 HFR.out.2.2 t3)
        clear t3 HP HFR
        go_wp2_with fail
        go_roundw
        case rel => exact ⟨h + 1, m2, by go_num, by go_num, by omega, HM2, hm2b, by rw [HN.out]; exact HT3⟩
        case measure => simp [intOf]; omega
    · obtain rfl : m = 0 := by omega
      have kp : decide ((0 : Int) < 0) = false := by decide
      have HAN : Hid (addB L v n h = addN L v n) := Lib.hid (by
        unfold addN
        obtain ⟨d, hd⟩ : ∃ d, 49 = h + d := ⟨49 - h, by omega⟩
        rw [hd, addB_same L v n h hm.out d])
      obtain ⟨C1, D1, s1, f1, hC, hD⟩ := ht.out
      rw [HAN.out] at s1
      have x1 : RcIs wr r q qn qc bs a := HX.out.fr f1 HAP.out.rc fun hb y hy => (HAP.out.off hb y hy).1
      have ap1 : Aparts wr r q bs C1 D1 := HAP.out.later f1.size hC hD
      have HPK := Lib.hid (rpack_any g r k E a qn qc C1 D1 (addN L v n) q bs wr s1 x1 ap1 HKP.out.2.1 HKP.out.2.2.1 HFN.out.top HFN.out.wt HFN.out.kept HKP.out.2.2.2.1 HKP.out.2.2.2.2 HFN.out.led)
      have HFR := Lib.hid (And.intro (f1.mono fun _ _ h => .inl h : Fr (fun b => C b ∨ b = r) w1 wr) (And.intro hC hD))
      clear s1 f1 hC hD x1 ap1 ht hm hpos
      go_wp2_with fail
      refine HPK.out.mono ?_
      rintro e w5 ⟨rfl, t5⟩
      have HT5 := Lib.hid (PkTurn.after HFR.out.1 HFR.out.2.1 HFR.out.2.2 t5)
      clear t5 HPK HFR
      go_wp2_with fail
      go_ret
      exact ⟨rfl, HT5.out⟩
end
end Go.Proofs.Ytbpfmjekpjfceaa
