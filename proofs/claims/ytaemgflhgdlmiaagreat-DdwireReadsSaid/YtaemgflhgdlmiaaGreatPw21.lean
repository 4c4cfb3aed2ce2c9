/- ScKey, ScTell -/
import Derived.Test.YtaemgflhgdlmiaaGreatPw1
import Derived.Test.YtaemgflhgdlmiaaGreatPw2
import Derived.Test.YtaemgflhgdlmiaaGreatPw4
import Derived.Test.YtaemgflhgdlmiaaGreatPw5
import Derived.Test.YtaemgflhgdlmiaaGreatPw6
import Derived.Test.YtaemgflhgdlmiaaGreatPw7
import Derived.Test.YtaemgflhgdlmiaaGreatPw8
import Derived.Test.YtaemgflhgdlmiaaGreatPw9
import Derived.Test.YtaemgflhgdlmiaaGreatPw10
import Derived.Test.YtaemgflhgdlmiaaGreatPw11
import Derived.Test.YtaemgflhgdlmiaaGreatPw12
import Derived.Test.YtaemgflhgdlmiaaGreatPw13
import Derived.Test.YtaemgflhgdlmiaaGreatPw14
import Derived.Test.YtaemgflhgdlmiaaGreatPw15
import Derived.Test.YtaemgflhgdlmiaaGreatPw16
import Derived.Test.YtaemgflhgdlmiaaGreatPw17
import Derived.Test.YtaemgflhgdlmiaaGreatPw18
import Derived.Test.YtaemgflhgdlmiaaGreatPw19
import Derived.Test.YtaemgflhgdlmiaaGreatPw20
import Derived.WalkKit
import Derived.WalkSpells
import Derived.WalkLawsBesides
import Derived.Deep.QuietTactic
import Derived.BigQuiet
import Derived.RegionTactic
import Derived.Deep.AppendLies
import Derived.Deep.RegionLaw
import Derived.Laws.ResultCell
import Derived.Laws.EntriesVeiled
import Derived.Lib.Hide
import Derived.Test.YtaemgflhgdlmiaaGreatRows
import Derived.Deep.RegionHeld3
import Derived.Maps.AppendAt
import Derived.Lib.SliceRun
import Derived.StillTailTactics
import Derived.BigRegion
import Derived.Laws.BytesArg
import Derived.Lib.SlBytesConst
import Derived.Laws.AppendOwnNone
import Derived.Laws.Externs
import Derived.Shelf.Spec.BitsCarry
import Derived.Deep.CutBlock
import Derived.Deep.CutRange
import Derived.Deep.DeepCutAuto
import Derived.Lib.BitFns
import Derived.Shelf.Small.Bits
import Derived.Shelf.Strconv.Itoa0
import Derived.Shelf.Bits.Mul64
import Derived.Lib.AppendZeros
import Derived.Laws.CopyOwn
import Derived.Lib.Overlaps
import Derived.Lib.AppendZerosOnto
import Derived.Laws.OwnMore
set_option maxRecDepth 100000
set_option maxHeartbeats 8000000
namespace Go.Proofs.YtaemgflhgdlmiaaGreat
open Go.RowKit
theorem has_seek : Has 102 := fun _ _ => by kernel_rfl
section
variable (g a c : Nat) (p : Option Addr) (w : World)
theorem sclen_any (s : ScIs w g a p c) : Calls Tryz.prog 116 #[.pointer (some ⟨g, 0, none⟩)] w fun e w' => e = .returned (.int .i64 (sN a : Nat)) ∧ w = w' := by
  have c1 := s.cs
  have hN := sN_le s.a1 s.a2
  obtain ⟨N, eN⟩ : ∃ N, sN a = N := ⟨_, rfl⟩
  rw [eN] at c1 hN ⊢
  clear s eN
  go_enter Tryz.func116, Tryz.ntmps116
  go_wp2_with fail
  go_ret
  exact ⟨rfl, rfl⟩
theorem scacc_any (s : ScIs w g a p c) : Calls Tryz.prog 41 #[.pointer (some ⟨g, 0, none⟩)] w fun e w' => e = .returned (.int .i64 (a : Nat)) ∧ w = w' := by
  have c1 := s.ca
  clear s
  go_enter Tryz.func41, Tryz.ntmps41
  go_wp2_with fail
  go_ret
  exact ⟨rfl, rfl⟩
def sto : Nat → Nat → Nat
  | _, 0 => 0
  | a, i + 1 => shi a (slo a i)
theorem sto_get (a n i : Nat) (h : i < (spns a n).length) : ((spns a n)[i]).2.2 = sto a i := by
  cases i with
  | zero => rfl
  | succ i => rw [spns_get a n i h]; rfl
theorem sto_le (a i : Nat) : sto a i ≤ 9223372036854775807 := by
  cases i with
  | zero => exact Nat.zero_le _
  | succ i => exact shi_le a _
def sk (a v : Nat) : Nat := if v = 0 then 0 else skey a v + 1
theorem seek1_any (v i bv bs : Nat) (s : ScIs w g a p c) (hv : w.cell? ⟨bv, 0, none⟩ = some (.int .u64 (v : Nat))) (hs : w.cell? ⟨bs, 0, none⟩ = some (.pointer (some ⟨g, 0, none⟩))) (hi : i < sN a + 1) :
    Calls Tryz.prog 102 #[.int .i64 (i : Nat), .pointer (some ⟨bv, 0, none⟩), .pointer (some ⟨bs, 0, none⟩)] w fun e w' => e = .returned (.bool (decide (v ≤ sto a i))) ∧ Fr S0 w w' := by
  have c1 := s.cs
  have hil : i < (spns a (sN a)).length := by rw [spns_len]; exact hi
  obtain ⟨b, o, hp, -, -, d2⟩ := s.row.at i hil
  rw [sto_get a _ i hil] at d2
  obtain ⟨N, eN⟩ : ∃ N, sN a = N := ⟨_, rfl⟩
  have hN := sN_le s.a1 s.a2
  rw [eN] at c1 hi hN
  obtain ⟨T, eT⟩ : ∃ T, sto a i = T := ⟨_, rfl⟩
  rw [eT] at d2 ⊢
  have hin : (i : Int) < (N : Int) + 1 := by omega
  have hT : T ≤ 9223372036854775807 := by rw [← eT]; exact sto_le a i
  subst hp
  clear s hil eN eT hi
  obtain ⟨q, hq⟩ : ∃ q, decide (v ≤ T) = q := ⟨_, rfl⟩
  have hq2 : decide ((v : Int) ≤ (T : Int)) = q := by rw [← hq]; congr 1; exact propext (by omega)
  rw [hq]
  go_enter Tryz.func102, Tryz.ntmps102
  go_wp2_with fail
  go_quiet (fail)
  go_wp2_with fail
  go_ret
  exact ⟨rfl, Fr.drewN _ _ _⟩
theorem seek_any (v : Nat) (s : ScIs w g a p c) (hv : v ≤ 9223372036854775807) :
    Calls Tryz.prog 78 #[.pointer (some ⟨g, 0, none⟩), .int .u64 (v : Nat)] w fun e w' => e = .returned (.int .i64 (sk a v : Nat)) ∧ Fr S0 w w' := by
  have c1 := s.cs
  have hN := sN_le s.a1 s.a2
  have hfin : ∀ i : Nat, i ≤ sN a + 1 → (∀ j, j < i → decide (v ≤ sto a j) = false) → (∀ j, i ≤ j → j < sN a + 1 → decide (v ≤ sto a j) = true) → i = sk a v := by
    intro i hi h1 h2
    unfold sk
    by_cases h0 : v = 0
    · rw [if_pos h0]
      rcases Nat.eq_zero_or_pos i with h | h
      · exact h
      · have := h1 0 h
        simp [h0] at this
    · rw [if_neg h0]
      rcases Nat.eq_zero_or_pos i with h | h
      · have := h2 0 (by omega) (by omega)
        simp [sto] at this
        omega
      · obtain ⟨k, rfl⟩ : ∃ k, i = k + 1 := ⟨i - 1, by omega⟩
        have hb : ∀ j, j < k → shi a (slo a j) < v := fun j hj => by
          have := of_decide_eq_false (h1 (j + 1) (by omega))
          rw [sto] at this
          omega
        have hk : k < sN a := by
          rcases Nat.lt_or_ge k (sN a) with h3 | h3
          · exact h3
          · have e1 := sN_last s.a1 s.a2
            have e2 := hb (sN a - 1) (by have := sN_pos a; omega)
            omega
        have hk2 := of_decide_eq_true (h2 (k + 1) (Nat.le_refl _) (by omega))
        rw [sto] at hk2
        rw [skey_is s.a1 s.a2 hv hb hk2]
  have F0 : Hid (Fr S0 w ((w.alloc (.cells #[.pointer (some ⟨g, 0, none⟩)] 106)).alloc (.cells #[.int .u64 (v : Nat)] 51))) := Lib.hid ((Fr.alloc S0 _ _).trans0 (Fr.alloc S0 _ _))
  have hb1 := (Fr.alloc S0 (w.alloc (.cells #[.pointer (some ⟨g, 0, none⟩)] 106)) (.cells #[.int .u64 (v : Nat)] 51)).row (heap_alloc_new w (.cells #[.pointer (some ⟨g, 0, none⟩)] 106)) (fun h => h)
  have hb2 := heap_alloc_new (w.alloc (.cells #[.pointer (some ⟨g, 0, none⟩)] 106)) (.cells #[.int .u64 (v : Nat)] 51)
  rw [size_alloc] at hb2
  have e1 := cell_row hb1
  have e2 := cell_row hb2
  have e3 := F0.out.cell c1 (fun h => h)
  have HS := Lib.hid (search_any 102 (.pointer (some ⟨w.heap.size + 1, 0, none⟩)) (.pointer (some ⟨w.heap.size, 0, none⟩)) (fun h => decide (v ≤ sto a h)) (sN a + 1) ((w.alloc (.cells #[.pointer (some ⟨g, 0, none⟩)] 106)).alloc (.cells #[.int .u64 (v : Nat)] 51)) has_seek (by omega)
    (fun i j hij hj h => by
      refine decide_eq_true (Nat.le_trans (of_decide_eq_true h) ?_)
      cases i with
      | zero => exact Nat.zero_le _
      | succ i =>
        obtain ⟨k, rfl⟩ : ∃ k, j = k + 1 := ⟨j - 1, by omega⟩
        exact shi_mono s.a2 (by omega))
    (fun i hi W f => seek1_any g a c p W v i _ _ ((s.fr0 F0.out).fr0 f) (f.cell e2 (fun h => h)) (f.cell e1 (fun h => h)) hi))
  have HFIN := Lib.hid hfin
  obtain ⟨N, eN⟩ : ∃ N, sN a = N := ⟨_, rfl⟩
  rw [eN] at c1 e3 hN HS HFIN
  clear s hfin hb1 hb2 eN hv c1
  go_enter Tryz.func78, Tryz.ntmps78
  go_wp2_with fail
  refine HS.out.mono ?_
  rintro e w1 ⟨i, rfl, hi, h1, h2, f1⟩
  have HE := HFIN.out i hi h1 h2
  have F1 := Lib.hid (F0.out.trans0 f1)
  clear HS HFIN h1 h2 f1 e1 e2 e3
  go_wp2_with fail
  go_ret
  exact ⟨rfl, F1.out⟩
theorem skeyI_neg {a v : Nat} (h : 0 < v) : skeyI a (- (v : Int)) = - (sk a v : Int) := by
  unfold skeyI sk
  rw [if_neg (by omega), if_pos (by omega), if_neg (by omega)]
  simp
theorem skeyI_pos {a v : Nat} : skeyI a (v : Int) = (sk a v : Int) := by
  unfold skeyI sk
  by_cases h : v = 0
  · subst h
    rfl
  · rw [if_neg (by omega), if_neg (by omega), if_neg h]
    simp
def keyT (a : Nat) (v : Int) : Value := if v = -9223372036854775808 then .tuple #[.int .i64 0, .int .i64 5] else .tuple #[.int .i64 (skeyI a v), .int .i64 0]
theorem sckey_any (v : Int) (s : ScIs w g a p c) (h1 : -9223372036854775808 ≤ v) (h2 : v ≤ 9223372036854775807) :
    Calls Tryz.prog 50 #[.pointer (some ⟨g, 0, none⟩), .int .i64 v] w fun e w' => e = .returned (keyT a v) ∧ Fr S0 w w' := by
  unfold keyT
  by_cases h0 : v = -9223372036854775808
  · rw [if_pos h0]
    subst h0
    clear s h1 h2
    go_enter Tryz.func50, Tryz.ntmps50
    go_wp2_with fail
    go_ret2
    exact ⟨rfl, Fr.refl _ _⟩
  · rw [if_neg h0]
    by_cases hn : v < 0
    · obtain ⟨m, rfl⟩ : ∃ m : Nat, v = - (m : Int) := ⟨v.natAbs, by omega⟩
      have HK := Lib.hid (seek_any g a c p w m s (by omega))
      rw [skeyI_neg (by omega)]
      have hd1 : ((- (m : Int)) == -9223372036854775808) = false := by rw [beq_eq_false_iff_ne]; exact h0
      have hm : (m : Int) ≤ 9223372036854775807 := by omega
      have hsk : sk a m ≤ 4411 := by
        have h3 := skey_lt (m := m) s.a1 s.a2 (by omega)
        have h4 := sN_le s.a1 s.a2
        unfold sk
        split <;> omega
      obtain ⟨K, eK⟩ : ∃ K, sk a m = K := ⟨_, rfl⟩
      rw [eK] at HK hsk ⊢
      have hKb : (K : Int) ≤ 4411 := by omega
      clear s h1 h2 h0 eK hsk
      go_enter Tryz.func50, Tryz.ntmps50
      go_wp2_with fail
      refine HK.out.mono ?_
      rintro e w1 ⟨rfl, f1⟩
      have F1 := Lib.hid f1
      clear f1 HK
      go_wp2_with fail
      go_ret2
      exact ⟨rfl, F1.out⟩
    · obtain ⟨m, rfl⟩ : ∃ m : Nat, v = (m : Int) := ⟨v.toNat, by omega⟩
      have HK := Lib.hid (seek_any g a c p w m s (by omega))
      rw [skeyI_pos]
      have hd1 : ((m : Int) == -9223372036854775808) = false := by rw [beq_eq_false_iff_ne]; omega
      have hm : (m : Int) ≤ 9223372036854775807 := by omega
      obtain ⟨K, eK⟩ : ∃ K, sk a m = K := ⟨_, rfl⟩
      rw [eK] at HK ⊢
      clear s h1 h2 h0 eK hn
      go_enter Tryz.func50, Tryz.ntmps50
      go_wp2_with fail
      refine HK.out.mono ?_
      rintro e w1 ⟨rfl, f1⟩
      have F1 := Lib.hid f1
      clear f1 HK
      go_wp2_with fail
      go_ret2
      exact ⟨rfl, F1.out⟩
end
end Go.Proofs.YtaemgflhgdlmiaaGreat

namespace Go.Proofs.YtaemgflhgdlmiaaGreat
open Go.RowKit
theorem has_begin : Has 94 := fun _ _ => by kernel_rfl
theorem has_end : Has 95 := fun _ _ => by kernel_rfl
theorem begin_any (x y z : Nat) (w : World) (h : x ≤ 9223372036854775807) : Calls Tryz.prog 94 #[.agg #[.int .u64 (x : Nat), .int .u64 (y : Nat), .int .u64 (z : Nat)]] w fun e w' => e = .returned (.int .i64 (x : Nat)) ∧ Fr S0 w w' := by
  have hx : (x : Int) ≤ 9223372036854775807 := by omega
  have F1 := Lib.hid (Fr.alloc S0 w (.cells #[.int .u64 (x : Nat), .int .u64 (y : Nat), .int .u64 (z : Nat)] 137))
  obtain ⟨q0, q1, q2⟩ := cell_tri (heap_alloc_new w (.cells #[.int .u64 (x : Nat), .int .u64 (y : Nat), .int .u64 (z : Nat)] 137))
  go_enter Tryz.func94, Tryz.ntmps94
  go_wp2_with fail
  go_ret
  exact ⟨rfl, F1.out⟩
theorem end_any (x y z : Nat) (w : World) (h : z ≤ 9223372036854775807) : Calls Tryz.prog 95 #[.agg #[.int .u64 (x : Nat), .int .u64 (y : Nat), .int .u64 (z : Nat)]] w fun e w' => e = .returned (.int .i64 (z : Nat)) ∧ Fr S0 w w' := by
  have hx : (z : Int) ≤ 9223372036854775807 := by omega
  have F1 := Lib.hid (Fr.alloc S0 w (.cells #[.int .u64 (x : Nat), .int .u64 (y : Nat), .int .u64 (z : Nat)] 137))
  obtain ⟨q0, q1, q2⟩ := cell_tri (heap_alloc_new w (.cells #[.int .u64 (x : Nat), .int .u64 (y : Nat), .int .u64 (z : Nat)] 137))
  go_enter Tryz.func95, Tryz.ntmps95
  go_wp2_with fail
  go_ret
  exact ⟨rfl, F1.out⟩
def TellsF (B : Nat) (fB : Tr → Nat) : Prop := Has B ∧ ∀ (x y z : Nat) (W : World), x ≤ 9223372036854775807 → z ≤ 9223372036854775807 → Calls Tryz.prog B #[.agg #[.int .u64 (x : Nat), .int .u64 (y : Nat), .int .u64 (z : Nat)]] W fun e w' => e = .returned (.int .i64 (fB (x, y, z) : Nat)) ∧ Fr S0 W w'
theorem tells_begin : TellsF 94 (·.1) := ⟨has_begin, fun x y z W h _ => begin_any x y z W h⟩
theorem tells_end : TellsF 95 (·.2.2) := ⟨has_end, fun x y z W _ h => end_any x y z W h⟩
def rn (a : Nat) : Nat → Tr
  | 0 => (0, 0, 0)
  | i + 1 => rng a i
theorem spns_rn (a n i : Nat) (h : i < (spns a n).length) : (spns a n)[i] = rn a i := by
  cases i with
  | zero => rfl
  | succ i => exact spns_get a n i h
section
variable (g a c : Nat) (p : Option Addr) (w : World) (B C : Nat) (fB fC : Tr → Nat)
def telv (a : Nat) (fB fC : Tr → Nat) (k : Int) : Int := if k < 0 then - (fC (rn a k.natAbs) : Int) else (fB (rn a k.natAbs) : Int)
theorem tell_any (k : Int) (s : ScIs w g a p c) (hB : TellsF B fB) (hC : TellsF C fC) (h1 : - (sN a : Int) ≤ k) (h2 : k ≤ (sN a : Int)) (hbd : ∀ i, i ≤ sN a → fC (rn a i) ≤ 9223372036854775807) :
    Calls Tryz.prog 93 #[.pointer (some ⟨g, 0, none⟩), .int .i64 k, .func (.func B) #[] #[], .func (.func C) #[] #[]] w fun e w' => e = .returned (.tuple #[.int .i64 (telv a fB fC k), .int .i64 0]) ∧ Fr S0 w w' := by
  have c1 := s.cs
  have HL := Lib.hid (sclen_any g a c p w s)
  have hN := sN_le s.a1 s.a2
  obtain ⟨m, hm⟩ : ∃ m, k.natAbs = m := ⟨_, rfl⟩
  have hml : m < (spns a (sN a)).length := by rw [spns_len]; omega
  obtain ⟨b, o, hp, d0, d1, d2⟩ := s.row.at m hml
  rw [spns_rn a _ m hml] at d0 d1 d2
  have hx : (rn a m).1 ≤ 9223372036854775807 ∧ (rn a m).2.2 ≤ 9223372036854775807 := by
    cases m with
    | zero => exact ⟨Nat.zero_le _, Nat.zero_le _⟩
    | succ i => exact ⟨slo_in (by omega), shi_le _ _⟩
  have HBB := Lib.hid (fun W => hB.2 (rn a m).1 (rn a m).2.1 (rn a m).2.2 W hx.1 hx.2)
  have HCC := Lib.hid (fun W => hC.2 (rn a m).1 (rn a m).2.1 (rn a m).2.2 W hx.1 hx.2)
  have hbB := hB.1
  have hbC := hC.1
  have hbm := hbd m (by omega)
  unfold telv
  rw [hm]
  obtain ⟨⟨X, Y, Z⟩, hr⟩ : ∃ t, rn a m = t := ⟨_, rfl⟩
  rw [hr] at d0 d1 d2 HBB HCC hbm ⊢
  simp only at d0 d1 d2 HBB HCC
  obtain ⟨VB, hVB⟩ : ∃ V, fB (X, Y, Z) = V := ⟨_, rfl⟩
  obtain ⟨VC, hVC⟩ : ∃ V, fC (X, Y, Z) = V := ⟨_, rfl⟩
  rw [hVB] at HBB ⊢
  rw [hVC] at HCC hbm ⊢
  have hvc : (VC : Int) ≤ 9223372036854775807 := by omega
  have hcB := hbB #[.agg #[.int .u64 (X : Nat), .int .u64 (Y : Nat), .int .u64 (Z : Nat)]] w
  have hcC := hbC #[.agg #[.int .u64 (X : Nat), .int .u64 (Y : Nat), .int .u64 (Z : Nat)]] w
  obtain ⟨N, eN⟩ : ∃ N, sN a = N := ⟨_, rfl⟩
  rw [eN] at c1 hN HL h1 h2
  have hmN : (m : Int) < (N : Int) + 1 := by omega
  have d5 : decide ((N : Int) < k) = false := decide_eq_false (by omega)
  have d6 : decide (k < - (N : Int)) = false := decide_eq_false (by omega)
  have hNb : (N : Int) ≤ 4410 := by omega
  subst hp
  by_cases hk : k < 0
  · rw [if_pos hk]
    obtain rfl : k = - (m : Int) := by omega
    have d7 : decide (- (m : Int) < 0) = true := decide_eq_true hk
    clear s hB hC hml hx hr hVB hVC eN hbB hbC hm hbd h1 h2 hbm HBB hcB hN
    go_enter Tryz.func93, Tryz.ntmps93
    go_wp2_with fail
    refine HL.out.mono ?_
    rintro e w1 ⟨rfl, rfl⟩
    go_wp2_with fail
    refine HL.out.mono ?_
    rintro e w1 ⟨rfl, rfl⟩
    go_wp2_with fail
    refine (HCC.out _).mono ?_
    rintro e w1 ⟨rfl, f1⟩
    have F1 := Lib.hid f1
    clear f1
    go_wp2_with fail
    go_ret2
    exact ⟨rfl, F1.out⟩
  · rw [if_neg hk]
    obtain rfl : k = (m : Int) := by omega
    clear s hB hC hml hx hr hVB hVC eN hbB hbC hm hbd h1 h2 hbm HCC hcC hN hvc hk
    go_enter Tryz.func93, Tryz.ntmps93
    go_wp2_with fail
    refine HL.out.mono ?_
    rintro e w1 ⟨rfl, rfl⟩
    go_wp2_with fail
    refine HL.out.mono ?_
    rintro e w1 ⟨rfl, rfl⟩
    go_wp2_with fail
    refine (HBB.out _).mono ?_
    rintro e w1 ⟨rfl, f1⟩
    have F1 := Lib.hid f1
    clear f1
    go_wp2_with fail
    go_ret2
    exact ⟨rfl, F1.out⟩
theorem rn_bd {a i : Nat} (h : i ≤ sN a) : (rn a i).1 ≤ 9223372036854775807 ∧ (rn a i).2.2 ≤ 9223372036854775807 := by
  cases i with
  | zero => exact ⟨Nat.zero_le _, Nat.zero_le _⟩
  | succ i => exact ⟨slo_in (by omega), shi_le _ _⟩
theorem telv_low (a : Nat) (k : Int) : telv a (·.1) (·.2.2) k = rlow a k := by
  unfold telv rlow
  by_cases h0 : k = 0
  · subst h0
    rfl
  · rw [if_neg h0]
    obtain ⟨m, hm⟩ : ∃ m, k.natAbs = m + 1 := ⟨k.natAbs - 1, by omega⟩
    rw [hm]
    rfl
theorem telv_high (a : Nat) (k : Int) : telv a (·.2.2) (·.1) k = rhigh a k := by
  unfold telv rhigh
  by_cases h0 : k = 0
  · subst h0
    rfl
  · rw [if_neg h0]
    obtain ⟨m, hm⟩ : ∃ m, k.natAbs = m + 1 := ⟨k.natAbs - 1, by omega⟩
    rw [hm]
    rfl
theorem sclow_any (k : Int) (s : ScIs w g a p c) (h1 : - (sN a : Int) ≤ k) (h2 : k ≤ (sN a : Int)) : Calls Tryz.prog 69 #[.pointer (some ⟨g, 0, none⟩), .int .i64 k] w fun e w' => e = .returned (.tuple #[.int .i64 (rlow a k), .int .i64 0]) ∧ Fr S0 w w' := by
  have H := Lib.hid (tell_any g a c p w _ _ _ _ k s tells_begin tells_end h1 h2 fun i hi => (rn_bd hi).2)
  rw [telv_low] at H
  clear s h1 h2
  go_enter Tryz.func69, Tryz.ntmps69
  go_wp2_with fail
  refine H.out.mono ?_
  rintro e w1 ⟨rfl, f1⟩
  have F1 := Lib.hid f1
  clear f1
  go_wp2_with fail
  go_ret2
  exact ⟨rfl, F1.out⟩
theorem schigh_any (k : Int) (s : ScIs w g a p c) (h1 : - (sN a : Int) ≤ k) (h2 : k ≤ (sN a : Int)) : Calls Tryz.prog 70 #[.pointer (some ⟨g, 0, none⟩), .int .i64 k] w fun e w' => e = .returned (.tuple #[.int .i64 (rhigh a k), .int .i64 0]) ∧ Fr S0 w w' := by
  have H := Lib.hid (tell_any g a c p w _ _ _ _ k s tells_end tells_begin h1 h2 fun i hi => (rn_bd hi).1)
  rw [telv_high] at H
  clear s h1 h2
  go_enter Tryz.func70, Tryz.ntmps70
  go_wp2_with fail
  refine H.out.mono ?_
  rintro e w1 ⟨rfl, f1⟩
  have F1 := Lib.hid f1
  clear f1
  go_wp2_with fail
  go_ret2
  exact ⟨rfl, F1.out⟩
end
theorem scnew_no (a : Int) (w : World) (h : a < 100 ∨ 5000 < a) : Calls Tryz.prog 48 #[.int .i64 a] w fun e w' => e = .returned (.tuple #[.pointer none, .int .i64 1]) ∧ Fr S0 w w' := by
  by_cases h1 : a < 100
  · go_enter Tryz.func48, Tryz.ntmps48
    go_wp2_with fail
    go_ret2
    exact ⟨rfl, Fr.refl _ _⟩
  · have h2 : 5000 < a := by omega
    go_enter Tryz.func48, Tryz.ntmps48
    go_wp2_with fail
    go_ret2
    exact ⟨rfl, Fr.refl _ _⟩
end Go.Proofs.YtaemgflhgdlmiaaGreat
