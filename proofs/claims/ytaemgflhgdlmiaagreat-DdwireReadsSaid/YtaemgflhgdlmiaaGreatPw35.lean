/- ReScale, ReKey -/
import Derived.Test.YtaemgflhgdlmiaaGreatPw1
import Derived.Test.YtaemgflhgdlmiaaGreatPw2
import Derived.Test.YtaemgflhgdlmiaaGreatPw4
import Derived.Test.YtaemgflhgdlmiaaGreatPw5
import Derived.Test.YtaemgflhgdlmiaaGreatPw6
import Derived.Test.YtaemgflhgdlmiaaGreatPw7
import Derived.Test.YtaemgflhgdlmiaaGreatPw8
import Derived.Test.YtaemgflhgdlmiaaGreatPw9
import Derived.Test.YtaemgflhgdlmiaaGreatPw10
import Derived.Test.YtaemgflhgdlmiaaGreatPw11
import Derived.Test.YtaemgflhgdlmiaaGreatPw12
import Derived.Test.YtaemgflhgdlmiaaGreatPw13
import Derived.Test.YtaemgflhgdlmiaaGreatPw14
import Derived.Test.YtaemgflhgdlmiaaGreatPw15
import Derived.Test.YtaemgflhgdlmiaaGreatPw16
import Derived.Test.YtaemgflhgdlmiaaGreatPw17
import Derived.Test.YtaemgflhgdlmiaaGreatPw18
import Derived.Test.YtaemgflhgdlmiaaGreatPw19
import Derived.Test.YtaemgflhgdlmiaaGreatPw20
import Derived.Test.YtaemgflhgdlmiaaGreatPw21
import Derived.Test.YtaemgflhgdlmiaaGreatPw32
import Derived.Test.YtaemgflhgdlmiaaGreatPw33
import Derived.Test.YtaemgflhgdlmiaaGreatPw34
import Derived.WalkKit
import Derived.WalkSpells
import Derived.WalkLawsBesides
import Derived.Deep.QuietTactic
import Derived.BigQuiet
import Derived.RegionTactic
import Derived.Deep.AppendLies
import Derived.Deep.RegionLaw
import Derived.Laws.ResultCell
import Derived.Laws.EntriesVeiled
import Derived.Lib.Hide
import Derived.Test.YtaemgflhgdlmiaaGreatRows
import Derived.Deep.RegionHeld3
import Derived.Maps.AppendAt
import Derived.Lib.SliceRun
import Derived.StillTailTactics
import Derived.BigRegion
import Derived.Laws.BytesArg
import Derived.Lib.SlBytesConst
import Derived.Laws.AppendOwnNone
import Derived.Laws.Externs
import Derived.Shelf.Spec.BitsCarry
import Derived.Deep.CutBlock
import Derived.Deep.CutRange
import Derived.Deep.DeepCutAuto
import Derived.Lib.BitFns
import Derived.Shelf.Small.Bits
import Derived.Shelf.Strconv.Itoa0
import Derived.Shelf.Bits.Mul64
import Derived.Lib.AppendZeros
import Derived.Laws.CopyOwn
import Derived.Lib.Overlaps
import Derived.Lib.AppendZerosOnto
import Derived.Laws.OwnMore
set_option maxRecDepth 100000
set_option maxHeartbeats 8000000
namespace Go.Proofs.YtaemgflhgdlmiaaGreat
open Go.RowKit
theorem szSpanR : (Tryz.prog.info? 87).map (·.size) = some 3 := by kernel_rfl
theorem one3i (a b c : Int) : (#[Value.int .i64 a, .int .i64 b, .int .i64 c]).all (·.oneCell') = true := by simp [Value.oneCell']
theorem info_spanR : (Tryz.prog.info? 87).map (fun i => (i.zero, i.size, i.bytes)) = some (some (.agg #[.int .i64 0, .int .i64 0, .int .i64 0]), 3, 24) := by kernel_rfl
theorem elSpanR : ElemOk Tryz.prog 39 87 (.agg #[.int .i64 0, .int .i64 0, .int .i64 0]) 3 24 := ⟨Tryz.underlying39, info_spanR, rfl, by decide, by decide⟩
theorem rleast_any (n : Nat) (w : World) (hn : n < 18446744073709551616) : Calls Tryz.prog 110 #[.int .u64 (n : Nat), .bool true] w fun e w' => e = .returned (.int .i64 (min n 9223372036854775807 : Nat)) ∧ Fr S0 w w' := by
  by_cases h : 9223372036854775807 < n
  · rw [Nat.min_eq_right (by omega)]
    have d1 : decide ((9223372036854775807 : Int) < (n : Int)) = true := decide_eq_true (by omega)
    clear h hn
    go_enter Tryz.func110, Tryz.ntmps110
    go_wp2_with fail
    go_ret
    exact ⟨rfl, Fr.refl _ _⟩
  · rw [Nat.min_eq_left (by omega)]
    have d1 : decide ((9223372036854775807 : Int) < (n : Int)) = false := decide_eq_false (by omega)
    have hb : (n : Int) ≤ 9223372036854775807 := by omega
    clear h hn
    go_enter Tryz.func110, Tryz.ntmps110
    go_wp2_with fail
    go_ret
    exact ⟨rfl, Fr.refl _ _⟩
theorem rfrom_any (a f : Nat) (w : World) (hf : f ≤ 9223372036854775807) (ha : a ≤ 5000) :
    Calls Tryz.prog 83 #[.int .i64 (a : Nat), .int .i64 (f : Nat)] w fun e w' => e = .returned (.agg #[.int .i64 (f : Nat), .int .i64 (smid a f : Nat), .int .i64 (shi a f : Nat)]) ∧ Fr S0 w w' := by
  have hq1 : f * a / 10000 ≤ f := by
    refine Nat.div_le_of_le_mul ?_
    rw [Nat.mul_comm]
    exact Nat.mul_le_mul_right _ (by omega)
  have hm := smid_le a f
  have hq2 : smid a f * 10000 / (10000 - a) ≤ 2 * smid a f := by
    refine Nat.div_le_of_le_mul ?_
    rw [Nat.mul_comm (smid a f), ← Nat.mul_assoc]
    exact Nat.mul_le_mul_right _ (by omega)
  have H1 : Hid (∀ W, Calls Tryz.prog 109 #[.int .u64 (f : Int), .int .u64 (a : Int), .int .u64 10000] W fun e w' => e = .returned (.tuple #[.int .u64 ((f * a / 10000 : Nat) : Int), .int .u64 ((f * a % 10000 : Nat) : Int), .bool true]) ∧ Fr S0 W w') := Lib.hid (fun W => rmuldiv_yes f a 10000 W (by omega) (by omega) (by omega) (by decide) (by omega))
  have H2 : Hid (∀ W, Calls Tryz.prog 109 #[.int .u64 (smid a f : Nat), .int .u64 10000, .int .u64 ((10000 - a : Nat) : Int)] W fun e w' => e = .returned (.tuple #[.int .u64 ((smid a f * 10000 / (10000 - a) : Nat) : Int), .int .u64 ((smid a f * 10000 % (10000 - a) : Nat) : Int), .bool true]) ∧ Fr S0 W w') := Lib.hid (fun W => rmuldiv_yes (smid a f) 10000 (10000 - a) W (by omega) (by omega) (by omega) (by omega) (by omega))
  have H3 := Lib.hid (fun W => rleast_any (f + f * a / 10000) W (by omega))
  have H4 := Lib.hid (fun W => rleast_any (smid a f * 10000 / (10000 - a)) W (by omega))
  rw [show min (f + f * a / 10000) 9223372036854775807 = smid a f by rw [Nat.mul_comm f a]; rfl] at H3
  rw [show min (smid a f * 10000 / (10000 - a)) 9223372036854775807 = shi a f by rw [Nat.mul_comm (smid a f)]; rfl] at H4
  obtain ⟨Q, hQ⟩ : ∃ Q, f * a / 10000 = Q := ⟨_, rfl⟩
  obtain ⟨R, hR⟩ : ∃ R, f * a % 10000 = R := ⟨_, rfl⟩
  obtain ⟨M, hM⟩ : ∃ M, smid a f = M := ⟨_, rfl⟩
  obtain ⟨T, hT⟩ : ∃ T, shi a f = T := ⟨_, rfl⟩
  obtain ⟨D, hD⟩ : ∃ D, 10000 - a = D := ⟨_, rfl⟩
  rw [hQ, hR] at H1
  rw [hQ, hM] at H3
  rw [hM, hD] at H2
  rw [hM, hD, hT] at H4
  rw [hM, hD] at hq2
  rw [hM] at hm
  rw [hQ] at hq1
  obtain ⟨P, hP⟩ : ∃ P, M * 10000 / D = P := ⟨_, rfl⟩
  obtain ⟨R2, hR2⟩ : ∃ R2, M * 10000 % D = R2 := ⟨_, rfl⟩
  rw [hP] at hq2 H4
  rw [hP, hR2] at H2
  rw [hM, hT]
  obtain ⟨U, hU⟩ : ∃ U, f + Q = U := ⟨_, rfl⟩
  rw [hU] at H3
  have eD : (10000 : Int) - (a : Int) = (D : Int) := by omega
  have eU : (f : Int) + (Q : Int) = (U : Int) := by omega
  have hUm : (U : Int) < 18446744073709551616 := by omega
  have hDb : (D : Int) ≤ 10000 := by omega
  have hMb : (M : Int) ≤ 9223372036854775807 := by omega
  have hfb : (f : Int) ≤ 9223372036854775807 := by omega
  have hab : (a : Int) ≤ 5000 := by omega
  have HRES : Hid (∀ W : World, Fr S0 (w.alloc (.cells #[.int .i64 0, .int .i64 0, .int .i64 0] 87)) W → W.heap[w.heap.size]? = some (.cells #[.int .i64 0, .int .i64 0, .int .i64 0] 87 (0, 0))) := Lib.hid fun W f => f.row (heap_alloc_new w _) fun h => h
  have F0 := Lib.hid (Fr.alloc S0 w (.cells #[.int .i64 0, .int .i64 0, .int .i64 0] 87))
  clear hQ hR hM hT hD hP hR2 hU hq1 hq2 hm ha hf
  go_enter Tryz.func83, Tryz.ntmps83
  go_wp2_with fail
  refine (H1.out _).mono ?_
  rintro e w1 ⟨rfl, f1⟩
  have F1 := Lib.hid f1
  clear f1
  go_wp2_with fail
  refine (H3.out _).mono ?_
  rintro e w2 ⟨rfl, f2⟩
  have F2 := Lib.hid (F1.out.trans0 f2)
  clear f2
  go_wp2_with fail
  refine (H2.out _).mono ?_
  rintro e w3 ⟨rfl, f3⟩
  have F3 := Lib.hid (F2.out.trans0 f3)
  clear f3
  go_wp2_with fail
  refine (H4.out _).mono ?_
  rintro e w4 ⟨rfl, f4⟩
  have F4 := Lib.hid (F3.out.trans0 f4)
  have hb := HRES.out w4 F4.out
  clear f4
  go_wp2_with ((with_reducible show wpList _ _ _ (Oper.mk none (.store _ (.tmp 4) (.tmp 41)) _ _ _ _ :: _) _ _); refine store_at 87 (.tmp 4) (.tmp 41) rfl rfl rfl rfl hb szSpanR rfl (one3i _ _ _) ?_; intro w5 hb5 f5)
  exact bodyPost_ret (v := .agg #[.int .i64 (f : Nat), .int .i64 (M : Nat), .int .i64 (T : Nat)]) (results_cell Tryz.results83 _ _ rfl hb5 Tryz.underlying87 rfl szSpanR) rfl ⟨rfl, (F0.out.trans0 F4.out).trans f5 fun x hx e => by have e2 : x = w.heap.size := e; omega⟩
structure AccR (w wr : World) (v : Value) (N : Nat) (L : List Tr) : Prop where
  own : wr.ownsRow 0 87 3 v N (t3s .i64 L)
  fresh : Fresh w v
  fr : Fr S0 w wr
theorem AccR.app {w wr wa w3 : World} {v : Value} {N : Nat} {L : List Tr} {o : Obj} {g cap x y z : Nat} (h : AccR w wr v N L) (fa : Fr S0 wr wa) (own : w3.ownsRow 0 87 3 (.slice (some ⟨g, 0, none⟩) (N + 1) cap) (N + 1) (t3s .i64 L ++ #[Value.int .i64 (x : Int), Value.int .i64 (y : Int), Value.int .i64 (z : Int)].toList))
    (hg : (wa.alloc o).grownBy w3 v.ownBlock) (hat : v.ownBlock = some g ∨ g = wa.heap.size + 1) : AccR w w3 (.slice (some ⟨g, 0, none⟩) (N + 1) cap) (N + 1) (L ++ [(x, y, z)]) :=
  ⟨by rw [t3s_snoc]; exact own, fresh_app (h.fr.trans0 fa) h.fresh hat, ((h.fr.trans0 fa).trans0 (Fr.alloc S0 wa _)).append hg h.fresh⟩
theorem AccR.fr0 {w wr w2 : World} {v : Value} {N : Nat} {L : List Tr} (h : AccR w wr v N L) (f : Fr S0 wr w2) : AccR w w2 v N L := ⟨f.owns h.own fun _ _ h => h, h.fresh, h.fr.trans0 f⟩
theorem rall_any (a : Nat) (w : World) (h1 : 100 ≤ a) (h2 : a ≤ 5000) : Calls Tryz.prog 53 #[.int .i64 (a : Nat)] w fun e w' => ∃ v, e = .returned v ∧ AccR w w' v (sN a) (rngs a (sN a)) := by
  have H12 := Lib.hid (And.intro h1 h2)
  have hN := sN_le h1 h2
  have hN1 := sN_pos a
  obtain ⟨N, eN⟩ : ∃ N, sN a = N := ⟨_, rfl⟩
  rw [eN] at hN hN1 ⊢
  have EN := Lib.hid eN
  have HFR := Lib.hid (fun f W (hf : f ≤ 9223372036854775807) => rfrom_any a f W hf h2)
  clear h1 h2 eN
  go_enter Tryz.func53, Tryz.ntmps53
  go_wp2_with fail
  go_loopw [3, 4] (fun v d wr => ∃ (i F : Nat), i < N ∧ d = .int .i64 F ∧ Hid (slo a i = F) ∧ Hid (AccR w wr v i (rngs a i))) (fun _ d _ => 9223372036854775808 - (intOf d).toNat)
  case atStart => exact ⟨0, 1, by omega, rfl, Lib.hid rfl, Lib.hid ⟨World.ownsRow_nil _ _ _ _, fresh_nil _ _, Fr.refl _ _⟩⟩
  case round =>
    obtain ⟨i, F, hi, rfl, hF, hacc⟩ := hrel
    obtain ⟨pv, cv, rfl⟩ := slFormN hacc.out.own
    have hFt : F ≤ 9223372036854775807 := by rw [← hF.out]; exact slo_in (by rw [EN.out]; exact hi)
    have hi5 : (i : Int) < 5000 := by omega
    have HC := Lib.hid (fun W => HFR.out F W hFt)
    have hge := shi_ge H12.out.2 hFt
    have hle := shi_le a F
    obtain ⟨M, hM⟩ : ∃ M, smid a F = M := ⟨_, rfl⟩
    obtain ⟨T, hT⟩ : ∃ T, shi a F = T := ⟨_, rfl⟩
    rw [hM, hT] at HC
    rw [hT] at hge hle
    have HTT : Hid (T + 1 = slo a (i + 1)) := Lib.hid (by rw [slo, hF.out, hT])
    have HG : Hid (rngs a (i + 1) = rngs a i ++ [(F, M, T)]) := Lib.hid (by rw [rngs_succ, rng, hF.out, hM, hT])
    have HR : Hid (Room (i + 1)) := Lib.hid (Room.mk (by omega))
    have hTb : (T : Int) ≤ 9223372036854775807 := by omega
    have HGE := Lib.hid hge
    clear hF hM hT HFR hFt
    by_cases hTT : T = 9223372036854775807
    · have HE : Hid (i + 1 = N) := Lib.hid (by
        rcases Nat.lt_or_ge (i + 1) N with h | h
        · have e1 := slo_in (a := a) (by rw [EN.out]; exact h)
          rw [← HTT.out] at e1
          omega
        · omega)
      have hd : ((T : Int) == 9223372036854775807) = true := by rw [beq_iff_eq]; omega
      clear hTT hge hle
      go_wp2_with fail
      refine (HC.out _).mono ?_
      rintro e w1 ⟨rfl, f1⟩
      have F1 := Lib.hid (f1.trans0 (Fr.alloc S0 w1 (.cells #[.int .i64 (F : Nat), .int .i64 (M : Nat), .int .i64 (T : Nat)] 87)))
      have HA1 := Lib.hid (hacc.out.fr0 F1.out)
      have hb := heap_alloc_new w1 (.cells #[.int .i64 (F : Nat), .int .i64 (M : Nat), .int .i64 (T : Nat)] 87)
      obtain ⟨q0, q1, q2⟩ := cell_tri hb
      have Q2 := Lib.hid q2
      have HLT : Hid (∀ k, (Value.slice pv i cv).ownBlock = some k → k ≠ w1.heap.size) := Lib.hid (fun k hk => by
        have := ((hacc.out.fr0 f1).own.lt k hk).2
        omega)
      clear f1 HC hb
      go_wp2_with (first
        | ((with_reducible show wpList _ _ _ (Oper.mk none (.store _ (.tmp 5) (.tmp 11)) _ _ _ _ :: _) _ _); refine store_new 87 (.tmp 5) (.tmp 11) rfl rfl rfl rfl szSpanR rfl (one3i _ _ _) ?_)
        | ((with_reducible show wpList _ _ _ (Oper.mk (some 15) _ _ _ _ _ :: _) _ _); refine app_one elSpanR (.tmp 12) (.tmp 14) (size_alloc _ _) HA1.out.own rfl rfl rfl rfl rfl (one_t3 .i64 F M T) HR.out ?_; intro g1 cap1 w3 hown hgrow hat hlt; have HA3 := Lib.hid (hacc.out.app F1.out hown hgrow (hat.imp id fun e => e.trans (by rw [size_alloc]))); have c2 : w3.cell? ⟨w1.heap.size, 2, none⟩ = some (.int .i64 (T : Nat)) := (by
            exact (((Fr.alloc S0 _ _).mono (fun _ _ e => e.elim)).trans (Fr.grown hgrow) (fun _ _ e => e)).cell Q2.out (fun e => HLT.out _ e rfl)); clear hown hgrow hat hlt))
      rw [← HG.out] at HA3
      go_ret
      refine ⟨_, rfl, ?_⟩
      rw [← HE.out]
      exact HA3.out
    · have HE : Hid (i + 1 < N) := Lib.hid (by
        rcases Nat.lt_or_ge (i + 1) N with h | h
        · exact h
        · have e1 := sN_end H12.out.1 H12.out.2
          rw [EN.out, show N = i + 1 by omega, ← HTT.out] at e1
          omega)
      have hd : ((T : Int) == 9223372036854775807) = false := by rw [beq_eq_false_iff_ne]; omega
      have hTl : (T : Int) < 9223372036854775807 := by omega
      obtain ⟨F2, hF2⟩ : ∃ F2, T + 1 = F2 := ⟨_, rfl⟩
      have eF2 : (T : Int) + 1 = (F2 : Int) := by omega
      have hF2b : (F2 : Int) ≤ 9223372036854775807 := by omega
      have HF2 := Lib.hid hF2
      clear hTT hge hle hF2
      go_wp2_with fail
      refine (HC.out _).mono ?_
      rintro e w1 ⟨rfl, f1⟩
      have F1 := Lib.hid (f1.trans0 (Fr.alloc S0 w1 (.cells #[.int .i64 (F : Nat), .int .i64 (M : Nat), .int .i64 (T : Nat)] 87)))
      have HA1 := Lib.hid (hacc.out.fr0 F1.out)
      have hb := heap_alloc_new w1 (.cells #[.int .i64 (F : Nat), .int .i64 (M : Nat), .int .i64 (T : Nat)] 87)
      obtain ⟨q0, q1, q2⟩ := cell_tri hb
      have Q2 := Lib.hid q2
      have HLT : Hid (∀ k, (Value.slice pv i cv).ownBlock = some k → k ≠ w1.heap.size) := Lib.hid (fun k hk => by
        have := ((hacc.out.fr0 f1).own.lt k hk).2
        omega)
      clear f1 HC hb
      go_wp2_with (first
        | ((with_reducible show wpList _ _ _ (Oper.mk none (.store _ (.tmp 5) (.tmp 11)) _ _ _ _ :: _) _ _); refine store_new 87 (.tmp 5) (.tmp 11) rfl rfl rfl rfl szSpanR rfl (one3i _ _ _) ?_)
        | ((with_reducible show wpList _ _ _ (Oper.mk (some 15) _ _ _ _ _ :: _) _ _); refine app_one elSpanR (.tmp 12) (.tmp 14) (size_alloc _ _) HA1.out.own rfl rfl rfl rfl rfl (one_t3 .i64 F M T) HR.out ?_; intro g1 cap1 w3 hown hgrow hat hlt; have HA3 := Lib.hid (hacc.out.app F1.out hown hgrow (hat.imp id fun e => e.trans (by rw [size_alloc]))); have c2 : w3.cell? ⟨w1.heap.size, 2, none⟩ = some (.int .i64 (T : Nat)) := (by
            exact (((Fr.alloc S0 _ _).mono (fun _ _ e => e.elim)).trans (Fr.grown hgrow) (fun _ _ e => e)).cell Q2.out (fun e => HLT.out _ e rfl)); clear hown hgrow hat hlt))
      rw [← HG.out] at HA3
      go_roundw
      case rel => exact ⟨i + 1, F2, HE.out, rfl, Lib.hid (by rw [← HTT.out, HF2.out]), HA3⟩
      case measure =>
        have := HGE.out
        have := HF2.out
        simp [intOf]
        omega
end Go.Proofs.YtaemgflhgdlmiaaGreat

namespace Go.Proofs.YtaemgflhgdlmiaaGreat
open Go.RowKit
section
variable (q : Option Addr) (a c n : Nat) (w : World)
theorem rkey12_any (v : Int) (h1 : 100 ≤ a) (h2 : a ≤ 5000) (hn : sN a = n) (h : T3 w .i64 q (rngs a (sN a))) (hv : -9223372036854775807 ≤ v) (hv2 : v ≤ 9223372036854775807) :
    Calls Tryz.prog 55 #[.slice q n c, .int .i64 v] w fun e w' => e = .returned (.int .i64 (skeyI a v)) ∧ Fr S0 w w' := by
  by_cases h0 : v = 0
  · subst h0
    rw [show skeyI a 0 = 0 from rfl]
    clear h hv hv2
    go_enter Tryz.func55, Tryz.ntmps55
    go_wp2_with fail
    go_ret
    exact ⟨rfl, Fr.refl _ _⟩
  · obtain ⟨m, hm⟩ : ∃ m, v.natAbs = m := ⟨_, rfl⟩
    have hKN : skey a m < n := by rw [← hn]; exact skey_lt h1 h2 (by omega)
    have hat := (skey_at (m := m) h1 h2 (by omega)).1
    obtain ⟨K, hK⟩ : ∃ K, skey a m = K := ⟨_, rfl⟩
    have HBE : Hid (∀ i, i < K → shi a (slo a i) < m) := Lib.hid fun i hi => skey_before (by rw [hK]; exact hi)
    rw [hK] at hKN hat
    have HAT := Lib.hid hat
    have HR : Hid (∀ i, i < n → ∃ b o, q = some ⟨b, o, none⟩ ∧ w.cell? ⟨b, o + i * 3 + 2, none⟩ = some (.int .i64 (shi a (slo a i) : Nat))) := Lib.hid fun i hi => by
      have hl : i < (rngs a (sN a)).length := by rw [rngs_len, hn]; exact hi
      obtain ⟨b, o, hp, -, -, d2⟩ := h.at i hl
      rw [rngs_get] at d2
      exact ⟨b, o, hp, d2⟩
    have hn5 : (n : Int) ≤ 4410 := by have := sN_le h1 h2; omega
    have hs : skeyI a v = if v < 0 then - ((K : Int) + 1) else (K : Int) + 1 := by
      unfold skeyI
      rw [if_neg h0, hm, hK]
      split <;> simp
    rw [hs]
    have hmb : (m : Int) ≤ 9223372036854775807 := by omega
    have hKb : (K : Int) ≤ 4410 := by omega
    have hv0 : ((v : Int) == 0) = false := by rw [beq_eq_false_iff_ne]; exact h0
    by_cases hneg : v < 0
    · rw [if_pos hneg]
      have hdn : decide (v < 0) = true := decide_eq_true hneg
      have env : - v = (m : Int) := by omega
      have env2 : IntKind.i64.wrap (- v) = (m : Int) := by rw [env]; simp [IntKind.wrap, IntKind.bits, IntKind.signed]; omega
      clear h hv hv2 hat hK hm h1 h2 hn hs h0
      go_enter Tryz.func55, Tryz.ntmps55
      go_wp2_with fail
      go_loopw [6] (fun x wr => ∃ k : Nat, k ≤ K ∧ x = .int .i64 k ∧ Hid (Fr S0 w wr)) (fun x _ => n - (intOf x).toNat)
      case atStart => exact ⟨0, by omega, rfl, Lib.hid (Fr.refl _ _)⟩
      case round =>
        obtain ⟨k, hk, rfl, hfr⟩ := hrel
        have hkn : (k : Int) < (n : Int) := by omega
        obtain ⟨b, o, rfl, d2⟩ := HR.out k (by omega)
        have d2 := hfr.out.cell d2 fun h => h
        by_cases hkK : k < K
        · have hb := HBE.out k hkK
          obtain ⟨T, hT⟩ : ∃ T, shi a (slo a k) = T := ⟨_, rfl⟩
          rw [hT] at d2 hb
          have hd : decide ((T : Int) < (m : Int)) = true := decide_eq_true (by omega)
          have hd2 : decide (T < m) = true := decide_eq_true (by omega)
          clear hT hb
          go_wp2_with fail
          refine ⟨⟨k + 1, by omega, by go_num, hfr⟩, ?_⟩
          simp [intOf]
          omega
        · obtain rfl : k = K := by omega
          have hb := HAT.out
          obtain ⟨T, hT⟩ : ∃ T, shi a (slo a k) = T := ⟨_, rfl⟩
          rw [hT] at d2 hb
          have hd : decide ((T : Int) < (m : Int)) = false := decide_eq_false (by omega)
          have hd2 : decide (T < m) = false := decide_eq_false (by omega)
          clear hT hb
          go_wp2_with fail
          go_ret
          exact ⟨by first | rfl | (rw [show - ((k : Int) + 1) = - (k : Int) - 1 by omega]; rfl), hfr.out⟩
    · rw [if_neg hneg]
      have hdn : decide (v < 0) = false := decide_eq_false hneg
      obtain rfl : v = (m : Int) := by omega
      clear h hv hv2 hat hK hm h1 h2 hn hs h0
      go_enter Tryz.func55, Tryz.ntmps55
      go_wp2_with fail
      go_loopw [6] (fun x wr => ∃ k : Nat, k ≤ K ∧ x = .int .i64 k ∧ Hid (Fr S0 w wr)) (fun x _ => n - (intOf x).toNat)
      case atStart => exact ⟨0, by omega, rfl, Lib.hid (Fr.refl _ _)⟩
      case round =>
        obtain ⟨k, hk, rfl, hfr⟩ := hrel
        have hkn : (k : Int) < (n : Int) := by omega
        obtain ⟨b, o, rfl, d2⟩ := HR.out k (by omega)
        have d2 := hfr.out.cell d2 fun h => h
        by_cases hkK : k < K
        · have hb := HBE.out k hkK
          obtain ⟨T, hT⟩ : ∃ T, shi a (slo a k) = T := ⟨_, rfl⟩
          rw [hT] at d2 hb
          have hd : decide ((T : Int) < (m : Int)) = true := decide_eq_true (by omega)
          have hd2 : decide (T < m) = true := decide_eq_true (by omega)
          clear hT hb
          go_wp2_with fail
          refine ⟨⟨k + 1, by omega, by go_num, hfr⟩, ?_⟩
          simp [intOf]
          omega
        · obtain rfl : k = K := by omega
          have hb := HAT.out
          obtain ⟨T, hT⟩ : ∃ T, shi a (slo a k) = T := ⟨_, rfl⟩
          rw [hT] at d2 hb
          have hd : decide ((T : Int) < (m : Int)) = false := decide_eq_false (by omega)
          have hd2 : decide (T < m) = false := decide_eq_false (by omega)
          clear hT hb
          go_wp2_with fail
          go_ret
          exact ⟨by first | rfl | (rw [show - ((k : Int) + 1) = - (k : Int) - 1 by omega]; rfl), hfr.out⟩
def rangeV (a : Nat) (k : Int) (mid : Int) : Value := .agg #[.int .i64 (rlow a k), .int .i64 mid, .int .i64 (rhigh a k)]
theorem rrange12_any (k : Int) (h1 : 100 ≤ a) (h2 : a ≤ 5000) (hn : sN a = n) (h : T3 w .i64 q (rngs a (sN a))) (hk1 : - (sN a : Int) ≤ k) (hk2 : k ≤ (sN a : Int)) :
    Calls Tryz.prog 39 #[.slice q n c, .int .i64 k] w fun e w' => ∃ mid, e = .returned (rangeV a k mid) ∧ Fr S0 w w' := by
  have F0 := Lib.hid (Fr.alloc S0 w (.cells #[.int .i64 0, .int .i64 0, .int .i64 0] 87))
  have hb := heap_alloc_new w (.cells #[.int .i64 0, .int .i64 0, .int .i64 0] 87)
  have HB := Lib.hid hb
  have hn5 : (n : Int) ≤ 4410 := by have := sN_le h1 h2; omega
  unfold rangeV
  by_cases h0 : k = 0
  · subst h0
    rw [show rlow a 0 = 0 from rfl, show rhigh a 0 = 0 from rfl]
    clear h hk1 hk2 hb
    go_enter Tryz.func39, Tryz.ntmps39
    go_wp2_with ((with_reducible show wpList _ _ _ (Oper.mk none (.store _ (.tmp 4) (.tmp 8)) _ _ _ _ :: _) _ _); refine store_at 87 (.tmp 4) (.tmp 8) rfl rfl rfl rfl HB.out szSpanR rfl (one3i _ _ _) ?_; intro w5 hb5 f5)
    exact bodyPost_ret (v := .agg #[.int .i64 0, .int .i64 0, .int .i64 0]) (results_cell Tryz.results39 _ _ rfl hb5 Tryz.underlying87 rfl szSpanR) rfl (by first | exact ⟨_, rfl, F0.out.trans f5 fun x hx e => by have e2 : x = w.heap.size := e; omega⟩ | exact ⟨⟨_, rfl⟩, F0.out.trans f5 fun x hx e => by have e2 : x = w.heap.size := e; omega⟩)
  · obtain ⟨j, hj⟩ : ∃ j, k.natAbs = j + 1 := ⟨k.natAbs - 1, by omega⟩
    have hjl : j < (rngs a (sN a)).length := by rw [rngs_len]; omega
    obtain ⟨b, o, rfl, d0, d1, d2⟩ := h.at j hjl
    rw [rngs_get] at d0 d1 d2
    have hX : slo a j ≤ 9223372036854775807 := slo_in (by omega)
    have hY : smid a (slo a j) ≤ 9223372036854775807 := smid_le _ _
    have hZ : shi a (slo a j) ≤ 9223372036854775807 := shi_le _ _
    unfold rng at d0 d1 d2
    simp only at d0 d1 d2
    have hlo : rlow a k = if k < 0 then - (shi a (slo a j) : Int) else (slo a j : Int) := by
      unfold rlow
      rw [if_neg h0, hj, Nat.add_sub_cancel]
    have hhi : rhigh a k = if k < 0 then - (slo a j : Int) else (shi a (slo a j) : Int) := by
      unfold rhigh
      rw [if_neg h0, hj, Nat.add_sub_cancel]
    rw [hlo, hhi]
    obtain ⟨X, eX⟩ : ∃ X, slo a j = X := ⟨_, rfl⟩
    rw [eX] at d0 d1 d2 hX hY hZ ⊢
    obtain ⟨Y, eY⟩ : ∃ Y, smid a X = Y := ⟨_, rfl⟩
    obtain ⟨Z, eZ⟩ : ∃ Z, shi a X = Z := ⟨_, rfl⟩
    rw [eY] at d1 hY
    rw [eZ] at d2 hZ ⊢
    have hjn : (j : Int) < (n : Int) := by omega
    have hXb : (X : Int) ≤ 9223372036854775807 := by omega
    have hYb : (Y : Int) ≤ 9223372036854775807 := by omega
    have hZb : (Z : Int) ≤ 9223372036854775807 := by omega
    have hk0 : (k == 0) = false := by rw [beq_eq_false_iff_ne]; exact h0
    by_cases hneg : k < 0
    · rw [if_pos hneg, if_pos hneg]
      have hdp : decide (0 < k) = false := decide_eq_false (by omega)
      have ek : - k - 1 = (j : Int) := by omega
      have hkb : -4410 ≤ k := by omega
      have HN0 : ∀ (W : World) (x y z : Int), (W.alloc (.cells #[.int .i64 x, .int .i64 y, .int .i64 z] 87)).cell? ⟨W.heap.size, 0, none⟩ = some (.int .i64 x) := fun W x y z => (cell_tri (heap_alloc_new W _)).1
      have HN1 : ∀ (W : World) (x y z : Int), (W.alloc (.cells #[.int .i64 x, .int .i64 y, .int .i64 z] 87)).cell? ⟨W.heap.size, 1, none⟩ = some (.int .i64 y) := fun W x y z => (cell_tri (heap_alloc_new W _)).2.1
      have HN2 : ∀ (W : World) (x y z : Int), (W.alloc (.cells #[.int .i64 x, .int .i64 y, .int .i64 z] 87)).cell? ⟨W.heap.size, 2, none⟩ = some (.int .i64 z) := fun W x y z => (cell_tri (heap_alloc_new W _)).2.2
      have HX := Lib.hid ((Fr.alloc S0 (w.alloc (.cells #[.int .i64 0, .int .i64 0, .int .i64 0] 87)) (.cells #[.int .i64 (X : Nat), .int .i64 (Y : Nat), .int .i64 (Z : Nat)] 87)))
      have d0 := F0.out.cell d0 fun h => h
      have d1 := F0.out.cell d1 fun h => h
      have d2 := F0.out.cell d2 fun h => h
      obtain ⟨x0, x1, x2⟩ := cell_tri (heap_alloc_new (w.alloc (.cells #[.int .i64 0, .int .i64 0, .int .i64 0] 87)) (.cells #[.int .i64 (X : Nat), .int .i64 (Y : Nat), .int .i64 (Z : Nat)] 87))
      rw [size_alloc] at x0 x1 x2
      clear h hk1 hk2 hb h0 hj hjl hlo hhi eX eY eZ h1 h2 hn hX hY hZ HN0 HN1 HN2
      go_enter Tryz.func39, Tryz.ntmps39
      go_wp2_with (first
        | ((with_reducible show wpList _ _ _ (Oper.mk none (.store _ (.tmp 5) (.tmp 21)) _ _ _ _ :: _) _ _); refine store_new 87 (.tmp 5) (.tmp 21) (by rfl) rfl (by rw [size_alloc]; rfl) rfl szSpanR rfl (one3i _ _ _) ?_)
        | ((with_reducible show wpList _ _ _ (Oper.mk none (.store _ (.tmp 4) (.tmp 31)) _ _ _ _ :: _) _ _); refine store_at 87 (.tmp 4) (.tmp 31) rfl rfl rfl rfl (HX.out.row HB.out fun h => h) szSpanR rfl (one3i _ _ _) ?_; intro w5 hb5 f5))
      exact bodyPost_ret (v := .agg #[.int .i64 (- (Z : Int)), .int .i64 (- (Y : Int)), .int .i64 (- (X : Int))]) (results_cell Tryz.results39 _ _ rfl hb5 Tryz.underlying87 rfl szSpanR) rfl (by first | exact ⟨_, rfl, (F0.out.trans0 HX.out).trans f5 fun x hx e => by have e2 : x = w.heap.size := e; omega⟩ | exact ⟨⟨_, rfl⟩, (F0.out.trans0 HX.out).trans f5 fun x hx e => by have e2 : x = w.heap.size := e; omega⟩)
    · rw [if_neg hneg, if_neg hneg]
      have hdp : decide (0 < k) = true := decide_eq_true (by omega)
      have ek : k - 1 = (j : Int) := by omega
      have hkb : k ≤ 4410 := by omega
      have d0 := F0.out.cell d0 fun h => h
      have d1 := F0.out.cell d1 fun h => h
      have d2 := F0.out.cell d2 fun h => h
      clear h hk1 hk2 hb h0 hj hjl hlo hhi eX eY eZ h1 h2 hn hX hY hZ
      go_enter Tryz.func39, Tryz.ntmps39
      go_wp2_with ((with_reducible show wpList _ _ _ (Oper.mk none (.store _ (.tmp 4) (.tmp 15)) _ _ _ _ :: _) _ _); refine store_at 87 (.tmp 4) (.tmp 15) rfl rfl rfl rfl HB.out szSpanR rfl (one3i _ _ _) ?_; intro w5 hb5 f5)
      exact bodyPost_ret (v := .agg #[.int .i64 (X : Nat), .int .i64 (Y : Nat), .int .i64 (Z : Nat)]) (results_cell Tryz.results39 _ _ rfl hb5 Tryz.underlying87 rfl szSpanR) rfl (by first | exact ⟨_, rfl, F0.out.trans f5 fun x hx e => by have e2 : x = w.heap.size := e; omega⟩ | exact ⟨⟨_, rfl⟩, F0.out.trans f5 fun x hx e => by have e2 : x = w.heap.size := e; omega⟩)
end
end Go.Proofs.YtaemgflhgdlmiaaGreat
