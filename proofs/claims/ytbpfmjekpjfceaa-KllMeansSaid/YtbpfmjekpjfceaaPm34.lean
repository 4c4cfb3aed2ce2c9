/- WdRef3, WdRef4 -/
import Derived.Test.YtbpfmjekpjfceaaPm1
import Derived.Test.YtbpfmjekpjfceaaPm3
import Derived.Test.YtbpfmjekpjfceaaPm16
import Derived.Test.YtbpfmjekpjfceaaPm17
import Derived.Test.YtbpfmjekpjfceaaPm18
import Derived.Test.YtbpfmjekpjfceaaPm32
import Derived.Test.YtbpfmjekpjfceaaPm33
import Derived.StillTailTactics
import Derived.Lib.BitFns
import Derived.Laws.BytesArg
import Derived.Lib.SlBytesConst
import Derived.Maps.AppendAt
import Derived.Laws.AppendOwnNone
import Derived.WalkKit
import Derived.WalkSpells
import Derived.WalkLawsBesides
import Derived.Deep.QuietTactic
import Derived.BigQuiet
import Derived.RegionTactic
import Derived.Deep.AppendLies
import Derived.Deep.RegionLaw
import Derived.Laws.ResultCell
import Derived.Laws.EntriesVeiled
import Derived.Lib.Hide
import Derived.Test.YtbpfmjekpjfceaaRows
import Derived.Laws.Externs
import Derived.Shelf.Spec.BitsCarry
import Derived.Deep.CutBlock
import Derived.Deep.CutRange
import Derived.Deep.DeepCutAuto
import Derived.Shelf.Small.Bits
import Derived.Shelf.Strconv.Itoa0
import Derived.Shelf.Bits.Mul64
set_option maxRecDepth 100000
set_option maxHeartbeats 8000000
namespace Go.Proofs.Ytbpfmjekpjfceaa
open Go.RowKit
theorem row_at {w : World} {g c : Nat} {l : List Nat} (own : w.ownsRow 0 34 1 (.slice (some ⟨g, 0, none⟩) 8 c) 8 (u64s l)) (j : Nat) (hj : j < 8) : w.cell? ⟨g, j, none⟩ = some (.int .u64 (l.getD j 0 : Nat)) := by
  have hl : l.length = 8 := by have := own.1; unfold u64s at this; simpa using this
  rw [own.cellAt j (by omega), List.getD_eq_getElem?_getD]
  unfold u64s
  rw [List.getElem?_map, List.getElem?_eq_getElem (by omega)]
  rfl
theorem row_set {w w0 : World} {g c : Nat} {l : List Nat} (own : w.ownsRow 0 34 1 (.slice (some ⟨g, 0, none⟩) 8 c) 8 (u64s l)) (f : Fr S0 w0 w) (hg : w0.heap.size ≤ g) (j v : Nat) :
    (w.setCell ⟨g, j, none⟩ (.int .u64 (v : Int))).ownsRow 0 34 1 (.slice (some ⟨g, 0, none⟩) 8 c) 8 (u64s (l.set j v)) ∧ Fr S0 w0 (w.setCell ⟨g, j, none⟩ (.int .u64 (v : Int))) := by
  obtain ⟨ho, hgr⟩ := own.stored j (.int .u64 (v : Int))
  refine ⟨?_, f.append hgr fun k hk => by simp only [Option.some.injEq] at hk; omega⟩
  unfold u64s at ho ⊢
  rw [List.map_set]
  exact ho
theorem rmul_any (x y : Nat) (w : World) (hx : x < 18446744073709551616) (hy : y < 18446744073709551616) :
    Calls Try.prog 67 #[.int .u64 (x : Int), .int .u64 (y : Int)] w fun e w' => ∃ v, e = .returned v ∧ NewDig w w' v (x * y) := by
  have HX := Lib.hid (fun W => rdigits_any x W hx)
  have HY := Lib.hid (fun W => rdigits_any y W hy)
  have hmk := make8
  have HB := Lib.hid (And.intro hx hy)
  clear hx hy
  go_enter Try.func67, Try.ntmps67
  go_wp2_with fail
  refine (HX.out _).mono ?_
  rintro e w1 ⟨g1, rfl, own1, f1, n1⟩
  go_wp2_with fail
  refine (HY.out _).mono ?_
  rintro e w2 ⟨g2, rfl, own2, f2, n2⟩
  have s1 : SlI w2 .u64 (some ⟨g1, 0, none⟩) (digs 4 x) := SlI.ofOwns (f2.owns own1 fun _ _ h => h)
  have s2 : SlI w2 .u64 (some ⟨g2, 0, none⟩) (digs 4 y) := SlI.ofOwns own2
  have F2 := Lib.hid (f1.trans0 f2)
  have own3 := own8 w2
  have f3 : Fr S0 w2 (w2.alloc (.cells #[.int .u64 0, .int .u64 0, .int .u64 0, .int .u64 0, .int .u64 0, .int .u64 0, .int .u64 0, .int .u64 0] 34)) := Fr.alloc _ _ _
  have O3 := Lib.hid own3
  have F3 := Lib.hid f3
  have S1 := Lib.hid s1
  have S2 := Lib.hid s2
  clear own1 own2 f1 f2 n1 n2 s1 s2 own3 f3
  go_wp2_with fail
  obtain ⟨g, hg⟩ : ∃ g, w2.heap.size = g := ⟨_, rfl⟩
  have HG : Hid (w2.heap.size ≤ g) := Lib.hid (by omega)
  rw [hg] at O3 ⊢
  clear hg
  go_loopw [8, 9, 10, 11] (fun i _ _ _ wr => ∃ (j : Nat) (l : List Nat), j ≤ 4 ∧ i = .int .i64 j ∧ MulOut x y j l ∧ Fr S0 w2 wr ∧ wr.ownsRow 0 34 1 (.slice (some ⟨g, 0, none⟩) 8 8) 8 (u64s l)) (fun i _ _ _ _ => 4 - (intOf i).toNat)
  case atStart => exact ⟨0, _, by omega, rfl, MulOut.start x y, F3.out, O3.out⟩
  case round =>
    obtain ⟨i, l, hi, rfl, hmo, hfr, own⟩ := hrel
    by_cases h4 : (i : Int) < 4
    · obtain ⟨wo, rfl⟩ : ∃ wo : World, wo = wr := ⟨_, rfl⟩
      have HMO := Lib.hid hmo
      have HFR := Lib.hid hfr
      have HO := Lib.hid own
      clear hmo hfr own
      go_wp2_with fail
      go_loopw [9, 10, 11] (fun m i' _ wr => ∃ (k c : Nat) (l : List Nat), k ≤ 4 ∧ i' = .int .i64 k ∧ m = .int .u64 c ∧ MulIn x y i k l c ∧ Fr S0 w2 wr ∧ wr.ownsRow 0 34 1 (.slice (some ⟨g, 0, none⟩) 8 8) 8 (u64s l)) (fun _ i' _ _ => 4 - (intOf i').toNat)
      case atStart => exact ⟨0, 0, l, by omega, rfl, rfl, HMO.out.on, HFR.out, HO.out⟩
      case round =>
        clear HMO HFR HO
        obtain ⟨k, c, m, hk, rfl, rfl, hmi, hfr, own⟩ := hrel
        have hcl := hmi.cl
        by_cases k4 : (k : Int) < 4
        · have HST := Lib.hid (hmi.step (by omega) (by omega))
          have c0 := row_at own (i + k) (by omega)
          have z0 := own.frozenAt (i + k)
          have c1 : wr.cell? ⟨g1, i, none⟩ = some (.int .u64 (dg x i : Nat)) := by
            obtain ⟨b, o, hp, hc⟩ := (S1.out.fr0 hfr).at i (by rw [digs_len]; omega)
            simp only [Option.some.injEq, Addr.mk.injEq] at hp
            obtain ⟨rfl, rfl, -⟩ := hp
            rw [digs_get, Nat.zero_add] at hc
            exact hc
          have c2 : wr.cell? ⟨g2, k, none⟩ = some (.int .u64 (dg y k : Nat)) := by
            obtain ⟨b, o, hp, hc⟩ := (S2.out.fr0 hfr).at k (by rw [digs_len]; omega)
            simp only [Option.some.injEq, Addr.mk.injEq] at hp
            obtain ⟨rfl, rfl, -⟩ := hp
            rw [digs_get, Nat.zero_add] at hc
            exact hc
          have l0 := lt_of_getD hmi.lt (i + k)
          have hp := prod_le (dg_lt x i) (dg_lt y k)
          obtain ⟨O, hO⟩ : ∃ O, m.getD (i + k) 0 = O := ⟨_, rfl⟩
          obtain ⟨X, hX⟩ : ∃ X, dg x i = X := ⟨_, rfl⟩
          obtain ⟨Y, hY⟩ : ∃ Y, dg y k = Y := ⟨_, rfl⟩
          rw [hO] at HST c0 l0
          rw [hX] at HST c1 hp
          rw [hY] at HST c2 hp
          obtain ⟨P, hP⟩ : ∃ P, X * Y = P := ⟨_, rfl⟩
          have wP : IntKind.u64.wrap ((X : Int) * (Y : Int)) = (P : Int) := wrap_nat (by rw [← hP, Int.natCast_mul]) (by omega)
          rw [hP] at HST hp
          have em : (((O : Int) + (P : Int) + (c : Int)) % 65536) = (((O + P + c) % 65536 : Nat) : Int) := by omega
          have HRS : Hid (∀ n, ((wr.setCell ⟨g, i + k, none⟩ (.int .u64 (((O : Int) + (P : Int) + (c : Int)) % 65536))).drewN n).ownsRow 0 34 1 (.slice (some ⟨g, 0, none⟩) 8 8) 8 (u64s (m.set (i + k) ((O + P + c) % 65536))) ∧
              Fr S0 w2 ((wr.setCell ⟨g, i + k, none⟩ (.int .u64 (((O : Int) + (P : Int) + (c : Int)) % 65536))).drewN n)) := Lib.hid fun n => by
            rw [em]
            have r := row_set own hfr HG.out (i + k) ((O + P + c) % 65536)
            exact ⟨(Fr.drewN S0 _ n).owns r.1 fun _ _ h => h, r.2.trans0 (Fr.drewN _ _ _)⟩
          have i8 : (i : Int) + (k : Int) < 8 := by omega
          clear hmi hO hX hY hP own hfr em
          go_wp2_with fail
          go_quiet (fail)
          go_wp2_with fail
          go_roundw
          case rel => exact ⟨k + 1, _, _, by omega, by go_num, by go_num, HST.out, (HRS.out nq).2, (HRS.out nq).1⟩
          case measure => simp [intOf]; omega
        · obtain rfl : k = 4 := by omega
          obtain ⟨hz, hmo⟩ := hmi.done (by omega) HB.out.2
          have HMO := Lib.hid hmo
          have c0 := row_at own (i + 4) (by omega)
          have z0 := own.frozenAt (i + 4)
          rw [hz] at c0
          have c0' : wr.cell? ⟨g, i + 4, none⟩ = some (.int .u64 0) := c0
          have HRS := Lib.hid (row_set own hfr HG.out (i + 4) c)
          clear hmi hz hmo own hfr c0
          go_wp2_with fail
          go_roundw
          case rel => exact ⟨i + 1, _, by omega, by go_num, HMO.out, HRS.out.2, HRS.out.1⟩
          case measure => simp [intOf]; omega
    · obtain rfl : i = 4 := by omega
      have HE := Lib.hid (hmo.done HB.out.1)
      have HN : Hid (NewDig w wr (.slice (some ⟨g, 0, none⟩) 8 8) (x * y)) := Lib.hid (NewDig.mk (by rw [← HE.out]; exact own) (F2.out.trans0 hfr))
      clear hmo own hfr
      go_wp2
      go_ret
      exact ⟨_, rfl, HN.out⟩
end Go.Proofs.Ytbpfmjekpjfceaa

namespace Go.Proofs.Ytbpfmjekpjfceaa
open Go.RowKit
theorem digs_zero_pow (k : Nat) : digs 8 (0 * 2 ^ k) = digs 8 0 := by rw [Nat.zero_mul]
theorem take_d {L d bit : Nat} (hL : L < d) (hb : bit ≤ 1) (h : d ≤ 2 * L + bit) : (2 * L + bit) / d = 1 ∧ (2 * L + bit) % d = 2 * L + bit - d := by
  have e : 2 * L + bit = d * 1 + (2 * L + bit - d) := by omega
  have h2 : 2 * L + bit - d < d := by omega
  constructor
  · rw [e, Nat.mul_add_div (by omega), Nat.div_eq_of_lt (by omega)]
  · conv => lhs; rw [e, Nat.mul_add_mod]
    exact Nat.mod_eq_of_lt h2
theorem rdiv_any (p : Option Addr) (c x d : Nat) (w : World) (hx : Dig w p x) (bx : x < 340282366920938463463374607431768211456) (hd : 0 < d) (h64 : d < 18446744073709551616) :
    Calls Try.prog 68 #[.slice p 8 c, .int .u64 (d : Int)] w fun e w' => ∃ v, e = .returned (.tuple #[v, .int .u64 (x % d : Nat)]) ∧ NewDig w w' v (x / d) := by
  have HX := Lib.hid hx
  have hmk := make8
  have hs0 : x / 2 ^ 128 = 0 := Nat.div_eq_of_lt (by omega)
  have HS0 : Hid (x / 2 ^ 128 / d = 0 ∧ x / 2 ^ 128 % d = 0) := Lib.hid (by rw [hs0, Nat.zero_div, Nat.zero_mod]; exact ⟨rfl, rfl⟩)
  have O3 := Lib.hid (own8 w)
  have F3 : Hid (Fr S0 w (w.alloc (.cells #[.int .u64 0, .int .u64 0, .int .u64 0, .int .u64 0, .int .u64 0, .int .u64 0, .int .u64 0, .int .u64 0] 34))) := Lib.hid (Fr.alloc _ _ _)
  obtain ⟨g, hg⟩ : ∃ g, w.heap.size = g := ⟨_, rfl⟩
  have HG : Hid (w.heap.size ≤ g) := Lib.hid (by omega)
  have HGE := Lib.hid hg
  rw [hg] at O3
  clear hx bx hs0 hg
  go_enter Try.func68, Try.ntmps68
  go_wp2_with fail
  rw [HGE.out]
  go_loopw [7, 8, 9] (fun m i _ wr => ∃ (j Q L : Nat), j ≤ 128 ∧ i = .int .i64 (127 - (j : Int)) ∧ m = .int .u64 L ∧ x / 2 ^ (128 - j) / d = Q ∧ x / 2 ^ (128 - j) % d = L ∧ Fr S0 w wr ∧ wr.ownsRow 0 34 1 (.slice (some ⟨g, 0, none⟩) 8 8) 8 (u64s (digs 8 (Q * 2 ^ (128 - j))))) (fun _ i _ _ => (intOf i + 1).toNat)
  case atStart => exact ⟨0, 0, 0, by omega, rfl, rfl, HS0.out.1, HS0.out.2, F3.out, by rw [digs_zero_pow]; exact O3.out⟩
  case round =>
    obtain ⟨j, Q, L, hj, rfl, rfl, hQ, hL, hfr, own⟩ := hrel
    by_cases h8 : j < 128
    · obtain ⟨i, hi⟩ : ∃ i, 127 - j = i := ⟨_, rfl⟩
      rw [show 128 - j = i + 1 by omega] at hQ hL own
      have hLd : L < d := by rw [← hL]; exact Nat.mod_lt _ hd
      obtain ⟨n1, n2, -⟩ := quo_step hQ hL hd
      have hb := bit_at x i
      have hb1 : x / 2 ^ i % 2 ≤ 1 := by omega
      obtain ⟨bit, hbit⟩ : ∃ bit, x / 2 ^ i % 2 = bit := ⟨_, rfl⟩
      rw [hbit] at n1 n2 hb hb1
      obtain ⟨b, o, rfl, hc⟩ := (HX.out.fr0 hfr).at (i / 16) (by omega)
      obtain ⟨r, hr⟩ : ∃ r, i % 16 = r := ⟨_, rfl⟩
      obtain ⟨q, hq⟩ : ∃ q, i / 16 = q := ⟨_, rfl⟩
      have hdb := digs_bit Q i (by omega)
      have hro := digit_room Q i
      rw [hr] at hb hdb hro
      rw [hq] at hb hdb hro hc
      have hqi : ((i : Int) / 16) = (q : Int) := by omega
      have hri : ((i : Int) % 16) = (r : Int) := by omega
      have hq8 : (q : Int) < 8 := by omega
      have hr8 : (r : Int) < 16 := by omega
      obtain ⟨X, hX⟩ : ∃ X, dg x q = X := ⟨_, rfl⟩
      rw [hX] at hc hb
      have c0 := row_at own q (by omega)
      have z0 := own.frozenAt q
      rw [digs_at 8 _ q (by omega)] at c0
      have c0' : wr.cell? ⟨g, q, none⟩ = some (.int .u64 (dg (Q * 2 ^ (i + 1)) q : Nat)) := c0
      obtain ⟨O, hO⟩ : ∃ O, dg (Q * 2 ^ (i + 1)) q = O := ⟨_, rfl⟩
      rw [hO] at c0' hdb hro
      obtain ⟨T, hT⟩ : ∃ T, 2 ^ r = T := ⟨_, rfl⟩
      have wT : IntKind.u64.wrap ((2 : Int) ^ r) = (T : Int) := wrap_nat (by rw [← hT, Int.natCast_pow]; rfl) (by omega)
      obtain ⟨V, hV⟩ : ∃ V, X / 2 ^ r = V := ⟨_, rfl⟩
      have wv : (X : Int) / 2 ^ r = (V : Int) := by rw [← hV, Int.natCast_ediv, Int.natCast_pow]; rfl
      rw [hV] at hb
      have wb : (V : Int) % 2 = (bit : Int) := by omega
      have V0 : (0 : Int) ≤ (V : Int) := by omega
      have ei : 127 - (j : Int) = (i : Int) := by omega
      have HI : Hid (128 - (j + 1) = i) := Lib.hid (by omega)
      rw [hT] at hdb hro
      have HDB := Lib.hid hdb
      have HN1 := Lib.hid n1
      have HN2 := Lib.hid n2
      have HO := Lib.hid own
      have HF := Lib.hid hfr
      rw [ei]
      clear hi hQ hL hb hbit hr hq hX c0 hO hT ei hdb own hfr n1 n2 hV
      by_cases hA : (9223372036854775808 : Int) ≤ (L : Int)
      · obtain ⟨M, hM⟩ : ∃ M, 2 * L = M + 18446744073709551616 := ⟨2 * L - 18446744073709551616, by omega⟩
        obtain ⟨t1, t2⟩ := take_d hLd hb1 (by omega)
        obtain ⟨R, hR⟩ : ∃ R, 2 * L + bit - d = R := ⟨_, rfl⟩
        have wM : IntKind.u64.wrap (2 * (L : Int)) = (M : Int) := by rw [IntKind.wrap_u64]; omega
        have wR : IntKind.u64.wrap ((M : Int) + (bit : Int) - (d : Int)) = (R : Int) := by rw [IntKind.wrap_u64]; omega
        have bM : M + bit < 18446744073709551616 := by omega
        rw [hR] at t2
        have T1 := Lib.hid t1
        have T2 := Lib.hid t2
        clear hM hR t1 t2
        have HRS : Hid ((wr.setCell ⟨g, q, none⟩ (.int .u64 ((O : Int) + (T : Int)))).ownsRow 0 34 1 (.slice (some ⟨g, 0, none⟩) 8 8) 8 (u64s (digs 8 ((2 * Q + 1) * 2 ^ i))) ∧ Fr S0 w (wr.setCell ⟨g, q, none⟩ (.int .u64 ((O : Int) + (T : Int))))) := Lib.hid (by
          have r := row_set HO.out HF.out HG.out q (O + T)
          rw [HDB.out, Int.natCast_add] at r
          exact r)
        go_wp2_with fail
        go_roundw
        case rel => exact ⟨j + 1, 2 * Q + 1, R, by omega, congrArg (Value.int .i64) (by have := HI.out; omega), rfl, by rw [HI.out, HN1.out, T1.out], by rw [HI.out, HN2.out, T2.out], HRS.out.2, by rw [HI.out]; exact HRS.out.1⟩
        case measure => simp [intOf]
      · have dA : decide ((9223372036854775808 : Int) ≤ (L : Int)) = false := decide_eq_false hA
        by_cases hB : (d : Int) ≤ 2 * (L : Int) + (bit : Int)
        · obtain ⟨t1, t2⟩ := take_d hLd hb1 (by omega)
          obtain ⟨R, hR⟩ : ∃ R, 2 * L + bit - d = R := ⟨_, rfl⟩
          have ER : Hid (2 * (L : Int) + (bit : Int) - (d : Int) = (R : Int)) := Lib.hid (by omega)
          rw [hR] at t2
          have T1 := Lib.hid t1
          have T2 := Lib.hid t2
          clear hR t1 t2
          have HRS : Hid ((wr.setCell ⟨g, q, none⟩ (.int .u64 ((O : Int) + (T : Int)))).ownsRow 0 34 1 (.slice (some ⟨g, 0, none⟩) 8 8) 8 (u64s (digs 8 ((2 * Q + 1) * 2 ^ i))) ∧ Fr S0 w (wr.setCell ⟨g, q, none⟩ (.int .u64 ((O : Int) + (T : Int))))) := Lib.hid (by
            have r := row_set HO.out HF.out HG.out q (O + T)
            rw [HDB.out, Int.natCast_add] at r
            exact r)
          go_wp2_with fail
          go_roundw
          case rel => exact ⟨j + 1, 2 * Q + 1, R, by omega, congrArg (Value.int .i64) (by have := HI.out; omega), congrArg (Value.int .u64) ER.out, by rw [HI.out, HN1.out, T1.out], by rw [HI.out, HN2.out, T2.out], HRS.out.2, by rw [HI.out]; exact HRS.out.1⟩
          case measure => simp [intOf]
        · have dB : decide ((d : Int) ≤ 2 * (L : Int) + (bit : Int)) = false := decide_eq_false hB
          have T1 : Hid ((2 * L + bit) / d = 0) := Lib.hid (Nat.div_eq_of_lt (by omega))
          have T2 : Hid ((2 * L + bit) % d = 2 * L + bit) := Lib.hid (Nat.mod_eq_of_lt (by omega))
          have HE : Hid (Q * 2 ^ (i + 1) = 2 * Q * 2 ^ i) := Lib.hid (by rw [Nat.pow_succ, Nat.mul_comm (2 ^ i) 2, ← Nat.mul_assoc, Nat.mul_comm Q 2])
          go_wp2_with fail
          go_roundw
          case rel => exact ⟨j + 1, 2 * Q, 2 * L + bit, by omega, congrArg (Value.int .i64) (by have := HI.out; omega), by go_num, by rw [HI.out, HN1.out, T1.out, Nat.add_zero], by rw [HI.out, HN2.out, T2.out], HF.out, by rw [HI.out, ← HE.out]; exact HO.out⟩
          case measure => simp [intOf]
    · obtain rfl : j = 128 := by omega
      rw [Nat.sub_self, Nat.pow_zero] at hQ hL own
      rw [Nat.div_one] at hQ hL
      rw [Nat.mul_one] at own
      have HL := Lib.hid hL
      have HN : Hid (NewDig w wr (.slice (some ⟨g, 0, none⟩) 8 8) (x / d)) := Lib.hid (NewDig.mk (by rw [hQ]; exact own) hfr)
      clear hQ hL own hfr
      go_wp2
      go_ret2
      exact ⟨_, by rw [HL.out]; rfl, HN.out⟩
end Go.Proofs.Ytbpfmjekpjfceaa
