/- The document's product. -/
import Derived.Test.YtegdhggilaehdaaWdRef2
import Derived.Test.YtegdhggilaehdaaWdBits
namespace Go.Proofs.Ytegdhggilaehdaa
open Go.RowKit

/-- a row's digit -/
theorem row_at {w : World} {g c : Nat} {l : List Nat} (own : w.ownsRow 0 29 1 (.slice (some ⟨g, 0, none⟩) 8 c) 8 (u64s l)) (j : Nat) (hj : j < 8) : w.cell? ⟨g, j, none⟩ = some (.int .u64 (l.getD j 0 : Nat)) := by
  have hl : l.length = 8 := by have := own.1; unfold u64s at this; simpa using this
  rw [own.cellAt j (by omega), List.getD_eq_getElem?_getD]
  unfold u64s
  rw [List.getElem?_map, List.getElem?_eq_getElem (by omega)]
  rfl
theorem row_set {w w0 : World} {g c : Nat} {l : List Nat} (own : w.ownsRow 0 29 1 (.slice (some ⟨g, 0, none⟩) 8 c) 8 (u64s l)) (f : Fr S0 w0 w) (hg : w0.heap.size ≤ g) (j v : Nat) :
    (w.setCell ⟨g, j, none⟩ (.int .u64 (v : Int))).ownsRow 0 29 1 (.slice (some ⟨g, 0, none⟩) 8 c) 8 (u64s (l.set j v)) ∧ Fr S0 w0 (w.setCell ⟨g, j, none⟩ (.int .u64 (v : Int))) := by
  obtain ⟨ho, hgr⟩ := own.stored j (.int .u64 (v : Int))
  refine ⟨?_, f.append hgr fun k hk => by simp only [Option.some.injEq] at hk; omega⟩
  unfold u64s at ho ⊢
  rw [List.map_set]
  exact ho

set_option maxRecDepth 100000 in
set_option maxHeartbeats 2000000 in
theorem rmul_any (x y : Nat) (w : World) (hx : x < 18446744073709551616) (hy : y < 18446744073709551616) :
    Calls Try.prog 39 #[.int .u64 (x : Int), .int .u64 (y : Int)] w fun e w' => ∃ v, e = .returned v ∧ NewDig w w' v (x * y) := by
  have HX := Lib.hid (fun W => rdigits_any x W hx)
  have HY := Lib.hid (fun W => rdigits_any y W hy)
  have hmk := make8
  have HB := Lib.hid (And.intro hx hy)
  clear hx hy
  go_enter Try.func39, Try.ntmps39
  go_wp2_with fail
  refine (HX.out _).mono ?_
  rintro e w1 ⟨g1, rfl, own1, f1, n1⟩
  go_wp2_with fail
  refine (HY.out _).mono ?_
  rintro e w2 ⟨g2, rfl, own2, f2, n2⟩
  have s1 : SlI w2 .u64 (some ⟨g1, 0, none⟩) (digs 4 x) := SlI.ofOwns (f2.owns own1 fun _ _ h => h)
  have s2 : SlI w2 .u64 (some ⟨g2, 0, none⟩) (digs 4 y) := SlI.ofOwns own2
  have F2 := Lib.hid (f1.trans0 f2)
  have own3 := own8 w2
  have f3 : Fr S0 w2 (w2.alloc (.cells #[.int .u64 0, .int .u64 0, .int .u64 0, .int .u64 0, .int .u64 0, .int .u64 0, .int .u64 0, .int .u64 0] 29)) := Fr.alloc _ _ _
  have O3 := Lib.hid own3
  have F3 := Lib.hid f3
  have S1 := Lib.hid s1
  have S2 := Lib.hid s2
  clear own1 own2 f1 f2 n1 n2 s1 s2 own3 f3
  go_wp2_with fail
  obtain ⟨g, hg⟩ : ∃ g, w2.heap.size = g := ⟨_, rfl⟩
  have HG : Hid (w2.heap.size ≤ g) := Lib.hid (by omega)
  rw [hg] at O3 ⊢
  clear hg
  go_loopw [8, 9, 10, 11] (fun i _ _ _ wr => ∃ (j : Nat) (l : List Nat), j ≤ 4 ∧ i = .int .i64 j ∧ MulOut x y j l ∧ Fr S0 w2 wr ∧ wr.ownsRow 0 29 1 (.slice (some ⟨g, 0, none⟩) 8 8) 8 (u64s l)) (fun i _ _ _ _ => 4 - (intOf i).toNat)
  case atStart => exact ⟨0, _, by omega, rfl, MulOut.start x y, F3.out, O3.out⟩
  case round =>
    obtain ⟨i, l, hi, rfl, hmo, hfr, own⟩ := hrel
    by_cases h4 : (i : Int) < 4
    · obtain ⟨wo, rfl⟩ : ∃ wo : World, wo = wr := ⟨_, rfl⟩
      have HMO := Lib.hid hmo
      have HFR := Lib.hid hfr
      have HO := Lib.hid own
      clear hmo hfr own
      go_wp2_with fail
      go_loopw [9, 10, 11] (fun m i' _ wr => ∃ (k c : Nat) (l : List Nat), k ≤ 4 ∧ i' = .int .i64 k ∧ m = .int .u64 c ∧ MulIn x y i k l c ∧ Fr S0 w2 wr ∧ wr.ownsRow 0 29 1 (.slice (some ⟨g, 0, none⟩) 8 8) 8 (u64s l)) (fun _ i' _ _ => 4 - (intOf i').toNat)
      case atStart => exact ⟨0, 0, l, by omega, rfl, rfl, HMO.out.on, HFR.out, HO.out⟩
      case round =>
        clear HMO HFR HO
        obtain ⟨k, c, m, hk, rfl, rfl, hmi, hfr, own⟩ := hrel
        have hcl := hmi.cl
        by_cases k4 : (k : Int) < 4
        · have HST := Lib.hid (hmi.step (by omega) (by omega))
          have c0 := row_at own (i + k) (by omega)
          have z0 := own.frozenAt (i + k)
          have c1 : wr.cell? ⟨g1, i, none⟩ = some (.int .u64 (dg x i : Nat)) := by
            obtain ⟨b, o, hp, hc⟩ := (S1.out.fr0 hfr).at i (by rw [digs_len]; omega)
            simp only [Option.some.injEq, Addr.mk.injEq] at hp
            obtain ⟨rfl, rfl, -⟩ := hp
            rw [digs_get, Nat.zero_add] at hc
            exact hc
          have c2 : wr.cell? ⟨g2, k, none⟩ = some (.int .u64 (dg y k : Nat)) := by
            obtain ⟨b, o, hp, hc⟩ := (S2.out.fr0 hfr).at k (by rw [digs_len]; omega)
            simp only [Option.some.injEq, Addr.mk.injEq] at hp
            obtain ⟨rfl, rfl, -⟩ := hp
            rw [digs_get, Nat.zero_add] at hc
            exact hc
          have l0 := lt_of_getD hmi.lt (i + k)
          have hp := prod_le (dg_lt x i) (dg_lt y k)
          obtain ⟨O, hO⟩ : ∃ O, m.getD (i + k) 0 = O := ⟨_, rfl⟩
          obtain ⟨X, hX⟩ : ∃ X, dg x i = X := ⟨_, rfl⟩
          obtain ⟨Y, hY⟩ : ∃ Y, dg y k = Y := ⟨_, rfl⟩
          rw [hO] at HST c0 l0
          rw [hX] at HST c1 hp
          rw [hY] at HST c2 hp
          obtain ⟨P, hP⟩ : ∃ P, X * Y = P := ⟨_, rfl⟩
          have wP : IntKind.u64.wrap ((X : Int) * (Y : Int)) = (P : Int) := wrap_nat (by rw [← hP, Int.natCast_mul]) (by omega)
          rw [hP] at HST hp
          have em : (((O : Int) + (P : Int) + (c : Int)) % 65536) = (((O + P + c) % 65536 : Nat) : Int) := by omega
          have HRS : Hid (∀ n, ((wr.setCell ⟨g, i + k, none⟩ (.int .u64 (((O : Int) + (P : Int) + (c : Int)) % 65536))).drewN n).ownsRow 0 29 1 (.slice (some ⟨g, 0, none⟩) 8 8) 8 (u64s (m.set (i + k) ((O + P + c) % 65536))) ∧
              Fr S0 w2 ((wr.setCell ⟨g, i + k, none⟩ (.int .u64 (((O : Int) + (P : Int) + (c : Int)) % 65536))).drewN n)) := Lib.hid fun n => by
            rw [em]
            have r := row_set own hfr HG.out (i + k) ((O + P + c) % 65536)
            exact ⟨(Fr.drewN S0 _ n).owns r.1 fun _ _ h => h, r.2.trans0 (Fr.drewN _ _ _)⟩
          have i8 : (i : Int) + (k : Int) < 8 := by omega
          clear hmi hO hX hY hP own hfr em
          go_wp2_with fail
          go_quiet (fail)
          go_wp2_with fail
          go_roundw
          case rel => exact ⟨k + 1, _, _, by omega, by go_num, by go_num, HST.out, (HRS.out nq).2, (HRS.out nq).1⟩
          case measure => simp [intOf]; omega
        · obtain rfl : k = 4 := by omega
          obtain ⟨hz, hmo⟩ := hmi.done (by omega) HB.out.2
          have HMO := Lib.hid hmo
          have c0 := row_at own (i + 4) (by omega)
          have z0 := own.frozenAt (i + 4)
          rw [hz] at c0
          have c0' : wr.cell? ⟨g, i + 4, none⟩ = some (.int .u64 0) := c0
          have HRS := Lib.hid (row_set own hfr HG.out (i + 4) c)
          clear hmi hz hmo own hfr c0
          go_wp2_with fail
          go_roundw
          case rel => exact ⟨i + 1, _, by omega, by go_num, HMO.out, HRS.out.2, HRS.out.1⟩
          case measure => simp [intOf]; omega
    · obtain rfl : i = 4 := by omega
      have HE := Lib.hid (hmo.done HB.out.1)
      have HN : Hid (NewDig w wr (.slice (some ⟨g, 0, none⟩) 8 8) (x * y)) := Lib.hid (NewDig.mk (by rw [← HE.out]; exact own) (F2.out.trans0 hfr))
      clear hmo own hfr
      go_wp2
      go_ret
      exact ⟨_, rfl, HN.out⟩
end Go.Proofs.Ytegdhggilaehdaa
