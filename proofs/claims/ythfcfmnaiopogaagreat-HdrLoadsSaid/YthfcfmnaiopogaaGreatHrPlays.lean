/- The law on what is recorded, corrected and taken together, for whatever histograms. -/
import Derived.Test.YthfcfmnaiopogaaGreatHrPair2
namespace Go.Proofs.YthfcfmnaiopogaaGreat
open Go.RowKit

abbrev OpT := Nat × Bool × Int × Nat × Int
/-- a slice of ops that is read -/
structure OpsI (w : World) (p : Option Addr) (l : List OpT) : Prop where
  ok : ∀ t ∈ l, t.1 < 256 ∧ (-9223372036854775808 ≤ t.2.2.1 ∧ t.2.2.1 ≤ 9223372036854775807) ∧ t.2.2.2.1 < 18446744073709551616 ∧ (-9223372036854775808 ≤ t.2.2.2.2 ∧ t.2.2.2.2 ≤ 9223372036854775807)
  at' : ∀ i, (h : i < l.length) → ∃ b o, p = some ⟨b, o, none⟩ ∧ w.cell? ⟨b, o + i * 5, none⟩ = some (.int .u8 (l[i].1 : Nat)) ∧ w.cell? ⟨b, o + i * 5 + 1, none⟩ = some (.bool l[i].2.1) ∧ w.cell? ⟨b, o + i * 5 + 2, none⟩ = some (.int .i64 l[i].2.2.1) ∧ w.cell? ⟨b, o + i * 5 + 3, none⟩ = some (.int .u64 (l[i].2.2.2.1 : Nat)) ∧ w.cell? ⟨b, o + i * 5 + 4, none⟩ = some (.int .i64 l[i].2.2.2.2)

set_option maxRecDepth 100000 in
theorem nil_no (gs : Nat) (W : World) : (binOp BinOp.eql 25 (.slice (some ⟨gs, 0, none⟩) 2 2) (.slice none 0 0)).run Tryz.prog W = .ok (.bool false) W := by
  first
    | (simp [binOp, go_sem]; done)
    | kernel_rfl
section
variable {Is : World → Nat → (Nat → Prop) → Hm → Prop}
theorem Quad.goods {w W : World} {gs gw a b xA xB rA rB : Nat} {MA MB NA NB : Hm} (q : Quad Is w W gs gw a b xA xB rA rB MA MB NA NB) : NA.Good ∧ NB.Good := by
  obtain ⟨own, iA, iB, d⟩ := q
  obtain ⟨C, ⟨p, n, c, s, -⟩, -⟩ := d.kA
  obtain ⟨C2, ⟨p2, n2, c2, s2, -⟩, -⟩ := d.kB
  exact ⟨s.good, s2.good⟩
/-- an op on A, or on B -/
theorem do_any (hd : HdrDoes Is) (w W : World) (gs gw xA xB rA rB k : Nat) (MA MB : Hm) (q : Quad Is w W gs gw 0 1 xA xB rA rB MA MB MA MB) (kd : Nat) (who : Bool) (v : Int) (n : Nat) (x : Int) (hv : -9223372036854775808 ≤ v) (hv2 : v ≤ 9223372036854775807) (hx : -9223372036854775808 ≤ x) (hx2 : x ≤ 9223372036854775807) (hn : n < 18446744073709551616)
    (hf : farB kd v x = false) (hk : k ≤ 39000) (nar : Nar k MA.l MB.l) :
    Calls Tryz.prog 15 #[.slice (some ⟨gs, 0, none⟩) 2 2, .slice (some ⟨gw, 0, none⟩) 2 2, .agg #[.int .u8 (kd : Nat), .bool who, .int .i64 v, .int .u64 (n : Nat), .int .i64 x]] W fun e w' => e = .returned (.bool true) ∧ ∃ MA' MB', Quad Is w w' gs gw 0 1 xA xB rA rB MA' MB' MA' MB' ∧ Nar (k + 301) MA'.l MB'.l := by
  obtain ⟨gA, gB⟩ := q.goods
  have lA := nar.len gA.srt
  have lB := nar.swap.len gB.srt
  cases who with
  | false =>
    have hw : (false = false ∧ (0 : Nat) = 0 ∧ (1 : Nat) = 1) ∨ (false = true ∧ (0 : Nat) = 1 ∧ (1 : Nat) = 0) := .inl ⟨rfl, rfl, rfl⟩
    by_cases h4 : kd % 7 = 4
    · exact (do_correct hd w W gs gw 0 1 xA xB rA rB MA MB q kd false v n x hw h4 hv hv2 hx hx2 hn (by omega)).mono fun e w' h => ⟨h.1, _, _, h.2, nar.correct v n x (far_more h4 hf)⟩
    · by_cases h5 : kd % 7 = 5
      · exact (do_take hd w W gs gw 0 1 xA xB rA rB MA MB q kd false v n x hw h5 (by omega)).mono fun e w' h => ⟨h.1, _, _, h.2, (nar.take (.inr rfl)).more (by omega)⟩
      · by_cases h6 : kd % 7 = 6
        · exact (do_self hd w W gs gw 0 1 xA xB rA rB MA MB q kd false v n x hw h6 (by omega)).mono fun e w' h => ⟨h.1, _, _, h.2, (nar.take (.inl rfl)).more (by omega)⟩
        · exact (do_record hd w W gs gw 0 1 xA xB rA rB MA MB q kd false v n x hw h4 h5 h6 hv hv2 hn (by omega)).mono fun e w' h => ⟨h.1, _, _, h.2, (nar.record v n).more (by omega)⟩
  | true =>
    have hw : (true = false ∧ (1 : Nat) = 0 ∧ (0 : Nat) = 1) ∨ (true = true ∧ (1 : Nat) = 1 ∧ (0 : Nat) = 0) := .inr ⟨rfl, rfl, rfl⟩
    by_cases h4 : kd % 7 = 4
    · exact (do_correct hd w W gs gw 1 0 xB xA rB rA MB MA q.swap kd true v n x hw h4 hv hv2 hx hx2 hn (by omega)).mono fun e w' h => ⟨h.1, _, _, h.2.swap, (nar.swap.correct v n x (far_more h4 hf)).swap⟩
    · by_cases h5 : kd % 7 = 5
      · exact (do_take hd w W gs gw 1 0 xB xA rB rA MB MA q.swap kd true v n x hw h5 (by omega)).mono fun e w' h => ⟨h.1, _, _, h.2.swap, ((nar.swap.take (.inr rfl)).more (by omega)).swap⟩
      · by_cases h6 : kd % 7 = 6
        · exact (do_self hd w W gs gw 1 0 xB xA rB rA MB MA q.swap kd true v n x hw h6 (by omega)).mono fun e w' h => ⟨h.1, _, _, h.2.swap, ((nar.swap.take (.inl rfl)).more (by omega)).swap⟩
        · exact (do_record hd w W gs gw 1 0 xB xA rB rA MB MA q.swap kd true v n x hw h4 h5 h6 hv hv2 hn (by omega)).mono fun e w' h => ⟨h.1, _, _, h.2.swap, ((nar.swap.record v n).more (by omega)).swap⟩
/-- A of both is the same -/
theorem Quad.same (hd : HdrDoes Is) {w W : World} {gs gw a b xA xB rA rB k : Nat} {MA MB : Hm} (q : Quad Is w W gs gw a b xA xB rA rB MA MB MA MB) (hk : k ≤ 100000) (nar : Nar k MA.l MB.l) :
    Calls Tryz.prog 16 #[.pointer (some ⟨xA, 0, none⟩), .pointer (some ⟨rA, 0, none⟩)] W fun e w' => e = .returned (.bool true) ∧ Fr S0 W w' := by
  have gA := q.goods.1
  have lA := nar.len gA.srt
  obtain ⟨C, -, h1, -, -, -⟩ := q.codeA hd.reads.ob
  obtain ⟨p, n, c, p2, n2, c2, s, -⟩ := q.refA hd.reads.ob
  have hl := s.len
  exact same_any hd.reads xA C rA p n c MA W h1 s (by omega)
end

set_option maxRecDepth 100000 in
set_option maxHeartbeats 400000 in
theorem wshape_any (a d y : Nat) : ∃ L H D : Nat, (0 < L ∧ 2 * L ≤ H ∧ H < 9223372036854775808) ∧ (1 ≤ D ∧ D ≤ 5) ∧ unt L + mag D ≤ 62 ∧
    ∀ w, Calls Tryz.prog 13 #[.int .u64 (a : Nat), .int .u8 (d : Nat), .int .u64 (y : Nat)] w fun e w' => e = .returned (.agg #[.int .i64 (L : Nat), .int .i64 (H : Nat), .int .i64 (D : Nat)]) ∧ Fr S0 w w' := by
  obtain ⟨A, hA⟩ : ∃ A, a % 100000 = A := ⟨_, rfl⟩
  obtain ⟨E, hE⟩ : ∃ E, d % 5 = E := ⟨_, rfl⟩
  obtain ⟨Y, hY⟩ : ∃ Y, y % 4611686018427387904 = Y := ⟨_, rfl⟩
  have e1 : (a : Int) % 100000 = (A : Int) := by omega
  have e2 : (d : Int) % 5 = (E : Int) := by omega
  have e6 : (y : Int) % 4611686018427387904 = (Y : Int) := by omega
  obtain ⟨L, hL⟩ : ∃ L, 1 + A = L := ⟨_, rfl⟩
  obtain ⟨D, hD⟩ : ∃ D, 1 + E = D := ⟨_, rfl⟩
  have e3 : 1 + (A : Int) = (L : Int) := by omega
  have e4 : 1 + (E : Int) = (D : Int) := by omega
  obtain ⟨H0, hH0⟩ : ∃ H, 2 * L = H := ⟨_, rfl⟩
  obtain ⟨H, hH⟩ : ∃ H, H0 + Y = H := ⟨_, rfl⟩
  have e5 : 2 * (L : Int) = (H0 : Int) := by omega
  have e7 : (H0 : Int) + (Y : Int) = (H : Int) := by omega
  have hA2 : A ≤ 99999 := by omega
  have hE2 : E ≤ 4 := by omega
  have hL2 : L ≤ 100000 := by omega
  have hD2 : D ≤ 5 := by omega
  have hH2 : H0 ≤ 200000 := by omega
  have hY2 : Y ≤ 4611686018427387903 := by omega
  have hH3 : H ≤ 4611686018427587903 := by omega
  have hu : unt L ≤ 16 := by
    have := (bits_iff L 17 (by omega)).2 (by omega)
    rw [unt]; omega
  have hm := mag_bd D (by omega) (by omega)
  refine ⟨L, H, D, ⟨by omega, by omega, by omega⟩, ⟨by omega, by omega⟩, by omega, fun w => ?_⟩
  clear hA hE hL hD hH hu hm hY hH0
  go_enter Tryz.func13, Tryz.ntmps13
  go_wp2_with fail
  exact bodyPost_ret (v := .agg #[.int .i64 (L : Nat), .int .i64 (H : Nat), .int .i64 (D : Nat)]) (by simp [results, Tryz.results13, go_sem]) rfl ⟨rfl, (Fr.alloc _ _ _).trans0 (Fr.alloc _ _ _)⟩
end Go.Proofs.YthfcfmnaiopogaaGreat
