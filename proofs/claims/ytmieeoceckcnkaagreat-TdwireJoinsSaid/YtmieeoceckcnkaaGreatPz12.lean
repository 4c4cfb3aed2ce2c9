/- RgRow, RgSort -/
import Derived.Test.YtmieeoceckcnkaaGreatPz1
import Derived.Test.YtmieeoceckcnkaaGreatPz2
import Derived.Test.YtmieeoceckcnkaaGreatPz3
import Derived.Test.YtmieeoceckcnkaaGreatPz4
import Derived.Test.YtmieeoceckcnkaaGreatPz5
import Derived.Test.YtmieeoceckcnkaaGreatPz6
import Derived.Test.YtmieeoceckcnkaaGreatPz7
import Derived.Test.YtmieeoceckcnkaaGreatPz10
import Derived.Test.YtmieeoceckcnkaaGreatPz11
import Derived.Deep.RegionHeld3
import Derived.BigQuiet
import Derived.Lib.AppendZerosOnto
import Derived.Lib.SliceRun
import Derived.Lib.Walk
import Derived.StillTailTactics
import Derived.Deep.RegionLaw
import Derived.BigRegion
import Derived.Maps.AppendAt
import Derived.Laws.AppendOwnNone
import Derived.Laws.OwnMore
import Derived.Laws.Externs
import Derived.Shelf.Spec.BitsCarry
import Derived.Deep.CutBlock
import Derived.Deep.CutRange
import Derived.Deep.DeepCutAuto
import Derived.Lib.BitFns
import Derived.Shelf.Small.Bits
import Derived.Shelf.Strconv.Itoa0
import Derived.Shelf.Bits.Mul64
import Derived.Test.YtmieeoceckcnkaaGreatRows
import Derived.WalkKit
import Derived.WalkSpells
import Derived.WalkLawsBesides
import Derived.Deep.QuietTactic
import Derived.RegionTactic
import Derived.Deep.AppendLies
import Derived.Laws.ResultCell
import Derived.Laws.EntriesVeiled
import Derived.Lib.Hide
import Derived.Laws.BytesArg
import Derived.Lib.SlBytesConst
set_option maxRecDepth 100000
set_option maxHeartbeats 8000000
namespace Go.Proofs.YtmieeoceckcnkaaGreat
open Go.RowKit
theorem rtotal_any (p : Option Addr) (n c : Nat) (l : List Tm) (w : World) (h : Sl w p n c l) (ht : wts l < 18446744073709551616) :
    Calls Tryz.prog 13 #[.slice p n c] w fun e w' => e = .returned (.int .u64 (wts l : Nat)) ∧ w = w' := by
  have H := Lib.hid h
  have HT := Lib.hid ht
  have hcap := h.cap
  have hmx := h.max
  unfold maxLen at hmx
  clear h ht
  go_enter Tryz.func13, Tryz.ntmps13
  go_wp2_with fail
  go_loopw [3, 4] (fun s i wr => ∃ j T : Nat, j ≤ n ∧ i = .int .i64 j ∧ s = .int .u64 T ∧ Hid (wts (l.take j) = T) ∧ w = wr) (fun _ i _ => n - (intOf i).toNat)
  case atStart => exact ⟨0, 0, by omega, rfl, rfl, (by first | exact Lib.hid rfl | exact Lib.hid trivial), rfl⟩
  case round =>
    obtain ⟨j, T, hj, rfl, rfl, hT, hw⟩ := hrel
    obtain rfl := hw
    by_cases hjn : (j : Int) < (n : Int)
    · have hjl : j < l.length := by rw [H.out.len]; omega
      obtain ⟨b, o, rfl, c0, c1⟩ := H.out.at j hjl
      have HD := Lib.hid (wts_take l j hjl).1
      have hle := wts_take_le l (j + 1)
      rw [HD.out, hT.out] at hle
      obtain ⟨⟨tk, tn⟩, ht⟩ : ∃ t, l[j] = t := ⟨_, rfl⟩
      rw [ht] at c0 c1 HD hle
      have hlt : T + tn < 18446744073709551616 := by have := HT.out; simp only at hle; omega
      clear ht hle
      simp only at c0 c1 hlt HD
      have HDD : Hid (wts (l.take (j + 1)) = T + tn) := Lib.hid (by rw [HD.out, hT.out])
      clear HD hT
      go_wp2_with fail
      go_roundw
      case rel => exact ⟨j + 1, T + tn, by omega, by go_num, by go_num, HDD, trivial⟩
      case measure => simp [intOf]; omega
    · obtain rfl : j = n := by omega
      have HV : Hid (wts l = T) := Lib.hid (by rw [← hT.out, ← H.out.len, List.take_length])
      clear hT
      go_wp2_with fail
      go_ret
      exact ⟨by first | (rw [HV.out]; done) | (rw [HV.out]; rfl), rfl⟩
theorem cmpR_le (x y : Nat) : decide (cmpR x y ≤ 0) = decide (x ≤ y) := by
  unfold cmpR
  split
  · simp; omega
  · split <;> simp <;> omega
theorem rmay_any (d n L W : Nat) (w : World) (hd : d ≤ 1000) (hn : n ≤ 281474976710656) (hL : L + W ≤ n) :
    Calls Tryz.prog 64 #[.int .i64 (d : Nat), .int .u64 (n : Nat), .int .u64 (L : Nat), .int .u64 (W : Nat)] w fun e w' => e = .returned (.bool (may d n L W)) ∧ Fr S0 w w' := by
  unfold may
  obtain ⟨L2, eL2⟩ : ∃ L2, 2 * L = L2 := ⟨_, rfl⟩
  obtain ⟨M, eM⟩ : ∃ M, L2 + W = M := ⟨_, rfl⟩
  obtain ⟨D, eD⟩ : ∃ D, n - L = D := ⟨_, rfl⟩
  obtain ⟨D2, eD2⟩ : ∃ D2, 2 * D = D2 := ⟨_, rfl⟩
  obtain ⟨R, eR⟩ : ∃ R, D2 - W = R := ⟨_, rfl⟩
  have eR2 : 2 * n - M = R := by omega
  obtain ⟨WD, eWD⟩ : ∃ WD, W * d = WD := ⟨_, rfl⟩
  have hWD : WD < 18446744073709551616 := by
    have h1 : W * d ≤ 281474976710656 * 1000 := Nat.mul_le_mul (by omega) hd
    omega
  rw [eL2, eM, eR2, eWD]
  have iL2 : 2 * (L : Int) = (L2 : Int) := by omega
  have iM : (L2 : Int) + (W : Int) = (M : Int) := by omega
  have iD : (n : Int) - (L : Int) = (D : Int) := by omega
  have iD2 : 2 * (D : Int) = (D2 : Int) := by omega
  have iR : (D2 : Int) - (W : Int) = (R : Int) := by omega
  have iWD : (W : Int) * (d : Int) = (WD : Int) := by rw [← Int.natCast_mul, eWD]
  have hx : WD * n < 340282366920938463463374607431768211456 := by
    have := Nat.mul_le_mul (show WD ≤ 18446744073709551615 by omega) (show n ≤ 281474976710656 by omega)
    omega
  have hy : M * R < 340282366920938463463374607431768211456 := by
    have := Nat.mul_le_mul (show M ≤ 18446744073709551615 by omega) (show R ≤ 18446744073709551615 by omega)
    omega
  have HM1 := Lib.hid (fun V => rmul_any WD n V hWD (by omega))
  have HM2 := Lib.hid (fun V => rmul_any M R V (by omega) (by omega))
  have HCM := Lib.hid (fun p q c d V (h1 : Dig V p (WD * n)) (h2 : Dig V q (M * R)) => rcmp_any p q c d (WD * n) (M * R) V h1 h2 hx hy)
  have HE := Lib.hid (cmpR_le (WD * n) (M * R))
  obtain ⟨Z, eZ⟩ : ∃ Z, cmpR (WD * n) (M * R) = Z := ⟨_, rfl⟩
  rw [eZ] at HCM HE
  obtain ⟨Y, eY⟩ : ∃ Y, decide (WD * n ≤ M * R) = Y := ⟨_, rfl⟩
  rw [eY] at HE ⊢
  obtain ⟨A, eA⟩ : ∃ A, WD * n = A := ⟨_, rfl⟩
  obtain ⟨B, eB⟩ : ∃ B, M * R = B := ⟨_, rfl⟩
  rw [eA] at HM1 HCM
  rw [eB] at HM2 HCM
  have b1 : (M : Int) < 18446744073709551616 := by omega
  have b2 : (L2 : Int) < 18446744073709551616 := by omega
  have b3 : (D : Int) < 18446744073709551616 := by omega
  have b4 : (D2 : Int) < 18446744073709551616 := by omega
  have b5 : (R : Int) < 18446744073709551616 := by omega
  have b6 : (WD : Int) < 18446744073709551616 := by omega
  have b7 : (d : Int) ≤ 1000 := by omega
  clear eL2 eM eD eD2 eR eR2 eWD hWD eZ eY hL hn hd hx hy eA eB
  go_enter Tryz.func64, Tryz.ntmps64
  go_wp2_with fail
  refine (HM1.out _).mono ?_
  rintro e w1 ⟨v1, rfl, p1, c1, rfl, d1, f1⟩
  have N1 := Lib.hid (And.intro d1 f1)
  clear d1 f1 HM1
  go_wp2_with fail
  refine (HM2.out _).mono ?_
  rintro e w2 ⟨v2, rfl, p2, c2, rfl, d2, f2⟩
  have N2 := Lib.hid (And.intro d2 f2)
  clear d2 f2 HM2
  go_wp2_with fail
  refine (HCM.out _ _ _ _ _ (N1.out.1.fr0 N2.out.2) N2.out.1).mono ?_
  rintro e w3 ⟨rfl, k, rfl⟩
  clear HCM
  go_wp2_with fail
  go_ret
  exact ⟨congrArg (fun z => Ending.returned (Value.bool z)) HE.out, (N1.out.2.trans0 N2.out.2).trans0 (Fr.drewN _ _ _)⟩
theorem avm_far {a b : Int} {n m : Nat} (hab : a ≤ b) (h1 : -9223372036854775808 ≤ a) (h0 : 0 < n + m) : avm (a, n) (b, m) = a + (((b - a).toNat * m / (n + m) : Nat) : Int) := by
  have e1 : wts [(a, n), (b, m)] = n + m := by simp [wts]
  have e2 : lsm [(a, n), (b, m)] = lft a * n + lft b * m := by simp [lsm]
  obtain ⟨A, eA⟩ : ∃ A, lft a = A := ⟨_, rfl⟩
  obtain ⟨D, eD⟩ : ∃ D, (b - a).toNat = D := ⟨_, rfl⟩
  have eB : lft b = A + D := by rw [← eA, ← eD]; unfold lft; omega
  have eX : A * n + (A + D) * m = D * m + (n + m) * A := by
    rw [Nat.add_mul, Nat.add_mul, Nat.mul_comm n A, Nat.mul_comm m A]
    omega
  unfold avm
  rw [e1, e2, eB, eA, eD, eX, Nat.add_mul_div_left _ _ h0]
  unfold lft at eA
  omega
theorem ravg_any (a b : Int) (n m : Nat) (w : World) (ha : TmOk (a, n)) (hb : TmOk (b, m)) (hab : a ≤ b) (hs : n + m < 18446744073709551616) (h0 : 0 < n + m) :
    Calls Tryz.prog 65 #[.int .i64 a, .int .u64 (n : Nat), .int .i64 b, .int .u64 (m : Nat)] w fun e w' => e = .returned (.int .i64 (avm (a, n) (b, m))) ∧ Fr S0 w w' := by
  have a1 := ha.lo
  have a2 := ha.hi
  have b1 := hb.lo
  have b2 := hb.hi
  simp only at a1 a2 b1 b2
  rw [avm_far hab a1 h0]
  obtain ⟨K, eK⟩ : ∃ K, (b - a).toNat = K := ⟨_, rfl⟩
  obtain ⟨S, eS⟩ : ∃ S, n + m = S := ⟨_, rfl⟩
  have iS : (n : Int) + (m : Int) = (S : Int) := by omega
  have bS : (S : Int) < 18446744073709551616 := by omega
  rw [eK, eS]
  have hq : K * m / S ≤ K := part_le K m S (by omega)
  have HMD := Lib.hid (fun W => rmuldiv_yes K m S W (by omega) (by omega) (by omega) (by omega) (by omega))
  obtain ⟨Z, eZ⟩ : ∃ Z, K * m / S = Z := ⟨_, rfl⟩
  obtain ⟨Z2, eZ2⟩ : ∃ Z2, K * m % S = Z2 := ⟨_, rfl⟩
  rw [eZ] at hq HMD ⊢
  rw [eZ2] at HMD
  obtain ⟨U, eU⟩ : ∃ U : Nat, (b % 18446744073709551616) = (U : Int) := ⟨(b % 18446744073709551616).toNat, by omega⟩
  obtain ⟨V, eV⟩ : ∃ U : Nat, (a % 18446744073709551616) = (U : Int) := ⟨(a % 18446744073709551616).toNat, by omega⟩
  have wU : IntKind.u64.wrap b = (U : Int) := by rw [IntKind.wrap_u64]; exact eU
  have wV : IntKind.u64.wrap a = (V : Int) := by rw [IntKind.wrap_u64]; exact eV
  have iK : ((U : Int) - (V : Int)) % 18446744073709551616 = (K : Int) := by omega
  have wK : IntKind.u64.wrap ((U : Int) - (V : Int)) = (K : Int) := by rw [IntKind.wrap_u64]; exact iK
  obtain ⟨Y, eY⟩ : ∃ Y : Nat, ((V : Int) + (Z : Int)) % 18446744073709551616 = (Y : Int) := ⟨(((V : Int) + (Z : Int)) % 18446744073709551616).toNat, by omega⟩
  have wY : IntKind.u64.wrap ((V : Int) + (Z : Int)) = (Y : Int) := by rw [IntKind.wrap_u64]; exact eY
  obtain ⟨R, eR⟩ : ∃ R : Int, a + (Z : Int) = R := ⟨_, rfl⟩
  have wR : IntKind.i64.wrap (Y : Int) = R := by rw [IntKind.wrap_i64]; omega
  rw [eR]
  have HW := Lib.hid wR
  clear ha hb hab h0 hs eK eS eZ eZ2 hq eR a1 a2 b1 b2
  go_enter Tryz.func65, Tryz.ntmps65
  go_wp2_with fail
  refine (HMD.out _).mono ?_
  rintro e w1 ⟨rfl, f1⟩
  have F1 := Lib.hid f1
  clear f1 HMD
  go_wp2_with fail
  go_ret
  exact ⟨by first | rfl | exact congrArg (fun z => Ending.returned (Value.int .i64 z)) HW.out, F1.out⟩
end Go.Proofs.YtmieeoceckcnkaaGreat

namespace Go.Proofs.YtmieeoceckcnkaaGreat
open Go.RowKit
theorem ins_at {x : Tm} : ∀ (o : List Tm) (k : Nat), (∀ j (h : j < o.length), j < k → o[j].1 ≤ x.1) → (∀ h : k < o.length, x.1 < o[k].1) → k ≤ o.length → ins x o = o.take k ++ [x] ++ o.drop k
  | [], k, _, _, h3 => by
    obtain rfl : k = 0 := Nat.le_zero.1 h3
    rfl
  | y :: r, 0, _, h2, _ => by
    have := h2 (by simp)
    simp only [List.getElem_cons_zero] at this
    rw [ins, if_neg (by omega)]
    rfl
  | y :: r, k + 1, h1, h2, h3 => by
    have h0 := h1 0 (by simp) (by omega)
    simp only [List.getElem_cons_zero] at h0
    rw [ins, if_pos h0, ins_at r k (fun j hj hjk => by have := h1 (j + 1) (by simp; omega) (by omega); simpa using this) (fun h => by have := h2 (by simp; omega); simpa using this) (by simp at h3; omega)]
    rfl
section
variable (p : Option Addr) (n c : Nat) (l : List Tm) (w : World)
theorem rsort_any (h : Sl w p n c l) (hN : n ≤ 500000000000) :
    Calls Tryz.prog 63 #[.slice p n c] w fun e w' => ∃ v, e = .returned v ∧ Acc 76 w w' v n (srt l) := by
  have H := Lib.hid h
  have hNh := Lib.hid hN
  clear h
  go_enter Tryz.func63, Tryz.ntmps63
  go_wp2_with fail
  go_loopw [3, 4] (fun o i wr => ∃ j : Nat, j ≤ n ∧ i = .int .i64 j ∧ Hid (Acc 76 w wr o j (srt (l.take j)))) (fun _ i _ => n - (intOf i).toNat)
  case atStart => exact ⟨0, by omega, rfl, Lib.hid (Acc.nil (Fr.refl _ _))⟩
  case round =>
    obtain ⟨j, hj, rfl, hacc⟩ := hrel
    generalize wr = wo at *
    obtain ⟨po, co, rfl⟩ := slFormN hacc.out.own
    by_cases hjn : (j : Int) < (n : Int)
    · have hjl : j < l.length := by rw [H.out.len]; omega
      have HSO : Hid (Sl wo po j co (srt (l.take j))) := Lib.hid (Sl.ofOwns hacc.out.own)
      have HSL := Lib.hid (H.out.fr0 hacc.out.fr)
      have HF := Lib.hid hacc.out.fr
      obtain ⟨⟨tv, tn⟩, ht⟩ : ∃ t, l[j] = t := ⟨_, rfl⟩
      have HE : Hid (srt (l.take (j + 1)) = ins (tv, tn) (srt (l.take j))) := Lib.hid (by rw [List.take_succ_eq_append_getElem hjl, srt_snoc, ht])
      have hce : ∀ W, Fr S0 wo W → ∃ b o, p = some ⟨b, o, none⟩ ∧ W.cell? ⟨b, o + j * 2, none⟩ = some (.int .i64 tv) ∧ W.cell? ⟨b, o + j * 2 + 1, none⟩ = some (.int .u64 (tn : Nat)) := fun W f => by
        have := (HSL.out.fr0 f).at j hjl
        rw [ht] at this
        exact this
      have HCE := Lib.hid hce
      obtain ⟨b, o, rfl, -, -⟩ := hce wo (Fr.refl _ _)
      obtain ⟨O, eO⟩ : ∃ O, srt (l.take j) = O := ⟨_, rfl⟩
      rw [eO] at HSO HE
      clear ht hce eO hacc
      go_wp2_with fail
      go_loopw [5, 6] (fun nx k w2 => ∃ K : Nat, K ≤ j ∧ k = .int .i64 K ∧ Hid (Acc 76 wo w2 nx K (O.take K)) ∧ Hid (∀ i (h : i < O.length), i < K → O[i].1 ≤ tv)) (fun _ k _ => j - (intOf k).toNat)
      case atStart => exact ⟨0, by omega, rfl, Lib.hid (Acc.nil (Fr.refl _ _)), Lib.hid fun i _ h => absurd h (Nat.not_lt_zero _)⟩
      case round =>
        obtain ⟨K, hK, rfl, hna, hle⟩ := hrel
        obtain ⟨pn, cn, rfl⟩ := slFormN hna.out.own
        have hNN := hNh.out
        have HR1 : Hid (Room (K + 1)) := Lib.hid (Room.mk (by omega))
        have hnx : (K : Int) ≤ 1000000000000 := by omega
        have hmc : (c : Int) ≤ 9223372036854775807 := by have := H.out.max; unfold maxLen at this; omega
        obtain ⟨b9, o9, hp9, d0, d1⟩ := HCE.out wr hna.out.fr
        simp only [Option.some.injEq, Addr.mk.injEq] at hp9
        obtain ⟨rfl, rfl, -⟩ := hp9
        have hOl : O.length = j := HSO.out.len
        by_cases hKj : (K : Int) < (j : Int)
        · have hKl : K < O.length := by omega
          obtain ⟨b7, o7, rfl, k0, k1⟩ := (HSO.out.fr0 hna.out.fr).at K hKl
          have HTK := Lib.hid (List.take_succ_eq_append_getElem hKl)
          have HCU := Lib.hid (fun W (f : Fr S0 wo W) => (HSO.out.fr0 f).at K hKl)
          obtain ⟨⟨uv, un⟩, hu⟩ : ∃ t, O[K] = t := ⟨_, rfl⟩
          have HU := Lib.hid hu
          rw [hu] at k0 k1 HTK
          simp only at k0 k1
          by_cases hcmp : uv ≤ tv
          · clear hOl
            go_wp2_with fail
            go_quiet (fail)
            have HNA := Lib.hid (hna.out.fr0 (Fr.drewN S0 wr nq))
            have k2 : (wr.drewN nq).cell? ⟨b7, o7 + K * 2, none⟩ = some (.int .i64 uv) := k0
            have k3 : (wr.drewN nq).cell? ⟨b7, o7 + K * 2 + 1, none⟩ = some (.int .u64 (un : Nat)) := k1
            clear k0 k1 d0 d1
            generalize wr.drewN nq = w3 at *
            go_wp2_with ((with_reducible show wpList _ _ _ (Oper.mk (some 36) _ _ _ _ _ :: _) _ _); refine app_one elAm (.tmp 30) (.tmp 35) rfl HNA.out.own rfl rfl rfl rfl rfl (one_pr uv un) HR1.out ?_; intro g1 cap1 w5 hown hgrow hat hlt; have HA5 := Lib.hid (HNA.out.app hown hgrow hat); clear hown hgrow hat hlt)
            go_roundw
            case rel => exact ⟨K + 1, by omega, by go_num, by rw [HTK.out]; exact HA5, Lib.hid fun i h hi => by
                rcases Nat.lt_or_ge i K with h2 | h2
                · exact hle.out i h h2
                · obtain rfl : i = K := by omega
                  rw [HU.out]
                  exact hcmp⟩
            case measure => simp [intOf]; omega
          · have HINS : Hid (ins (tv, tn) O = O.take K ++ [(tv, tn)] ++ O.drop K) := Lib.hid (ins_at O K hle.out (fun h => by rw [HU.out]; simp only; omega) (by omega))
            clear hOl
            go_wp2_with fail
            go_quiet (fail)
            have HNA := Lib.hid (hna.out.fr0 (Fr.drewN S0 wr nq))
            have d2 : (wr.drewN nq).cell? ⟨b, o + j * 2, none⟩ = some (.int .i64 tv) := d0
            have d3 : (wr.drewN nq).cell? ⟨b, o + j * 2 + 1, none⟩ = some (.int .u64 (tn : Nat)) := d1
            clear k0 k1 d0 d1
            generalize wr.drewN nq = w3x at *
            go_wp2_with ((with_reducible show wpList _ _ _ (Oper.mk (some 45) _ _ _ _ _ :: _) _ _); refine app_one elAm (.tmp 39) (.tmp 44) rfl HNA.out.own rfl rfl rfl rfl rfl (one_pr tv tn) HR1.out ?_; intro g1 cap1 w3 hown hgrow hat hlt; have HA3 := Lib.hid (HNA.out.app hown hgrow hat); clear hown hgrow hat hlt)
            go_loopw [5, 6] (fun nx k w4 => ∃ (Q : Nat) (L : List Tm), Q ≤ j ∧ k = .int .i64 Q ∧ Hid (Acc 76 wo w4 nx (Q + 1) L) ∧ Hid (L ++ O.drop Q = ins (tv, tn) O)) (fun _ k _ => j - (intOf k).toNat)
            case atStart => exact ⟨K, _, hK, rfl, HA3, Lib.hid HINS.out.symm⟩
            case round =>
              obtain ⟨Q, L, hQ, rfl, ha4, hq4⟩ := hrel
              obtain ⟨p4, c4, rfl⟩ := slFormN ha4.out.own
              have hNN := hNh.out
              have HR2 : Hid (Room (Q + 1 + 1)) := Lib.hid (Room.mk (by omega))
              by_cases hQj : (Q : Int) < (j : Int)
              · have hQl : Q < O.length := by have := HSO.out.len; omega
                obtain ⟨b5, o5, hp5, k0, k1⟩ := (HSO.out.fr0 ha4.out.fr).at Q hQl
                first
                  | subst hp5
                  | (simp only [Option.some.injEq, Addr.mk.injEq] at hp5; obtain ⟨rfl, rfl, -⟩ := hp5)
                have HDR := Lib.hid (List.drop_eq_getElem_cons hQl)
                obtain ⟨⟨uv, un⟩, hu⟩ : ∃ t, O[Q] = t := ⟨_, rfl⟩
                rw [hu] at k0 k1 HDR
                simp only at k0 k1
                have hQx : (Q : Int) ≤ 1000000000000 := by omega
                clear hu
                go_wp2_with ((with_reducible show wpList _ _ _ (Oper.mk (some 56) _ _ _ _ _ :: _) _ _); refine app_one elAm (.tmp 50) (.tmp 55) rfl ha4.out.own rfl rfl rfl rfl rfl (one_pr uv un) HR2.out ?_; intro g1 cap1 w5 hown hgrow hat hlt; have HA5 := Lib.hid (ha4.out.app hown hgrow hat); clear hown hgrow hat hlt)
                go_roundw
                case rel => exact ⟨Q + 1, _, by omega, by go_num, HA5, Lib.hid (by rw [List.append_assoc, List.singleton_append, ← HDR.out]; exact hq4.out)⟩
                case measure => simp [intOf]; omega
              · obtain rfl : Q = j := by omega
                have HEQ : Hid (L = ins (tv, tn) O) := Lib.hid (by have h9 := hq4.out; rw [List.drop_of_length_le (by rw [HSO.out.len]; exact Nat.le_refl _), List.append_nil] at h9; exact h9)
                go_wp2_with fail
                go_roundw
                case rel => exact ⟨Q + 1, by omega, by go_num, Lib.hid (by rw [HE.out, ← HEQ.out]; exact ha4.out.from HF.out)⟩
                case measure => simp [intOf]; omega
        · obtain rfl : K = j := by omega
          have HINS : Hid (ins (tv, tn) O = O.take K ++ [(tv, tn)] ++ O.drop K) := Lib.hid (ins_at O K hle.out (fun h => by omega) (by omega))
          clear hOl
          go_wp2_with fail
          go_quiet (fail)
          have HNA := Lib.hid (hna.out.fr0 (Fr.drewN S0 wr nq))
          have d2 : (wr.drewN nq).cell? ⟨b, o + K * 2, none⟩ = some (.int .i64 tv) := d0
          have d3 : (wr.drewN nq).cell? ⟨b, o + K * 2 + 1, none⟩ = some (.int .u64 (tn : Nat)) := d1
          clear d0 d1
          generalize wr.drewN nq = w3x at *
          go_wp2_with ((with_reducible show wpList _ _ _ (Oper.mk (some 45) _ _ _ _ _ :: _) _ _); refine app_one elAm (.tmp 39) (.tmp 44) rfl HNA.out.own rfl rfl rfl rfl rfl (one_pr tv tn) HR1.out ?_; intro g1 cap1 w3 hown hgrow hat hlt; have HA3 := Lib.hid (HNA.out.app hown hgrow hat); clear hown hgrow hat hlt)
          go_loopw [5, 6] (fun nx k w4 => ∃ (Q : Nat) (L : List Tm), Q ≤ K ∧ k = .int .i64 Q ∧ Hid (Acc 76 wo w4 nx (Q + 1) L) ∧ Hid (L ++ O.drop Q = ins (tv, tn) O)) (fun _ k _ => K - (intOf k).toNat)
          case atStart => exact ⟨K, _, Nat.le_refl _, rfl, HA3, Lib.hid HINS.out.symm⟩
          case round =>
            obtain ⟨Q, L, hQ, rfl, ha4, hq4⟩ := hrel
            obtain ⟨p4, c4, rfl⟩ := slFormN ha4.out.own
            have hNN := hNh.out
            have HR2 : Hid (Room (Q + 1 + 1)) := Lib.hid (Room.mk (by omega))
            by_cases hQj : (Q : Int) < (K : Int)
            · have hQl : Q < O.length := by have := HSO.out.len; omega
              obtain ⟨b5, o5, hp5, k0, k1⟩ := (HSO.out.fr0 ha4.out.fr).at Q hQl
              first
                | subst hp5
                | (simp only [Option.some.injEq, Addr.mk.injEq] at hp5; obtain ⟨rfl, rfl, -⟩ := hp5)
              have HDR := Lib.hid (List.drop_eq_getElem_cons hQl)
              obtain ⟨⟨uv, un⟩, hu⟩ : ∃ t, O[Q] = t := ⟨_, rfl⟩
              rw [hu] at k0 k1 HDR
              simp only at k0 k1
              have hQx : (Q : Int) ≤ 1000000000000 := by omega
              clear hu
              go_wp2_with ((with_reducible show wpList _ _ _ (Oper.mk (some 56) _ _ _ _ _ :: _) _ _); refine app_one elAm (.tmp 50) (.tmp 55) rfl ha4.out.own rfl rfl rfl rfl rfl (one_pr uv un) HR2.out ?_; intro g1 cap1 w5 hown hgrow hat hlt; have HA5 := Lib.hid (ha4.out.app hown hgrow hat); clear hown hgrow hat hlt)
              go_roundw
              case rel => exact ⟨Q + 1, _, by omega, by go_num, HA5, Lib.hid (by rw [List.append_assoc, List.singleton_append, ← HDR.out]; exact hq4.out)⟩
              case measure => simp [intOf]; omega
            · obtain rfl : Q = K := by omega
              have HEQ : Hid (L = ins (tv, tn) O) := Lib.hid (by have h9 := hq4.out; rw [List.drop_of_length_le (by rw [HSO.out.len]; exact Nat.le_refl _), List.append_nil] at h9; exact h9)
              go_wp2_with fail
              go_roundw
              case rel => exact ⟨Q + 1, by omega, by go_num, Lib.hid (by rw [HE.out, ← HEQ.out]; exact ha4.out.from HF.out)⟩
              case measure => simp [intOf]; omega
    · obtain rfl : j = n := by omega
      have HE : Hid (l.take j = l) := Lib.hid (by rw [← H.out.len]; exact List.take_length)
      go_wp2_with fail
      go_ret
      refine ⟨_, rfl, ?_⟩
      have h9 := hacc.out
      rw [HE.out] at h9
      exact h9
end
end Go.Proofs.YtmieeoceckcnkaaGreat
