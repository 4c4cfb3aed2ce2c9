/- The law on halves of what is left. -/
import Derived.Test.YthfcfmnaiopogaaGreatHrHalfAll
import Derived.Test.YthfcfmnaiopogaaGreatHrRankMath
import Derived.Test.YthfcfmnaiopogaaGreatHrGot
namespace Go.Proofs.YthfcfmnaiopogaaGreat
open Go.RowKit Go.ChangeMaps

theorem StI.fr0 {w w' : World} {p : Option Addr} {l : List StT} (h : StI w p l) (f : Fr S0 w w') : StI w' p l := fun i hi => let ⟨b, o, e, h1, h2, h3⟩ := h i hi; ⟨b, o, e, f.cell h1 (fun h => h), f.cell h2 (fun h => h), f.cell h3 (fun h => h)⟩
theorem hv_at {t q r : Nat} (hr : r < t) : hvA t (q * t + r) = (2 ^ q - 1) * 2 * t + r ∧ hvD t (q * t + r) = 2 * 2 ^ q * t ∧ (q * t + r) / t = q := by
  have e1 : (q * t + r) / t = q := by rw [Nat.add_comm, Nat.add_mul_div_right _ _ (by omega), Nat.div_eq_of_lt hr, Nat.zero_add]
  have e2 : (q * t + r) % t = r := by rw [Nat.add_comm, Nat.add_mul_mod_self_right, Nat.mod_eq_of_lt hr]
  have hp := two_pos q
  refine ⟨?_, ?_, e1⟩
  · unfold hvA hA hD
    rw [e1, e2, Nat.pow_succ, Nat.mul_comm (2 ^ q) 2, ← Nat.sub_mul, show 2 * 2 ^ q - 2 = (2 ^ q - 1) * 2 by omega]
  · unfold hvD hD
    rw [e1, Nat.pow_succ, Nat.mul_comm (2 ^ q) 2]
section
variable (a d : Nat) (p : Option Addr) (m c : Nat) (vs : List Int) (q : Option Addr) (k c2 : Nat) (ns : List Nat) (v : Int) (w : World)
set_option maxRecDepth 100000 in
set_option maxHeartbeats 4000000 in
theorem law_halves (hm : vs.length = m) (hz : ZI w p vs) (hvb : ∀ v ∈ vs, -9223372036854775808 ≤ v ∧ v ≤ 9223372036854775807) (hk : ns.length = k) (hq : SlI w .u16 q ns) (hnb : ∀ n ∈ ns, n < 65536) :
    Calls Tryz.prog 9 #[.int .u64 (a : Nat), .int .u8 (d : Nat), .slice p m c, .slice q k c2, .int .i64 v] w fun e w' => e = .returned (.bool true) ∧ Fr S0 w w' := by
  have HA := Lib.hid (alive_any w)
  obtain ⟨L, H, D, ⟨l0, lh, hh⟩, ⟨d1, d5⟩, hs, hsh⟩ := wshape_any a d 1000000
  have HSH := Lib.hid hsh
  have HR := Lib.hid (fun W (f : Fr S0 w W) => rec_got L H D true p m c vs q k c2 ns W d1 d5 l0 lh hh hs hm (hz.fr0 f) hvb hk (hq.fr0 f) hnb)
  obtain ⟨T, eT⟩ : ∃ T, min m 40 = T := ⟨_, rfl⟩
  have hT40 : T ≤ 40 := by omega
  rw [eT] at HR
  obtain ⟨M, eM⟩ : ∃ M, recs (Hm.new L H D true) vs ns T = M := ⟨_, rfl⟩
  rw [eM] at HR
  have HTB : Hid (ltot M.l ≤ 40000) := Lib.hid (by
    have h1 := (recs_same (Hm.new L H D true) vs ns T).2.2.2
    have h2 : ltot (Hm.new L H D true).l = 0 := rfl
    rw [eM] at h1
    omega)
  clear hsh l0 lh hh hm hz hvb hk hq hnb eT eM hs d1 d5
  go_enter Tryz.func9, Tryz.ntmps9
  go_wp2_with fail
  refine HA.out.mono ?_
  rintro e w1 ⟨rfl, f1⟩
  have F1 := Lib.hid f1
  clear f1 HA
  go_wp2_with fail
  refine (HSH.out _).mono ?_
  rintro e w2 ⟨rfl, f2⟩
  have F2 := Lib.hid (F1.out.trans0 f2)
  clear f2 F1 HSH
  go_wp2_with fail
  refine (HR.out _ F2.out).mono ?_
  rintro e w3 ⟨x, h, r, pp, n, cc, rfl, got⟩
  have GOT := Lib.hid got
  have F3 := Lib.hid (F2.out.trans0 got.fr)
  clear got HR
  by_cases hno : v < 1 ∨ 64 < v
  · go_wp2_with fail
    refine (xhalves_no x w3 v hno).mono ?_
    rintro e w4 ⟨rfl, f4⟩
    have F4 := Lib.hid (F3.out.trans0 f4)
    clear f4
    by_cases n1 : v < 1
    · have e1 : decide (v < 1) = true := decide_eq_true n1
      go_wp2_with fail
      go_ret
      exact ⟨rfl, F4.out⟩
    · have e1 : decide (v < 1) = false := decide_eq_false n1
      have e2 : decide (64 < v) = true := decide_eq_true (by omega)
      go_wp2_with fail
      go_ret
      exact ⟨rfl, F4.out⟩
  obtain ⟨t, rfl⟩ : ∃ t : Nat, v = t := ⟨v.toNat, by omega⟩
  have t1 : 1 ≤ t := by omega
  have t2 : t ≤ 64 := by omega
  have HG := Lib.hid GOT.out.hist.good
  have HC := Lib.hid (fun W (f : Fr S0 w3 W) => GOT.out.ref.fr0 f)
  have HNL : Hid (n ≤ 100000) := Lib.hid (by have h1 := GOT.out.ref.len; have h2 := GOT.out.len; omega)
  have HTO := Lib.hid (fun W (f : Fr S0 w3 W) => rtotal_any pp n cc M.l W (GOT.out.ref.pri.fr0 f) GOT.out.ref.len (by have := HTB.out; omega))
  have HJ := Lib.hid (fun (j : Nat) (hp : 0 < ltot M.l) (hjq : j / t ≤ 20) => show ∃ R i : Nat, (∀ W, Calls Tryz.prog 21 #[.int .u64 (hvA t j : Nat), .int .u64 (hvD t j : Nat), .int .u64 (ltot M.l : Nat)] W fun e w' => e = .returned (.tuple #[.int .u64 (R : Nat), .int .i64 0]) ∧ Fr S0 W w') ∧ (∀ W, Fr S0 w3 W → Calls Tryz.prog 23 #[.slice pp n cc, .int .u64 (R : Nat)] W fun e w' => e = .returned (.int .i64 (i : Nat)) ∧ Fr S0 W w') ∧ (∀ W, Fr S0 w3 W → Calls Tryz.prog 22 #[.pointer (some ⟨r, 0, none⟩), .int .i64 (i : Nat)] W fun e w' => e = .returned (.tuple #[.int .i64 (M.least (i : Nat) : Nat), .int .i64 (M.most (i : Nat) : Nat)]) ∧ Fr S0 W w') ∧ tvH M t j = (M.most (i : Nat) : Nat) from by
    have hgood := HG.out
    obtain ⟨e1, h4⟩ := hv_rk hp t1 j
    have h5 := rnk_all (hv_le t1 j).1 hp
    obtain ⟨⟨y, hy, hyk⟩, -, -⟩ := keyW_rank hgood.srt h5.1 h5.2
    obtain ⟨i, hi, -, hi3⟩ := hgood.cell hy
    have hkey : keyW M.l (rkR (hvA t j) (hvD t j) (ltot M.l)) = (i : Int) := by rw [h4, ← hyk, hi]
    refine ⟨rkR (hvA t j) (hvD t j) (ltot M.l), i, fun W => ?_, fun W f => ?_, fun W f => hends_any r pp n cc M W (GOT.out.ref.fr0 f) i hi3, ?_⟩
    · have := rrank_any (hvA t j) (hvD t j) (ltot M.l) W (by have := HTB.out; omega) (by have := hD_lt t2 hjq; unfold hvD; omega)
      rwa [e1] at this
    · have := rkey_any pp n cc M.l W (rkR (hvA t j) (hvD t j) (ltot M.l)) (GOT.out.ref.pri.fr0 f) GOT.out.ref.len hgood.srt (by rw [h4]; exact h5.1) (by rw [h4]; exact h5.2) (by have := HTB.out; omega)
      rwa [hkey] at this
    · unfold tvH endV
      rw [if_pos e1, hkey])
  have d1 : decide ((t : Int) < 1) = false := decide_eq_false (by omega)
  have d2 : decide (64 < (t : Int)) = false := decide_eq_false (by omega)
  have wt : IntKind.u64.wrap (t : Int) = (t : Int) := by rw [IntKind.wrap_u64]; omega
  go_wp2_with fail
  refine (xhalves_yes x h M w3 GOT.out.hist GOT.out.len t t1 t2 (by have := HTB.out; omega)).mono ?_
  rintro e w4 ⟨na, pa, ca, rfl, hna, hsa, hla, hea, f4⟩
  have F4 := Lib.hid f4
  have HA4 := Lib.hid (And.intro hna (And.intro hsa (And.intro hla hea)))
  have k7 := (HC.out _ f4).c7
  clear f4 hna hsa hla hea hno
  obtain ⟨TT, eTT⟩ : ∃ TT, ltot M.l = TT := ⟨_, rfl⟩
  have HTT := Lib.hid eTT
  rw [eTT] at HTO HJ
  clear eTT
  go_wp2_with fail
  refine (HTO.out _ F4.out).mono ?_
  rintro e w5 ⟨rfl, f5⟩
  have F5 := Lib.hid (F4.out.trans0 f5)
  have F45 := Lib.hid f5
  clear f5 k7
  go_wp2_with fail
  go_loopw [16, 17] (fun tl z wr => ∃ q : Nat, z = .int .i64 (q : Nat) ∧ q ≤ 20 ∧ (TT = 0 → q = 0) ∧ Hid (AccZ w5 wr tl (q * t) (tzs (tvH M t) (q * t)))) (fun _ z _ => 20 - (intOf z).toNat)
  case atStart => exact ⟨0, rfl, by omega, fun _ => rfl, Lib.hid (by rw [Nat.zero_mul]; exact AccZ.none _ _ (Fr.refl _ _))⟩
  case round =>
    obtain ⟨q, rfl, hq20, hq0, ha⟩ := hrel
    obtain ⟨pv, cv, rfl⟩ := slFormN ha.out.own
    by_cases hgo : q < 20 ∧ 0 < TT
    · obtain ⟨hq, hT⟩ := hgo
      have e1 : (q : Int) < 20 := by omega
      have e2 : (0 : Int) < (TT : Int) := by omega
      have e3 : decide (q < 20) = true := decide_eq_true hq
      have e4 : decide (0 < TT) = true := decide_eq_true hT
      clear hq0
      go_wp2_with fail
      go_loopw [16, 18] (fun tl z wr2 => ∃ s : Nat, z = .int .i64 (s : Nat) ∧ s ≤ t ∧ Hid (AccZ w5 wr2 tl (q * t + s) (tzs (tvH M t) (q * t + s)))) (fun _ z _ => t - (intOf z).toNat)
      case atStart => exact ⟨0, rfl, Nat.zero_le _, ha⟩
      case round =>
        obtain ⟨s, rfl, hst, hb⟩ := hrel
        obtain ⟨pu, cu, rfl⟩ := slFormN hb.out.own
        by_cases hs : s < t
        · have hst2 : (s : Int) < (t : Int) := by omega
          obtain ⟨e5, e6, e7⟩ := hv_at (q := q) hs
          obtain ⟨R, i, hRK, hKY, hED, hTV⟩ := HJ.out (q * t + s) hT (by rw [e7]; omega)
          have HRK := Lib.hid hRK
          have HKY := Lib.hid hKY
          have HED := Lib.hid hED
          have HTZ := Lib.hid (tzs_succ (tvH M t) (q * t + s))
          have HR : Hid (Room (q * t + s + 1)) := Lib.hid (Room.mk (by have := Nat.mul_le_mul (show q ≤ 20 by omega) t2; omega))
          obtain ⟨X, eX⟩ : ∃ X, M.most (i : Nat) = X := ⟨_, rfl⟩
          obtain ⟨Y, eY⟩ : ∃ Y, M.least (i : Nat) = Y := ⟨_, rfl⟩
          rw [hTV] at HTZ
          rw [eX] at HTZ HED
          rw [eY] at HED
          have HPW := Lib.hid (fun W => rpower_any q W (by omega))
          have hp2 := two_pos q
          have hpb : 2 ^ q ≤ 2 ^ 20 := Nat.pow_le_pow_right (by decide) (by omega)
          rw [e5, e6] at HRK
          obtain ⟨P, eP⟩ : ∃ P, 2 ^ q = P := ⟨_, rfl⟩
          rw [eP] at HPW HRK hp2 hpb
          obtain ⟨P1, eP1⟩ : ∃ P1, P - 1 = P1 := ⟨_, rfl⟩
          rw [eP1] at HRK
          obtain ⟨P2, eP2⟩ : ∃ P2, P1 * 2 = P2 := ⟨_, rfl⟩
          rw [eP2] at HRK
          obtain ⟨P3, eP3⟩ : ∃ P3, P2 * t = P3 := ⟨_, rfl⟩
          have hP3 : P3 ≤ 2097152 * 64 := by rw [← eP3]; exact Nat.mul_le_mul (by omega) t2
          rw [eP3] at HRK
          obtain ⟨A, eA⟩ : ∃ A, P3 + s = A := ⟨_, rfl⟩
          rw [eA] at HRK
          obtain ⟨D1, eD1⟩ : ∃ D1, 2 * P = D1 := ⟨_, rfl⟩
          rw [eD1] at HRK
          obtain ⟨D2, eD2⟩ : ∃ D2, D1 * t = D2 := ⟨_, rfl⟩
          have hD2 : D2 ≤ 2097152 * 64 := by rw [← eD2]; exact Nat.mul_le_mul (by omega) t2
          rw [eD2] at HRK
          have a1 : (P : Int) - 1 = (P1 : Int) := by omega
          have a2 : (P1 : Int) * 2 = (P2 : Int) := by omega
          have a3 : (P2 : Int) * (t : Int) = (P3 : Int) := by rw [← eP3, Int.natCast_mul]
          have a4 : (P3 : Int) + (s : Int) = (A : Int) := by omega
          have a5 : 2 * (P : Int) = (D1 : Int) := by omega
          have a6 : (D1 : Int) * (t : Int) = (D2 : Int) := by rw [← eD2, Int.natCast_mul]
          have b1 : IntKind.u64.wrap (P1 : Int) = (P1 : Int) := by rw [IntKind.wrap_u64]; omega
          have b2 : IntKind.u64.wrap (P2 : Int) = (P2 : Int) := by rw [IntKind.wrap_u64]; omega
          have b3 : IntKind.u64.wrap (P3 : Int) = (P3 : Int) := by rw [IntKind.wrap_u64]; omega
          have b4 : IntKind.u64.wrap (A : Int) = (A : Int) := by rw [IntKind.wrap_u64]; omega
          have b5 : IntKind.u64.wrap (D1 : Int) = (D1 : Int) := by rw [IntKind.wrap_u64]; omega
          have b6 : IntKind.u64.wrap (D2 : Int) = (D2 : Int) := by rw [IntKind.wrap_u64]; omega
          have b7 : IntKind.u64.wrap (s : Int) = (s : Int) := by rw [IntKind.wrap_u64]; omega
          clear hRK hKY hED hTV e5 e6 e7 eX eY hp2 hpb eP eP1 eP2 eP3 hP3 eA eD1 eD2 hD2
          go_wp2_with fail
          refine (HPW.out _).mono ?_
          rintro e w6 ⟨rfl, rfl⟩
          go_wp2_with fail
          refine (HRK.out _).mono ?_
          rintro e w7 ⟨rfl, f7⟩
          have F7 := Lib.hid f7
          have G7 := Lib.hid ((F5.out.trans0 hb.out.fr).trans0 f7)
          have k7 := (HC.out _ G7.out).c7
          clear f7
          go_wp2_with fail
          refine (HKY.out _ G7.out).mono ?_
          rintro e w8 ⟨rfl, f8⟩
          have F8 := Lib.hid (F7.out.trans0 f8)
          have G8 := Lib.hid (G7.out.trans0 f8)
          clear f8 k7
          go_wp2_with fail
          refine (HED.out _ G8.out).mono ?_
          rintro e w9 ⟨rfl, f9⟩
          have F9 := Lib.hid (F8.out.trans0 f9)
          have HB9 := Lib.hid (hb.out.fr0 F9.out)
          clear f9
          go_wp2_with ((with_reducible show wpList _ _ _ (Oper.mk (some 113) _ _ _ _ _ :: _) _ _); refine app_one elZ (.tmp 110) (.tmp 112) rfl HB9.out.own rfl rfl rfl rfl rfl one8 HR.out ?_; intro g1 cap1 w10 hown hgrow hat hlt10; have HA10 := Lib.hid (HB9.out.app hown hgrow hat); clear hown hgrow hat hlt10)
          go_roundw
          case rel => exact ⟨s + 1, by first | rfl | go_num, by omega, Lib.hid (by rw [← Nat.add_assoc, HTZ.out]; exact HA10.out)⟩
          case measure => simp [intOf] <;> omega
        · obtain rfl : s = t := by omega
          go_wp2_with fail
          go_roundw
          case rel => exact ⟨q + 1, by first | rfl | go_num, by omega, fun h => by omega, Lib.hid (by have h1 := hb.out; rw [Nat.add_mul, Nat.one_mul]; exact h1)⟩
          case measure => simp [intOf] <;> omega
    · have HMO : Hid (∀ j, cumU M (tvH M t) j ≤ cumU M (tvH M t) (j + 1)) := Lib.hid fun j => by
        rcases Nat.eq_zero_or_pos (ltot M.l) with e | e
        · cases j with
          | zero => exact Nat.zero_le _
          | succ j =>
            have := upt_le M.l (M.cell (tvH M t j))
            rw [cumU]
            omega
        · exact tvH_up HG.out e t1 j
      have HEND : Hid (cumU M (tvH M t) (q * t) = ltot M.l) := Lib.hid (by
        rcases Nat.eq_zero_or_pos (ltot M.l) with e | e
        · have := hq0 (by rw [← HTT.out]; exact e)
          rw [this, Nat.zero_mul, e]
          rfl
        · have hq2 : q = 20 := by
            have h1 := HTT.out
            omega
          exact half_end HG.out e t1 (by have := HTB.out; omega) _ (by rw [hq2]; omega))
      have HST := Lib.hid (fun W (f : Fr S0 wr W) => steps_any readsX x _ r pp n cc M W (.of (GOT.out.hist.fr0 ((F5.out.trans0 ha.out.fr).trans0 f)) GOT.out.len) (HC.out W ((F5.out.trans0 ha.out.fr).trans0 f)) HNL.out pa na ca _ pv (q * t) cv _ (stL_len M (tvH M t) na) (HA4.out.2.1.fr0 ((F45.out.trans0 ha.out.fr).trans0 f)) (tzs_len _ _) ((ZI.ofOwns ha.out.own).fr0 f) (tzs_bd (tvH_bd HG.out) (q * t)) (stp_of HG.out (tvH_bd HG.out) HMO.out HEND.out HA4.out.2.2.1 HA4.out.2.2.2) (by have := HA4.out.1; omega))
      have HQ : (q < 20 ∧ ¬ 0 < TT) ∨ ¬ q < 20 := by omega
      clear hgo hq0
      rcases HQ with ⟨hq, hT⟩ | hq
      case' inl => have e1 : (q : Int) < 20 := by omega
      case' inl => have e3 : decide (q < 20) = true := decide_eq_true hq
      case' inl => have e4 : decide (0 < TT) = false := decide_eq_false hT
      case' inl => have e5 : decide ((0 : Int) < (TT : Int)) = false := decide_eq_false (by omega)
      case' inr => have e1 : ¬ (q : Int) < 20 := by omega
      case' inr => have e3 : decide (q < 20) = false := decide_eq_false hq
      all_goals
        go_wp2_with fail
        refine (HST.out _ (Fr.refl _ _)).mono ?_
        rintro e w6 ⟨rfl, f6⟩
        have F6 := Lib.hid ((F5.out.trans0 ha.out.fr).trans0 f6)
        have GH := HC.out _ F6.out
        have k0 := GH.c0
        have k1 := GH.c1
        have k2 := GH.c2
        have HNW := Lib.hid (fun W => xnew_yes M.L M.H M.D true W HG.out.d.1 HG.out.d.2 HG.out.l0 HG.out.lh HG.out.hh (by rw [← HG.out.eu, ← HG.out.em]; exact HG.out.s))
        clear f6 HST GH
        go_wp2_with fail
        refine (HNW.out _).mono ?_
        rintro e w7 ⟨y, hy, rfl, sy, y1, y2, f7⟩
        have HY := Lib.hid (And.intro sy (And.intro y1 y2))
        have F7 := Lib.hid (F6.out.trans0 f7)
        have f67 := Lib.hid f7
        have HCK : Hid ((Hm.new M.L M.H M.D true).check 1 1125899906842625 = 0) := Lib.hid (by
          unfold Hm.check
          rw [if_neg (by decide), if_neg (fun h => h.elim (fun h => absurd h (by decide)) fun h => absurd h.1 (by simp [Hm.new])), if_neg (by simp [Hm.new, ltot])])
        have HRE := Lib.hid (xrecord_any y hy _ w7 sy 1 1125899906842625 (by decide) (by decide) (by decide))
        rw [HCK.out] at HRE
        clear sy y1 y2 f7 k0 k1 k2
        go_wp2_with fail
        refine HRE.out.mono ?_
        rintro e w8 ⟨rfl, s8, f8⟩
        have S8 := Lib.hid s8
        have F8 := Lib.hid (F7.out.trans f8 fun j hj e => by
          have h1 := F6.out.size
          have h2 := HY.out.2
          rcases e with e | e <;> omega)
        have HCAP := Lib.hid (xhalves_cap y hy _ w8 S8.out t t1 t2 (by
          unfold Hm.record
          rw [if_pos HCK.out]
          simp [Hm.count, Hm.new, lput, ltot]))
        clear s8 f8 HRE
        go_wp2_with fail
        refine HCAP.out.mono ?_
        rintro e w9 ⟨rfl, f9⟩
        have F9 := Lib.hid ((F3.out.trans0 F8.out).trans0 f9)
        clear f9 HCAP
        go_wp2_with fail
        go_ret
        exact ⟨rfl, F9.out⟩
end
end Go.Proofs.YthfcfmnaiopogaaGreat
