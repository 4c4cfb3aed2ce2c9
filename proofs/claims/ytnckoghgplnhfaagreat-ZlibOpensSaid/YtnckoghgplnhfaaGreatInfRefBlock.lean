/- The reference's symbols to a block's end (made by tools/genblock2.py). -/
import Derived.Test.YtnckoghgplnhfaaGreatInfRefStored
import Derived.Test.YtnckoghgplnhfaaGreatInfRefLens
import Derived.Test.YtnckoghgplnhfaaGreatInfTwo
namespace Go.Proofs.YtnckoghgplnhfaaGreat
open Go.RowKit
theorem far_small : ∀ d : Nat, d ≤ 29 → 1 ≤ farN d ∧ farN d ≤ 32768 ∧ farC d ≤ 13 := by
  have h : ∀ d, d < 30 → 1 ≤ farN d ∧ farN d ≤ 32768 ∧ farC d ≤ 13 := by decide +kernel
  exact fun d h1 => h d (by omega)

set_option maxRecDepth 100000 in
set_option maxHeartbeats 4000000 in
theorem sblock_any {g : Nat} {pb : Option Addr} {cb : Nat} {t : Option Nat} {b : List Nat} {k lim : Nat} {T : List Nat} (p1 p2 : Option Addr) (d1 d2 : Nat) (l1 l2 : List Nat) (w : World) (hne : b ≠ []) (h : RfIs w g pb cb t b k lim T 0) (hl1 : SlI w .u8 p1 l1) (hoff1 : ∀ a, p1 = some a → ¬ RfB g t a.block) (h151 : ∀ x ∈ l1, x ≤ 15) (h1L : l1.length ≤ 320) (ok1 : okl l1) (hl2 : SlI w .u8 p2 l2) (hoff2 : ∀ a, p2 = some a → ¬ RfB g t a.block) (h152 : ∀ x ∈ l2, x ≤ 15) (h2L : l2.length ≤ 320) (ok2 : okl l2) :
    Calls Tryz.prog 44 #[.pointer (some ⟨g, 0, none⟩), .slice p1 l1.length d1, .slice p2 l2.length d2] w fun e w' => RfOut (rSyms b lim l1 l2 T k) w w' g pb cb t b lim e := by
  have hpl : ∀ a, pb = some a → a.block < w.heap.size := fun a ha => h.bits.lt (fun e => hne (List.length_eq_zero_iff.1 (by have := bts_length b; rw [e] at this; simp at this; omega))) a ha
  have HPL := Lib.hid hpl
  have S11 := Lib.hid (fun (W : World) (t1 : Option Nat) (k1 i j : Nat) (T1 : List Nat) (hs : RfIs W g pb cb t1 b k1 lim T1 0) (f : Fr (RfB g t) w W) (hx : rSym b l1 k1 = .ok i j) => ssym_ok p1 d1 i j l1 W hne hs (hl1.fr f (fun _ => hoff1)) h151 h1L ok1 hx)
  have S12 := Lib.hid (fun (W : World) (t1 : Option Nat) (k1 m : Nat) (T1 : List Nat) (hs : RfIs W g pb cb t1 b k1 lim T1 0) (f : Fr (RfB g t) w W) (hx : rSym b l1 k1 = .no m) => ssym_no p1 d1 m l1 W hne hs (hl1.fr f (fun _ => hoff1)) h151 h1L ok1 hx)
  have S21 := Lib.hid (fun (W : World) (t1 : Option Nat) (k1 i j : Nat) (T1 : List Nat) (hs : RfIs W g pb cb t1 b k1 lim T1 0) (f : Fr (RfB g t) w W) (hx : rSym b l2 k1 = .ok i j) => ssym_ok p2 d2 i j l2 W hne hs (hl2.fr f (fun _ => hoff2)) h152 h2L ok2 hx)
  have S22 := Lib.hid (fun (W : World) (t1 : Option Nat) (k1 m : Nat) (T1 : List Nat) (hs : RfIs W g pb cb t1 b k1 lim T1 0) (f : Fr (RfB g t) w W) (hx : rSym b l2 k1 = .no m) => ssym_no p2 d2 m l2 W hne hs (hl2.fr f (fun _ => hoff2)) h152 h2L ok2 hx)
  have GR1 := Lib.hid (fun (W : World) (t1 : Option Nat) (k1 c n j : Nat) (T1 : List Nat) (hs : RfIs W g pb cb t1 b k1 lim T1 0) (hc : c ≤ 16) (hx : rGrp b c k1 = .ok n j) => sgroup_at c n j W hne hs hc hx)
  have GR2 := Lib.hid (fun (W : World) (t1 : Option Nat) (k1 c m : Nat) (T1 : List Nat) (hs : RfIs W g pb cb t1 b k1 lim T1 0) (hc : c ≤ 16) (hx : rGrp b c k1 = .no m) => sgroup_not c m W hs hc hx)
  have HLEN : Hid (∀ i j k1, rSym b l1 k1 = .ok i j → i < 320) := Lib.hid (fun i j k1 hx => by have := rSym_lt hx; omega)
  have HLEN2 : Hid (∀ i j k1, rSym b l2 k1 = .ok i j → i < 320) := Lib.hid (fun i j k1 hx => by have := rSym_lt hx; omega)
  obtain ⟨RES, hRES⟩ : ∃ R, rSyms b lim l1 l2 T k = R := ⟨_, rfl⟩
  have H0 := Lib.hid hRES
  have HH := Lib.hid h
  obtain ⟨N1, hN1⟩ : ∃ N, l1.length = N := ⟨_, rfl⟩
  obtain ⟨N2, hN2⟩ : ∃ N, l2.length = N := ⟨_, rfl⟩
  rw [hRES]
  rw [hN1] at S11 S12 ⊢
  rw [hN2] at S21 S22 ⊢
  have hlim : lim ≤ 1048576 := h.lims.2
  clear h hl1 hoff1 h151 h1L ok1 hl2 hoff2 h152 h2L ok2 hRES hne hN1 hN2 hpl
  go_enter Tryz.func44, Tryz.ntmps44
  go_wp2_with fail
  go_loopw [6, 7, 8, 9, 10, 11, 12, 13, 14] (fun _ _ _ _ _ _ _ _ _ wr => ∃ (k1 E1 : Nat) (T1 : List Nat), RfTo w wr g pb cb t b k1 lim T1 E1 ∧ ((E1 = 0 ∧ rSyms b lim l1 l2 T1 k1 = RES) ∨ (E1 ≠ 0 ∧ RES = .no E1))) (fun _ _ _ _ _ _ _ _ _ wr => eOf wr g * (8 * b.length + 1 - atOf wr g))
  case atStart => exact ⟨k, 0, T, RfTo.refl HH.out, .inl ⟨rfl, H0.out⟩⟩
  case round =>
    obtain ⟨k1, E1, T1, hto, hcase⟩ := hrel
    rcases hcase with ⟨rfl, heq⟩ | ⟨hE, heq⟩
    · obtain ⟨t1, hst, hfr, ht1⟩ := hto
      have c4 : wr.cell? ⟨g, 4, none⟩ = some (.int .i64 0) := hst.c4
      have ME : Hid (eOf wr g = 1 ∧ atOf wr g = k1 ∧ k1 ≤ 8 * b.length) := Lib.hid ⟨hst.eOf0, hst.atOf, hst.ins⟩
      have HST := Lib.hid hst
      have HFR := Lib.hid hfr
      have HT1 := Lib.hid ht1
      have HEQ := Lib.hid heq
      clear hst hfr ht1 heq
      cases hx : rSym b l1 k1 with
      | no M =>
        have HS := Lib.hid (S12.out wr t1 k1 M T1 HST.out HFR.out hx)
        have hmz : M ≠ 0 := sym_nz HST.out.ins hx
        have hmz2 : ¬ (M : Int) = 0 := by omega
        have RN : Hid (RES = .no M) := Lib.hid (by rw [← HEQ.out, rSyms]; unfold rStep; rw [hx]; rfl)
        clear hx hmz
        go_wp2_with fail
        refine HS.out.mono ?_
        rintro e W ⟨k2, rfl, hst, hf⟩
        obtain ⟨hto2, -⟩ := RfTo.step HFR.out HT1.out hst hf
        have c5 := hst.c4
        have HF := Lib.hid (RfOut.no RN.out hto2)
        clear hst hf HS c4 hto2
        go_wp2_with fail
        ((try simp only [Exit.inBlock, Exit.then]); refine bodyPost_ret (results_none rfl _ _ _) rfl ?_)
        exact HF.out
      | ok s j =>
        have hs320 := HLEN.out s j k1 hx
        have hup : k1 < j := by have h1 := rSym_in hx; have := h1.1.1; omega
        have HS := Lib.hid (S11.out wr t1 k1 s j T1 HST.out HFR.out hx)
        have HX := Lib.hid hx
        have HUP := Lib.hid hup
        clear hx hup
        go_wp2_with fail
        refine HS.out.mono ?_
        rintro e W ⟨rfl, hst, hf⟩
        obtain ⟨hto2, hfr2⟩ := RfTo.step HFR.out HT1.out hst hf
        have HTO := Lib.hid hto2
        have HST2 := Lib.hid hst
        have HFR2 := Lib.hid hfr2
        have c5 : W.cell? ⟨g, 4, none⟩ = some (.int .i64 0) := hst.c4
        clear hst hf HS c4 hto2 hfr2
        by_cases h256 : s = 256
        · subst h256
          have HF := Lib.hid (RfOut.ok (x := RES) (by rw [← HEQ.out, rSyms]; unfold rStep; rw [HX.out, Res.then_ok, if_neg (by decide), if_pos rfl]) HTO.out)
          go_wp2_with fail
          ((try simp only [Exit.inBlock, Exit.then]); refine bodyPost_ret (results_none rfl _ _ _) rfl ?_)
          exact HF.out
        · have i256 : ((s : Int) == 256) = false := by rw [beq_eq_false_iff_ne]; omega
          by_cases hlt : s < 256
          · obtain ⟨pT, cT, hcell, own, hown⟩ := HST2.out.c2
            have c3 := HST2.out.c3
            have HCE := Lib.hid (fun n => (HST2.out.fr0 (Fr.drewN S0 W n)))
            by_cases hfit : T1.length + 1 ≤ lim
            · have hge : (T1.length : Int) < (lim : Int) := by omega
              have RN : Hid (rSyms b lim l1 l2 (T1 ++ [s]) j = RES) := Lib.hid (by
                have hst : rStep b lim l1 l2 T1 k1 = .ok (false, T1 ++ [s]) j := by unfold rStep; rw [HX.out, Res.then_ok, if_pos hlt, rIf_yes (decide_eq_true hfit), Res.then_ok]
                rw [← HEQ.out, rSyms_go hst HUP.out HST2.out.ins])
              obtain ⟨N, hN⟩ : ∃ N, T1.length + 1 = N := ⟨_, rfl⟩

              have HFIT : Hid (N ≤ lim) := Lib.hid (by omega)
              have HR : Hid (Room N) := Lib.hid (Room.mk (by omega))
              subst hN
              go_wp2_with fail
              go_quiet (fail)
              obtain ⟨W1, hW1⟩ : ∃ W1, W.drewN nq = W1 := ⟨_, rfl⟩
              have hs1 : RfIs W1 g pb cb t1 b j lim T1 0 := hW1 ▸ HCE.out nq
              have hf1 : Fr S0 W W1 := hW1 ▸ Fr.drewN S0 W nq
              rw [hW1]
              have HS1 := Lib.hid hs1
              have HF1 : Hid (Fr (RfB g t) w W1) := Lib.hid (HFR2.out.trans0 hf1)
              have HPL1 : Hid (∀ a, pb = some a → a.block < W1.heap.size) := Lib.hid (fun a ha => Nat.lt_of_lt_of_le (HPL.out a ha) HF1.out.size)
              clear hcell own hown c3 c5 hs1 hf1 hW1 HCE
              obtain ⟨pT, cT, hb, own, hown⟩ := HS1.out.ex
              have c2 : W1.cell? ⟨g, 2, none⟩ = some (.slice pT T1.length cT) := by simp [World.cell?, hb]
              have HB := Lib.hid hb
              clear hb
              go_wp2_with ((with_reducible show wpList _ _ _ (Oper.mk (some 55) _ _ _ _ _ :: _) _ _); refine app_one el8 (.tmp 51) (.tmp 54) rfl own rfl rfl rfl rfl rfl one8 HR.out ?_; intro q cap w1 hown1 hgrow hat hlt1; obtain ⟨z1, z2, z3⟩ := RfIs.push1 (x := s) HS1.out rfl HB.out hown HFIT.out HPL1.out hown1 hgrow hat; have Z3 := Lib.hid (RfTo.trans HF1.out HT1.out z3); have y2 := z1 2; clear hgrow hat hlt1 hown1 z3 z1 c2 own)
              go_roundw
              case rel => exact ⟨j, 0, T1 ++ [s], Z3.out, .inl ⟨rfl, RN.out⟩⟩
              case measure =>
                obtain ⟨t3, hs3, -⟩ := Z3.out
                have h1 := ME.out
                have h2 := hs3.eOf0
                have h3 := hs3.atOf
                have h4 := HUP.out
                have h5 := hs3.ins
                rw [h1.1, h1.2.1, h2, h3]
                omega
            · have hge : ¬ (T1.length : Int) < (lim : Int) := by omega
              have RN : Hid (RES = .no 64) := Lib.hid (by rw [← HEQ.out, rSyms]; unfold rStep; rw [HX.out, Res.then_ok, if_pos hlt, rIf_no (decide_eq_false hfit)]; rfl)
              have hfz : W.frozen? ⟨g, 4, none⟩ = false := HST2.out.fz 4
              have HFI : Hid (∀ n, RfOut RES w ((W.drewN n).setCell ⟨g, 4, none⟩ (.int .i64 64)) g pb cb t b lim (.returned (.tuple #[]))) := Lib.hid (fun n => RfOut.no RN.out (RfTo.step (HFR2.out.trans0 (Fr.drewN S0 W n)) HT1.out ((HCE.out n).setE 64) (Fr.setCell (· = g) _ _ _ rfl)).1)
              go_wp2_with fail
              go_quiet (fail)
              go_wp2_with fail
              ((try simp only [Exit.inBlock, Exit.then]); refine bodyPost_ret (results_none rfl _ _ _) rfl ?_)
              exact HFI.out _
          · skip
            have i0 : ¬ (s : Int) < 256 := by omega
            have i0b : decide ((s : Int) < 256) = false := decide_eq_false i0
            by_cases h285 : s ≤ 285
            · have hbb := base_small s (by omega) h285
              have HBA := Lib.hid (rbase_any s W (by omega) h285)
              have HST3 : Hid (∀ x, rBack b lim l2 T1 s j = x → rStep b lim l1 l2 T1 k1 = x.then fun T1 k2 => .ok (false, T1) k2) := Lib.hid (fun x hx => by unfold rStep; rw [HX.out, Res.then_ok, if_neg (by omega), if_neg h256, hx])
              have HRB : Hid (rBack b lim l2 T1 s j = (rGrp b (baseC s) j).then fun n k2 => (rSym b l2 k2).then fun d k3 =>
                (rIf (decide (d ≤ 29)) 62 k3).then fun _ k3 => (rGrp b (farC d) k3).then fun f k4 =>
                (rIf (decide (farN d + f ≤ T1.length)) 63 k4).then fun _ k4 => (rIf (decide (T1.length + (baseN s + n) ≤ lim)) 64 k4).then fun _ k4 =>
                .ok (again (farN d + f) (baseN s + n) T1) k4) := Lib.hid (by unfold rBack; rw [rIf_yes (decide_eq_true h285)]; rfl)
              obtain ⟨B0, hB0⟩ : ∃ x, baseN s = x := ⟨_, rfl⟩
              obtain ⟨C0, hC0⟩ : ∃ x, baseC s = x := ⟨_, rfl⟩
              rw [hB0, hC0] at hbb HBA HRB
              have hB00 : ¬ (B0 : Int) = 0 := by omega
              clear hB0 hC0
              go_wp2_with fail
              refine HBA.out.mono ?_
              rintro e w' ⟨rfl, rfl⟩
              cases hy : rGrp b C0 j with
              | no M =>
                have HMZ := Lib.hid (grp_nz HST2.out.ins hy)
                have RN : Hid (RES = .no M) := Lib.hid (by rw [← HEQ.out]; refine rSyms_no ?_; rw [HST3.out _ rfl, HRB.out, hy]; rfl)
                go_wp2_with fail
                refine (GR2.out W t1 j C0 M T1 HST2.out (by omega) hy).mono ?_
                rintro _ W8 ⟨rfl, hst, hf⟩
                have HD : Hid (Dead w W8 g pb cb t t1 b j lim T1 M) := Lib.hid (Dead.of hst HFR2.out HT1.out hf HMZ.out)
                clear hst hf hy c5
                have i9 : (0 : Int) < (B0 : Int) := by omega
                try clear S11
                try clear S12
                try clear S21
                try clear S22
                try clear GR1
                try clear GR2
                try clear HLEN
                try clear HLEN2
                try clear HPL
                try clear HH
                try clear H0
                try clear HEQ
                try clear HX
                try clear HST
                try clear HFR
                try clear HT1
                try clear HTO
                try clear HST2
                try clear HFR2
                try clear HST3
                try clear HRB
                try clear HRB2
                try clear HRB3
                try clear HRB4
                try clear HRB5
                try clear HRB6
                try clear HRB7
                try clear H5
                try clear F5
                try clear H6
                try clear F6
                try clear H7
                try clear F7
                try clear HFA
                try clear HBA
                try clear HUP
                try clear HJ2
                try clear HJ3
                try clear HJ4
                try clear hlim
                try clear hs320
                try clear i256
                try clear i0
                try clear i0b
                try clear hlt
                try clear h256
                try clear h285
                try clear hn16
                try clear eLN
                try clear hLN4
                try clear hd320
                try clear hd29
                try clear hf16
                try clear eBK
                try clear hBK4
                try clear hBK1
                try clear hlimT
                try clear hB00
                try clear RN'
                go_wp2_with fail
                refine (ssym_err p2 N2 d2 W8 HD.out.is HD.out.nz).mono ?_
                rintro _ w' ⟨rfl, rfl⟩
                have HFAR : Hid (Calls Tryz.prog 70 #[.int .i64 0] W8 fun e w' => e = .returned (.tuple #[.int .i64 1, .int .i64 0]) ∧ W8 = w') := Lib.hid (rfar_any 0 W8 (by decide))
                go_wp2_with fail
                refine HFAR.out.mono ?_
                rintro _ w' ⟨rfl, rfl⟩
                go_wp2_with fail
                refine (sgroup_err 0 W8 HD.out.is HD.out.nz).mono ?_
                rintro _ w' ⟨rfl, rfl⟩
                obtain ⟨pM, cM, m2, -, -⟩ := HD.out.is.c2
                have m3 := HD.out.is.c3
                have m4 := HD.out.is.c4
                go_wp2_with (go_at_call 71; refine (sfail_err _ _ (HD.out.is.fr0 (by first | exact Fr.refl _ _ | exact (Fr.drewN S0 _ _).trans0 (Fr.drewN _ _ _) | exact Fr.drewN _ _ _)) HD.out.nz).mono ?_; rintro _ w9 ⟨rfl, rfl⟩)
                all_goals
                  go_quiet (fail)
                  go_wp2_with (go_at_call 71; refine (sfail_err _ _ (HD.out.is.fr0 (by first | exact Fr.refl _ _ | exact (Fr.drewN S0 _ _).trans0 (Fr.drewN _ _ _) | exact Fr.drewN _ _ _)) HD.out.nz).mono ?_; rintro _ w9 ⟨rfl, rfl⟩)
                  all_goals
                    go_loopw [14] (fun i wr2 => i = .int .i64 0 ∧ Dead w wr2 g pb cb t t1 b j lim T1 M) (fun _ _ => 0)
                    case atStart => exact ⟨rfl, HD.out.fr0 (by first | exact Fr.refl _ _ | exact (Fr.drewN S0 _ _).trans0 (Fr.drewN _ _ _) | exact Fr.drewN _ _ _)⟩
                    case round =>
                      obtain ⟨rfl, hd9⟩ := hrel
                      have HD9 := Lib.hid hd9
                      have y4 := HD9.out.is.c4
                      have yb : ((M : Int) == 0) = false := by have := HD9.out.nz; simpa using this
                      clear hd9
                      go_wp2_with fail
                      all_goals go_roundw
                      all_goals first
                        | exact ⟨j, M, T1, ⟨t1, HD9.out.is, HD9.out.fr, HD9.out.at'⟩, .inr ⟨HD9.out.nz, RN.out⟩⟩
                        | (have h1 := ME.out; have h2 := HD9.out.is.eOf HD9.out.nz; rw [h1.1, h1.2.1, h2]; omega)
              | ok n j2 =>
                have HJ2 : Hid (j ≤ j2) := Lib.hid (by have := (rGrp_lt hy).2; omega)
                have hn16 : n < 65536 := Nat.lt_of_lt_of_le (rGrp_lt hy).1 (Nat.pow_le_pow_right (n := 2) (by decide) (show C0 ≤ 16 by omega))
                have HRB2 : Hid (rBack b lim l2 T1 s j = (rSym b l2 j2).then fun d k3 =>
                  (rIf (decide (d ≤ 29)) 62 k3).then fun _ k3 => (rGrp b (farC d) k3).then fun f k4 =>
                  (rIf (decide (farN d + f ≤ T1.length)) 63 k4).then fun _ k4 => (rIf (decide (T1.length + (B0 + n) ≤ lim)) 64 k4).then fun _ k4 =>
                  .ok (again (farN d + f) (B0 + n) T1) k4) := Lib.hid (by rw [HRB.out, hy]; rfl)
                go_wp2_with fail
                refine (GR1.out W t1 j C0 n j2 T1 HST2.out (by omega) hy).mono ?_
                rintro _ W5 ⟨rfl, hst, hf⟩
                have H5 := Lib.hid hst
                have F5 : Hid (Fr (RfB g t) w W5) := Lib.hid (HFR2.out.trans hf fun _ _ e => .inl e)
                clear hst hf hy c5 HRB HBA
                obtain ⟨LN, hLN⟩ : ∃ LN, B0 + n = LN := ⟨_, rfl⟩
                rw [hLN] at HRB2
                have eLN : (B0 : Int) + (n : Int) = (LN : Int) := by omega
                have hLN4 : LN ≤ 70000 := by omega
                cases hz : rSym b l2 j2 with
                | no M =>
                  have HMZ := Lib.hid (sym_nz H5.out.ins hz)
                  have RN : Hid (RES = .no M) := Lib.hid (by rw [← HEQ.out]; refine rSyms_no ?_; rw [HST3.out _ rfl, HRB2.out, hz]; rfl)
                  go_wp2_with fail
                  refine (S22.out W5 t1 j2 M T1 H5.out F5.out hz).mono ?_
                  rintro _ W8 ⟨kM, rfl, hst, hf⟩
                  have HD : Hid (Dead w W8 g pb cb t t1 b kM lim T1 M) := Lib.hid (Dead.of hst F5.out HT1.out hf HMZ.out)
                  clear hst hf hz
                  have i9 : (0 : Int) < (LN : Int) := by omega
                  try clear S11
                  try clear S12
                  try clear S21
                  try clear S22
                  try clear GR1
                  try clear GR2
                  try clear HLEN
                  try clear HLEN2
                  try clear HPL
                  try clear HH
                  try clear H0
                  try clear HEQ
                  try clear HX
                  try clear HST
                  try clear HFR
                  try clear HT1
                  try clear HTO
                  try clear HST2
                  try clear HFR2
                  try clear HST3
                  try clear HRB
                  try clear HRB2
                  try clear HRB3
                  try clear HRB4
                  try clear HRB5
                  try clear HRB6
                  try clear HRB7
                  try clear H5
                  try clear F5
                  try clear H6
                  try clear F6
                  try clear H7
                  try clear F7
                  try clear HFA
                  try clear HBA
                  try clear HUP
                  try clear HJ2
                  try clear HJ3
                  try clear HJ4
                  try clear hlim
                  try clear hs320
                  try clear i256
                  try clear i0
                  try clear i0b
                  try clear hlt
                  try clear h256
                  try clear h285
                  try clear hn16
                  try clear eLN
                  try clear hLN4
                  try clear hd320
                  try clear hd29
                  try clear hf16
                  try clear eBK
                  try clear hBK4
                  try clear hBK1
                  try clear hlimT
                  try clear hB00
                  try clear RN'
                  have HFAR : Hid (Calls Tryz.prog 70 #[.int .i64 0] W8 fun e w' => e = .returned (.tuple #[.int .i64 1, .int .i64 0]) ∧ W8 = w') := Lib.hid (rfar_any 0 W8 (by decide))
                  go_wp2_with fail
                  refine HFAR.out.mono ?_
                  rintro _ w' ⟨rfl, rfl⟩
                  go_wp2_with fail
                  refine (sgroup_err 0 W8 HD.out.is HD.out.nz).mono ?_
                  rintro _ w' ⟨rfl, rfl⟩
                  obtain ⟨pM, cM, m2, -, -⟩ := HD.out.is.c2
                  have m3 := HD.out.is.c3
                  have m4 := HD.out.is.c4
                  go_wp2_with (go_at_call 71; refine (sfail_err _ _ (HD.out.is.fr0 (by first | exact Fr.refl _ _ | exact (Fr.drewN S0 _ _).trans0 (Fr.drewN _ _ _) | exact Fr.drewN _ _ _)) HD.out.nz).mono ?_; rintro _ w9 ⟨rfl, rfl⟩)
                  all_goals
                    go_quiet (fail)
                    go_wp2_with (go_at_call 71; refine (sfail_err _ _ (HD.out.is.fr0 (by first | exact Fr.refl _ _ | exact (Fr.drewN S0 _ _).trans0 (Fr.drewN _ _ _) | exact Fr.drewN _ _ _)) HD.out.nz).mono ?_; rintro _ w9 ⟨rfl, rfl⟩)
                    all_goals
                      go_loopw [14] (fun i wr2 => i = .int .i64 0 ∧ Dead w wr2 g pb cb t t1 b kM lim T1 M) (fun _ _ => 0)
                      case atStart => exact ⟨rfl, HD.out.fr0 (by first | exact Fr.refl _ _ | exact (Fr.drewN S0 _ _).trans0 (Fr.drewN _ _ _) | exact Fr.drewN _ _ _)⟩
                      case round =>
                        obtain ⟨rfl, hd9⟩ := hrel
                        have HD9 := Lib.hid hd9
                        have y4 := HD9.out.is.c4
                        have yb : ((M : Int) == 0) = false := by have := HD9.out.nz; simpa using this
                        clear hd9
                        go_wp2_with fail
                        all_goals go_roundw
                        all_goals first
                          | exact ⟨kM, M, T1, ⟨t1, HD9.out.is, HD9.out.fr, HD9.out.at'⟩, .inr ⟨HD9.out.nz, RN.out⟩⟩
                          | (have h1 := ME.out; have h2 := HD9.out.is.eOf HD9.out.nz; rw [h1.1, h1.2.1, h2]; omega)
                | ok d j3 =>
                  have HJ3 : Hid (j2 < j3) := Lib.hid (by have h1 := rSym_in hz; have := h1.1.1; omega)
                  have hd320 := HLEN2.out d j3 j2 hz
                  have HRB3 : Hid (rBack b lim l2 T1 s j = (rIf (decide (d ≤ 29)) 62 j3).then fun _ k3 => (rGrp b (farC d) k3).then fun f k4 =>
                    (rIf (decide (farN d + f ≤ T1.length)) 63 k4).then fun _ k4 => (rIf (decide (T1.length + LN ≤ lim)) 64 k4).then fun _ k4 =>
                    .ok (again (farN d + f) LN T1) k4) := Lib.hid (by rw [HRB2.out, hz]; rfl)
                  go_wp2_with fail
                  refine (S21.out W5 t1 j2 d j3 T1 H5.out F5.out hz).mono ?_
                  rintro _ W6 ⟨rfl, hst, hf⟩
                  have H6 := Lib.hid hst
                  have F6 : Hid (Fr (RfB g t) w W6) := Lib.hid (F5.out.trans hf fun _ _ e => .inl e)
                  clear hst hf hz HRB2
                  by_cases hd29 : d ≤ 29
                  · have HFA := Lib.hid (rfar_any d W6 hd29)
                    have hA1 : Hid (1 ≤ farN d ∧ farN d ≤ 32768 ∧ farC d ≤ 13) := Lib.hid (far_small d hd29)
                    have HRB4 : Hid (rBack b lim l2 T1 s j = (rGrp b (farC d) j3).then fun f k4 =>
                      (rIf (decide (farN d + f ≤ T1.length)) 63 k4).then fun _ k4 => (rIf (decide (T1.length + LN ≤ lim)) 64 k4).then fun _ k4 =>
                      .ok (again (farN d + f) LN T1) k4) := Lib.hid (by rw [HRB3.out, rIf_yes (decide_eq_true hd29)]; rfl)
                    obtain ⟨A0, hA0⟩ : ∃ A0, farN d = A0 := ⟨_, rfl⟩
                    obtain ⟨C1, hC1⟩ : ∃ C1, farC d = C1 := ⟨_, rfl⟩
                    rw [hA0, hC1] at HFA hA1 HRB4
                    have hA := hA1.out
                    have hA00 : ((A0 : Int) == 0) = false := by simp; omega
                    clear hA0 hC1 HRB3 hA1
                    go_wp2_with fail
                    refine HFA.out.mono ?_
                    rintro _ w' ⟨rfl, rfl⟩
                    cases hg : rGrp b C1 j3 with
                    | no M =>
                      have HMZ := Lib.hid (grp_nz H6.out.ins hg)
                      have RN : Hid (RES = .no M) := Lib.hid (by rw [← HEQ.out]; refine rSyms_no ?_; rw [HST3.out _ rfl, HRB4.out, hg]; rfl)
                      go_wp2_with fail
                      refine (GR2.out W6 t1 j3 C1 M T1 H6.out (by omega) hg).mono ?_
                      rintro _ W8 ⟨rfl, hst, hf⟩
                      have HD : Hid (Dead w W8 g pb cb t t1 b j3 lim T1 M) := Lib.hid (Dead.of hst F6.out HT1.out hf HMZ.out)
                      clear hst hf hg
                      have i9 : (0 : Int) < (LN : Int) := by omega
                      try clear S11
                      try clear S12
                      try clear S21
                      try clear S22
                      try clear GR1
                      try clear GR2
                      try clear HLEN
                      try clear HLEN2
                      try clear HPL
                      try clear HH
                      try clear H0
                      try clear HEQ
                      try clear HX
                      try clear HST
                      try clear HFR
                      try clear HT1
                      try clear HTO
                      try clear HST2
                      try clear HFR2
                      try clear HST3
                      try clear HRB
                      try clear HRB2
                      try clear HRB3
                      try clear HRB4
                      try clear HRB5
                      try clear HRB6
                      try clear HRB7
                      try clear H5
                      try clear F5
                      try clear H6
                      try clear F6
                      try clear H7
                      try clear F7
                      try clear HFA
                      try clear HBA
                      try clear HUP
                      try clear HJ2
                      try clear HJ3
                      try clear HJ4
                      try clear hlim
                      try clear hs320
                      try clear i256
                      try clear i0
                      try clear i0b
                      try clear hlt
                      try clear h256
                      try clear h285
                      try clear hn16
                      try clear eLN
                      try clear hLN4
                      try clear hd320
                      try clear hd29
                      try clear hf16
                      try clear eBK
                      try clear hBK4
                      try clear hBK1
                      try clear hlimT
                      try clear hB00
                      try clear RN'
                      obtain ⟨pM, cM, m2, -, -⟩ := HD.out.is.c2
                      have m3 := HD.out.is.c3
                      have m4 := HD.out.is.c4
                      go_wp2_with (go_at_call 71; refine (sfail_err _ _ (HD.out.is.fr0 (by first | exact Fr.refl _ _ | exact (Fr.drewN S0 _ _).trans0 (Fr.drewN _ _ _) | exact Fr.drewN _ _ _)) HD.out.nz).mono ?_; rintro _ w9 ⟨rfl, rfl⟩)
                      all_goals
                        go_quiet (fail)
                        go_wp2_with (go_at_call 71; refine (sfail_err _ _ (HD.out.is.fr0 (by first | exact Fr.refl _ _ | exact (Fr.drewN S0 _ _).trans0 (Fr.drewN _ _ _) | exact Fr.drewN _ _ _)) HD.out.nz).mono ?_; rintro _ w9 ⟨rfl, rfl⟩)
                        all_goals
                          go_loopw [14] (fun i wr2 => i = .int .i64 0 ∧ Dead w wr2 g pb cb t t1 b j3 lim T1 M) (fun _ _ => 0)
                          case atStart => exact ⟨rfl, HD.out.fr0 (by first | exact Fr.refl _ _ | exact (Fr.drewN S0 _ _).trans0 (Fr.drewN _ _ _) | exact Fr.drewN _ _ _)⟩
                          case round =>
                            obtain ⟨rfl, hd9⟩ := hrel
                            have HD9 := Lib.hid hd9
                            have y4 := HD9.out.is.c4
                            have yb : ((M : Int) == 0) = false := by have := HD9.out.nz; simpa using this
                            clear hd9
                            go_wp2_with fail
                            all_goals go_roundw
                            all_goals first
                              | exact ⟨j3, M, T1, ⟨t1, HD9.out.is, HD9.out.fr, HD9.out.at'⟩, .inr ⟨HD9.out.nz, RN.out⟩⟩
                              | (have h1 := ME.out; have h2 := HD9.out.is.eOf HD9.out.nz; rw [h1.1, h1.2.1, h2]; omega)
                    | ok f j4 =>
                      have HJ4 : Hid (j3 ≤ j4) := Lib.hid (by have := (rGrp_lt hg).2; omega)
                      have hf16 : f < 65536 := Nat.lt_of_lt_of_le (rGrp_lt hg).1 (Nat.pow_le_pow_right (n := 2) (by decide) (show C1 ≤ 16 by omega))
                      have HRB6 : Hid (rBack b lim l2 T1 s j = (rIf (decide (A0 + f ≤ T1.length)) 63 j4).then fun _ k4 => (rIf (decide (T1.length + LN ≤ lim)) 64 k4).then fun _ k4 =>
                        .ok (again (A0 + f) LN T1) k4) := Lib.hid (by rw [HRB4.out, hg]; rfl)
                      go_wp2_with fail
                      refine (GR1.out W6 t1 j3 C1 f j4 T1 H6.out (by omega) hg).mono ?_
                      rintro _ W7 ⟨rfl, hst, hf⟩
                      have H7 := Lib.hid hst
                      have F7 : Hid (Fr (RfB g t) w W7) := Lib.hid (F6.out.trans hf fun _ _ e => .inl e)
                      have c4 : W7.cell? ⟨g, 4, none⟩ = some (.int .i64 0) := hst.c4
                      obtain ⟨pM, cM, m2, -, -⟩ := hst.c2
                      have m3 := hst.c3
                      obtain ⟨BK, hBK⟩ : ∃ BK, A0 + f = BK := ⟨_, rfl⟩
                      rw [hBK] at HRB6
                      have eBK : (A0 : Int) + (f : Int) = (BK : Int) := by omega
                      have hBK4 : BK ≤ 100000 := by omega
                      have hBK1 : 1 ≤ BK := by omega
                      have hlimT := hst.lims.1
                      obtain ⟨L1, hL1⟩ : ∃ L1, T1.length = L1 := ⟨_, rfl⟩
                      clear hst hf hg HRB4 hBK
                      by_cases h63 : BK ≤ T1.length
                      · have i63 : ¬ (BK : Int) > (T1.length : Int) := by omega
                        have i63b : decide (T1.length < BK) = false := decide_eq_false (by omega)
                        have i63c : decide ((T1.length : Int) < (BK : Int)) = false := decide_eq_false (by omega)
                        have HRB7 : Hid (rBack b lim l2 T1 s j = (rIf (decide (T1.length + LN ≤ lim)) 64 j4).then fun _ k4 => .ok (again BK LN T1) k4) := Lib.hid (by rw [HRB6.out, rIf_yes (decide_eq_true h63)]; rfl)
                        clear HRB6
                        by_cases h64 : T1.length + LN ≤ lim
                        · have i64 : ¬ (LN : Int) > (lim : Int) - (T1.length : Int) := by omega
                          have i64b : decide ((lim : Int) - (T1.length : Int) < (LN : Int)) = false := decide_eq_false (by omega)
                          have HRB5 : Hid (rBack b lim l2 T1 s j = .ok (again BK LN T1) j4) := Lib.hid (by rw [HRB7.out, rIf_yes (decide_eq_true h64)]; rfl)
                          clear HRB7 hL1
                          go_wp2_with fail
                          have HAG : Hid (rSyms b lim l1 l2 (again BK LN T1) j4 = RES) := Lib.hid (by
                            have hst : rStep b lim l1 l2 T1 k1 = .ok (false, again BK LN T1) j4 := by rw [HST3.out _ HRB5.out, Res.then_ok]
                            rw [← HEQ.out, rSyms_go hst (by have h1 := HUP.out; have h2 := HJ2.out; have h3 := HJ3.out; have h4 := HJ4.out; omega) H7.out.ins])
                          go_quiet (fail)
                          obtain ⟨W9, hW9⟩ : ∃ W9, W7.drewN nq = W9 := ⟨_, rfl⟩
                          have HT9 : Hid (RfTo w W9 g pb cb t b j4 lim T1 0) := Lib.hid (by rw [← hW9]; exact ⟨t1, H7.out.fr0 (Fr.drewN _ _ _), F7.out.trans0 (Fr.drewN _ _ _), HT1.out⟩)
                          rw [hW9]
                          clear hW9 c4 m2 m3
                          go_wp2_with fail
                          go_loopw [14] (fun i wr2 => ∃ q : Nat, q ≤ LN ∧ i = .int .i64 q ∧ RfTo w wr2 g pb cb t b j4 lim (again BK q T1) 0) (fun i _ => LN - (intOf i).toNat)
                          case atStart => exact ⟨0, by omega, rfl, HT9.out⟩
                          case round =>
                            obtain ⟨q, hq, rfl, t2, hs2, hfr2, ht2⟩ := hrel
                            have HS := Lib.hid hs2
                            have HFQ := Lib.hid hfr2
                            have HTQ := Lib.hid ht2
                            have y4 : wr.cell? ⟨g, 4, none⟩ = some (.int .i64 0) := hs2.c4
                            clear hs2 hfr2 ht2
                            by_cases hqn : (q : Int) < (LN : Int)
                            · obtain ⟨V, hV⟩ : ∃ V, again BK q T1 = V := ⟨_, rfl⟩
                              have hVL : V.length = T1.length + q := by rw [← hV, again_length]
                              have HNX : Hid (again BK (q + 1) T1 = V ++ [V.getD (V.length - BK) 0]) := Lib.hid (by rw [again_succ, hV])
                              rw [hV] at HS
                              obtain ⟨L, hL⟩ : ∃ L, T1.length + q = L := ⟨_, rfl⟩
                              have HVL : Hid (V.length = L) := Lib.hid (by rw [hVL, hL])
                              obtain ⟨pV, cV, n2, mo, mh⟩ := HS.out.c2
                              rw [HVL.out] at n2 mo mh
                              have MO := Lib.hid mo
                              have MH := Lib.hid mh
                              obtain ⟨NV, hNV⟩ : ∃ NV, L + 1 = NV := ⟨_, rfl⟩
                              have HNV := Lib.hid hNV
                              have HFIT : Hid (NV ≤ lim) := Lib.hid (by omega)
                              have HR : Hid (Room NV) := Lib.hid (Room.mk (by omega))
                              obtain ⟨I, hI⟩ : ∃ I, L - BK = I := ⟨_, rfl⟩
                              have i1 : (L : Int) - (BK : Int) = (I : Int) := by omega
                              have i2 : (I : Int) < (L : Int) := by omega
                              have i3 : I ≤ 1048576 := by omega
                              have hwI : IntKind.i64.wrap (I : Int) = (I : Int) := IntWalk.i64_in _ (by omega)
                              have i5 : (0 : Int) ≤ (I : Int) := by omega
                              have i6 : ¬ (I : Int) < 0 := by omega
                              have i4 : L ≤ 1048576 := by omega
                              obtain ⟨Bq, oq, hpq, hcq⟩ := (SlI.ofOwns (l := V) mo).at I (by omega)
                              obtain ⟨x, hx⟩ : ∃ x, V.getD I 0 = x := ⟨_, rfl⟩
                              have HNX2 : Hid (again BK (q + 1) T1 = V ++ [x]) := Lib.hid (by rw [HNX.out, HVL.out, hI, hx])
                              have hcq2 : wr.cell? ⟨Bq, oq + I, none⟩ = some (.int .u8 (x : Int)) := by rw [hcq, ← hx]; simp [show I < V.length by omega]
                              subst hpq
                              have HB2 : Hid (∃ p5 c5, wr.heap[g]? = some (.cells #[.slice pb (8 * b.length) cb, .int .i64 (j4 : Nat), .slice p5 L c5, .int .i64 (lim : Nat), .int .i64 (0 : Nat)] 65 (0, 0)) ∧ Value.ownBlock (.slice p5 L c5) = t2) := Lib.hid (by
                                obtain ⟨p5, c5, h1, _, h3⟩ := HS.out.ex
                                rw [HVL.out] at h1 h3
                                exact ⟨p5, c5, h1, h3⟩)
                              have OWN := Lib.hid ((Fr.drew S0 (wr.alloc (.cells #[.int .u8 (x : Int)] 5))).owns (MO.out.alloc (.cells #[.int .u8 (x : Int)] 5)) fun _ _ h => h)
                              have SR : Hid (SrcIs (wr.alloc (.cells #[.int .u8 (x : Int)] 5)).drew (.slice (some ⟨wr.heap.size, 0, none⟩) 1 1) 1 (u8s [x])) := Lib.hid (SrcIs.ofOwns ((Fr.drew S0 (wr.alloc (.cells #[.int .u8 (x : Int)] 5))).owns (own_one wr (.int .u8 (x : Int)) 5) fun _ _ h => h))
                              have PUSH : Hid (∀ p11 c11 w11, w11.ownsRow 0 5 1 (.slice p11 NV c11) NV (u8s V ++ u8s [x]) → (wr.alloc (.cells #[.int .u8 (x : Int)] 5)).drew.grownBy w11 (Value.ownBlock (.slice (some ⟨Bq, oq, none⟩) L cV)) → (Value.ownBlock (.slice p11 NV c11) = Value.ownBlock (.slice (some ⟨Bq, oq, none⟩) L cV) ∨ Value.ownBlock (.slice p11 NV c11) = some (wr.alloc (.cells #[.int .u8 (x : Int)] 5)).drew.heap.size) →
                                (∃ p5 c5, w11.cell? ⟨g, 2, none⟩ = some (.slice p5 L c5)) ∧ w11.frozen? ⟨g, 2, none⟩ = false ∧ RfTo w (w11.setCell ⟨g, 2, none⟩ (.slice p11 NV c11)) g pb cb t b j4 lim (V ++ [x]) 0) := Lib.hid (fun p11 c11 w11 h1 h2 h3 => by
                                obtain ⟨p5, c5, hb5, ht5⟩ := HB2.out
                                obtain ⟨z1, z2, z3⟩ := RfIs.pushm (x := x) HS.out HVL.out HNV.out hb5 ht5 MH.out HFIT.out (fun a ha => Nat.lt_of_lt_of_le (HPL.out a ha) HFQ.out.size) h1 ⟨h2.os, h2.tape, h2.output, h2.size, h2.block⟩ h3
                                exact ⟨⟨p5, c5, z2⟩, z1 2, RfTo.trans HFQ.out HTQ.out z3⟩)
                              have n3 := (Fr.alloc S0 wr (.cells #[.int .u8 (x : Int)] 5)).cell n2 (fun h => h)
                              clear mo mh hNV hV hVL hL hx hcq hI HNX
                              have hq9 : q ≤ 70000 := by omega
                              try clear hlim hs320
                              try clear i256
                              try clear hlt
                              try clear i0
                              try clear hbb
                              try clear hB00
                              try clear hn16 eLN hLN4 hd320
                              try clear hA hA00 hf16 eBK hBK4 hBK1
                              try clear hlimT
                              try clear i63 i64
                              try clear h63 h64
                              try clear hd29
                              try clear h285
                              try clear h256
                              try clear S11
                              try clear S12
                              try clear S21
                              try clear S22
                              try clear GR1
                              try clear GR2
                              try clear HLEN
                              try clear HLEN2
                              try clear HAG
                              try clear HRB5
                              try clear HST3
                              try clear HEQ
                              try clear HX
                              try clear HST2
                              try clear HFR2
                              try clear HTO
                              try clear HFR
                              try clear HST
                              try clear H5
                              try clear F5
                              try clear H6
                              try clear F6
                              try clear H7
                              try clear F7
                              try clear HT9
                              try clear HS
                              try clear HFQ
                              try clear HTQ
                              try clear HB2
                              try clear MO
                              try clear MH
                              try clear HFIT
                              try clear HPL
                              try clear HH
                              try clear H0
                              try clear HJ2
                              try clear HJ3
                              try clear HJ4
                              try clear HUP
                              try clear ME
                              try clear HT1
                              try clear HFA
                              try clear HVL
                              go_wp2_with fail
                              go_region_law (refine step_many el8 (.tmp 129) (.tmp 143) OWN.out SR.out HNV.out rfl rfl rfl rfl (one8s [x]) HR.out ?_; intro p11 c11 w11 own11 g11 at11; obtain ⟨⟨p5, c5, z2⟩, z1, z3⟩ := PUSH.out p11 c11 w11 own11 g11 at11; have Z3 := Lib.hid z3; clear own11 g11 at11 z3)
                              all_goals
                                clear y4 n2 n3 hcq2 z1 z2 i1
                                go_wp2_with fail
                                go_roundw
                                case rel => exact ⟨q + 1, by omega, by simp, by rw [HNX2.out]; exact Z3.out⟩
                                case measure => simp [intOf]; omega
                            · have HQE : Hid (RfTo w wr g pb cb t b j4 lim (again BK LN T1) 0) := Lib.hid (by rw [← show q = LN by omega]; exact ⟨t2, HS.out, HFQ.out, HTQ.out⟩)
                              go_wp2_with fail
                              go_roundw
                              case rel => exact ⟨j4, 0, again BK LN T1, HQE.out, .inl ⟨rfl, HAG.out⟩⟩
                              case measure =>
                                obtain ⟨t3, hs3, -⟩ := HQE.out
                                have h1 := ME.out
                                have h2 := hs3.eOf0
                                have h3 := hs3.atOf
                                have h4 := HUP.out
                                have h5 := hs3.ins
                                have h6 := HJ2.out
                                have h7 := HJ3.out
                                have h8 := HJ4.out
                                rw [h1.1, h1.2.1, h2, h3]
                                omega
                        · have i64 : (LN : Int) > (lim : Int) - (T1.length : Int) := by omega
                          have RN' : Hid (RES = .no 64) := Lib.hid (by rw [← HEQ.out]; refine rSyms_no ?_; rw [HST3.out _ rfl, HRB7.out, rIf_no (decide_eq_false h64)]; rfl)
                          clear HRB7
                          go_wp2_with fail
                          go_quiet (fail)
                          go_wp2_with fail
                          refine (sfail_ok 64 _ (H7.out.fr0 (Fr.drewN _ _ _))).mono ?_
                          rintro _ W8 ⟨rfl, hst, hf⟩
                          obtain ⟨M, hM⟩ : ∃ M : Nat, 64 = M := ⟨_, rfl⟩
                          rw [hM] at hst
                          have RN : Hid (RES = .no M) := Lib.hid (by rw [← hM]; exact RN'.out)
                          have HD : Hid (Dead w W8 g pb cb t t1 b j4 lim T1 M) := Lib.hid (Dead.of hst (F7.out.trans0 (Fr.drewN _ _ _)) HT1.out hf (by omega))
                          clear hst hf c4 m2 m3 hM
                          go_wp2_with fail
                          have i9 : (0 : Int) < (LN : Int) := by omega
                          try clear S11
                          try clear S12
                          try clear S21
                          try clear S22
                          try clear GR1
                          try clear GR2
                          try clear HLEN
                          try clear HLEN2
                          try clear HPL
                          try clear HH
                          try clear H0
                          try clear HEQ
                          try clear HX
                          try clear HST
                          try clear HFR
                          try clear HT1
                          try clear HTO
                          try clear HST2
                          try clear HFR2
                          try clear HST3
                          try clear HRB
                          try clear HRB2
                          try clear HRB3
                          try clear HRB4
                          try clear HRB5
                          try clear HRB6
                          try clear HRB7
                          try clear H5
                          try clear F5
                          try clear H6
                          try clear F6
                          try clear H7
                          try clear F7
                          try clear HFA
                          try clear HBA
                          try clear HUP
                          try clear HJ2
                          try clear HJ3
                          try clear HJ4
                          try clear hlim
                          try clear hs320
                          try clear i256
                          try clear i0
                          try clear i0b
                          try clear hlt
                          try clear h256
                          try clear h285
                          try clear hn16
                          try clear eLN
                          try clear hLN4
                          try clear hd320
                          try clear hd29
                          try clear hf16
                          try clear eBK
                          try clear hBK4
                          try clear hBK1
                          try clear hlimT
                          try clear hB00
                          try clear RN'
                          go_loopw [14] (fun i wr2 => i = .int .i64 0 ∧ Dead w wr2 g pb cb t t1 b j4 lim T1 M) (fun _ _ => 0)
                          case atStart => exact ⟨rfl, HD.out.fr0 (by first | exact Fr.refl _ _ | exact (Fr.drewN S0 _ _).trans0 (Fr.drewN _ _ _) | exact Fr.drewN _ _ _)⟩
                          case round =>
                            obtain ⟨rfl, hd9⟩ := hrel
                            have HD9 := Lib.hid hd9
                            have y4 := HD9.out.is.c4
                            have yb : ((M : Int) == 0) = false := by have := HD9.out.nz; simpa using this
                            clear hd9
                            go_wp2_with fail
                            all_goals go_roundw
                            all_goals first
                              | exact ⟨j4, M, T1, ⟨t1, HD9.out.is, HD9.out.fr, HD9.out.at'⟩, .inr ⟨HD9.out.nz, RN.out⟩⟩
                              | (have h1 := ME.out; have h2 := HD9.out.is.eOf HD9.out.nz; rw [h1.1, h1.2.1, h2]; omega)
                      · have i63 : (BK : Int) > (T1.length : Int) := by omega
                        have RN' : Hid (RES = .no 63) := Lib.hid (by rw [← HEQ.out]; refine rSyms_no ?_; rw [HST3.out _ rfl, HRB6.out, rIf_no (decide_eq_false h63)]; rfl)
                        clear HRB6
                        go_wp2_with fail
                        refine (sfail_ok 63 _ H7.out).mono ?_
                        rintro _ W8 ⟨rfl, hst, hf⟩
                        obtain ⟨M, hM⟩ : ∃ M : Nat, 63 = M := ⟨_, rfl⟩
                        rw [hM] at hst
                        have RN : Hid (RES = .no M) := Lib.hid (by rw [← hM]; exact RN'.out)
                        have HD : Hid (Dead w W8 g pb cb t t1 b j4 lim T1 M) := Lib.hid (Dead.of hst F7.out HT1.out hf (by omega))
                        clear hst hf c4 m2 m3 hM
                        obtain ⟨pM, cM, m2, -, -⟩ := HD.out.is.c2
                        have m3 := HD.out.is.c3
                        have m4 := HD.out.is.c4
                        go_wp2_with fail
                        have i9 : (0 : Int) < (LN : Int) := by omega
                        try clear S11
                        try clear S12
                        try clear S21
                        try clear S22
                        try clear GR1
                        try clear GR2
                        try clear HLEN
                        try clear HLEN2
                        try clear HPL
                        try clear HH
                        try clear H0
                        try clear HEQ
                        try clear HX
                        try clear HST
                        try clear HFR
                        try clear HT1
                        try clear HTO
                        try clear HST2
                        try clear HFR2
                        try clear HST3
                        try clear HRB
                        try clear HRB2
                        try clear HRB3
                        try clear HRB4
                        try clear HRB5
                        try clear HRB6
                        try clear HRB7
                        try clear H5
                        try clear F5
                        try clear H6
                        try clear F6
                        try clear H7
                        try clear F7
                        try clear HFA
                        try clear HBA
                        try clear HUP
                        try clear HJ2
                        try clear HJ3
                        try clear HJ4
                        try clear hlim
                        try clear hs320
                        try clear i256
                        try clear i0
                        try clear i0b
                        try clear hlt
                        try clear h256
                        try clear h285
                        try clear hn16
                        try clear eLN
                        try clear hLN4
                        try clear hd320
                        try clear hd29
                        try clear hf16
                        try clear eBK
                        try clear hBK4
                        try clear hBK1
                        try clear hlimT
                        try clear hB00
                        try clear RN'
                        go_quiet (fail)
                        go_wp2_with (go_at_call 71; refine (sfail_err _ _ (HD.out.is.fr0 (by first | exact Fr.refl _ _ | exact (Fr.drewN S0 _ _).trans0 (Fr.drewN _ _ _) | exact Fr.drewN _ _ _)) HD.out.nz).mono ?_; rintro _ w9 ⟨rfl, rfl⟩)
                        all_goals
                          go_loopw [14] (fun i wr2 => i = .int .i64 0 ∧ Dead w wr2 g pb cb t t1 b j4 lim T1 M) (fun _ _ => 0)
                          case atStart => exact ⟨rfl, HD.out.fr0 (by first | exact Fr.refl _ _ | exact (Fr.drewN S0 _ _).trans0 (Fr.drewN _ _ _) | exact Fr.drewN _ _ _)⟩
                          case round =>
                            obtain ⟨rfl, hd9⟩ := hrel
                            have HD9 := Lib.hid hd9
                            have y4 := HD9.out.is.c4
                            have yb : ((M : Int) == 0) = false := by have := HD9.out.nz; simpa using this
                            clear hd9
                            go_wp2_with fail
                            all_goals go_roundw
                            all_goals first
                              | exact ⟨j4, M, T1, ⟨t1, HD9.out.is, HD9.out.fr, HD9.out.at'⟩, .inr ⟨HD9.out.nz, RN.out⟩⟩
                              | (have h1 := ME.out; have h2 := HD9.out.is.eOf HD9.out.nz; rw [h1.1, h1.2.1, h2]; omega)
                  · have HFA := Lib.hid (rfar_no (d : Int) W6 (by omega))
                    have RN' : Hid (RES = .no 62) := Lib.hid (by rw [← HEQ.out]; refine rSyms_no ?_; rw [HST3.out _ rfl, HRB3.out, rIf_no (decide_eq_false hd29)]; rfl)
                    clear HRB3
                    go_wp2_with fail
                    refine HFA.out.mono ?_
                    rintro _ w' ⟨rfl, rfl⟩
                    go_wp2_with fail
                    refine (sfail_ok 62 _ H6.out).mono ?_
                    rintro _ W8 ⟨rfl, hst, hf⟩
                    obtain ⟨M, hM⟩ : ∃ M : Nat, 62 = M := ⟨_, rfl⟩
                    rw [hM] at hst
                    have RN : Hid (RES = .no M) := Lib.hid (by rw [← hM]; exact RN'.out)
                    have HD : Hid (Dead w W8 g pb cb t t1 b j3 lim T1 M) := Lib.hid (Dead.of hst F6.out HT1.out hf (by omega))
                    clear hst hf hM
                    go_wp2_with fail
                    refine (sgroup_err 0 W8 HD.out.is HD.out.nz).mono ?_
                    rintro _ w' ⟨rfl, rfl⟩
                    have i9 : (0 : Int) < (LN : Int) := by omega
                    try clear S11
                    try clear S12
                    try clear S21
                    try clear S22
                    try clear GR1
                    try clear GR2
                    try clear HLEN
                    try clear HLEN2
                    try clear HPL
                    try clear HH
                    try clear H0
                    try clear HEQ
                    try clear HX
                    try clear HST
                    try clear HFR
                    try clear HT1
                    try clear HTO
                    try clear HST2
                    try clear HFR2
                    try clear HST3
                    try clear HRB
                    try clear HRB2
                    try clear HRB3
                    try clear HRB4
                    try clear HRB5
                    try clear HRB6
                    try clear HRB7
                    try clear H5
                    try clear F5
                    try clear H6
                    try clear F6
                    try clear H7
                    try clear F7
                    try clear HFA
                    try clear HBA
                    try clear HUP
                    try clear HJ2
                    try clear HJ3
                    try clear HJ4
                    try clear hlim
                    try clear hs320
                    try clear i256
                    try clear i0
                    try clear i0b
                    try clear hlt
                    try clear h256
                    try clear h285
                    try clear hn16
                    try clear eLN
                    try clear hLN4
                    try clear hd320
                    try clear hd29
                    try clear hf16
                    try clear eBK
                    try clear hBK4
                    try clear hBK1
                    try clear hlimT
                    try clear hB00
                    try clear RN'
                    obtain ⟨pM, cM, m2, -, -⟩ := HD.out.is.c2
                    have m3 := HD.out.is.c3
                    have m4 := HD.out.is.c4
                    go_wp2_with (go_at_call 71; refine (sfail_err _ _ (HD.out.is.fr0 (by first | exact Fr.refl _ _ | exact (Fr.drewN S0 _ _).trans0 (Fr.drewN _ _ _) | exact Fr.drewN _ _ _)) HD.out.nz).mono ?_; rintro _ w9 ⟨rfl, rfl⟩)
                    all_goals
                      go_quiet (fail)
                      go_wp2_with (go_at_call 71; refine (sfail_err _ _ (HD.out.is.fr0 (by first | exact Fr.refl _ _ | exact (Fr.drewN S0 _ _).trans0 (Fr.drewN _ _ _) | exact Fr.drewN _ _ _)) HD.out.nz).mono ?_; rintro _ w9 ⟨rfl, rfl⟩)
                      all_goals
                        go_loopw [14] (fun i wr2 => i = .int .i64 0 ∧ Dead w wr2 g pb cb t t1 b j3 lim T1 M) (fun _ _ => 0)
                        case atStart => exact ⟨rfl, HD.out.fr0 (by first | exact Fr.refl _ _ | exact (Fr.drewN S0 _ _).trans0 (Fr.drewN _ _ _) | exact Fr.drewN _ _ _)⟩
                        case round =>
                          obtain ⟨rfl, hd9⟩ := hrel
                          have HD9 := Lib.hid hd9
                          have y4 := HD9.out.is.c4
                          have yb : ((M : Int) == 0) = false := by have := HD9.out.nz; simpa using this
                          clear hd9
                          go_wp2_with fail
                          all_goals go_roundw
                          all_goals first
                            | exact ⟨j3, M, T1, ⟨t1, HD9.out.is, HD9.out.fr, HD9.out.at'⟩, .inr ⟨HD9.out.nz, RN.out⟩⟩
                            | (have h1 := ME.out; have h2 := HD9.out.is.eOf HD9.out.nz; rw [h1.1, h1.2.1, h2]; omega)
            · have RN : Hid (RES = .no 62) := Lib.hid (by
                rw [← HEQ.out]; refine rSyms_no ?_
                unfold rStep
                rw [HX.out, Res.then_ok, if_neg (by omega), if_neg h256]
                unfold rBack
                rw [rIf_no (decide_eq_false h285)]; rfl)
              have HBA := Lib.hid (rbase_no (s : Int) W (by omega))
              have hfz : W.frozen? ⟨g, 4, none⟩ = false := HST2.out.fz 4
              have HFI : Hid (RfOut RES w (W.setCell ⟨g, 4, none⟩ (.int .i64 62)) g pb cb t b lim (.returned (.tuple #[]))) := Lib.hid (RfOut.no RN.out (RfTo.step HFR2.out HT1.out (HST2.out.setE 62) (Fr.setCell (· = g) _ _ _ rfl)).1)
              go_wp2_with fail
              refine HBA.out.mono ?_
              rintro e w' ⟨rfl, rfl⟩
              go_wp2_with fail
              ((try simp only [Exit.inBlock, Exit.then]); refine bodyPost_ret (results_none rfl _ _ _) rfl ?_)
              exact HFI.out
    · obtain ⟨t1, hst, hfr, ht1⟩ := hto
      have c4 := hst.c4
      have hE2 : ¬ (E1 : Int) = 0 := by omega
      have HF := Lib.hid (RfOut.no heq ⟨t1, hst, hfr, ht1⟩)
      clear hst heq hfr ht1
      go_wp2_with fail
      go_end0
      exact HF.out
end Go.Proofs.YtnckoghgplnhfaaGreat
