/- The law on what is recorded, corrected and taken together, for whatever histograms keep what is asked of them. -/
import Derived.Test.YthfcfmnaiopogaaGreatHrPlays
namespace Go.Proofs.YthfcfmnaiopogaaGreat
open Go.RowKit

section
variable {Is : World → Nat → (Nat → Prop) → Hm → Prop}
set_option maxRecDepth 100000 in
set_option maxHeartbeats 4000000 in
theorem law_plays (hn : HdrNews Is) (hal : ∀ W, Calls Tryz.prog 11 #[] W fun e w' => e = .returned (.bool true) ∧ Fr S0 W w') (a d y : Nat) (gr : Bool) (p : Option Addr) (m c : Nat) (l : List OpT) (w : World) (hm : l.length = m) (h : OpsI w p l) :
    Calls Tryz.prog 3 #[.int .u64 (a : Nat), .int .u8 (d : Nat), .int .u64 (y : Nat), .bool gr, .slice p m c] w fun e w' => e = .returned (.bool true) ∧ Fr S0 w w' := by
  have HA := Lib.hid (hal w)
  obtain ⟨L, H, D, ⟨l0, lh, hh⟩, ⟨d1, d5⟩, hs, hsh⟩ := wshape_any a d y
  have HSH := Lib.hid hsh
  have HP := Lib.hid (fun W => pair_any hn L H D gr W d1 d5 l0 lh hh hs)
  have HD := Lib.hid hn.does
  obtain ⟨N, eN⟩ : ∃ N, Hm.new L H D gr = N := ⟨_, rfl⟩
  have HNL : Hid (N.l = []) := Lib.hid (by rw [← eN]; rfl)
  rw [eN] at HP
  have HOPS := Lib.hid h
  have HLEN := Lib.hid hm
  clear hsh l0 lh hh d1 d5 hs eN h hm hn hal
  go_enter Tryz.func3, Tryz.ntmps3
  go_wp2_with fail
  refine HA.out.mono ?_
  rintro e w1 ⟨rfl, f1⟩
  have F1 := Lib.hid f1
  clear f1 HA
  go_wp2_with fail
  refine (HSH.out _).mono ?_
  rintro e w2 ⟨rfl, f2⟩
  have F2 := Lib.hid (F1.out.trans0 f2)
  clear f2 F1 HSH
  go_wp2_with fail
  refine (HP.out _).mono ?_
  rintro e w3 ⟨gs, gw, xA, xB, rA, rB, rfl, hq⟩
  have HQ := Lib.hid hq
  have hnil := nil_no gs w3
  clear hq HP
  go_wp2_with fail
  clear hnil
  go_loopw [13] (fun z wr => ∃ (i : Nat) (MA MB : Hm), z = .int .i64 (i : Int) ∧ i ≤ m ∧ i ≤ 40 ∧ Hid (Quad Is w2 wr gs gw 0 1 xA xB rA rB MA MB MA MB ∧ Nar (301 * i) MA.l MB.l)) (fun z _ => 40 - (intOf z).toNat)
  case atStart => exact ⟨0, N, N, rfl, by omega, by omega, Lib.hid ⟨HQ.out, by rw [HNL.out]; exact Nar.nil⟩⟩
  case round =>
    obtain ⟨i, MA, MB, rfl, him, hi40, hq⟩ := hrel
    by_cases hik : i < m
    · by_cases hi4 : (i : Int) < 40
      · have hil : i < l.length := by rw [HLEN.out]; exact hik
        have hfw : Fr S0 w wr := F2.out.trans0 hq.out.1.fr
        obtain ⟨b, o, rfl, k0, k1, k2, k3, k4⟩ := HOPS.out.at' i hil
        have hok := HOPS.out.ok _ (List.getElem_mem hil)
        obtain ⟨⟨kd, who, v, n, x⟩, ht⟩ : ∃ t, l[i] = t := ⟨_, rfl⟩
        rw [ht] at k0 k1 k2 k3 k4 hok
        obtain ⟨b1, ⟨b2, b3⟩, b4, b5, b6⟩ := hok
        simp only at k0 k1 k2 k3 k4 b1 b2 b3 b4 b5 b6
        have HCEL := Lib.hid (fun W (f : Fr S0 w W) => And.intro (f.cell k0 (fun h => h)) (And.intro (f.cell k1 (fun h => h)) (And.intro (f.cell k2 (fun h => h)) (And.intro (f.cell k3 (fun h => h)) (f.cell k4 (fun h => h))))))
        obtain ⟨c0, c1, c2, c3, c4⟩ := HCEL.out _ hfw
        have HFAR := Lib.hid (far_any kd who v n x wr b2 b3 b5 b6)
        have hin : (i : Int) < (m : Int) := by omega
        clear k0 k1 k2 k3 k4 ht hil
        cases hf : farB kd v x with
        | true =>
          rw [hf] at HFAR
          clear hf b1 b2 b3 b4 b5 b6
          go_wp2_with fail
          refine HFAR.out.mono ?_
          rintro e w4 ⟨rfl, f4⟩
          have HQ4 := Lib.hid (And.intro (hq.out.1.fr0 HD.out.reads.ob f4) (hq.out.2.more (j := 301 * (i + 1)) (by omega)))
          clear f4
          go_wp2_with fail
          go_roundw
          case rel => exact ⟨i + 1, MA, MB, by go_num, by omega, by omega, HQ4⟩
          case measure => simp [intOf]; omega
        | false =>
          rw [hf] at HFAR
          have HDO := Lib.hid (fun W (f : Fr S0 wr W) => do_any HD.out w2 W gs gw xA xB rA rB (301 * i) MA MB (hq.out.1.fr0 HD.out.reads.ob f) kd who v n x b2 b3 b5 b6 b4 hf (by omega) hq.out.2)
          have HSQ := Lib.hid (fun W MA MB NA NB (q : Quad Is w2 W gs gw 0 1 xA xB rA rB MA MB NA NB) => And.intro q.cs (And.intro q.swap.cs (And.intro q.cw (And.intro q.swap.cw (HCEL.out W (F2.out.trans0 q.fr))))))
          clear hf b1 b2 b3 b4 b5 b6
          go_wp2_with fail
          refine HFAR.out.mono ?_
          rintro e w4 ⟨rfl, f4⟩
          have F4 := Lib.hid f4
          have HQ2 := Lib.hid ((hq.out.1.fr0 HD.out.reads.ob f4).fr0 HD.out.reads.ob (Fr.drew S0 w4))
          clear f4 c0 c1 c2 c3 c4 HFAR
          go_upto_region 28 with fail
          go_region_held3 (fun w' => w'.cell? ⟨gs, 0, none⟩ = some (.pointer (some ⟨xA, 0, none⟩)) ∧ w'.cell? ⟨gs, 1, none⟩ = some (.pointer (some ⟨xB, 0, none⟩)) ∧ w'.cell? ⟨gw, 0, none⟩ = some (.pointer (some ⟨rA, 0, none⟩)) ∧ w'.cell? ⟨gw, 1, none⟩ = some (.pointer (some ⟨rB, 0, none⟩)) ∧ w'.cell? ⟨b, o + i * 5, none⟩ = some (.int .u8 (kd : Nat)) ∧ w'.cell? ⟨b, o + i * 5 + 1, none⟩ = some (.bool who) ∧ w'.cell? ⟨b, o + i * 5 + 2, none⟩ = some (.int .i64 v) ∧ w'.cell? ⟨b, o + i * 5 + 3, none⟩ = some (.int .u64 (n : Nat)) ∧ w'.cell? ⟨b, o + i * 5 + 4, none⟩ = some (.int .i64 x))
            (first
              | (go_split_ands; exact ⟨by assumption, by assumption, by assumption, by assumption, by assumption, by assumption, by assumption, by assumption, by assumption⟩)
              | exact HSQ.out _ _ _ _ _ HQ5.out
              | exact HSQ.out _ _ _ _ _ HQ4.out
              | exact HSQ.out _ _ _ _ _ HQ3.out
              | exact HSQ.out _ _ _ _ _ HQ2.out
              | fail)
            (first
              | (go_at_call 15; ((with_reducible refine (HDO.out _ (F4.out.trans0 (Fr.drew S0 w4))).mono ?_); rintro _ w5 ⟨rfl, MA', MB', hq3, hn3⟩; have HQ3 := Lib.hid hq3; have HN3 := Lib.hid hn3; clear hq3 hn3))
              | (go_at_call 16; ((with_reducible refine (Quad.same HD.out HQ3.out (k := 301 * i + 301) (by omega) HN3.out).mono ?_); rintro _ w6 ⟨rfl, f9⟩; have HQ4 := Lib.hid (HQ3.out.fr0 HD.out.reads.ob f9); clear f9))
              | (go_at_call 16; ((with_reducible refine (Quad.same HD.out HQ4.out.swap (k := 301 * i + 301) (by omega) HN3.out.swap).mono ?_); rintro _ w7 ⟨rfl, f9⟩; have HQ5 := Lib.hid (HQ4.out.fr0 HD.out.reads.ob f9); clear f9))
              | fail)
          go_wp2_with fail
          go_roundw
          case rel => exact ⟨i + 1, MA', MB', by go_num, by omega, by omega, Lib.hid ⟨HQ5.out, HN3.out.more (by omega)⟩⟩
          case measure => simp [intOf]; omega
      · have dg : decide ((i : Int) < 40) = false := decide_eq_false hi4
        obtain ⟨s0, HTN⟩ : wr.cell? ⟨gs, 0, none⟩ = some (.pointer (some ⟨xA, 0, none⟩)) ∧ Hid (Calls Tryz.prog 17 #[.pointer (some ⟨xA, 0, none⟩), .pointer none] wr fun e w' => e = .returned (.int .i64 1) ∧ Fr S0 wr w') := ⟨hq.out.1.cs, Lib.hid (by obtain ⟨C, -, h1, -⟩ := hq.out.1.codeA HD.out.reads.ob; exact HD.out.takeNil h1)⟩
        go_wp2_with fail
        refine HTN.out.mono ?_
        rintro e w4 ⟨rfl, f4⟩
        have F4 := Lib.hid f4
        clear f4
        go_wp2_with fail
        go_ret
        exact ⟨rfl, F2.out.trans0 (hq.out.1.fr.trans0 F4.out)⟩
    · have dg : decide (i < m) = false := decide_eq_false hik
      obtain ⟨s0, HTN⟩ : wr.cell? ⟨gs, 0, none⟩ = some (.pointer (some ⟨xA, 0, none⟩)) ∧ Hid (Calls Tryz.prog 17 #[.pointer (some ⟨xA, 0, none⟩), .pointer none] wr fun e w' => e = .returned (.int .i64 1) ∧ Fr S0 wr w') := ⟨hq.out.1.cs, Lib.hid (by obtain ⟨C, -, h1, -⟩ := hq.out.1.codeA HD.out.reads.ob; exact HD.out.takeNil h1)⟩
      go_wp2_with fail
      refine HTN.out.mono ?_
      rintro e w4 ⟨rfl, f4⟩
      have F4 := Lib.hid f4
      clear f4
      go_wp2_with fail
      go_ret
      exact ⟨rfl, F2.out.trans0 (hq.out.1.fr.trans0 F4.out)⟩
end
end Go.Proofs.YthfcfmnaiopogaaGreat
