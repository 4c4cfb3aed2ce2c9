/- The law on sets that are made. -/
import Derived.Test.YtibmcapaefpkfaaHufAlive
import Derived.Test.YtibmcapaefpkfaaHufRef
import Derived.BigQuiet
namespace Go.Proofs.Ytibmcapaefpkfaa
open Go.RowKit

theorem codC {w : World} {a : Addr} {l : List Nat} (h : SlI w .u32 (some a) (cods l)) (j : Nat) (hj : j < l.length) : ∃ b o, a = ⟨b, o, none⟩ ∧ w.cell? ⟨b, o + j, none⟩ = some (.int .u32 (cod l j : Nat)) := by
  obtain ⟨b, o, hp, hc⟩ := h.at j (by rw [cods_length]; exact hj)
  rw [cods_get] at hc
  exact ⟨b, o, Option.some.inj hp, hc⟩

set_option maxRecDepth 100000 in
set_option maxHeartbeats 4000000 in
theorem makes_ok (p : Option Addr) (d : Nat) (l : List Nat) (ask : Int) (w : World) (hl : SlI w .u8 p l) (hp : p = none → d = 0) (hL : l.length ≤ 320) (h15 : ∀ x ∈ l, x ≤ 15) (ok : okl l) :
    Calls Try.prog 3 #[.slice p l.length d, .int .i64 ask] w fun e w' => e = .returned (.bool true) ∧ Fr S0 w w' := by
  have hw := start w
  have hnot : ¬ (l.length : Int) > 1000 := by omega
  have HL := Lib.hid hl
  have H15 := Lib.hid h15
  have HM := Lib.hid (fun (W : World) (f : Fr S0 w W) => make_ok p d l W (hl.fr0 f) hp hL h15 ok)
  have HCK := Lib.hid (fun (W : World) (f : Fr S0 w W) => rcheck_any p d l W (hl.fr0 f) (fun x hx => by have := h15 x hx; omega) (by omega))
  have HCO := Lib.hid (fun (W : World) (f : Fr S0 w W) => rcodes_any p d l W (hl.fr0 f) h15 hL)
  have hnl : ¬ (320 < l.length ∨ long l = true) := by
    rw [long_none h15]
    rintro (h | h)
    · omega
    · cases h
  have hck := ck_ok hnl ok
  rw [hck.1, hck.2] at HCK
  have HZ : Hid (∀ i, i < l.length → l.getD i 0 = 0 → cod l i = 0) := Lib.hid (fun i _ h => by unfold cod len; rw [if_pos h])
  obtain ⟨FU, hFU⟩ : ∃ b : Bool, decide (ful l) = b := ⟨_, rfl⟩
  rw [hFU] at HCK
  have HFU := Lib.hid hFU
  clear hl h15 hp ok hnl hck hFU
  go_enter Try.func3, Try.ntmps3
  go_wp2_with fail
  refine hw _ ?_
  intro w1 g1
  have G1 := Lib.hid g1
  clear hw g1
  go_wp2_with fail
  refine (HM.out w1 G1.out).mono ?_
  rintro e w2 ⟨g, rfl, ⟨f2, s2⟩, -⟩
  have G2 := Lib.hid (G1.out.trans0 f2)
  have HS := Lib.hid s2
  have hn1 : ((some ⟨g, 0, none⟩ : Option Addr) == none) = false := rfl
  clear f2 s2 HM
  go_wp2_with fail
  refine (HCK.out w2 G2.out).mono ?_
  rintro e w' ⟨rfl, rfl⟩
  clear HCK
  go_wp2_with fail
  refine (codes_any _ g l w2 HS.out).mono ?_
  rintro e w3 ⟨v, rfl, f3, hv⟩
  obtain ⟨pc, cc, rfl, hpc, -, -⟩ := slForm hv.own
  have G3 := Lib.hid (G2.out.trans0 f3)
  have HS3 := Lib.hid (HS.out.fr0 f3)
  have HV := Lib.hid (SlI.ofOwns hv.own)
  have HPC := Lib.hid hpc
  rw [cods_length]
  clear f3 hv hpc HS
  go_wp2_with fail
  refine (HCO.out w3 G3.out).mono ?_
  rintro e w4 ⟨v, rfl, f4, hv⟩
  obtain ⟨pd, cd, rfl, hpd, -, -⟩ := slForm hv.own
  have G4 := Lib.hid (G3.out.trans0 f4)
  have HS4 := Lib.hid (HS3.out.fr0 f4)
  have HV4 := Lib.hid (HV.out.fr0 f4)
  have HD4 := Lib.hid (SlI.ofOwns hv.own)
  rw [cods_length]
  obtain ⟨pl, cl, cb, cdd, ob, oc, q1, -⟩ := HS4.out.ex
  have hfu := full_any g w4 q1 (by omega)
  rw [HFU.out] at hfu
  have HF := Lib.hid hfu
  clear f4 hv hpd HS3 HV q1 hfu HCO
  go_wp2_with fail
  refine HF.out.mono ?_
  rintro e w5 ⟨rfl, f5⟩
  have G5 := Lib.hid (G4.out.trans0 f5)
  have HS5 := Lib.hid (HS4.out.fr0 f5)
  have HV5 := Lib.hid (HV4.out.fr0 f5)
  have HD5 := Lib.hid (HD4.out.fr0 f5)
  have hbb : (FU != FU) = false := by cases FU <;> rfl
  clear f5 HS4 HV4 HD4 HF
  go_wp2_with fail
  clear hbb
  go_loopw [11] (fun i wr => ∃ j : Nat, j ≤ l.length ∧ i = .int .i64 j ∧ Fr S0 w5 wr) (fun i _ => l.length - (intOf i).toNat)
  case atStart => exact ⟨0, by omega, rfl, Fr.refl _ _⟩
  case round =>
    obtain ⟨j, hj, rfl, hfr⟩ := hrel
    have HFR := Lib.hid hfr
    clear hfr
    have HLE := Lib.hid (fun s n => length_any _ g l s (wr.drewN n) ((HS5.out.fr0 HFR.out).fr0 (Fr.drewN _ _ _)))
    by_cases hjc : (j : Int) < (l.length : Int)
    · have hjl : j < l.length := by omega
      obtain ⟨b, o, hpe, hcl⟩ := (HL.out.fr0 (G5.out.trans0 HFR.out)).at j hjl
      obtain ⟨b1, o1, hpe1, hc1⟩ := (HV5.out.fr0 HFR.out).at j (by rw [cods_length]; exact hjl)
      obtain ⟨b2, o2, hpe2, hc2⟩ := (HD5.out.fr0 HFR.out).at j (by rw [cods_length]; exact hjl)
      rw [cods_get] at hc1 hc2
      have hx15 := H15.out _ (List.getElem_mem hjl)
      have HLJ : Hid (∀ n, Calls Try.prog 14 #[.pointer (some ⟨g, 0, none⟩), .int .i64 (j : Nat)] (wr.drewN n) fun e w' => e = .returned (.int .i64 (l[j] : Nat)) ∧ w' = wr.drewN n) := Lib.hid (fun n => by
        have := HLE.out (j : Int) n
        rw [lenI_nat, len_get l j hjl] at this
        exact this.mono fun _ _ h => ⟨h.1, h.2.symm⟩)
      have HZJ : Hid (l[j] = 0 → cod l j = 0) := Lib.hid (fun h => HZ.out j hjl ((len_get l j hjl).trans h))
      obtain ⟨x, hx⟩ : ∃ x, l[j] = x := ⟨_, rfl⟩
      obtain ⟨c, hc⟩ : ∃ c, cod l j = c := ⟨_, rfl⟩
      rw [hx] at hcl hx15 HLJ HZJ
      rw [hc] at hc1 hc2 HZJ
      subst hpe hpe1 hpe2
      clear hx hc HLE
      by_cases hx0 : x = 0
      · subst hx0
        obtain rfl := HZJ.out rfl
        have e0 : wr.cell? ⟨b, o + j, none⟩ = some (.int .u8 0) := hcl
        have e1 : wr.cell? ⟨b1, o1 + j, none⟩ = some (.int .u32 0) := hc1
        have e2 : wr.cell? ⟨b2, o2 + j, none⟩ = some (.int .u32 0) := hc2
        have HLJ0 : Hid (∀ n, Calls Try.prog 14 #[.pointer (some ⟨g, 0, none⟩), .int .i64 (j : Nat)] (wr.drewN n) fun e w' => e = .returned (.int .i64 0) ∧ w' = wr.drewN n) := Lib.hid HLJ.out
        clear HZJ hcl hc1 hc2 HLJ
        go_wp2_with fail
        go_quiet ((go_at_call 14; exact Calls.quiet_of_same (HLJ0.out _)))
        go_wp2_with fail
        go_roundw
        case rel => exact ⟨j + 1, by omega, by go_num, HFR.out.trans0 (Fr.drewN _ _ _)⟩
        case measure => simp [intOf]; omega
      · have hpos : 0 < x := by omega
        have hne : ((x : Int) == 0) = false := by rw [beq_eq_false_iff_ne]; omega
        clear HZJ
        go_wp2_with fail
        go_quiet ((go_at_call 14; exact Calls.quiet_of_same (HLJ.out _)))
        go_wp2_with fail
        go_roundw
        case rel => exact ⟨j + 1, by omega, by go_num, HFR.out.trans0 (Fr.drewN _ _ _)⟩
        case measure => simp [intOf]; omega
    · obtain rfl : j = l.length := by omega
      have hA := length_any _ g l ask wr (HS5.out.fr0 HFR.out)
      by_cases ha : 0 ≤ ask
      · by_cases hb : ask < (l.length : Int)
        · clear hA HLE
          go_wp2_with fail
          go_ret
          exact ⟨rfl, G5.out.trans0 HFR.out⟩
        · rw [lenI_no (by omega)] at hA
          have HA : Hid (Calls Try.prog 14 #[.pointer (some ⟨g, 0, none⟩), .int .i64 ask] wr fun e w' => e = .returned (.int .i64 0) ∧ wr = w') := Lib.hid hA
          clear hA HLE
          go_wp2_with fail
          refine HA.out.mono ?_
          rintro e w' ⟨rfl, rfl⟩
          go_wp2_with fail
          go_ret
          exact ⟨rfl, G5.out.trans0 HFR.out⟩
      · rw [lenI_no (by omega)] at hA
        have HA : Hid (Calls Try.prog 14 #[.pointer (some ⟨g, 0, none⟩), .int .i64 ask] wr fun e w' => e = .returned (.int .i64 0) ∧ wr = w') := Lib.hid hA
        have ha2 : decide (0 ≤ ask) = false := decide_eq_false ha
        clear hA HLE
        go_wp2_with fail
        refine HA.out.mono ?_
        rintro e w' ⟨rfl, rfl⟩
        go_wp2_with fail
        go_ret
        exact ⟨rfl, G5.out.trans0 HFR.out⟩

set_option maxRecDepth 100000 in
set_option maxHeartbeats 1000000 in
theorem makes_no (p : Option Addr) (d k : Nat) (l : List Nat) (ask : Int) (w : World) (hL : l.length ≤ 1000) (hk0 : k ≠ 0)
    (hM : ∀ W, Fr S0 w W → Calls Try.prog 9 #[.slice p l.length d] W fun e w' => e = .returned (.tuple #[.pointer none, .int .i64 (k : Nat)]) ∧ Fr S0 W w')
    (hC : ∀ W, Fr S0 w W → Calls Try.prog 10 #[.slice p l.length d] W fun e w' => e = .returned (.tuple #[.int .i64 (k : Nat), .bool false]) ∧ W = w') :
    Calls Try.prog 3 #[.slice p l.length d, .int .i64 ask] w fun e w' => e = .returned (.bool true) ∧ Fr S0 w w' := by
  have hw := start w
  have hnot : ¬ (l.length : Int) > 1000 := by omega
  have HM := Lib.hid hM
  have HC := Lib.hid hC
  have hkk : ((k : Int) != 0) = true := by rw [bne_iff_ne]; omega
  clear hM hC hL
  go_enter Try.func3, Try.ntmps3
  go_wp2_with fail
  refine hw _ ?_
  intro w1 g1
  have G1 := Lib.hid g1
  clear hw g1
  go_wp2_with fail
  refine (HM.out w1 G1.out).mono ?_
  rintro e w2 ⟨rfl, f2⟩
  have G2 := Lib.hid (G1.out.trans0 f2)
  clear f2 HM
  go_wp2_with fail
  refine (HC.out w2 G2.out).mono ?_
  rintro e w' ⟨rfl, rfl⟩
  clear HC
  go_wp2_with fail
  go_ret
  exact ⟨rfl, G2.out⟩

set_option maxRecDepth 100000 in
set_option maxHeartbeats 400000 in
theorem makes_far (p : Option Addr) (n d : Nat) (ask : Int) (w : World) (hn : ¬ n ≤ 1000) :
    Calls Try.prog 3 #[.slice p n d, .int .i64 ask] w fun e w' => e = .returned (.bool true) ∧ Fr S0 w w' := by
  have hw := start w
  have hnot : (n : Int) > 1000 := by omega
  clear hn
  go_enter Try.func3, Try.ntmps3
  go_wp2_with fail
  refine hw _ ?_
  intro w1 g1
  have G1 := Lib.hid g1
  clear hw g1
  go_wp2_with fail
  go_ret
  exact ⟨rfl, G1.out⟩

theorem law_makes (p : Option Addr) (d : Nat) (l : List Nat) (ask : Int) (w : World) (hl : SlI w .u8 p l) (h8 : ∀ x ∈ l, x < 256) (hp : p = none → d = 0) :
    Calls Try.prog 3 #[.slice p l.length d, .int .i64 ask] w fun e w' => e = .returned (.bool true) ∧ Fr S0 w w' := by
  by_cases h1 : l.length ≤ 1000
  · have hC : ∀ W, Fr S0 w W → Calls Try.prog 10 #[.slice p l.length d] W fun e w' => e = .returned (.tuple #[.int .i64 (ckN l : Nat), .bool (ckF l)]) ∧ W = w' := fun W f => rcheck_any p d l W (hl.fr0 f) h8 h1
    by_cases h2 : l.length ≤ 320
    · cases h3 : long l with
      | true =>
        rw [(ck_long (.inr h3)).1, (ck_long (.inr h3)).2] at hC
        exact makes_no p d 1 l ask w h1 (by decide) (fun W f => (make_long p d l W (hl.fr0 f) h2 h3).mono fun _ _ h => ⟨h.1, h.2 ▸ Fr.refl _ _⟩) hC
      | false =>
        have h15 := long_no h3
        have hnl : ¬ (320 < l.length ∨ long l = true) := by
          rw [h3]
          rintro (h | h)
          · omega
          · cases h
        by_cases ok : okl l
        · exact makes_ok p d l ask w hl hp h2 h15 ok
        · rw [(ck_no hnl ok).1, (ck_no hnl ok).2] at hC
          exact makes_no p d 62 l ask w h1 (by decide) (fun W f => make_no p d l W (hl.fr0 f) hp h2 h15 ok) hC
    · have hlo : 320 < l.length ∨ long l = true := .inl (by omega)
      rw [(ck_long hlo).1, (ck_long hlo).2] at hC
      exact makes_no p d 1 l ask w h1 (by decide) (fun W f => (make_many p d l W h2).mono fun _ _ h => ⟨h.1, h.2 ▸ Fr.refl _ _⟩) hC
  · exact makes_far p l.length d ask w h1
end Go.Proofs.Ytibmcapaefpkfaa
