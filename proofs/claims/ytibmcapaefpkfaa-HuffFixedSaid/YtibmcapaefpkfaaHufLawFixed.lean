/- The law on the fixed lengths. -/
import Derived.Test.YtibmcapaefpkfaaHufSpans
import Derived.Deep.RegionLaw
namespace Go.Proofs.Ytibmcapaefpkfaa
open Go.RowKit

theorem ful_fix : ful fixLs := by decide +kernel
theorem ful_five : ful (List.replicate 32 5) := by decide +kernel
theorem fix_short : ∀ x ∈ fixLs, x ≤ 15 := by
  intro x hx
  unfold fixLs at hx
  obtain ⟨i, -, rfl⟩ := List.mem_map.1 hx
  have := fixL_cases i
  omega

set_option maxRecDepth 100000 in
set_option maxHeartbeats 4000000 in
theorem law_fixed (ask : Int) (w : World) :
    Calls Try.prog 7 #[.int .i64 ask] w fun e w' => e = .returned (.bool true) ∧ Fr S0 w w' := by
  have hw := start w
  have HRF := Lib.hid (fun W => rfixed_any W)
  have HBE : Hid (((strB fixLs).toList == (strB fixLs).toList) = true) := Lib.hid (beq_self_eq_true _)
  go_enter Try.func7, Try.ntmps7
  go_wp2_with fail
  refine hw _ ?_
  intro w1 g1
  have G1 := Lib.hid g1
  clear hw g1
  go_wp2_with fail
  refine (fixed_any w1).mono ?_
  rintro e w2 ⟨v, rfl, f2, hv⟩
  obtain ⟨p, c, rfl, hp, -, -⟩ := slForm hv.own
  have G2 := Lib.hid (G1.out.trans0 f2)
  have HO := Lib.hid hv.own
  have HP := Lib.hid hp
  rw [fixLs_length]
  clear f2 hv hp
  go_wp2_with fail
  refine (spans_any w2).mono ?_
  rintro e w3 ⟨gd, rfl, f3, hs⟩
  have G3 := Lib.hid (G2.out.trans0 f3)
  have HO3 := Lib.hid (f3.owns HO.out (fun _ _ h => h))
  have HS3 := Lib.hid hs
  have k1 := conv_own HO3.out
  have k2 := conv_own ((Fr.drew S0 w3).owns HO3.out (fun _ _ h => h))
  rw [fixLs_length] at k1 k2
  obtain ⟨ST, hST⟩ : ∃ X, strB fixLs = X := ⟨_, rfl⟩
  rw [hST] at k1 k2 HBE
  have HST := Lib.hid hST
  have HM1 : Hid (∀ W, Fr S0 w3 W → Calls Try.prog 9 #[.slice p 288 c] W fun e w' => ∃ g, e = .returned (.tuple #[.pointer (some ⟨g, 0, none⟩), .int .i64 0]) ∧ (Fr S0 W w' ∧ SetIs w' w'.heap.size g fixLs) ∧ W.heap.size ≤ g) := Lib.hid (fun W f => by
    have := make_ok p c fixLs W ((SlI.ofOwns HO3.out).fr0 f) HP.out (by rw [fixLs_length]; omega) fix_short (.inl ful_fix)
    rw [fixLs_length] at this
    exact this)
  have HM2 : Hid (∀ W, Fr S0 w3 W → Calls Try.prog 9 #[.slice (some ⟨gd, 0, none⟩) 32 32] W fun e w' => ∃ g, e = .returned (.tuple #[.pointer (some ⟨g, 0, none⟩), .int .i64 0]) ∧ (Fr S0 W w' ∧ SetIs w' w'.heap.size g (List.replicate 32 5)) ∧ W.heap.size ≤ g) := Lib.hid (fun W f => by
    have := make_ok (some ⟨gd, 0, none⟩) 32 (List.replicate 32 5) W (HS3.out.fr0 f) (fun h => by cases h) (by rw [List.length_replicate]; omega) (fun x hx => by rw [List.eq_of_mem_replicate hx]; omega) (.inl ful_five)
    rw [List.length_replicate] at this
    exact this)
  clear f3 hs hST HO
  go_wp2_with fail
  go_region_law (go_simp; go_at_call 25; refine (HRF.out _).mono ?_; rintro e w4 ⟨v4, rfl, f4, hv4⟩; have k4 := conv_own hv4.own; rw [HST.out] at k4; have k3 := conv_own (f4.owns ((Fr.drew S0 w3).owns HO3.out (fun _ _ h => h)) (fun _ _ h => h)); rw [fixLs_length, HST.out] at k3; have F4 := Lib.hid ((Fr.drew S0 w3).trans0 f4); clear f4 hv4; dsimp only)
  all_goals
    clear k1 k2 k3 k4 HRF
    by_cases ha : 0 ≤ ask
    · by_cases hb : ask < 32
      · obtain ⟨i, rfl⟩ : ∃ i : Nat, ask = i := ⟨ask.toNat, by omega⟩
        obtain ⟨b, o, hpe, hcl⟩ := (HS3.out.fr0 F4.out).at i (by rw [List.length_replicate]; omega)
        rw [List.getElem_replicate] at hcl
        simp only [Option.some.injEq, Addr.mk.injEq, and_true] at hpe
        obtain ⟨rfl, rfl⟩ := hpe
        rw [Nat.zero_add] at hcl
        have hc5 : w4.cell? ⟨gd, i, none⟩ = some (.int .u8 5) := hcl
        clear hcl
        go_wp2_with fail
        refine (HM1.out w4 F4.out).mono ?_
        rintro e w5 ⟨g1, rfl, ⟨f5, s5⟩, -⟩
        have F5 := Lib.hid (F4.out.trans0 f5)
        have S5 := Lib.hid s5
        clear f5 s5
        go_wp2_with fail
        refine (HM2.out w5 F5.out).mono ?_
        rintro e w6 ⟨g2, rfl, ⟨f6, s6⟩, -⟩
        have F6 := Lib.hid (F5.out.trans0 f6)
        have S6 := Lib.hid (S5.out.fr0 f6)
        have T6 := Lib.hid s6
        clear f6 s6
        obtain ⟨pl, cl, cb, cdd, ob, oc, q1, -⟩ := S6.out.ex
        have hF := full_any g1 w6 q1 (by rw [fixLs_length]; omega)
        rw [decide_eq_true ful_fix] at hF
        have HF := Lib.hid hF
        clear q1 hF
        go_wp2_with fail
        refine HF.out.mono ?_
        rintro e w7 ⟨rfl, f7⟩
        have F7 := Lib.hid (F6.out.trans0 f7)
        obtain ⟨pl2, cl2, cb2, cdd2, ob2, oc2, q2, -⟩ := (T6.out.fr0 f7).ex
        have hF2 := full_any g2 w7 q2 (by rw [List.length_replicate]; omega)
        rw [decide_eq_true ful_five] at hF2
        have HF2 := Lib.hid hF2
        clear q2 hF2 f7 HF
        go_wp2_with fail
        refine HF2.out.mono ?_
        rintro e w8 ⟨rfl, f8⟩
        have F8 := Lib.hid (G3.out.trans0 (F7.out.trans0 f8))
        clear f8 HF2
        go_wp2_with fail
        go_ret
        exact ⟨rfl, F8.out⟩
      · have hb2 : decide (ask < 32) = false := decide_eq_false hb
        clear hb
        go_wp2_with fail
        refine (HM1.out w4 F4.out).mono ?_
        rintro e w5 ⟨g1, rfl, ⟨f5, s5⟩, -⟩
        have F5 := Lib.hid (F4.out.trans0 f5)
        have S5 := Lib.hid s5
        clear f5 s5
        go_wp2_with fail
        refine (HM2.out w5 F5.out).mono ?_
        rintro e w6 ⟨g2, rfl, ⟨f6, s6⟩, -⟩
        have F6 := Lib.hid (F5.out.trans0 f6)
        have S6 := Lib.hid (S5.out.fr0 f6)
        have T6 := Lib.hid s6
        clear f6 s6
        obtain ⟨pl, cl, cb, cdd, ob, oc, q1, -⟩ := S6.out.ex
        have hF := full_any g1 w6 q1 (by rw [fixLs_length]; omega)
        rw [decide_eq_true ful_fix] at hF
        have HF := Lib.hid hF
        clear q1 hF
        go_wp2_with fail
        refine HF.out.mono ?_
        rintro e w7 ⟨rfl, f7⟩
        have F7 := Lib.hid (F6.out.trans0 f7)
        obtain ⟨pl2, cl2, cb2, cdd2, ob2, oc2, q2, -⟩ := (T6.out.fr0 f7).ex
        have hF2 := full_any g2 w7 q2 (by rw [List.length_replicate]; omega)
        rw [decide_eq_true ful_five] at hF2
        have HF2 := Lib.hid hF2
        clear q2 hF2 f7 HF
        go_wp2_with fail
        refine HF2.out.mono ?_
        rintro e w8 ⟨rfl, f8⟩
        have F8 := Lib.hid (G3.out.trans0 (F7.out.trans0 f8))
        clear f8 HF2
        go_wp2_with fail
        go_ret
        exact ⟨rfl, F8.out⟩
    · have ha2 : decide (0 ≤ ask) = false := decide_eq_false ha
      clear ha
      go_wp2_with fail
      refine (HM1.out w4 F4.out).mono ?_
      rintro e w5 ⟨g1, rfl, ⟨f5, s5⟩, -⟩
      have F5 := Lib.hid (F4.out.trans0 f5)
      have S5 := Lib.hid s5
      clear f5 s5
      go_wp2_with fail
      refine (HM2.out w5 F5.out).mono ?_
      rintro e w6 ⟨g2, rfl, ⟨f6, s6⟩, -⟩
      have F6 := Lib.hid (F5.out.trans0 f6)
      have S6 := Lib.hid (S5.out.fr0 f6)
      have T6 := Lib.hid s6
      clear f6 s6
      obtain ⟨pl, cl, cb, cdd, ob, oc, q1, -⟩ := S6.out.ex
      have hF := full_any g1 w6 q1 (by rw [fixLs_length]; omega)
      rw [decide_eq_true ful_fix] at hF
      have HF := Lib.hid hF
      clear q1 hF
      go_wp2_with fail
      refine HF.out.mono ?_
      rintro e w7 ⟨rfl, f7⟩
      have F7 := Lib.hid (F6.out.trans0 f7)
      obtain ⟨pl2, cl2, cb2, cdd2, ob2, oc2, q2, -⟩ := (T6.out.fr0 f7).ex
      have hF2 := full_any g2 w7 q2 (by rw [List.length_replicate]; omega)
      rw [decide_eq_true ful_five] at hF2
      have HF2 := Lib.hid hF2
      clear q2 hF2 f7 HF
      go_wp2_with fail
      refine HF2.out.mono ?_
      rintro e w8 ⟨rfl, f8⟩
      have F8 := Lib.hid (G3.out.trans0 (F7.out.trans0 f8))
      clear f8 HF2
      go_wp2_with fail
      go_ret
      exact ⟨rfl, F8.out⟩
end Go.Proofs.Ytibmcapaefpkfaa
