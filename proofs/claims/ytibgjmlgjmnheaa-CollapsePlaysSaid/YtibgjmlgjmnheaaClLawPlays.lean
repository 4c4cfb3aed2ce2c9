/- Whatever is counted and taken, what is kept, and what is folded, is the document's, of all that was counted. -/
import Derived.Test.YtibgjmlgjmnheaaClPlay
import Derived.Test.YtibgjmlgjmnheaaClSame
import Derived.Deep.CutBlock
import Derived.Deep.DeepCutAuto
import Derived.Deep.CutRange
import Derived.Deep.RegionHeld3
namespace Go.Proofs.Ytibgjmlgjmnheaa
open Go.RowKit

theorem drewFr (w : World) : ∃ w2, w.drew = w2 ∧ Fr S0 w w2 := ⟨_, rfl, Fr.drew _ _⟩
theorem NewC.fr0 {w w' w2 : World} {g h m : Nat} {a : List Pr} (c : NewC w w' g h m a) (f : Fr S0 w' w2) : NewC w w2 g h m a := ⟨c.is.fr0 f, c.g0, c.h0, Nat.lt_of_lt_of_le c.hl f.size, c.fr.trans0 f⟩

set_option maxRecDepth 100000 in
set_option maxHeartbeats 8000000 in
theorem law_plays (p : Option Addr) (c m M : Nat) (l : List It) (w : World) (hm : l.length = m) (h : OpI w p l) (h64 : ∀ x ∈ l, x.1 < 256 ∧ (-9223372036854775808 ≤ x.2.2.1 ∧ x.2.2.1 ≤ 9223372036854775807) ∧ x.2.2.2 < 18446744073709551616) :
    Calls Try.prog 3 #[.int .u16 (M : Nat), .slice p m c] w fun e w' => e = .returned (.bool true) ∧ Fr S0 w w' := by
  have hw := start w
  obtain ⟨B0, hB0⟩ : ∃ B0, M % 40 = B0 := ⟨_, rfl⟩
  obtain ⟨bud, hb⟩ : ∃ b, 2 + B0 = b := ⟨_, rfl⟩
  obtain ⟨bud1, hb1⟩ : ∃ b, bud + 1 = b := ⟨_, rfl⟩
  have eB0 : (M : Int) % 40 = (B0 : Int) := by omega
  have eB1 : (M : Int).tmod 40 = (B0 : Int) := by rw [Int.tmod_eq_emod_of_nonneg (by omega)]; omega
  have eb : (2 : Int) + (B0 : Int) = (bud : Int) := by omega
  have eb1 : (bud : Int) + 1 = (bud1 : Int) := by omega
  have hB0l : B0 < 40 := by omega
  have hbu2 : 2 ≤ bud := by omega
  have hbu3 : bud ≤ 41 := by omega
  have HB1 := Lib.hid hb1
  have hbb : bud1 ≤ 42 := by omega
  have hbb2 : 2 ≤ bud1 := by omega
  have hbne : ((bud : Int) != (bud : Int)) = false := by simp
  have H := Lib.hid h
  have H64 := Lib.hid h64
  have HM := Lib.hid hm
  have hlen := h.len
  rw [hm] at hlen
  unfold maxLen at hlen
  clear h h64 hm hB0 hb hb1
  go_enter Try.func3, Try.ntmps3
  go_wp2_with fail
  refine hw _ ?_
  intro w1 f1
  have F1 := Lib.hid f1
  have N1 := Lib.hid (new_yes bud w1 hbu2 (by omega))
  clear hw f1
  go_wp2_with fail
  refine N1.out.mono ?_
  rintro e w2 ⟨g1, rfl, n1⟩
  have A1 := Lib.hid n1
  have N2 := Lib.hid (new_yes bud w2 hbu2 (by omega))
  clear N1 n1
  go_wp2_with fail
  refine N2.out.mono ?_
  rintro e w3 ⟨g2, rfl, n2⟩
  have A2 := Lib.hid n2
  have N3 := Lib.hid (new_yes bud1 w3 hbb2 (by omega))
  clear N2 n2
  go_wp2_with fail
  refine N3.out.mono ?_
  rintro e w4 ⟨gO, rfl, n3⟩
  have A3 := Lib.hid n3
  have N4 := Lib.hid (cbudget_any g1 g1 bud [] w4 ((A1.out.is.fr0 A2.out.fr).fr0 n3.fr))
  clear N3 n3
  go_wp2_with fail
  refine N4.out.mono ?_
  rintro e w5 ⟨rfl, f5⟩
  have hmk := make_two
  have P0 := Lib.hid (Pl.new (B := bud) F1.out A1.out A2.out (by rw [HB1.out]; exact A3.out.fr0 f5))
  clear f5 N4 A1 A2 A3 F1
  go_wp2_with fail
  clear hmk
  obtain ⟨gs, hgs⟩ : ∃ g, w5.heap.size = g := ⟨_, rfl⟩
  obtain ⟨gw, hgw⟩ : ∃ g, gs + 1 = g := ⟨_, rfl⟩
  rw [hgs, hgw] at P0 ⊢
  clear hgs hgw
  generalize (w5.alloc (.cells #[.pointer (some ⟨g1, 0, none⟩), .pointer (some ⟨g2, 0, none⟩)] 25)).alloc (.cells #[.slice none 0 0, .slice none 0 0] 36) = w6 at P0 ⊢
  go_loopw [14, 15, 16, 17, 18, 19, 20, 21, 22] (fun x _ _ _ _ _ _ _ _ wr => ∃ (k : Nat) (l1 l2 : List Pr), k ≤ m ∧ k ≤ 60 ∧ x = .int .i64 k ∧ Hid (Side bud gO w wr gs gw 0 1 g1 g2 l1 l2 l1 l2 ∧ Nar k l1 l2)) (fun x _ _ _ _ _ _ _ _ _ => m - (intOf x).toNat)
  case atStart => exact ⟨0, [], [], by omega, by omega, rfl, Lib.hid ⟨P0.out, Nar.nil⟩⟩
  case round =>
    clear P0
    obtain ⟨k, l1, l2, hk, hk60, rfl, hd⟩ := hrel
    by_cases hkm : (k : Int) < (m : Int)
    · by_cases hk6 : (k : Int) < 60
      · have hkl : k < l.length := by rw [HM.out]; omega
        have hb64 := H64.out _ (List.getElem_mem hkl)
        obtain ⟨bb, oo, rfl, hcells⟩ := H.out.at k hkl
        have HC := Lib.hid hcells
        obtain ⟨⟨kd, who, ky, n⟩, ht⟩ : ∃ t, l[k] = t := ⟨_, rfl⟩
        rw [ht] at HC hb64
        simp only at HC hb64
        clear ht hkl hcells
        obtain ⟨a, b, gA, gB, sA, sB, hw1, hw0, hab, hsd, hnar, hback⟩ : ∃ (a b gA gB : Nat) (sA sB : List Pr), (who = true → a = 1) ∧ (who = false → a = 0) ∧ a + b = 1 ∧ Side bud gO w wr gs gw a b gA gB sA sB sA sB ∧ Nar k sA sB ∧
            ∀ W s', Side bud gO w W gs gw a b gA gB s' sB s' sB ∧ Nar (k + 1) s' sB → ∃ l1' l2', Side bud gO w W gs gw 0 1 g1 g2 l1' l2' l1' l2' ∧ Nar (k + 1) l1' l2' := by
          cases who with
          | true => exact ⟨1, 0, g2, g1, l2, l1, fun _ => rfl, (fun h => (by cases h)), rfl, hd.out.1.swap, hd.out.2.swap, fun W s' h => ⟨_, _, h.1.swap, h.2.swap⟩⟩
          | false => exact ⟨0, 1, g1, g2, l1, l2, (fun h => (by cases h)), fun _ => rfl, rfl, hd.out.1, hd.out.2, fun W s' h => ⟨_, _, h⟩⟩
        have HBACK := Lib.hid hback
        have HWHO := Lib.hid (And.intro hw1 hw0)
        have HSD := Lib.hid hsd
        have HNR := Lib.hid hnar
        obtain ⟨c0, c1, c2, c3⟩ := HC.out wr hsd.fr
        have ea : (1 : Int) - (a : Int) = (b : Int) := by omega
        have ha2 : (a : Int) < 2 := by omega
        have hb2 : (b : Int) < 2 := by omega
        obtain ⟨r, hr⟩ : ∃ r, kd % 6 = r := ⟨_, rfl⟩
        have er : (kd : Int) % 6 = (r : Int) := by omega
        have er2 : (kd : Int).tmod 6 = (r : Int) := by rw [Int.tmod_eq_emod_of_nonneg (by omega)]; omega
        have hr7 : r < 6 := by omega
        have hn64 := hb64.2.2
        clear hd hw1 hw0 hback hsd hr hb64 l1 l2 hnar
        go_upto_if 79 with fail
        go_cut [15] from 79 to 79 (fun x6 wx => x6 = .int .i64 (a : Int) ∧ wr = wx)
        case first =>
          cases who with
          | true =>
            obtain rfl : a = 1 := HWHO.out.1 rfl
            go_wp2_with fail
            go_meet
            exact ⟨rfl, rfl⟩
          | false =>
            obtain rfl : a = 0 := HWHO.out.2 rfl
            go_wp2_with fail
            go_meet
            exact ⟨rfl, rfl⟩
        case rest =>
          obtain ⟨rfl, rfl⟩ := hcut
          clear c1 HWHO
          obtain ⟨hO, own, iA, iB, hA, hB, pA, nA, cA, pB, nB, cB, hP⟩ := HSD.out
          have HP := Lib.hid hP
          clear hP HSD
          go_upto_if 88 with fail
          go_cut [16, 17, 18, 19, 20, 21, 22] from 88 to 164 (fun _ _ _ _ _ _ _ wx => ∃ s', Side bud gO w wx gs gw a b gA gB s' sB s' sB ∧ Nar (k + 1) s' sB)
          case first =>
            clear HBACK
            by_cases hr4 : r < 4
            · have hri : (r : Int) < 4 := by omega
              have hrd : decide (r < 4) = true := decide_eq_true hr4
              as_aux_lemma =>
                obtain ⟨E, hE⟩ : ∃ E, addE0 sA ky n = E := ⟨_, rfl⟩
                have HNA := Lib.hid (HNR.out.add ky n)
                obtain ⟨s', hs'⟩ : ∃ s', addL0 sA ky n = s' := ⟨_, rfl⟩
                rw [hs'] at HNA
                have HADD := Lib.hid (fun W (f : Fr S0 wr W) => (HP.out.fr0 f).stA.add ky n E s' hn64 hE hs')
                have HRA : Hid (∀ W, PrI W pA sA → Calls Try.prog 12 #[.slice pA nA cA, .int .i64 ky, .int .u64 (n : Nat), .int .i64 0] W fun e w' => ∃ v, e = .returned (.tuple #[v, .int .i64 (E : Nat)]) ∧ Got W w' pA v s') := Lib.hid fun W hp => by
                  have := radd0_any pA nA cA n ky sA W hp HP.out.eA (by have := HNR.out.len HP.out.stA.is.ok.srt; have := HP.out.eA; omega) HP.out.stA.is.ok.tot hn64
                  rwa [hE, hs'] at this
                have d0 := HP.out.csA
                clear hE hs'
                go_wp2_with fail
                go_still_tail 14, (by kernel_rfl)
                obtain ⟨V1, hV1, v1⟩ := drewFr wr
                change wpList _ _ _ _ _ wr.drew
                rw [hV1]
                have HA1 := Lib.hid (HADD.out V1 v1)
                have HP1 := Lib.hid (HP.out.fr0 v1)
                clear hV1 v1 HADD d0 c0 c2 c3
                go_wp2_with fail
                refine HA1.out.mono ?_
                rintro e V2 ⟨rfl, h2, t2⟩
                have HP2 := Lib.hid (HP1.out.turn t2)
                obtain ⟨-, -, c2, c3⟩ := HC.out V2 HP2.out.fr
                have d1 := HP2.out.cwA
                clear HA1 HP1 t2
                generalize hue own iA hA h2 = own2 at HP2
                go_upto_region 20 with fail
                go_cut [18, 19] from 104 to 121 (fun x9 x10 wx => x10 = .int .i64 (E : Int) ∧ Got V2 wx pA x9 s')
                case first =>
                  go_region_held3 (fun w' => w'.cell? ⟨gw, a, none⟩ = some (.slice pA nA cA) ∧ w'.cell? ⟨bb, oo + k * 4 + 2, none⟩ = some (.int .i64 ky) ∧ w'.cell? ⟨bb, oo + k * 4 + 3, none⟩ = some (.int .u64 (n : Int)))
                    (first
                      | (go_split_ands; exact ⟨by assumption, by assumption, by assumption⟩)
                      | (go_split_ands; exact ⟨f9.cell (by assumption) (fun h => h), f9.cell (by assumption) (fun h => h), f9.cell (by assumption) (fun h => h)⟩))
                    (first | (go_at_call 12; ((with_reducible refine (HRA.out _ (HP2.out.lA.pri.fr0 (Fr.drew _ _))).mono ?_); rintro e w5 ⟨v5, rfl, g5⟩; have f9 := g5.fr; have HG5 := Lib.hid (g5.from (Fr.drew S0 V2)); clear g5)))
                  all_goals
                    go_wp2_with fail
                    go_meet
                    exact ⟨rfl, HG5.out⟩
                case rest =>
                  obtain ⟨rfl, hgot⟩ := hcut
                  have HP3 := Lib.hid (HP2.out.dye hgot.fr)
                  obtain ⟨q', n', d', rfl, hn', hls⟩ := HP2.out.lA.got hgot
                  have HP4 := Lib.hid (HP3.out.set hls hn' (c := d'))
                  have d2 := HP3.out.cwA
                  have z2 := HP3.out.zwA a
                  clear hgot hn' hls HP2 HP3 c2 c3 d1 HRA
                  go_wp2_with fail
                  go_meet
                  exact ⟨s', HP4.out.side, HNA.out⟩
            · have hrd : decide (r < 4) = false := decide_eq_false hr4
              rcases (by omega : r = 4 ∨ r = 5) with rfl | rfl
              · as_aux_lemma =>
                  obtain ⟨E, hE⟩ : ∃ E, takeE0 sA sB = E := ⟨_, rfl⟩
                  have HNA := Lib.hid (HNR.out.take (q := sB) (.inr rfl))
                  obtain ⟨s', hs'⟩ : ∃ s', takeL0 sA sB = s' := ⟨_, rfl⟩
                  rw [hs'] at HNA
                  have HLA : Hid (nA ≤ 60 ∧ nB ≤ 60) := Lib.hid (by have h1 := HNR.out.len HP.out.stA.is.ok.srt; have h2 := HNR.out.swap.len HP.out.stB.is.ok.srt; have := HP.out.eA; have := HP.out.eB; omega)
                  have HTK : Hid (∀ W, Fr S0 wr W → Calls Try.prog 13 #[.pointer (some ⟨gA, 0, none⟩), .pointer (some ⟨gB, 0, none⟩)] W fun e w' => e = .returned (.int .i64 (E : Nat)) ∧ ∃ h', TurnC W w' gA hA h' bud s') := Lib.hid fun W f => by
                    have Q := HP.out.fr0 f
                    have := ctake_any gA hA gB hB bud sA sB W Q.stA.is Q.stB.is Q.stA.hl
                    rwa [hE, hs'] at this
                  have HRT : Hid (∀ W, PrI W pA sA → PrI W pB sB → Calls Try.prog 14 #[.slice pA nA cA, .slice pB nB cB, .int .i64 0] W fun e w' => ∃ v, e = .returned (.tuple #[v, .int .i64 (E : Nat)]) ∧ Got W w' pA v s') := Lib.hid fun W hp hp2 => by
                    have := rtake0_any pA pB nA nB cA cB sA sB W hp HP.out.eA (by have := HLA.out; omega) HP.out.stA.is.ok.tot hp2 HP.out.eB (by have := HLA.out; omega) HP.out.stB.is.ok.tot
                    rwa [hE, hs'] at this
                  have d0 := HP.out.csA
                  have d0' := HP.out.swap.csA
                  clear hE hs'
                  go_wp2_with fail
                  go_still_tail 8, (by kernel_rfl)
                  obtain ⟨V1, hV1, v1⟩ := drewFr wr
                  change wpList _ _ _ _ _ wr.drew
                  rw [hV1]
                  have HA1 := Lib.hid (HTK.out V1 v1)
                  have HP1 := Lib.hid (HP.out.fr0 v1)
                  clear hV1 v1 HTK d0 d0' c0 c2 c3
                  go_wp2_with fail
                  refine HA1.out.mono ?_
                  rintro e V2 ⟨rfl, h2, t2⟩
                  have HP2 := Lib.hid (HP1.out.turn t2)
                  have d1 := HP2.out.cwA
                  have d1' := HP2.out.swap.cwA
                  clear HA1 HP1 t2
                  generalize hue own iA hA h2 = own2 at HP2
                  go_upto_region 27 with fail
                  go_cut [21, 22] from 146 to 157 (fun x12 x13 wx => x13 = .int .i64 (E : Int) ∧ Got V2 wx pA x12 s')
                  case first =>
                    go_region_held3 (fun w' => w'.cell? ⟨gw, a, none⟩ = some (.slice pA nA cA) ∧ w'.cell? ⟨gw, b, none⟩ = some (.slice pB nB cB))
                      (first
                        | (go_split_ands; exact ⟨by assumption, by assumption⟩)
                        | (go_split_ands; exact ⟨f9.cell (by assumption) (fun h => h), f9.cell (by assumption) (fun h => h)⟩))
                      (first | (go_at_call 14; ((with_reducible refine (HRT.out _ (HP2.out.lA.pri.fr0 (Fr.drew _ _)) (HP2.out.lB.pri.fr0 (Fr.drew _ _))).mono ?_); rintro e w5 ⟨v5, rfl, g5⟩; have f9 := g5.fr; have HG5 := Lib.hid (g5.from (Fr.drew S0 V2)); clear g5)))
                    all_goals
                      go_wp2_with fail
                      go_meet
                      exact ⟨rfl, HG5.out⟩
                  case rest =>
                    obtain ⟨rfl, hgot⟩ := hcut
                    have HP3 := Lib.hid (HP2.out.dye hgot.fr)
                    obtain ⟨q', n', d', rfl, hn', hls⟩ := HP2.out.lA.got hgot
                    have HP4 := Lib.hid (HP3.out.set hls hn' (c := d'))
                    have d2 := HP3.out.cwA
                    have z2 := HP3.out.zwA a
                    clear hgot hn' hls HP2 HP3 d1 d1' HRT
                    go_wp2_with fail
                    go_meet
                    exact ⟨s', HP4.out.side, HNA.out⟩
              · as_aux_lemma =>
                  obtain ⟨E, hE⟩ : ∃ E, takeE0 sA sA = E := ⟨_, rfl⟩
                  have HNA := Lib.hid (HNR.out.take (q := sA) (.inl rfl))
                  obtain ⟨s', hs'⟩ : ∃ s', takeL0 sA sA = s' := ⟨_, rfl⟩
                  rw [hs'] at HNA
                  have HLA : Hid (nA ≤ 60 ∧ nB ≤ 60) := Lib.hid (by have h1 := HNR.out.len HP.out.stA.is.ok.srt; have h2 := HNR.out.swap.len HP.out.stB.is.ok.srt; have := HP.out.eA; have := HP.out.eB; omega)
                  have HTK : Hid (∀ W, Fr S0 wr W → Calls Try.prog 13 #[.pointer (some ⟨gA, 0, none⟩), .pointer (some ⟨gA, 0, none⟩)] W fun e w' => e = .returned (.int .i64 (E : Nat)) ∧ ∃ h', TurnC W w' gA hA h' bud s') := Lib.hid fun W f => by
                    have Q := HP.out.fr0 f
                    have := ctake_any gA hA gA hA bud sA sA W Q.stA.is Q.stA.is Q.stA.hl
                    rwa [hE, hs'] at this
                  have HRT : Hid (∀ W, PrI W pA sA → PrI W pA sA → Calls Try.prog 14 #[.slice pA nA cA, .slice pA nA cA, .int .i64 0] W fun e w' => ∃ v, e = .returned (.tuple #[v, .int .i64 (E : Nat)]) ∧ Got W w' pA v s') := Lib.hid fun W hp hp2 => by
                    have := rtake0_any pA pA nA nA cA cA sA sA W hp HP.out.eA (by have := HLA.out; omega) HP.out.stA.is.ok.tot hp2 HP.out.eA (by have := HLA.out; omega) HP.out.stA.is.ok.tot
                    rwa [hE, hs'] at this
                  have d0 := HP.out.csA
                  clear hE hs'
                  go_wp2_with fail
                  go_still_tail 8, (by kernel_rfl)
                  obtain ⟨V1, hV1, v1⟩ := drewFr wr
                  change wpList _ _ _ _ _ wr.drew
                  rw [hV1]
                  have HA1 := Lib.hid (HTK.out V1 v1)
                  have HP1 := Lib.hid (HP.out.fr0 v1)
                  clear hV1 v1 HTK d0  c0 c2 c3
                  go_wp2_with fail
                  refine HA1.out.mono ?_
                  rintro e V2 ⟨rfl, h2, t2⟩
                  have HP2 := Lib.hid (HP1.out.turn t2)
                  have d1 := HP2.out.cwA
                  clear HA1 HP1 t2
                  generalize hue own iA hA h2 = own2 at HP2
                  go_upto_region 27 with fail
                  go_cut [21, 22] from 146 to 157 (fun x12 x13 wx => x13 = .int .i64 (E : Int) ∧ Got V2 wx pA x12 s')
                  case first =>
                    go_region_held3 (fun w' => w'.cell? ⟨gw, a, none⟩ = some (.slice pA nA cA) ∧ w'.cell? ⟨gw, a, none⟩ = some (.slice pA nA cA))
                      (first
                        | (go_split_ands; exact ⟨by assumption, by assumption⟩)
                        | (go_split_ands; exact ⟨f9.cell (by assumption) (fun h => h), f9.cell (by assumption) (fun h => h)⟩))
                      (first | (go_at_call 14; ((with_reducible refine (HRT.out _ (HP2.out.lA.pri.fr0 (Fr.drew _ _)) (HP2.out.lA.pri.fr0 (Fr.drew _ _))).mono ?_); rintro e w5 ⟨v5, rfl, g5⟩; have f9 := g5.fr; have HG5 := Lib.hid (g5.from (Fr.drew S0 V2)); clear g5)))
                    all_goals
                      go_wp2_with fail
                      go_meet
                      exact ⟨rfl, HG5.out⟩
                  case rest =>
                    obtain ⟨rfl, hgot⟩ := hcut
                    have HP3 := Lib.hid (HP2.out.dye hgot.fr)
                    obtain ⟨q', n', d', rfl, hn', hls⟩ := HP2.out.lA.got hgot
                    have HP4 := Lib.hid (HP3.out.set hls hn' (c := d'))
                    have d2 := HP3.out.cwA
                    have z2 := HP3.out.zwA a
                    clear hgot hn' hls HP2 HP3 d1  HRT
                    go_wp2_with fail
                    go_meet
                    exact ⟨s', HP4.out.side, HNA.out⟩
          case rest =>
            obtain ⟨s', hside⟩ := hcut
            obtain ⟨l1', l2', hside, hnar⟩ := HBACK.out _ s' hside
            have HSI := Lib.hid (And.intro hside hnar)
            obtain ⟨hO3, own3, iA3, iB3, hA3, hB3, pA3, nA3, cA3, pB3, nB3, cB3, hP3⟩ := hside
            have HP3 := Lib.hid hP3
            have hb1 : nA3 ≤ 100000 := by have := hnar.len hP3.stA.is.ok.srt; have := hP3.eA; omega
            have hb2' : nB3 ≤ 100000 := by have := hnar.swap.len hP3.stB.is.ok.srt; have := hP3.eB; omega
            clear hP3 hnar HBACK HP c0 c2 c3
            have y0 := HP3.out.cwA
            have y1 := HP3.out.swap.cwA
            obtain ⟨-, -, c2, -⟩ := HC.out wc HP3.out.fr
            have HS1 := Lib.hid (fun W (f : Fr S0 wc W) => same_any g1 hA3 bud nA3 cA3 pA3 l1' ky W (HP3.out.stA.is.fr0 f) (HP3.out.lA.pri.fr0 f) HP3.out.eA hb1)
            have HS2 := Lib.hid (fun W (f : Fr S0 wc W) => same_any g2 hB3 bud nB3 cB3 pB3 l2' ky W (HP3.out.stB.is.fr0 f) (HP3.out.lB.pri.fr0 f) HP3.out.eB hb2')
            go_upto_region 31 with fail
            go_cut [190] from 165 to 190 (fun x wy => x = .bool false ∧ Fr S0 wc wy)
            case first =>
              go_region_held3 (fun w' => w'.cell? ⟨gw, 0, none⟩ = some (.slice pA3 nA3 cA3) ∧ w'.cell? ⟨gw, 1, none⟩ = some (.slice pB3 nB3 cB3) ∧ w'.cell? ⟨bb, oo + k * 4 + 2, none⟩ = some (.int .i64 ky) ∧ Fr S0 wc w')
                (first
                  | (go_split_ands; exact ⟨by assumption, by assumption, by assumption, Fr.drew _ _⟩)
                  | (go_split_ands; exact ⟨f9.cell (by assumption) (fun h => h), f9.cell (by assumption) (fun h => h), f9.cell (by assumption) (fun h => h), Fr.trans0 (by assumption) f9⟩))
                (first
                  | (go_at_call 15; ((with_reducible refine (HS1.out _ (by go_split_ands; assumption)).mono ?_); rintro _ w7 ⟨rfl, f9⟩))
                  | (go_at_call 15; ((with_reducible refine (HS2.out _ (by go_split_ands; assumption)).mono ?_); rintro _ w8 ⟨rfl, f9⟩)))
              all_goals
                go_wp2_with fail
                go_meet
                exact ⟨rfl, by go_split_ands; assumption⟩
            case rest =>
              obtain ⟨rfl, fz⟩ := hcut
              have HSZ := Lib.hid (And.intro (HSI.out.1.fr0 fz) HSI.out.2)
              clear fz HSI HP3 y0 y1 c2 HS1 HS2
              go_wp2_with fail
              go_roundw
              case rel => exact ⟨k + 1, l1', l2', by omega, by omega, by go_num, HSZ⟩
              case measure => simp [intOf]; omega
      · have hk6' : decide ((k : Int) < 60) = false := decide_eq_false hk6
        obtain ⟨hO3, own3, iA3, iB3, hA3, hB3, pA3, nA3, cA3, pB3, nB3, cB3, hP3⟩ := hd.out.1
        have HP3 := Lib.hid hP3
        have HTN := Lib.hid (fun W => ctake_nil g1 W)
        have HTK := Lib.hid (fun W (f : Fr S0 wr W) => ctake_kind g1 hA3 gO hO3 bud (bud + 1) l1 [] W (HP3.out.stA.is.fr0 f) (HP3.out.stO.is.fr0 f) (by omega))
        clear hP3 hd
        go_wp2_with fail
        refine (HTN.out _).mono ?_
        rintro e w7 ⟨rfl, f7⟩
        have F7 := Lib.hid f7
        have HTK2 := Lib.hid (HTK.out w7 f7)
        clear HTN HTK f7
        go_wp2_with fail
        refine HTK2.out.mono ?_
        rintro e w8 ⟨rfl, f8⟩
        have F8 := Lib.hid (F7.out.trans0 f8)
        clear HTK2 f8 F7
        go_wp2_with fail
        go_ret
        exact ⟨rfl, HP3.out.fr.trans0 F8.out⟩
    · obtain ⟨hO3, own3, iA3, iB3, hA3, hB3, pA3, nA3, cA3, pB3, nB3, cB3, hP3⟩ := hd.out.1
      have HP3 := Lib.hid hP3
      have HTN := Lib.hid (fun W => ctake_nil g1 W)
      have HTK := Lib.hid (fun W (f : Fr S0 wr W) => ctake_kind g1 hA3 gO hO3 bud (bud + 1) l1 [] W (HP3.out.stA.is.fr0 f) (HP3.out.stO.is.fr0 f) (by omega))
      clear hP3 hd
      go_wp2_with fail
      refine (HTN.out _).mono ?_
      rintro e w7 ⟨rfl, f7⟩
      have F7 := Lib.hid f7
      have HTK2 := Lib.hid (HTK.out w7 f7)
      clear HTN HTK f7
      go_wp2_with fail
      refine HTK2.out.mono ?_
      rintro e w8 ⟨rfl, f8⟩
      have F8 := Lib.hid (F7.out.trans0 f8)
      clear HTK2 f8 F7
      go_wp2_with fail
      go_ret
      exact ⟨rfl, HP3.out.fr.trans0 F8.out⟩
end Go.Proofs.Ytibgjmlgjmnheaa
