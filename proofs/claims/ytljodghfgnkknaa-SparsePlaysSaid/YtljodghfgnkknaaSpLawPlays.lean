/- Whatever is counted, taken and cut, each answer, and the list, is the document's. -/
import Derived.Test.YtljodghfgnkknaaSpPlay
import Derived.Test.YtljodghfgnkknaaSpTake
import Derived.Deep.CutBlock
import Derived.Deep.DeepCutAuto
import Derived.Deep.CutRange
import Derived.Deep.RegionHeld3
import Derived.Test.YtljodghfgnkknaaRegCalls
namespace Go.Proofs.Ytljodghfgnkknaa
open Go.RowKit

/-- what the checks read, and that the rest is as it was -/
def Sees (wc : World) (gs gw kk bb o2 : Nat) (pv wv kv : Value) (w' : World) : Prop := w'.cell? ⟨gs, kk, none⟩ = some pv ∧ w'.cell? ⟨gw, kk, none⟩ = some wv ∧ w'.cell? ⟨bb, o2, none⟩ = some kv ∧ Fr S0 wc w'
theorem Sees.to {wc w w' : World} {gs gw kk bb o2 : Nat} {pv wv kv : Value} (h : Sees wc gs gw kk bb o2 pv wv kv w) (f : Fr S0 w w') : Sees wc gs gw kk bb o2 pv wv kv w' := ⟨f.cell h.1 (fun h => h), f.cell h.2.1 (fun h => h), f.cell h.2.2.1 (fun h => h), h.2.2.2.trans0 f⟩
theorem Sees.end {wc w : World} {gs gw kk bb o2 : Nat} {pv wv kv : Value} (h : Sees wc gs gw kk bb o2 pv wv kv w) : Fr S0 wc w := h.2.2.2
theorem drewFr (w : World) : ∃ w2, w.drew = w2 ∧ Fr S0 w w2 := ⟨_, rfl, Fr.drew _ _⟩
theorem tells {w : World} {g h : Nat} {l : List Pr} {n : Nat} (s : StIs w g h l) (hn : l.length = n) (hs : n ≤ 1000000) : Calls Try.prog 16 #[.pointer (some ⟨g, 0, none⟩)] w fun e w' => ∃ p c, e = .returned (.slice p n c) ∧ PrI w' p l ∧ Fr S0 w w' :=
  (pairs_any g h l w s).mono fun _ _ he => by
    obtain ⟨p, c, n', e, hp⟩ := he
    obtain rfl : n = n' := hn.symm.trans hp.len
    exact ⟨p, c, e, hp.pri hs, hp.fr⟩

set_option maxRecDepth 100000 in
set_option maxHeartbeats 8000000 in
theorem law_plays (p : Option Addr) (c m : Nat) (l : List It) (w : World) (hm : l.length = m) (h : OpI w p l) (h64 : ∀ x ∈ l, x.1 < 256 ∧ (-9223372036854775808 ≤ x.2.2.1 ∧ x.2.2.1 ≤ 9223372036854775807) ∧ x.2.2.2 < 18446744073709551616) :
    Calls Try.prog 3 #[.slice p m c] w fun e w' => e = .returned (.bool true) ∧ Fr S0 w w' := by
  have hw := start w
  have H := Lib.hid h
  have H64 := Lib.hid h64
  have HM := Lib.hid hm
  have hlen := h.len
  rw [hm] at hlen
  unfold maxLen at hlen
  clear h h64 hm
  go_enter Try.func3, Try.ntmps3
  go_wp2_with fail
  refine hw _ ?_
  intro w1 f1
  clear hw
  have hmk := make_two
  have P0 := Lib.hid (Pl.new f1)
  clear f1
  go_wp2_with fail
  clear hmk
  obtain ⟨g1, hg1⟩ : ∃ g, w1.heap.size = g := ⟨_, rfl⟩
  obtain ⟨g2, hg2⟩ : ∃ g, g1 + 1 = g := ⟨_, rfl⟩
  obtain ⟨gs, hgs⟩ : ∃ g, g2 + 1 = g := ⟨_, rfl⟩
  obtain ⟨gw, hgw⟩ : ∃ g, gs + 1 = g := ⟨_, rfl⟩
  rw [hg1, hg2, hgs, hgw] at P0 ⊢
  clear hg1 hg2 hgs hgw
  generalize (((w1.alloc (.cells #[.slice none 0 0, .int .u64 0] 28)).alloc (.cells #[.slice none 0 0, .int .u64 0] 28)).alloc
      (.cells #[.pointer (some ⟨g1, 0, none⟩), .pointer (some ⟨g2, 0, none⟩)] 24)).alloc (.cells #[.slice none 0 0, .slice none 0 0] 25) = w2 at P0 ⊢
  go_loopw [5, 6, 7, 8, 9, 10, 11, 12, 13, 14, 15, 16] (fun x _ _ _ _ _ _ _ _ _ _ _ wr => ∃ (k : Nat) (l1 l2 : List Pr), k ≤ m ∧ k ≤ 60 ∧ x = .int .i64 k ∧ Hid (Side w wr gs gw 0 1 g1 g2 l1 l2 l1 l2 ∧ Nar k l1 l2)) (fun x _ _ _ _ _ _ _ _ _ _ _ _ => m - (intOf x).toNat)
  case atStart => exact ⟨0, [], [], by omega, by omega, rfl, Lib.hid ⟨P0.out, Nar.nil⟩⟩
  case round =>
    clear P0
    obtain ⟨k, l1, l2, hk, hk60, rfl, hd⟩ := hrel
    by_cases hkm : (k : Int) < (m : Int)
    · by_cases hk6 : (k : Int) < 60
      · have hkl : k < l.length := by rw [HM.out]; omega
        have hb64 := H64.out _ (List.getElem_mem hkl)
        obtain ⟨bb, oo, rfl, hcells⟩ := H.out.at k hkl
        have HC := Lib.hid hcells
        obtain ⟨⟨kd, who, ky, n⟩, ht⟩ : ∃ t, l[k] = t := ⟨_, rfl⟩
        rw [ht] at HC hb64
        simp only at HC hb64
        clear ht hkl hcells
        obtain ⟨a, b, gA, gB, sA, sB, hw1, hw0, hab, hsd, hnar, hback⟩ : ∃ (a b gA gB : Nat) (sA sB : List Pr), (who = true → a = 1) ∧ (who = false → a = 0) ∧ a + b = 1 ∧ Side w wr gs gw a b gA gB sA sB sA sB ∧ Nar k sA sB ∧
            ∀ W s', Side w W gs gw a b gA gB s' sB s' sB ∧ Nar (k + 1) s' sB → ∃ l1' l2', Side w W gs gw 0 1 g1 g2 l1' l2' l1' l2' ∧ Nar (k + 1) l1' l2' := by
          cases who with
          | true => exact ⟨1, 0, g2, g1, l2, l1, fun _ => rfl, (fun h => (by cases h)), rfl, hd.out.1.swap, hd.out.2.swap, fun W s' h => ⟨_, _, h.1.swap, h.2.swap⟩⟩
          | false => exact ⟨0, 1, g1, g2, l1, l2, (fun h => (by cases h)), fun _ => rfl, rfl, hd.out.1, hd.out.2, fun W s' h => ⟨_, _, h⟩⟩
        have HBACK := Lib.hid hback
        have HWHO := Lib.hid (And.intro hw1 hw0)
        have HSD := Lib.hid hsd
        have HNR := Lib.hid hnar
        obtain ⟨c0, c1, c2, c3⟩ := HC.out wr hsd.fr
        have ea : (1 : Int) - (a : Int) = (b : Int) := by omega
        have ha2 : (a : Int) < 2 := by omega
        have hb2 : (b : Int) < 2 := by omega
        obtain ⟨r, hr⟩ : ∃ r, kd % 7 = r := ⟨_, rfl⟩
        have er : (kd : Int) % 7 = (r : Int) := by omega
        have er2 : (kd : Int).tmod 7 = (r : Int) := by rw [Int.tmod_eq_emod_of_nonneg (by omega)]; omega
        have hr7 : r < 7 := by omega
        have hn64 := hb64.2.2
        have HKY := Lib.hid hb64.2.1
        clear hd hw1 hw0 hback hsd hr hb64 l1 l2 hnar
        go_upto_if 39 with fail
        go_cut [6] from 39 to 39 (fun x6 wx => x6 = .int .i64 (a : Int) ∧ wr = wx)
        case first =>
          cases who with
          | true =>
            obtain rfl : a = 1 := HWHO.out.1 rfl
            go_wp2_with fail
            go_meet
            exact ⟨rfl, rfl⟩
          | false =>
            obtain rfl : a = 0 := HWHO.out.2 rfl
            go_wp2_with fail
            go_meet
            exact ⟨rfl, rfl⟩
        case rest =>
          obtain ⟨rfl, rfl⟩ := hcut
          clear c1 HWHO
          go_upto_block 2 with fail
          obtain ⟨own, iA, iB, hA, hB, pA, nA, cA, pB, nB, cB, hP⟩ := HSD.out
          have HP := Lib.hid hP
          clear hP HSD
          go_cut [6, 7, 8, 9, 10, 11, 12, 13, 14, 15] from 25 to 160 (fun _ _ _ _ _ _ _ _ _ _ wx => ∃ s', Side w wx gs gw a b gA gB s' sB s' sB ∧ Nar (k + 1) s' sB)
          case first =>
            clear HBACK
            go_upto_if 77 with fail
            go_cut [77] from 79 to 81 (fun x wx => ∃ z : Bool, x = .bool z ∧ Hid (z = decide (r < 4)) ∧ wr = wx)
            case first =>
              clear HP c0 c2 c3
              rcases (by omega : r = 0 ∨ r = 1 ∨ r = 2 ∨ r = 3 ∨ r = 4 ∨ r = 5 ∨ r = 6) with rfl | rfl | rfl | rfl | rfl | rfl | rfl
              all_goals
                go_wp2_with fail
                go_meet
                exact ⟨_, rfl, Lib.hid (by decide), rfl⟩
            case rest =>
              obtain ⟨z, rfl, hz, rfl⟩ := hcut
              by_cases hr3 : r < 4
              · obtain rfl : z = true := hz.out.trans (decide_eq_true hr3)
                clear hr3 hz
                as_aux_lemma =>
                  obtain ⟨E, hE⟩ : ∃ E, addE0 sA ky n = E := ⟨_, rfl⟩
                  have HNA := Lib.hid (HNR.out.add ky n)
                  obtain ⟨s', hs'⟩ : ∃ s', addL0 sA ky n = s' := ⟨_, rfl⟩
                  rw [hs'] at HNA
                  have HADD := Lib.hid (fun W (f : Fr S0 wr W) => (HP.out.fr0 f).stA.add ky n E s' hn64 hE hs')
                  have HRA : Hid (∀ W, PrI W pA sA → Calls Try.prog 10 #[.slice pA nA cA, .int .i64 ky, .int .u64 (n : Nat), .int .i64 0] W fun e w' => ∃ v, e = .returned (.tuple #[v, .int .i64 (E : Nat)]) ∧ Got W w' pA v s') := Lib.hid fun W hp => by
                    have := radd0_any pA nA cA n ky sA W hp HP.out.eA (by have := HNR.out.len HP.out.stA.is.ok.srt; have := HP.out.eA; omega) HP.out.stA.is.ok.tot hn64
                    rwa [hE, hs'] at this
                  have d0 := HP.out.csA
                  clear hE hs'
                  go_wp2_with fail
                  go_still_tail 14, (by kernel_rfl)
                  obtain ⟨V1, hV1, v1⟩ := drewFr wr
                  change wpList _ _ _ _ _ wr.drew
                  rw [hV1]
                  have HA1 := Lib.hid (HADD.out V1 v1)
                  have HP1 := Lib.hid (HP.out.fr0 v1)
                  clear hV1 v1 HADD d0 c0 c2 c3
                  go_wp2_with fail
                  refine HA1.out.mono ?_
                  rintro e V2 ⟨rfl, h2, t2⟩
                  have HP2 := Lib.hid (HP1.out.turn t2)
                  obtain ⟨-, -, c2, c3⟩ := HC.out V2 HP2.out.fr
                  have d1 := HP2.out.cwA
                  clear HA1 HP1 t2
                  generalize hue own iA hA h2 = own2 at HP2
                  go_upto_region 22 with fail
                  go_cut [9, 10] from 97 to 114 (fun x9 x10 wx => x10 = .int .i64 (E : Int) ∧ Got V2 wx pA x9 s')
                  case first =>
                    go_region_held3 (fun w' => w'.cell? ⟨gw, a, none⟩ = some (.slice pA nA cA) ∧ w'.cell? ⟨bb, oo + k * 4 + 2, none⟩ = some (.int .i64 ky) ∧ w'.cell? ⟨bb, oo + k * 4 + 3, none⟩ = some (.int .u64 (n : Int)))
                      (first
                        | (go_split_ands; exact ⟨by assumption, by assumption, by assumption⟩)
                        | (go_split_ands; exact ⟨f9.cell (by assumption) (fun h => h), f9.cell (by assumption) (fun h => h), f9.cell (by assumption) (fun h => h)⟩))
                      (first | (go_at_call 10; ((with_reducible refine (HRA.out _ (HP2.out.lA.pri.fr0 (Fr.drew _ _))).mono ?_); rintro e w5 ⟨v5, rfl, g5⟩; have f9 := g5.fr; have HG5 := Lib.hid (g5.from (Fr.drew S0 V2)); clear g5)))
                    all_goals
                      go_wp2_with fail
                      go_meet
                      exact ⟨rfl, HG5.out⟩
                  case rest =>
                    obtain ⟨rfl, hgot⟩ := hcut
                    have HP3 := Lib.hid (HP2.out.dye hgot.fr)
                    obtain ⟨q', n', d', rfl, hn', hls⟩ := HP2.out.lA.got hgot
                    have HP4 := Lib.hid (HP3.out.set hls hn' (c := d'))
                    have d2 := HP3.out.cwA
                    have z2 := HP3.out.zwA a
                    clear hgot hn' hls HP2 HP3 c2 c3 d1 HRA
                    go_wp2_with fail
                    go_meet
                    exact ⟨s', HP4.out.side, HNA.out⟩
              obtain rfl : z = false := hz.out.trans (decide_eq_false hr3)
              clear hz
              rcases (by omega : r = 4 ∨ r = 5 ∨ r = 6) with rfl | rfl | rfl
              · as_aux_lemma =>
                  obtain ⟨E, hE⟩ : ∃ E, takeE0 sA sB = E := ⟨_, rfl⟩
                  have HNA := Lib.hid (HNR.out.take (q := sB) (.inr rfl))
                  obtain ⟨s', hs'⟩ : ∃ s', takeL0 sA sB = s' := ⟨_, rfl⟩
                  rw [hs'] at HNA
                  have HLA : Hid (nA ≤ 60 ∧ nB ≤ 60) := Lib.hid (by have h1 := HNR.out.len HP.out.stA.is.ok.srt; have h2 := HNR.out.swap.len HP.out.stB.is.ok.srt; have := HP.out.eA; have := HP.out.eB; omega)
                  have HTK : Hid (∀ W, Fr S0 wr W → Calls Try.prog 11 #[.pointer (some ⟨gA, 0, none⟩), .pointer (some ⟨gB, 0, none⟩)] W fun e w' => e = .returned (.int .i64 (E : Nat)) ∧ ∃ h', Turned W w' gA hA h' s') := Lib.hid fun W f => by
                    have Q := HP.out.fr0 f
                    have := take_any gA hA gB hB sA sB W Q.stA.is Q.stB.is
                    rwa [hE, hs'] at this
                  have HRT : Hid (∀ W, PrI W pA sA → PrI W pB sB → Calls Try.prog 12 #[.slice pA nA cA, .slice pB nB cB, .int .i64 0] W fun e w' => ∃ v, e = .returned (.tuple #[v, .int .i64 (E : Nat)]) ∧ Got W w' pA v s') := Lib.hid fun W hp hp2 => by
                    have := rtake0_any pA pB nA nB cA cB sA sB W hp HP.out.eA (by have := HLA.out; omega) HP.out.stA.is.ok.tot hp2 HP.out.eB (by have := HLA.out; omega) HP.out.stB.is.ok.tot
                    rwa [hE, hs'] at this
                  have d0 := HP.out.csA
                  have d0' := HP.out.swap.csA
                  clear hE hs'
                  go_wp2_with fail
                  go_still_tail 8, (by kernel_rfl)
                  obtain ⟨V1, hV1, v1⟩ := drewFr wr
                  change wpList _ _ _ _ _ wr.drew
                  rw [hV1]
                  have HA1 := Lib.hid (HTK.out V1 v1)
                  have HP1 := Lib.hid (HP.out.fr0 v1)
                  clear hV1 v1 HTK d0 d0' c0 c2 c3
                  go_wp2_with fail
                  refine HA1.out.mono ?_
                  rintro e V2 ⟨rfl, h2, t2⟩
                  have HP2 := Lib.hid (HP1.out.turn t2)
                  have d1 := HP2.out.cwA
                  have d1' := HP2.out.swap.cwA
                  clear HA1 HP1 t2
                  generalize hue own iA hA h2 = own2 at HP2
                  go_upto_region 31 with fail
                  go_cut [12, 13] from 142 to 153 (fun x12 x13 wx => x13 = .int .i64 (E : Int) ∧ Got V2 wx pA x12 s')
                  case first =>
                    go_region_held3 (fun w' => w'.cell? ⟨gw, a, none⟩ = some (.slice pA nA cA) ∧ w'.cell? ⟨gw, b, none⟩ = some (.slice pB nB cB))
                      (first
                        | (go_split_ands; exact ⟨by assumption, by assumption⟩)
                        | (go_split_ands; exact ⟨f9.cell (by assumption) (fun h => h), f9.cell (by assumption) (fun h => h)⟩))
                      (first | (go_at_call 12; ((with_reducible refine (HRT.out _ (HP2.out.lA.pri.fr0 (Fr.drew _ _)) (HP2.out.lB.pri.fr0 (Fr.drew _ _))).mono ?_); rintro e w5 ⟨v5, rfl, g5⟩; have f9 := g5.fr; have HG5 := Lib.hid (g5.from (Fr.drew S0 V2)); clear g5)))
                    all_goals
                      go_wp2_with fail
                      go_meet
                      exact ⟨rfl, HG5.out⟩
                  case rest =>
                    obtain ⟨rfl, hgot⟩ := hcut
                    have HP3 := Lib.hid (HP2.out.dye hgot.fr)
                    obtain ⟨q', n', d', rfl, hn', hls⟩ := HP2.out.lA.got hgot
                    have HP4 := Lib.hid (HP3.out.set hls hn' (c := d'))
                    have d2 := HP3.out.cwA
                    have z2 := HP3.out.zwA a
                    clear hgot hn' hls HP2 HP3 d1 d1' HRT
                    go_wp2_with fail
                    go_meet
                    exact ⟨s', HP4.out.side, HNA.out⟩
              · as_aux_lemma =>
                  obtain ⟨E, hE⟩ : ∃ E, takeE0 sA sA = E := ⟨_, rfl⟩
                  have HNA := Lib.hid (HNR.out.take (q := sA) (.inl rfl))
                  obtain ⟨s', hs'⟩ : ∃ s', takeL0 sA sA = s' := ⟨_, rfl⟩
                  rw [hs'] at HNA
                  have HLA : Hid (nA ≤ 60 ∧ nB ≤ 60) := Lib.hid (by have h1 := HNR.out.len HP.out.stA.is.ok.srt; have h2 := HNR.out.swap.len HP.out.stB.is.ok.srt; have := HP.out.eA; have := HP.out.eB; omega)
                  have HTK : Hid (∀ W, Fr S0 wr W → Calls Try.prog 11 #[.pointer (some ⟨gA, 0, none⟩), .pointer (some ⟨gA, 0, none⟩)] W fun e w' => e = .returned (.int .i64 (E : Nat)) ∧ ∃ h', Turned W w' gA hA h' s') := Lib.hid fun W f => by
                    have Q := HP.out.fr0 f
                    have := take_any gA hA gA hA sA sA W Q.stA.is Q.stA.is
                    rwa [hE, hs'] at this
                  have HRT : Hid (∀ W, PrI W pA sA → PrI W pA sA → Calls Try.prog 12 #[.slice pA nA cA, .slice pA nA cA, .int .i64 0] W fun e w' => ∃ v, e = .returned (.tuple #[v, .int .i64 (E : Nat)]) ∧ Got W w' pA v s') := Lib.hid fun W hp hp2 => by
                    have := rtake0_any pA pA nA nA cA cA sA sA W hp HP.out.eA (by have := HLA.out; omega) HP.out.stA.is.ok.tot hp2 HP.out.eA (by have := HLA.out; omega) HP.out.stA.is.ok.tot
                    rwa [hE, hs'] at this
                  have d0 := HP.out.csA
                  clear hE hs'
                  go_wp2_with fail
                  go_still_tail 8, (by kernel_rfl)
                  obtain ⟨V1, hV1, v1⟩ := drewFr wr
                  change wpList _ _ _ _ _ wr.drew
                  rw [hV1]
                  have HA1 := Lib.hid (HTK.out V1 v1)
                  have HP1 := Lib.hid (HP.out.fr0 v1)
                  clear hV1 v1 HTK d0  c0 c2 c3
                  go_wp2_with fail
                  refine HA1.out.mono ?_
                  rintro e V2 ⟨rfl, h2, t2⟩
                  have HP2 := Lib.hid (HP1.out.turn t2)
                  have d1 := HP2.out.cwA
                  clear HA1 HP1 t2
                  generalize hue own iA hA h2 = own2 at HP2
                  go_upto_region 31 with fail
                  go_cut [12, 13] from 142 to 153 (fun x12 x13 wx => x13 = .int .i64 (E : Int) ∧ Got V2 wx pA x12 s')
                  case first =>
                    go_region_held3 (fun w' => w'.cell? ⟨gw, a, none⟩ = some (.slice pA nA cA) ∧ w'.cell? ⟨gw, a, none⟩ = some (.slice pA nA cA))
                      (first
                        | (go_split_ands; exact ⟨by assumption, by assumption⟩)
                        | (go_split_ands; exact ⟨f9.cell (by assumption) (fun h => h), f9.cell (by assumption) (fun h => h)⟩))
                      (first | (go_at_call 12; ((with_reducible refine (HRT.out _ (HP2.out.lA.pri.fr0 (Fr.drew _ _)) (HP2.out.lA.pri.fr0 (Fr.drew _ _))).mono ?_); rintro e w5 ⟨v5, rfl, g5⟩; have f9 := g5.fr; have HG5 := Lib.hid (g5.from (Fr.drew S0 V2)); clear g5)))
                    all_goals
                      go_wp2_with fail
                      go_meet
                      exact ⟨rfl, HG5.out⟩
                  case rest =>
                    obtain ⟨rfl, hgot⟩ := hcut
                    have HP3 := Lib.hid (HP2.out.dye hgot.fr)
                    obtain ⟨q', n', d', rfl, hn', hls⟩ := HP2.out.lA.got hgot
                    have HP4 := Lib.hid (HP3.out.set hls hn' (c := d'))
                    have d2 := HP3.out.cwA
                    have z2 := HP3.out.zwA a
                    clear hgot hn' hls HP2 HP3 d1  HRT
                    go_wp2_with fail
                    go_meet
                    exact ⟨s', HP4.out.side, HNA.out⟩
              · as_aux_lemma =>
                  obtain ⟨N, hN⟩ : ∃ N, cutA sA (most ky) = N := ⟨_, rfl⟩
                  have HNA := Lib.hid (HNR.out.cut HP.out.stA.is.ok (most_pos ky))
                  obtain ⟨s', hs'⟩ : ∃ s', cutN sA (most ky) = s' := ⟨_, rfl⟩
                  rw [hs'] at HNA
                  have HCU : Hid (∀ W, StIs W gA hA sA → Calls Try.prog 14 #[.pointer (some ⟨gA, 0, none⟩), .int .i64 ky] W fun e w' => e = .returned (.int .u64 (N : Nat)) ∧ ∃ h', Turned W w' gA hA h' s') := Lib.hid fun W s => by
                    have := cut_any gA hA ky sA W HKY.out s
                    rwa [hN, hs'] at this
                  have HRC : Hid (∀ W, PrI W pA sA → Calls Try.prog 13 #[.slice pA nA cA, .int .i64 ky] W fun e w' => ∃ v, e = .returned (.tuple #[v, .int .u64 (N : Nat)]) ∧ Got W w' pA v s') := Lib.hid fun W hp => by
                    have := rcut_any pA nA cA sA W ky hp HP.out.eA (by have := HNR.out.len HP.out.stA.is.ok.srt; have := HP.out.eA; omega) (by have := HP.out.stA.is.ok.tot; omega)
                    rwa [hN, hs'] at this
                  have d0 := HP.out.cwA
                  clear hN hs'
                  go_upto_region 13 with fail
                  go_cut [14, 15] from 48 to 60 (fun x14 x15 wx => x15 = .int .u64 (N : Int) ∧ Got wr wx pA x14 s')
                  case first =>
                    go_region_held3 (fun w' => w'.cell? ⟨gw, a, none⟩ = some (.slice pA nA cA) ∧ w'.cell? ⟨bb, oo + k * 4 + 2, none⟩ = some (.int .i64 ky))
                      (first
                        | (go_split_ands; exact ⟨by assumption, by assumption⟩)
                        | (go_split_ands; exact ⟨f9.cell (by assumption) (fun h => h), f9.cell (by assumption) (fun h => h)⟩))
                      (first | (go_at_call 13; ((with_reducible refine (HRC.out _ (HP.out.lA.pri.fr0 (Fr.drew _ _))).mono ?_); rintro e w5 ⟨v5, rfl, g5⟩; have f9 := g5.fr; have HG5 := Lib.hid (g5.from (Fr.drew S0 wr)); clear g5)))
                    all_goals
                      go_wp2_with fail
                      go_meet
                      exact ⟨rfl, HG5.out⟩
                  case rest =>
                    obtain ⟨rfl, hgot⟩ := hcut
                    have HP3 := Lib.hid (HP.out.dye hgot.fr)
                    obtain ⟨q', n', d', rfl, hn', hls⟩ := HP.out.lA.got hgot
                    have HP4 := Lib.hid (HP3.out.set hls hn' (c := d'))
                    have d2 := HP3.out.cwA
                    have z2 := HP3.out.zwA a
                    clear hgot hn' hls HP HP3 d0 c0 c2 c3 HRC
                    go_upto_region 15 with fail
                    generalize wc.setCell ⟨gw, a, none⟩ (.slice q' n' d') = wd at HP4 ⊢
                    have d3 := HP4.out.csA
                    obtain ⟨-, -, c2, -⟩ := HC.out wd HP4.out.fr
                    go_region_held3 (fun w' => w'.cell? ⟨gs, a, none⟩ = some (.pointer (some ⟨gA, 0, none⟩)) ∧ w'.cell? ⟨bb, oo + k * 4 + 2, none⟩ = some (.int .i64 ky))
                      (first
                        | (go_split_ands; exact ⟨by assumption, by assumption⟩)
                        | exact ⟨HP5.out.csA, (HC.out _ HP5.out.fr).2.2.1⟩)
                      (first
                        | (go_at_call 14; ((with_reducible refine (HCU.out _ (HP4.out.stA.is.fr0 (Fr.drew _ _))).mono ?_); rintro _ w5 ⟨rfl, h5, t5⟩; have HP5 := Lib.hid ((HP4.out.fr0 (Fr.drew S0 wd)).turn t5); clear t5)))
                    all_goals
                      go_wp2_with fail
                      go_meet
                      exact ⟨s', HP5.out.side, HNA.out⟩
          case rest =>
            obtain ⟨s', hside⟩ := hcut
            obtain ⟨l1', l2', hside, hnar⟩ := HBACK.out _ s' hside
            have HSI := Lib.hid (And.intro hside hnar)
            obtain ⟨own3, iA3, iB3, hA3, hB3, pA3, nA3, cA3, pB3, nB3, cB3, hP3⟩ := hside
            have HP3 := Lib.hid hP3
            clear hP3 hnar HBACK HP c0 c2 c3
            go_wp2_with fail
            go_loopw [16] (fun x wx => ∃ kk : Nat, kk ≤ 2 ∧ x = .int .i64 kk ∧ Hid (Fr S0 wc wx)) (fun x _ => 2 - (intOf x).toNat)
            case atStart => exact ⟨0, by omega, rfl, Lib.hid (Fr.refl _ _)⟩
            case round =>
              obtain ⟨kk, hkk, rfl, hf⟩ := hrel
              by_cases hk2 : (kk : Int) < 2
              · obtain ⟨gX, hX, pX, nX, cX, sX, hq⟩ : ∃ (gX hX : Nat) (pX : Option Addr) (nX cX : Nat) (sX : List Pr), wc.cell? ⟨gs, kk, none⟩ = some (.pointer (some ⟨gX, 0, none⟩)) ∧ wc.cell? ⟨gw, kk, none⟩ = some (.slice pX nX cX) ∧ StIs wc gX hX sX ∧ PrI wc pX sX ∧ sX.length = nX ∧ nX ≤ 1000000 := by
                  rcases (by omega : kk = 0 ∨ kk = 1) with rfl | rfl
                  · exact ⟨g1, hA3, pA3, nA3, cA3, l1', HP3.out.csA, HP3.out.cwA, HP3.out.stA.is, HP3.out.lA.pri, HP3.out.eA, by have := HSI.out.2.len HP3.out.stA.is.ok.srt; have := HP3.out.eA; omega⟩
                  · exact ⟨g2, hB3, pB3, nB3, cB3, l2', HP3.out.swap.csA, HP3.out.swap.cwA, HP3.out.stB.is, HP3.out.lB.pri, HP3.out.eB, by have := HSI.out.2.swap.len HP3.out.stB.is.ok.srt; have := HP3.out.eB; omega⟩
                have HQ := Lib.hid hq
                have x0 := hf.out.cell hq.1 (fun h => h)
                have y0 := hf.out.cell hq.2.1 (fun h => h)
                obtain ⟨-, -, c2, -⟩ := HC.out wr (HP3.out.fr.trans0 hf.out)
                clear hq
                have htt : ltot sX < 18446744073709551616 := by have := HQ.out.2.2.1.ok.tot; omega
                have HPA := Lib.hid (fun W (f : Fr S0 wc W) => tells (HQ.out.2.2.1.fr0 f) HQ.out.2.2.2.2.1 HQ.out.2.2.2.2.2)
                have HSM := Lib.hid (fun W (f : Fr S0 wc W) p5 c5 (h5 : PrI W p5 sX) => rsame_yes p5 pX nX c5 cX sX W h5 (HQ.out.2.2.2.1.fr0 f) HQ.out.2.2.2.2.1)
                have HTO := Lib.hid (fun W (f : Fr S0 wc W) => total_any gX hX sX W (HQ.out.2.2.1.fr0 f))
                have HRT := Lib.hid (fun W (f : Fr S0 wc W) => rtotal_any pX nX cX sX W (HQ.out.2.2.2.1.fr0 f) HQ.out.2.2.2.2.1 htt)
                have HLE := Lib.hid (fun W (f : Fr S0 wc W) => len_any gX hX sX W (HQ.out.2.2.1.fr0 f))
                have HBE := Lib.hid (fun W (f : Fr S0 wc W) => below_any gX ky sX W hX (HQ.out.2.2.1.fr0 f))
                have HRB := Lib.hid (fun W (f : Fr S0 wc W) => rbelow_any pX nX cX ky sX W false (HQ.out.2.2.2.1.fr0 f) HQ.out.2.2.2.2.1 htt)
                have HUP := Lib.hid (fun W (f : Fr S0 wc W) => upto_any gX ky sX W hX (HQ.out.2.2.1.fr0 f))
                have HRU := Lib.hid (fun W (f : Fr S0 wc W) => rbelow_any pX nX cX ky sX W true (HQ.out.2.2.2.1.fr0 f) HQ.out.2.2.2.2.1 htt)
                rw [show belB sX ky false = bel sX ky from rfl] at HRB
                rw [show belB sX ky true = upt sX ky from rfl] at HRU
                rw [HQ.out.2.2.2.2.1] at HLE
                obtain ⟨T, hT⟩ : ∃ T, ltot sX = T := ⟨_, rfl⟩
                obtain ⟨B, hB⟩ : ∃ T, bel sX ky = T := ⟨_, rfl⟩
                obtain ⟨U, hU⟩ : ∃ T, upt sX ky = T := ⟨_, rfl⟩
                rw [hT] at HTO HRT
                rw [hB] at HBE HRB
                rw [hU] at HUP HRU
                clear hT hB hU htt
                go_upto_region 38 with fail
                dsimp only [List.append]
                go_cut [247] from 165 to 246 (fun x wy => x = .bool false ∧ Fr S0 wc wy)
                case first =>
                  as_aux_lemma =>
                    refine wp_region_held_drew (S := Sees wc gs gw kk bb (oo + k * 4 + 2) (.pointer (some ⟨gX, 0, none⟩)) (.slice pX nX cX) (.int .i64 ky)) (by as_aux_lemma => kernel_rfl) ⟨(Fr.drew S0 _).cell x0 (fun h => h), (Fr.drew S0 _).cell y0 (fun h => h), (Fr.drew S0 _).cell c2 (fun h => h), hf.out.trans0 (Fr.drew S0 _)⟩ (fun hHeld => ?_)
                    clear x0 y0 c2
                    refine wpAnyH_take (i := 0) (oi := Oper.mk (some 165) _ _ _ _ _) (v := ?_) rfl (by as_aux_lemma => kernel_rfl) (by as_aux_lemma => kernel_rfl) (by as_aux_lemma => kernel_rfl) (fun _ _ _ h => h) (Or.inl ⟨by rfl, ?_⟩) (by assumption) ?_
                    rotate_left
                    · (intro w hSw; obtain ⟨s1, s2, s3, -⟩ := hSw; go_simp <;> with_reducible rfl)
                    simp only [Act.put, List.setIfInBounds_toArray, List.set_cons_zero, List.set_cons_succ]
                    refine wpAnyH_take (i := 1) (oi := Oper.mk (some 166) _ _ _ _ _) (v := ?_) rfl (by as_aux_lemma => kernel_rfl) (by as_aux_lemma => kernel_rfl) (by as_aux_lemma => kernel_rfl) (fun _ _ _ h => h) (Or.inl ⟨by rfl, ?_⟩) (by assumption) ?_
                    rotate_left
                    · (intro w hSw; obtain ⟨s1, s2, s3, -⟩ := hSw; go_simp <;> with_reducible rfl)
                    simp only [Act.put, List.setIfInBounds_toArray, List.set_cons_zero, List.set_cons_succ]
                    refine wpAnyH_take (i := 2) (oi := Oper.mk (some 167) _ _ _ _ _) (v := ?_) rfl (by as_aux_lemma => kernel_rfl) (by as_aux_lemma => kernel_rfl) (by as_aux_lemma => kernel_rfl) (fun _ _ _ h => h) (Or.inl ⟨by rfl, ?_⟩) (by assumption) ?_
                    rotate_left
                    · (intro w hSw; obtain ⟨s1, s2, s3, -⟩ := hSw; go_simp <;> with_reducible rfl)
                    simp only [Act.put, List.setIfInBounds_toArray, List.set_cons_zero, List.set_cons_succ]
                    refine wpAnyH_take (i := 3) (oi := Oper.mk (some 168) _ _ _ _ _) (v := ?_) rfl (by as_aux_lemma => kernel_rfl) (by as_aux_lemma => kernel_rfl) (by as_aux_lemma => kernel_rfl) (fun _ _ _ h => h) (Or.inl ⟨by rfl, ?_⟩) (by assumption) ?_
                    rotate_left
                    · (intro w hSw; obtain ⟨s1, s2, s3, -⟩ := hSw; go_simp <;> with_reducible rfl)
                    simp only [Act.put, List.setIfInBounds_toArray, List.set_cons_zero, List.set_cons_succ]
                    refine wpAnyH_take (i := 5) (oi := Oper.mk (some 170) _ _ _ _ _) (v := ?_) rfl (by as_aux_lemma => kernel_rfl) (by as_aux_lemma => kernel_rfl) (by as_aux_lemma => kernel_rfl) (fun _ _ _ h => h) (Or.inl ⟨by rfl, ?_⟩) (by assumption) ?_
                    rotate_left
                    · (intro w hSw; obtain ⟨s1, s2, s3, -⟩ := hSw; go_simp <;> with_reducible rfl)
                    simp only [Act.put, List.setIfInBounds_toArray, List.set_cons_zero, List.set_cons_succ]
                    refine wpAnyH_take (i := 6) (oi := Oper.mk (some 171) _ _ _ _ _) (v := ?_) rfl (by as_aux_lemma => kernel_rfl) (by as_aux_lemma => kernel_rfl) (by as_aux_lemma => kernel_rfl) (fun _ _ _ h => h) (Or.inl ⟨by rfl, ?_⟩) (by assumption) ?_
                    rotate_left
                    · (intro w hSw; obtain ⟨s1, s2, s3, -⟩ := hSw; go_simp <;> with_reducible rfl)
                    simp only [Act.put, List.setIfInBounds_toArray, List.set_cons_zero, List.set_cons_succ]
                    refine wpAnyH_take (i := 7) (oi := Oper.mk (some 172) _ _ _ _ _) (v := ?_) rfl (by as_aux_lemma => kernel_rfl) (by as_aux_lemma => kernel_rfl) (by as_aux_lemma => kernel_rfl) (fun _ _ _ h => h) (Or.inl ⟨by rfl, ?_⟩) (by assumption) ?_
                    rotate_left
                    · (intro w hSw; obtain ⟨s1, s2, s3, -⟩ := hSw; go_simp <;> with_reducible rfl)
                    simp only [Act.put, List.setIfInBounds_toArray, List.set_cons_zero, List.set_cons_succ]
                    refine wpAnyH_take (i := 8) (oi := Oper.mk (some 173) _ _ _ _ _) (v := ?_) rfl (by as_aux_lemma => kernel_rfl) (by as_aux_lemma => kernel_rfl) (by as_aux_lemma => kernel_rfl) (fun _ _ _ h => h) (Or.inl ⟨by rfl, ?_⟩) (by assumption) ?_
                    rotate_left
                    · (intro w hSw; obtain ⟨s1, s2, s3, -⟩ := hSw; go_simp <;> with_reducible rfl)
                    simp only [Act.put, List.setIfInBounds_toArray, List.set_cons_zero, List.set_cons_succ]
                    refine wpAnyH_ready (rs := [4]) (by as_aux_lemma => kernel_rfl) (by simp) (AllReadyH.cons (o := Oper.mk (some 169) _ _ _ _ _) rfl (fun K hK => ?_) AllReadyH.nil)
                    go_simp
                    go_at_call 16
                    refine (HPA.out _ hHeld.end).mono ?_
                    rintro _ w5 ⟨p5, c5, rfl, i5, f5⟩
                    have HI5 := Lib.hid i5
                    refine hK.out _ _ (hHeld.to f5) (fun hHeld5 => ?_)
                    clear hK K i5
                    try simp only [Act.put, List.setIfInBounds_toArray, List.set_cons_zero, List.set_cons_succ]
                    refine wpAnyH_ready (rs := [9]) (by as_aux_lemma => kernel_rfl) (by simp) (AllReadyH.cons (o := Oper.mk (some 174) _ _ _ _ _) rfl (fun K hK => ?_) AllReadyH.nil)
                    go_simp
                    go_at_call 15
                    refine (HSM.out _ hHeld5.end _ _ HI5.out).mono ?_
                    rintro _ w6 ⟨rfl, f6⟩
                    refine hK.out _ _ (hHeld5.to f6) (fun hHeld6 => ?_)
                    clear hK K f6 hHeld5 f5 hHeld
                    try simp only [Act.put, List.setIfInBounds_toArray, List.set_cons_zero, List.set_cons_succ]
                    refine held_of_any _ _ _ _ hHeld6 ?_
                    clear hHeld6 HI5
                    refine anyS_take (i := 10) (oi := Oper.mk (some 175) _ _ _ _ _) (v := ?_) rfl (by as_aux_lemma => kernel_rfl) (by as_aux_lemma => kernel_rfl) (by as_aux_lemma => kernel_rfl) (fun _ _ _ h => h) (Or.inl ⟨by rfl, ?_⟩) ?_
                    rotate_left
                    · (intro w hSw; obtain ⟨s1, s2, s3, -⟩ := hSw; go_simp <;> with_reducible rfl)
                    simp only [Act.put, List.setIfInBounds_toArray, List.set_cons_zero, List.set_cons_succ]
                    refine anyS_take (i := 11) (oi := Oper.mk (some 176) _ _ _ _ _) (v := ?_) rfl (by as_aux_lemma => kernel_rfl) (by as_aux_lemma => kernel_rfl) (by as_aux_lemma => kernel_rfl) (fun _ _ _ h => h) (Or.inl ⟨by rfl, ?_⟩) ?_
                    rotate_left
                    · (intro w hSw; obtain ⟨s1, s2, s3, -⟩ := hSw; go_simp <;> with_reducible rfl)
                    simp only [Act.put, List.setIfInBounds_toArray, List.set_cons_zero, List.set_cons_succ]
                    refine anyS_take (i := 12) (oi := Oper.mk (some 177) _ _ _ _ _) (v := ?_) rfl (by as_aux_lemma => kernel_rfl) (by as_aux_lemma => kernel_rfl) (by as_aux_lemma => kernel_rfl) (fun _ _ _ h => h) (Or.inl ⟨by rfl, ?_⟩) ?_
                    rotate_left
                    · (intro w hSw; obtain ⟨s1, s2, s3, -⟩ := hSw; go_simp <;> with_reducible rfl)
                    simp only [Act.put, List.setIfInBounds_toArray, List.set_cons_zero, List.set_cons_succ]
                    refine anyS_take (i := 13) (oi := Oper.mk (some 178) _ _ _ _ _) (v := ?_) rfl (by as_aux_lemma => kernel_rfl) (by as_aux_lemma => kernel_rfl) (by as_aux_lemma => kernel_rfl) (fun _ _ _ h => h) (Or.inl ⟨by rfl, ?_⟩) ?_
                    rotate_left
                    · (intro w hSw; obtain ⟨s1, s2, s3, -⟩ := hSw; go_simp <;> with_reducible rfl)
                    simp only [Act.put, List.setIfInBounds_toArray, List.set_cons_zero, List.set_cons_succ]
                    refine anyS_take (i := 14) (oi := Oper.mk (some 179) _ _ _ _ _) (v := ?_) rfl (by as_aux_lemma => kernel_rfl) (by as_aux_lemma => kernel_rfl) (by as_aux_lemma => kernel_rfl) (fun _ _ _ h => h) (Or.inl ⟨by rfl, ?_⟩) ?_
                    rotate_left
                    · (intro w hSw; obtain ⟨s1, s2, s3, -⟩ := hSw; go_simp <;> with_reducible rfl)
                    simp only [Act.put, List.setIfInBounds_toArray, List.set_cons_zero, List.set_cons_succ]
                    refine anyS_take (i := 15) (oi := Oper.mk (some 180) _ _ _ _ _) (v := ?_) rfl (by as_aux_lemma => kernel_rfl) (by as_aux_lemma => kernel_rfl) (by as_aux_lemma => kernel_rfl) (fun _ _ _ h => h) (Or.inl ⟨by rfl, ?_⟩) ?_
                    rotate_left
                    · (intro w hSw; obtain ⟨s1, s2, s3, -⟩ := hSw; go_simp <;> with_reducible rfl)
                    simp only [Act.put, List.setIfInBounds_toArray, List.set_cons_zero, List.set_cons_succ]
                    refine anyS_call 17 #[.pointer (some ⟨gX, 0, none⟩)] (i := 16) (oi := Oper.mk (some 181) _ _ _ _ _) (v := .int .u64 (T : Nat)) rfl (by as_aux_lemma => kernel_rfl) (by as_aux_lemma => kernel_rfl) (by as_aux_lemma => kernel_rfl) (fun _ _ _ h => h) (by rfl) (fun w => ?_) (fun w hSw => ?_) ?_
                    · first | rfl | (go_simp; done) | (go_simp; rfl)
                    · exact (HTO.out w hSw.end).mono fun e w2 he => ⟨he.1, hSw.to he.2⟩
                    simp only [Act.put, List.setIfInBounds_toArray, List.set_cons_zero, List.set_cons_succ]
                    refine anyS_take (i := 17) (oi := Oper.mk (some 182) _ _ _ _ _) (v := ?_) rfl (by as_aux_lemma => kernel_rfl) (by as_aux_lemma => kernel_rfl) (by as_aux_lemma => kernel_rfl) (fun _ _ _ h => h) (Or.inl ⟨by rfl, ?_⟩) ?_
                    rotate_left
                    · (intro w hSw; obtain ⟨s1, s2, s3, -⟩ := hSw; go_simp <;> with_reducible rfl)
                    simp only [Act.put, List.setIfInBounds_toArray, List.set_cons_zero, List.set_cons_succ]
                    refine anyS_take (i := 18) (oi := Oper.mk (some 183) _ _ _ _ _) (v := ?_) rfl (by as_aux_lemma => kernel_rfl) (by as_aux_lemma => kernel_rfl) (by as_aux_lemma => kernel_rfl) (fun _ _ _ h => h) (Or.inl ⟨by rfl, ?_⟩) ?_
                    rotate_left
                    · (intro w hSw; obtain ⟨s1, s2, s3, -⟩ := hSw; go_simp <;> with_reducible rfl)
                    simp only [Act.put, List.setIfInBounds_toArray, List.set_cons_zero, List.set_cons_succ]
                    refine anyS_take (i := 19) (oi := Oper.mk (some 184) _ _ _ _ _) (v := ?_) rfl (by as_aux_lemma => kernel_rfl) (by as_aux_lemma => kernel_rfl) (by as_aux_lemma => kernel_rfl) (fun _ _ _ h => h) (Or.inl ⟨by rfl, ?_⟩) ?_
                    rotate_left
                    · (intro w hSw; obtain ⟨s1, s2, s3, -⟩ := hSw; go_simp <;> with_reducible rfl)
                    simp only [Act.put, List.setIfInBounds_toArray, List.set_cons_zero, List.set_cons_succ]
                    refine anyS_take (i := 20) (oi := Oper.mk (some 185) _ _ _ _ _) (v := ?_) rfl (by as_aux_lemma => kernel_rfl) (by as_aux_lemma => kernel_rfl) (by as_aux_lemma => kernel_rfl) (fun _ _ _ h => h) (Or.inl ⟨by rfl, ?_⟩) ?_
                    rotate_left
                    · (intro w hSw; obtain ⟨s1, s2, s3, -⟩ := hSw; go_simp <;> with_reducible rfl)
                    simp only [Act.put, List.setIfInBounds_toArray, List.set_cons_zero, List.set_cons_succ]
                    refine anyS_call 18 #[.slice pX nX cX] (i := 21) (oi := Oper.mk (some 186) _ _ _ _ _) (v := .int .u64 (T : Nat)) rfl (by as_aux_lemma => kernel_rfl) (by as_aux_lemma => kernel_rfl) (by as_aux_lemma => kernel_rfl) (fun _ _ _ h => h) (by rfl) (fun w => ?_) (fun w hSw => ?_) ?_
                    · first | rfl | (go_simp; done) | (go_simp; rfl)
                    · exact (HRT.out w hSw.end).mono fun e w2 he => ⟨he.1, hSw.to he.2⟩
                    simp only [Act.put, List.setIfInBounds_toArray, List.set_cons_zero, List.set_cons_succ]
                    refine anyS_take (i := 22) (oi := Oper.mk (some 187) _ _ _ _ _) (v := ?_) rfl (by as_aux_lemma => kernel_rfl) (by as_aux_lemma => kernel_rfl) (by as_aux_lemma => kernel_rfl) (fun _ _ _ h => h) (Or.inl ⟨by rfl, ?_⟩) ?_
                    rotate_left
                    · (intro w hSw; obtain ⟨s1, s2, s3, -⟩ := hSw; go_simp <;> with_reducible rfl)
                    simp only [Act.put, List.setIfInBounds_toArray, List.set_cons_zero, List.set_cons_succ]
                    refine anyS_take (i := 23) (oi := Oper.mk (some 188) _ _ _ _ _) (v := ?_) rfl (by as_aux_lemma => kernel_rfl) (by as_aux_lemma => kernel_rfl) (by as_aux_lemma => kernel_rfl) (fun _ _ _ h => h) (Or.inl ⟨by rfl, ?_⟩) ?_
                    rotate_left
                    · (intro w hSw; obtain ⟨s1, s2, s3, -⟩ := hSw; go_simp <;> with_reducible rfl)
                    simp only [Act.put, List.setIfInBounds_toArray, List.set_cons_zero, List.set_cons_succ]
                    refine anyS_take (i := 24) (oi := Oper.mk (some 189) _ _ _ _ _) (v := ?_) rfl (by as_aux_lemma => kernel_rfl) (by as_aux_lemma => kernel_rfl) (by as_aux_lemma => kernel_rfl) (fun _ _ _ h => h) (Or.inl ⟨by rfl, ?_⟩) ?_
                    rotate_left
                    · (intro w hSw; obtain ⟨s1, s2, s3, -⟩ := hSw; go_simp <;> with_reducible rfl)
                    simp only [Act.put, List.setIfInBounds_toArray, List.set_cons_zero, List.set_cons_succ]
                    refine anyS_take (i := 25) (oi := Oper.mk (some 190) _ _ _ _ _) (v := ?_) rfl (by as_aux_lemma => kernel_rfl) (by as_aux_lemma => kernel_rfl) (by as_aux_lemma => kernel_rfl) (fun _ _ _ h => h) (Or.inl ⟨by rfl, ?_⟩) ?_
                    rotate_left
                    · (intro w hSw; obtain ⟨s1, s2, s3, -⟩ := hSw; go_simp <;> with_reducible rfl)
                    simp only [Act.put, List.setIfInBounds_toArray, List.set_cons_zero, List.set_cons_succ]
                    refine anyS_take (i := 26) (oi := Oper.mk (some 191) _ _ _ _ _) (v := ?_) rfl (by as_aux_lemma => kernel_rfl) (by as_aux_lemma => kernel_rfl) (by as_aux_lemma => kernel_rfl) (fun _ _ _ h => h) (Or.inl ⟨by rfl, ?_⟩) ?_
                    rotate_left
                    · (intro w hSw; obtain ⟨s1, s2, s3, -⟩ := hSw; go_simp <;> with_reducible rfl)
                    simp only [Act.put, List.setIfInBounds_toArray, List.set_cons_zero, List.set_cons_succ]
                    refine anyS_take (i := 27) (oi := Oper.mk (some 192) _ _ _ _ _) (v := ?_) rfl (by as_aux_lemma => kernel_rfl) (by as_aux_lemma => kernel_rfl) (by as_aux_lemma => kernel_rfl) (fun _ _ _ h => h) (Or.inl ⟨by rfl, ?_⟩) ?_
                    rotate_left
                    · (intro w hSw; obtain ⟨s1, s2, s3, -⟩ := hSw; go_simp <;> with_reducible rfl)
                    simp only [Act.put, List.setIfInBounds_toArray, List.set_cons_zero, List.set_cons_succ]
                    refine anyS_take (i := 28) (oi := Oper.mk (some 193) _ _ _ _ _) (v := ?_) rfl (by as_aux_lemma => kernel_rfl) (by as_aux_lemma => kernel_rfl) (by as_aux_lemma => kernel_rfl) (fun _ _ _ h => h) (Or.inl ⟨by rfl, ?_⟩) ?_
                    rotate_left
                    · (intro w hSw; obtain ⟨s1, s2, s3, -⟩ := hSw; go_simp <;> with_reducible rfl)
                    simp only [Act.put, List.setIfInBounds_toArray, List.set_cons_zero, List.set_cons_succ]
                    refine anyS_call 19 #[.pointer (some ⟨gX, 0, none⟩)] (i := 29) (oi := Oper.mk (some 194) _ _ _ _ _) (v := .int .i64 (nX : Nat)) rfl (by as_aux_lemma => kernel_rfl) (by as_aux_lemma => kernel_rfl) (by as_aux_lemma => kernel_rfl) (fun _ _ _ h => h) (by rfl) (fun w => ?_) (fun w hSw => ?_) ?_
                    · first | rfl | (go_simp; done) | (go_simp; rfl)
                    · exact (HLE.out w hSw.end).mono fun e w2 he => ⟨he.1, hSw.to he.2⟩
                    simp only [Act.put, List.setIfInBounds_toArray, List.set_cons_zero, List.set_cons_succ]
                    refine anyS_take (i := 30) (oi := Oper.mk (some 195) _ _ _ _ _) (v := ?_) rfl (by as_aux_lemma => kernel_rfl) (by as_aux_lemma => kernel_rfl) (by as_aux_lemma => kernel_rfl) (fun _ _ _ h => h) (Or.inl ⟨by rfl, ?_⟩) ?_
                    rotate_left
                    · (intro w hSw; obtain ⟨s1, s2, s3, -⟩ := hSw; go_simp <;> with_reducible rfl)
                    simp only [Act.put, List.setIfInBounds_toArray, List.set_cons_zero, List.set_cons_succ]
                    refine anyS_take (i := 31) (oi := Oper.mk (some 196) _ _ _ _ _) (v := ?_) rfl (by as_aux_lemma => kernel_rfl) (by as_aux_lemma => kernel_rfl) (by as_aux_lemma => kernel_rfl) (fun _ _ _ h => h) (Or.inl ⟨by rfl, ?_⟩) ?_
                    rotate_left
                    · (intro w hSw; obtain ⟨s1, s2, s3, -⟩ := hSw; go_simp <;> with_reducible rfl)
                    simp only [Act.put, List.setIfInBounds_toArray, List.set_cons_zero, List.set_cons_succ]
                    refine anyS_take (i := 32) (oi := Oper.mk (some 197) _ _ _ _ _) (v := ?_) rfl (by as_aux_lemma => kernel_rfl) (by as_aux_lemma => kernel_rfl) (by as_aux_lemma => kernel_rfl) (fun _ _ _ h => h) (Or.inl ⟨by rfl, ?_⟩) ?_
                    rotate_left
                    · (intro w hSw; obtain ⟨s1, s2, s3, -⟩ := hSw; go_simp <;> with_reducible rfl)
                    simp only [Act.put, List.setIfInBounds_toArray, List.set_cons_zero, List.set_cons_succ]
                    refine anyS_take (i := 33) (oi := Oper.mk (some 198) _ _ _ _ _) (v := ?_) rfl (by as_aux_lemma => kernel_rfl) (by as_aux_lemma => kernel_rfl) (by as_aux_lemma => kernel_rfl) (fun _ _ _ h => h) (Or.inl ⟨by rfl, ?_⟩) ?_
                    rotate_left
                    · (intro w hSw; obtain ⟨s1, s2, s3, -⟩ := hSw; go_simp <;> with_reducible rfl)
                    simp only [Act.put, List.setIfInBounds_toArray, List.set_cons_zero, List.set_cons_succ]
                    refine anyS_take (i := 34) (oi := Oper.mk (some 199) _ _ _ _ _) (v := ?_) rfl (by as_aux_lemma => kernel_rfl) (by as_aux_lemma => kernel_rfl) (by as_aux_lemma => kernel_rfl) (fun _ _ _ h => h) (Or.inl ⟨by rfl, ?_⟩) ?_
                    rotate_left
                    · (intro w hSw; obtain ⟨s1, s2, s3, -⟩ := hSw; go_simp <;> with_reducible rfl)
                    simp only [Act.put, List.setIfInBounds_toArray, List.set_cons_zero, List.set_cons_succ]
                    refine anyS_take (i := 35) (oi := Oper.mk (some 200) _ _ _ _ _) (v := ?_) rfl (by as_aux_lemma => kernel_rfl) (by as_aux_lemma => kernel_rfl) (by as_aux_lemma => kernel_rfl) (fun _ _ _ h => h) (Or.inl ⟨by rfl, ?_⟩) ?_
                    rotate_left
                    · (intro w hSw; obtain ⟨s1, s2, s3, -⟩ := hSw; go_simp <;> with_reducible rfl)
                    simp only [Act.put, List.setIfInBounds_toArray, List.set_cons_zero, List.set_cons_succ]
                    refine anyS_take (i := 36) (oi := Oper.mk (some 201) _ _ _ _ _) (v := ?_) rfl (by as_aux_lemma => kernel_rfl) (by as_aux_lemma => kernel_rfl) (by as_aux_lemma => kernel_rfl) (fun _ _ _ h => h) (Or.inl ⟨by rfl, ?_⟩) ?_
                    rotate_left
                    · (intro w hSw; obtain ⟨s1, s2, s3, -⟩ := hSw; go_simp <;> with_reducible rfl)
                    simp only [Act.put, List.setIfInBounds_toArray, List.set_cons_zero, List.set_cons_succ]
                    refine anyS_take (i := 37) (oi := Oper.mk (some 202) _ _ _ _ _) (v := ?_) rfl (by as_aux_lemma => kernel_rfl) (by as_aux_lemma => kernel_rfl) (by as_aux_lemma => kernel_rfl) (fun _ _ _ h => h) (Or.inl ⟨by rfl, ?_⟩) ?_
                    rotate_left
                    · (intro w hSw; obtain ⟨s1, s2, s3, -⟩ := hSw; go_simp <;> with_reducible rfl)
                    simp only [Act.put, List.setIfInBounds_toArray, List.set_cons_zero, List.set_cons_succ]
                    refine anyS_take (i := 38) (oi := Oper.mk (some 203) _ _ _ _ _) (v := ?_) rfl (by as_aux_lemma => kernel_rfl) (by as_aux_lemma => kernel_rfl) (by as_aux_lemma => kernel_rfl) (fun _ _ _ h => h) (Or.inl ⟨by rfl, ?_⟩) ?_
                    rotate_left
                    · (intro w hSw; obtain ⟨s1, s2, s3, -⟩ := hSw; go_simp <;> with_reducible rfl)
                    simp only [Act.put, List.setIfInBounds_toArray, List.set_cons_zero, List.set_cons_succ]
                    refine anyS_take (i := 39) (oi := Oper.mk (some 204) _ _ _ _ _) (v := ?_) rfl (by as_aux_lemma => kernel_rfl) (by as_aux_lemma => kernel_rfl) (by as_aux_lemma => kernel_rfl) (fun _ _ _ h => h) (Or.inl ⟨by rfl, ?_⟩) ?_
                    rotate_left
                    · (intro w hSw; obtain ⟨s1, s2, s3, -⟩ := hSw; go_simp <;> with_reducible rfl)
                    simp only [Act.put, List.setIfInBounds_toArray, List.set_cons_zero, List.set_cons_succ]
                    refine anyS_take (i := 40) (oi := Oper.mk (some 205) _ _ _ _ _) (v := ?_) rfl (by as_aux_lemma => kernel_rfl) (by as_aux_lemma => kernel_rfl) (by as_aux_lemma => kernel_rfl) (fun _ _ _ h => h) (Or.inl ⟨by rfl, ?_⟩) ?_
                    rotate_left
                    · (intro w hSw; obtain ⟨s1, s2, s3, -⟩ := hSw; go_simp <;> with_reducible rfl)
                    simp only [Act.put, List.setIfInBounds_toArray, List.set_cons_zero, List.set_cons_succ]
                    refine anyS_take (i := 41) (oi := Oper.mk (some 206) _ _ _ _ _) (v := ?_) rfl (by as_aux_lemma => kernel_rfl) (by as_aux_lemma => kernel_rfl) (by as_aux_lemma => kernel_rfl) (fun _ _ _ h => h) (Or.inl ⟨by rfl, ?_⟩) ?_
                    rotate_left
                    · (intro w hSw; obtain ⟨s1, s2, s3, -⟩ := hSw; go_simp <;> with_reducible rfl)
                    simp only [Act.put, List.setIfInBounds_toArray, List.set_cons_zero, List.set_cons_succ]
                    refine anyS_take (i := 42) (oi := Oper.mk (some 207) _ _ _ _ _) (v := ?_) rfl (by as_aux_lemma => kernel_rfl) (by as_aux_lemma => kernel_rfl) (by as_aux_lemma => kernel_rfl) (fun _ _ _ h => h) (Or.inl ⟨by rfl, ?_⟩) ?_
                    rotate_left
                    · (intro w hSw; obtain ⟨s1, s2, s3, -⟩ := hSw; go_simp <;> with_reducible rfl)
                    simp only [Act.put, List.setIfInBounds_toArray, List.set_cons_zero, List.set_cons_succ]
                    refine anyS_take (i := 43) (oi := Oper.mk (some 208) _ _ _ _ _) (v := ?_) rfl (by as_aux_lemma => kernel_rfl) (by as_aux_lemma => kernel_rfl) (by as_aux_lemma => kernel_rfl) (fun _ _ _ h => h) (Or.inl ⟨by rfl, ?_⟩) ?_
                    rotate_left
                    · (intro w hSw; obtain ⟨s1, s2, s3, -⟩ := hSw; go_simp <;> with_reducible rfl)
                    simp only [Act.put, List.setIfInBounds_toArray, List.set_cons_zero, List.set_cons_succ]
                    refine anyS_take (i := 44) (oi := Oper.mk (some 209) _ _ _ _ _) (v := ?_) rfl (by as_aux_lemma => kernel_rfl) (by as_aux_lemma => kernel_rfl) (by as_aux_lemma => kernel_rfl) (fun _ _ _ h => h) (Or.inl ⟨by rfl, ?_⟩) ?_
                    rotate_left
                    · (intro w hSw; obtain ⟨s1, s2, s3, -⟩ := hSw; go_simp <;> with_reducible rfl)
                    simp only [Act.put, List.setIfInBounds_toArray, List.set_cons_zero, List.set_cons_succ]
                    refine anyS_take (i := 45) (oi := Oper.mk (some 210) _ _ _ _ _) (v := ?_) rfl (by as_aux_lemma => kernel_rfl) (by as_aux_lemma => kernel_rfl) (by as_aux_lemma => kernel_rfl) (fun _ _ _ h => h) (Or.inl ⟨by rfl, ?_⟩) ?_
                    rotate_left
                    · (intro w hSw; obtain ⟨s1, s2, s3, -⟩ := hSw; go_simp <;> with_reducible rfl)
                    simp only [Act.put, List.setIfInBounds_toArray, List.set_cons_zero, List.set_cons_succ]
                    refine anyS_take (i := 46) (oi := Oper.mk (some 211) _ _ _ _ _) (v := ?_) rfl (by as_aux_lemma => kernel_rfl) (by as_aux_lemma => kernel_rfl) (by as_aux_lemma => kernel_rfl) (fun _ _ _ h => h) (Or.inl ⟨by rfl, ?_⟩) ?_
                    rotate_left
                    · (intro w hSw; obtain ⟨s1, s2, s3, -⟩ := hSw; go_simp <;> with_reducible rfl)
                    simp only [Act.put, List.setIfInBounds_toArray, List.set_cons_zero, List.set_cons_succ]
                    refine anyS_call 20 #[.pointer (some ⟨gX, 0, none⟩), .int .i64 ky] (i := 47) (oi := Oper.mk (some 212) _ _ _ _ _) (v := .int .u64 (B : Nat)) rfl (by as_aux_lemma => kernel_rfl) (by as_aux_lemma => kernel_rfl) (by as_aux_lemma => kernel_rfl) (fun _ _ _ h => h) (by rfl) (fun w => ?_) (fun w hSw => ?_) ?_
                    · first | rfl | (go_simp; done) | (go_simp; rfl)
                    · exact (HBE.out w hSw.end).mono fun e w2 he => ⟨he.1, hSw.to he.2⟩
                    simp only [Act.put, List.setIfInBounds_toArray, List.set_cons_zero, List.set_cons_succ]
                    refine anyS_take (i := 48) (oi := Oper.mk (some 213) _ _ _ _ _) (v := ?_) rfl (by as_aux_lemma => kernel_rfl) (by as_aux_lemma => kernel_rfl) (by as_aux_lemma => kernel_rfl) (fun _ _ _ h => h) (Or.inl ⟨by rfl, ?_⟩) ?_
                    rotate_left
                    · (intro w hSw; obtain ⟨s1, s2, s3, -⟩ := hSw; go_simp <;> with_reducible rfl)
                    simp only [Act.put, List.setIfInBounds_toArray, List.set_cons_zero, List.set_cons_succ]
                    refine anyS_take (i := 49) (oi := Oper.mk (some 214) _ _ _ _ _) (v := ?_) rfl (by as_aux_lemma => kernel_rfl) (by as_aux_lemma => kernel_rfl) (by as_aux_lemma => kernel_rfl) (fun _ _ _ h => h) (Or.inl ⟨by rfl, ?_⟩) ?_
                    rotate_left
                    · (intro w hSw; obtain ⟨s1, s2, s3, -⟩ := hSw; go_simp <;> with_reducible rfl)
                    simp only [Act.put, List.setIfInBounds_toArray, List.set_cons_zero, List.set_cons_succ]
                    refine anyS_take (i := 50) (oi := Oper.mk (some 215) _ _ _ _ _) (v := ?_) rfl (by as_aux_lemma => kernel_rfl) (by as_aux_lemma => kernel_rfl) (by as_aux_lemma => kernel_rfl) (fun _ _ _ h => h) (Or.inl ⟨by rfl, ?_⟩) ?_
                    rotate_left
                    · (intro w hSw; obtain ⟨s1, s2, s3, -⟩ := hSw; go_simp <;> with_reducible rfl)
                    simp only [Act.put, List.setIfInBounds_toArray, List.set_cons_zero, List.set_cons_succ]
                    refine anyS_take (i := 51) (oi := Oper.mk (some 216) _ _ _ _ _) (v := ?_) rfl (by as_aux_lemma => kernel_rfl) (by as_aux_lemma => kernel_rfl) (by as_aux_lemma => kernel_rfl) (fun _ _ _ h => h) (Or.inl ⟨by rfl, ?_⟩) ?_
                    rotate_left
                    · (intro w hSw; obtain ⟨s1, s2, s3, -⟩ := hSw; go_simp <;> with_reducible rfl)
                    simp only [Act.put, List.setIfInBounds_toArray, List.set_cons_zero, List.set_cons_succ]
                    refine anyS_take (i := 52) (oi := Oper.mk (some 217) _ _ _ _ _) (v := ?_) rfl (by as_aux_lemma => kernel_rfl) (by as_aux_lemma => kernel_rfl) (by as_aux_lemma => kernel_rfl) (fun _ _ _ h => h) (Or.inl ⟨by rfl, ?_⟩) ?_
                    rotate_left
                    · (intro w hSw; obtain ⟨s1, s2, s3, -⟩ := hSw; go_simp <;> with_reducible rfl)
                    simp only [Act.put, List.setIfInBounds_toArray, List.set_cons_zero, List.set_cons_succ]
                    refine anyS_take (i := 53) (oi := Oper.mk (some 218) _ _ _ _ _) (v := ?_) rfl (by as_aux_lemma => kernel_rfl) (by as_aux_lemma => kernel_rfl) (by as_aux_lemma => kernel_rfl) (fun _ _ _ h => h) (Or.inl ⟨by rfl, ?_⟩) ?_
                    rotate_left
                    · (intro w hSw; obtain ⟨s1, s2, s3, -⟩ := hSw; go_simp <;> with_reducible rfl)
                    simp only [Act.put, List.setIfInBounds_toArray, List.set_cons_zero, List.set_cons_succ]
                    refine anyS_take (i := 54) (oi := Oper.mk (some 219) _ _ _ _ _) (v := ?_) rfl (by as_aux_lemma => kernel_rfl) (by as_aux_lemma => kernel_rfl) (by as_aux_lemma => kernel_rfl) (fun _ _ _ h => h) (Or.inl ⟨by rfl, ?_⟩) ?_
                    rotate_left
                    · (intro w hSw; obtain ⟨s1, s2, s3, -⟩ := hSw; go_simp <;> with_reducible rfl)
                    simp only [Act.put, List.setIfInBounds_toArray, List.set_cons_zero, List.set_cons_succ]
                    refine anyS_take (i := 55) (oi := Oper.mk (some 220) _ _ _ _ _) (v := ?_) rfl (by as_aux_lemma => kernel_rfl) (by as_aux_lemma => kernel_rfl) (by as_aux_lemma => kernel_rfl) (fun _ _ _ h => h) (Or.inl ⟨by rfl, ?_⟩) ?_
                    rotate_left
                    · (intro w hSw; obtain ⟨s1, s2, s3, -⟩ := hSw; go_simp <;> with_reducible rfl)
                    simp only [Act.put, List.setIfInBounds_toArray, List.set_cons_zero, List.set_cons_succ]
                    refine anyS_take (i := 56) (oi := Oper.mk (some 221) _ _ _ _ _) (v := ?_) rfl (by as_aux_lemma => kernel_rfl) (by as_aux_lemma => kernel_rfl) (by as_aux_lemma => kernel_rfl) (fun _ _ _ h => h) (Or.inl ⟨by rfl, ?_⟩) ?_
                    rotate_left
                    · (intro w hSw; obtain ⟨s1, s2, s3, -⟩ := hSw; go_simp <;> with_reducible rfl)
                    simp only [Act.put, List.setIfInBounds_toArray, List.set_cons_zero, List.set_cons_succ]
                    refine anyS_call 21 #[.slice pX nX cX, .int .i64 ky, .bool false] (i := 57) (oi := Oper.mk (some 222) _ _ _ _ _) (v := .int .u64 (B : Nat)) rfl (by as_aux_lemma => kernel_rfl) (by as_aux_lemma => kernel_rfl) (by as_aux_lemma => kernel_rfl) (fun _ _ _ h => h) (by rfl) (fun w => ?_) (fun w hSw => ?_) ?_
                    · first | rfl | (go_simp; done) | (go_simp; rfl)
                    · exact (HRB.out w hSw.end).mono fun e w2 he => ⟨he.1, hSw.to he.2⟩
                    simp only [Act.put, List.setIfInBounds_toArray, List.set_cons_zero, List.set_cons_succ]
                    refine anyS_take (i := 58) (oi := Oper.mk (some 223) _ _ _ _ _) (v := ?_) rfl (by as_aux_lemma => kernel_rfl) (by as_aux_lemma => kernel_rfl) (by as_aux_lemma => kernel_rfl) (fun _ _ _ h => h) (Or.inl ⟨by rfl, ?_⟩) ?_
                    rotate_left
                    · (intro w hSw; obtain ⟨s1, s2, s3, -⟩ := hSw; go_simp <;> with_reducible rfl)
                    simp only [Act.put, List.setIfInBounds_toArray, List.set_cons_zero, List.set_cons_succ]
                    refine anyS_take (i := 59) (oi := Oper.mk (some 224) _ _ _ _ _) (v := ?_) rfl (by as_aux_lemma => kernel_rfl) (by as_aux_lemma => kernel_rfl) (by as_aux_lemma => kernel_rfl) (fun _ _ _ h => h) (Or.inl ⟨by rfl, ?_⟩) ?_
                    rotate_left
                    · (intro w hSw; obtain ⟨s1, s2, s3, -⟩ := hSw; go_simp <;> with_reducible rfl)
                    simp only [Act.put, List.setIfInBounds_toArray, List.set_cons_zero, List.set_cons_succ]
                    refine anyS_take (i := 60) (oi := Oper.mk (some 225) _ _ _ _ _) (v := ?_) rfl (by as_aux_lemma => kernel_rfl) (by as_aux_lemma => kernel_rfl) (by as_aux_lemma => kernel_rfl) (fun _ _ _ h => h) (Or.inl ⟨by rfl, ?_⟩) ?_
                    rotate_left
                    · (intro w hSw; obtain ⟨s1, s2, s3, -⟩ := hSw; go_simp <;> with_reducible rfl)
                    simp only [Act.put, List.setIfInBounds_toArray, List.set_cons_zero, List.set_cons_succ]
                    refine anyS_take (i := 61) (oi := Oper.mk (some 226) _ _ _ _ _) (v := ?_) rfl (by as_aux_lemma => kernel_rfl) (by as_aux_lemma => kernel_rfl) (by as_aux_lemma => kernel_rfl) (fun _ _ _ h => h) (Or.inl ⟨by rfl, ?_⟩) ?_
                    rotate_left
                    · (intro w hSw; obtain ⟨s1, s2, s3, -⟩ := hSw; go_simp <;> with_reducible rfl)
                    simp only [Act.put, List.setIfInBounds_toArray, List.set_cons_zero, List.set_cons_succ]
                    refine anyS_take (i := 62) (oi := Oper.mk (some 227) _ _ _ _ _) (v := ?_) rfl (by as_aux_lemma => kernel_rfl) (by as_aux_lemma => kernel_rfl) (by as_aux_lemma => kernel_rfl) (fun _ _ _ h => h) (Or.inl ⟨by rfl, ?_⟩) ?_
                    rotate_left
                    · (intro w hSw; obtain ⟨s1, s2, s3, -⟩ := hSw; go_simp <;> with_reducible rfl)
                    simp only [Act.put, List.setIfInBounds_toArray, List.set_cons_zero, List.set_cons_succ]
                    refine anyS_take (i := 63) (oi := Oper.mk (some 228) _ _ _ _ _) (v := ?_) rfl (by as_aux_lemma => kernel_rfl) (by as_aux_lemma => kernel_rfl) (by as_aux_lemma => kernel_rfl) (fun _ _ _ h => h) (Or.inl ⟨by rfl, ?_⟩) ?_
                    rotate_left
                    · (intro w hSw; obtain ⟨s1, s2, s3, -⟩ := hSw; go_simp <;> with_reducible rfl)
                    simp only [Act.put, List.setIfInBounds_toArray, List.set_cons_zero, List.set_cons_succ]
                    refine anyS_take (i := 64) (oi := Oper.mk (some 229) _ _ _ _ _) (v := ?_) rfl (by as_aux_lemma => kernel_rfl) (by as_aux_lemma => kernel_rfl) (by as_aux_lemma => kernel_rfl) (fun _ _ _ h => h) (Or.inl ⟨by rfl, ?_⟩) ?_
                    rotate_left
                    · (intro w hSw; obtain ⟨s1, s2, s3, -⟩ := hSw; go_simp <;> with_reducible rfl)
                    simp only [Act.put, List.setIfInBounds_toArray, List.set_cons_zero, List.set_cons_succ]
                    refine anyS_take (i := 65) (oi := Oper.mk (some 230) _ _ _ _ _) (v := ?_) rfl (by as_aux_lemma => kernel_rfl) (by as_aux_lemma => kernel_rfl) (by as_aux_lemma => kernel_rfl) (fun _ _ _ h => h) (Or.inl ⟨by rfl, ?_⟩) ?_
                    rotate_left
                    · (intro w hSw; obtain ⟨s1, s2, s3, -⟩ := hSw; go_simp <;> with_reducible rfl)
                    simp only [Act.put, List.setIfInBounds_toArray, List.set_cons_zero, List.set_cons_succ]
                    refine anyS_take (i := 66) (oi := Oper.mk (some 231) _ _ _ _ _) (v := ?_) rfl (by as_aux_lemma => kernel_rfl) (by as_aux_lemma => kernel_rfl) (by as_aux_lemma => kernel_rfl) (fun _ _ _ h => h) (Or.inl ⟨by rfl, ?_⟩) ?_
                    rotate_left
                    · (intro w hSw; obtain ⟨s1, s2, s3, -⟩ := hSw; go_simp <;> with_reducible rfl)
                    simp only [Act.put, List.setIfInBounds_toArray, List.set_cons_zero, List.set_cons_succ]
                    refine anyS_take (i := 67) (oi := Oper.mk (some 232) _ _ _ _ _) (v := ?_) rfl (by as_aux_lemma => kernel_rfl) (by as_aux_lemma => kernel_rfl) (by as_aux_lemma => kernel_rfl) (fun _ _ _ h => h) (Or.inl ⟨by rfl, ?_⟩) ?_
                    rotate_left
                    · (intro w hSw; obtain ⟨s1, s2, s3, -⟩ := hSw; go_simp <;> with_reducible rfl)
                    simp only [Act.put, List.setIfInBounds_toArray, List.set_cons_zero, List.set_cons_succ]
                    refine anyS_take (i := 68) (oi := Oper.mk (some 233) _ _ _ _ _) (v := ?_) rfl (by as_aux_lemma => kernel_rfl) (by as_aux_lemma => kernel_rfl) (by as_aux_lemma => kernel_rfl) (fun _ _ _ h => h) (Or.inl ⟨by rfl, ?_⟩) ?_
                    rotate_left
                    · (intro w hSw; obtain ⟨s1, s2, s3, -⟩ := hSw; go_simp <;> with_reducible rfl)
                    simp only [Act.put, List.setIfInBounds_toArray, List.set_cons_zero, List.set_cons_succ]
                    refine anyS_take (i := 69) (oi := Oper.mk (some 234) _ _ _ _ _) (v := ?_) rfl (by as_aux_lemma => kernel_rfl) (by as_aux_lemma => kernel_rfl) (by as_aux_lemma => kernel_rfl) (fun _ _ _ h => h) (Or.inl ⟨by rfl, ?_⟩) ?_
                    rotate_left
                    · (intro w hSw; obtain ⟨s1, s2, s3, -⟩ := hSw; go_simp <;> with_reducible rfl)
                    simp only [Act.put, List.setIfInBounds_toArray, List.set_cons_zero, List.set_cons_succ]
                    refine anyS_call 22 #[.pointer (some ⟨gX, 0, none⟩), .int .i64 ky] (i := 70) (oi := Oper.mk (some 235) _ _ _ _ _) (v := .int .u64 (U : Nat)) rfl (by as_aux_lemma => kernel_rfl) (by as_aux_lemma => kernel_rfl) (by as_aux_lemma => kernel_rfl) (fun _ _ _ h => h) (by rfl) (fun w => ?_) (fun w hSw => ?_) ?_
                    · first | rfl | (go_simp; done) | (go_simp; rfl)
                    · exact (HUP.out w hSw.end).mono fun e w2 he => ⟨he.1, hSw.to he.2⟩
                    simp only [Act.put, List.setIfInBounds_toArray, List.set_cons_zero, List.set_cons_succ]
                    refine anyS_take (i := 71) (oi := Oper.mk (some 236) _ _ _ _ _) (v := ?_) rfl (by as_aux_lemma => kernel_rfl) (by as_aux_lemma => kernel_rfl) (by as_aux_lemma => kernel_rfl) (fun _ _ _ h => h) (Or.inl ⟨by rfl, ?_⟩) ?_
                    rotate_left
                    · (intro w hSw; obtain ⟨s1, s2, s3, -⟩ := hSw; go_simp <;> with_reducible rfl)
                    simp only [Act.put, List.setIfInBounds_toArray, List.set_cons_zero, List.set_cons_succ]
                    refine anyS_take (i := 72) (oi := Oper.mk (some 237) _ _ _ _ _) (v := ?_) rfl (by as_aux_lemma => kernel_rfl) (by as_aux_lemma => kernel_rfl) (by as_aux_lemma => kernel_rfl) (fun _ _ _ h => h) (Or.inl ⟨by rfl, ?_⟩) ?_
                    rotate_left
                    · (intro w hSw; obtain ⟨s1, s2, s3, -⟩ := hSw; go_simp <;> with_reducible rfl)
                    simp only [Act.put, List.setIfInBounds_toArray, List.set_cons_zero, List.set_cons_succ]
                    refine anyS_take (i := 73) (oi := Oper.mk (some 238) _ _ _ _ _) (v := ?_) rfl (by as_aux_lemma => kernel_rfl) (by as_aux_lemma => kernel_rfl) (by as_aux_lemma => kernel_rfl) (fun _ _ _ h => h) (Or.inl ⟨by rfl, ?_⟩) ?_
                    rotate_left
                    · (intro w hSw; obtain ⟨s1, s2, s3, -⟩ := hSw; go_simp <;> with_reducible rfl)
                    simp only [Act.put, List.setIfInBounds_toArray, List.set_cons_zero, List.set_cons_succ]
                    refine anyS_take (i := 74) (oi := Oper.mk (some 239) _ _ _ _ _) (v := ?_) rfl (by as_aux_lemma => kernel_rfl) (by as_aux_lemma => kernel_rfl) (by as_aux_lemma => kernel_rfl) (fun _ _ _ h => h) (Or.inl ⟨by rfl, ?_⟩) ?_
                    rotate_left
                    · (intro w hSw; obtain ⟨s1, s2, s3, -⟩ := hSw; go_simp <;> with_reducible rfl)
                    simp only [Act.put, List.setIfInBounds_toArray, List.set_cons_zero, List.set_cons_succ]
                    refine anyS_take (i := 75) (oi := Oper.mk (some 240) _ _ _ _ _) (v := ?_) rfl (by as_aux_lemma => kernel_rfl) (by as_aux_lemma => kernel_rfl) (by as_aux_lemma => kernel_rfl) (fun _ _ _ h => h) (Or.inl ⟨by rfl, ?_⟩) ?_
                    rotate_left
                    · (intro w hSw; obtain ⟨s1, s2, s3, -⟩ := hSw; go_simp <;> with_reducible rfl)
                    simp only [Act.put, List.setIfInBounds_toArray, List.set_cons_zero, List.set_cons_succ]
                    refine anyS_take (i := 76) (oi := Oper.mk (some 241) _ _ _ _ _) (v := ?_) rfl (by as_aux_lemma => kernel_rfl) (by as_aux_lemma => kernel_rfl) (by as_aux_lemma => kernel_rfl) (fun _ _ _ h => h) (Or.inl ⟨by rfl, ?_⟩) ?_
                    rotate_left
                    · (intro w hSw; obtain ⟨s1, s2, s3, -⟩ := hSw; go_simp <;> with_reducible rfl)
                    simp only [Act.put, List.setIfInBounds_toArray, List.set_cons_zero, List.set_cons_succ]
                    refine anyS_take (i := 77) (oi := Oper.mk (some 242) _ _ _ _ _) (v := ?_) rfl (by as_aux_lemma => kernel_rfl) (by as_aux_lemma => kernel_rfl) (by as_aux_lemma => kernel_rfl) (fun _ _ _ h => h) (Or.inl ⟨by rfl, ?_⟩) ?_
                    rotate_left
                    · (intro w hSw; obtain ⟨s1, s2, s3, -⟩ := hSw; go_simp <;> with_reducible rfl)
                    simp only [Act.put, List.setIfInBounds_toArray, List.set_cons_zero, List.set_cons_succ]
                    refine anyS_take (i := 78) (oi := Oper.mk (some 243) _ _ _ _ _) (v := ?_) rfl (by as_aux_lemma => kernel_rfl) (by as_aux_lemma => kernel_rfl) (by as_aux_lemma => kernel_rfl) (fun _ _ _ h => h) (Or.inl ⟨by rfl, ?_⟩) ?_
                    rotate_left
                    · (intro w hSw; obtain ⟨s1, s2, s3, -⟩ := hSw; go_simp <;> with_reducible rfl)
                    simp only [Act.put, List.setIfInBounds_toArray, List.set_cons_zero, List.set_cons_succ]
                    refine anyS_take (i := 79) (oi := Oper.mk (some 244) _ _ _ _ _) (v := ?_) rfl (by as_aux_lemma => kernel_rfl) (by as_aux_lemma => kernel_rfl) (by as_aux_lemma => kernel_rfl) (fun _ _ _ h => h) (Or.inl ⟨by rfl, ?_⟩) ?_
                    rotate_left
                    · (intro w hSw; obtain ⟨s1, s2, s3, -⟩ := hSw; go_simp <;> with_reducible rfl)
                    simp only [Act.put, List.setIfInBounds_toArray, List.set_cons_zero, List.set_cons_succ]
                    refine anyS_call 21 #[.slice pX nX cX, .int .i64 ky, .bool true] (i := 80) (oi := Oper.mk (some 245) _ _ _ _ _) (v := .int .u64 (U : Nat)) rfl (by as_aux_lemma => kernel_rfl) (by as_aux_lemma => kernel_rfl) (by as_aux_lemma => kernel_rfl) (fun _ _ _ h => h) (by rfl) (fun w => ?_) (fun w hSw => ?_) ?_
                    · first | rfl | (go_simp; done) | (go_simp; rfl)
                    · exact (HRU.out w hSw.end).mono fun e w2 he => ⟨he.1, hSw.to he.2⟩
                    simp only [Act.put, List.setIfInBounds_toArray, List.set_cons_zero, List.set_cons_succ]
                    refine anyS_take (i := 81) (oi := Oper.mk (some 246) _ _ _ _ _) (v := ?_) rfl (by as_aux_lemma => kernel_rfl) (by as_aux_lemma => kernel_rfl) (by as_aux_lemma => kernel_rfl) (fun _ _ _ h => h) (Or.inl ⟨by rfl, ?_⟩) ?_
                    rotate_left
                    · (intro w hSw; obtain ⟨s1, s2, s3, -⟩ := hSw; go_simp <;> with_reducible rfl)
                    simp only [Act.put, List.setIfInBounds_toArray, List.set_cons_zero, List.set_cons_succ]
                    refine anyS_take (i := 82) (oi := Oper.mk (some 247) _ _ _ _ _) (v := ?_) rfl (by as_aux_lemma => kernel_rfl) (by as_aux_lemma => kernel_rfl) (by as_aux_lemma => kernel_rfl) (fun _ _ _ h => h) (Or.inl ⟨by rfl, ?_⟩) ?_
                    rotate_left
                    · (intro w hSw; obtain ⟨s1, s2, s3, -⟩ := hSw; go_simp <;> with_reducible rfl)
                    simp only [Act.put, List.setIfInBounds_toArray, List.set_cons_zero, List.set_cons_succ]
                    refine anyS_done (by as_aux_lemma => kernel_rfl) (fun w hSw => ?_) _
                    have hSE := hSw.end
                    clear hSw
                    go_wp2_with fail
                    go_meet
                    exact ⟨rfl, hSE⟩
                case rest =>
                  obtain ⟨rfl, fz⟩ := hcut
                  have HFZ := Lib.hid fz
                  clear fz HPA HSM HTO HRT HLE HBE HRB HUP HRU x0 y0 c2
                  go_wp2_with fail
                  go_roundw
                  case rel => exact ⟨kk + 1, by omega, by go_num, HFZ⟩
                  case measure => simp [intOf]; omega
              · have HSZ := Lib.hid (And.intro (HSI.out.1.fr0 hf.out) HSI.out.2)
                clear HSI HP3 hf
                go_wp2_with fail
                go_roundw
                case rel => exact ⟨k + 1, l1', l2', by omega, by omega, by go_num, HSZ⟩
                case measure => simp [intOf]; omega
      · have hk6' : decide ((k : Int) < 60) = false := decide_eq_false hk6
        obtain ⟨own3, iA3, iB3, hA3, hB3, pA3, nA3, cA3, pB3, nB3, cB3, hP3⟩ := hd.out.1
        have x0 := hP3.csA
        have HF := Lib.hid hP3.fr
        have HTN := Lib.hid (fun W => take_nil g1 W)
        clear hP3 hd
        go_wp2_with fail
        refine (HTN.out _).mono ?_
        rintro e w4 ⟨rfl, f4⟩
        clear HTN
        go_wp2_with fail
        go_ret
        exact ⟨rfl, HF.out.trans0 f4⟩
    · obtain ⟨own3, iA3, iB3, hA3, hB3, pA3, nA3, cA3, pB3, nB3, cB3, hP3⟩ := hd.out.1
      have x0 := hP3.csA
      have HF := Lib.hid hP3.fr
      have HTN := Lib.hid (fun W => take_nil g1 W)
      clear hP3 hd
      go_wp2_with fail
      refine (HTN.out _).mono ?_
      rintro e w4 ⟨rfl, f4⟩
      clear HTN
      go_wp2_with fail
      go_ret
      exact ⟨rfl, HF.out.trans0 f4⟩
end Go.Proofs.Ytljodghfgnkknaa
