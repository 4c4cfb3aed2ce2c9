/- What a store tells can be loaded, and goes on as it does. -/
import Derived.Test.YtibgjmlgjmnheaaClApp
import Derived.Deep.CutBlock
import Derived.Deep.DeepCutAuto
import Derived.Deep.CutRange
import Derived.Deep.RegionHeld3
namespace Go.Proofs.Ytibgjmlgjmnheaa
open Go.RowKit

theorem Cls.moreN {own : Nat → Nat} {w W W' : World} {b g h : Nat} {a : List Pr} {l : List (Nat × Nat × List Pr)} (c : Cls own w W b l) (k : NewC W W' g h b a) : Cls (dye own l.length W.heap.size) w W' b (l ++ [(g, h, a)]) := by
  refine ⟨fun i g' h' a' e => ?_, c.fr.trans0 k.fr⟩
  by_cases hi : i < l.length
  · rw [List.getElem?_append_left hi] at e
    exact (c.all i g' h' a' e).dye k.fr
  · rw [List.getElem?_append_right (by omega)] at e
    have hi0 : i - l.length = 0 := by
      rcases (by omega : i - l.length = 0 ∨ 1 ≤ i - l.length) with h | h
      · exact h
      · rw [List.getElem?_eq_none (by simpa using h)] at e
        cases e
    rw [hi0] at e
    simp only [List.getElem?_cons_zero, Option.some.injEq, Prod.mk.injEq] at e
    obtain ⟨rfl, rfl, rfl⟩ := e
    obtain rfl : i = l.length := by omega
    exact Cl.ofNew c.fr k

/-- two stores of one budget -/
structure Duo (w W : World) (b g1 g2 : Nat) (A B : List Pr) : Prop where
  ex : ∃ own h1 h2, Cls own w W b [(g1, h1, A), (g2, h2, B)]
theorem Duo.fr {w W : World} {b g1 g2 : Nat} {A B : List Pr} (d : Duo w W b g1 g2 A B) : Fr S0 w W := let ⟨_, _, _, c⟩ := d.ex; c.fr
theorem Duo.fr0 {w W W' : World} {b g1 g2 : Nat} {A B : List Pr} (d : Duo w W b g1 g2 A B) (f : Fr S0 W W') : Duo w W' b g1 g2 A B := let ⟨own, h1, h2, c⟩ := d.ex; ⟨own, h1, h2, c.fr0 f⟩
theorem Duo.ok {w W : World} {b g1 g2 : Nat} {A B : List Pr} (d : Duo w W b g1 g2 A B) : Good A ∧ 2 ≤ b ∧ b ≤ 4096 := let ⟨_, _, _, c⟩ := d.ex; ⟨(c.all 0 _ _ _ rfl).is.ok, (c.all 0 _ _ _ rfl).is.m2, (c.all 0 _ _ _ rfl).is.m3⟩
theorem Duo.add1 {w W : World} {b g1 g2 : Nat} {A B : List Pr} (d : Duo w W b g1 g2 A B) (k : Int) (n E : Nat) (A' : List Pr) (hn : n < 18446744073709551616) (hE : addE0 A k n = E) (hl : addL0 A k n = A') :
    Calls Try.prog 11 #[.pointer (some ⟨g1, 0, none⟩), .int .i64 k, .int .u64 (n : Nat)] W fun e w' => e = .returned (.int .i64 (E : Nat)) ∧ Duo w w' b g1 g2 A' B := by
  obtain ⟨own, h1, h2, c⟩ := d.ex
  exact ((c.all 0 _ _ _ rfl).add k n E A' hn hE hl).mono fun e w' he => by
    obtain ⟨e1, h', t⟩ := he
    have c' := c.turn (i := 0) rfl t
    simp only [List.set_cons_zero] at c'
    exact ⟨e1, _, h', h2, c'⟩
theorem Duo.add2 {w W : World} {b g1 g2 : Nat} {A B : List Pr} (d : Duo w W b g1 g2 A B) (k : Int) (n E : Nat) (B' : List Pr) (hn : n < 18446744073709551616) (hE : addE0 B k n = E) (hl : addL0 B k n = B') :
    Calls Try.prog 11 #[.pointer (some ⟨g2, 0, none⟩), .int .i64 k, .int .u64 (n : Nat)] W fun e w' => e = .returned (.int .i64 (E : Nat)) ∧ Duo w w' b g1 g2 A B' := by
  obtain ⟨own, h1, h2, c⟩ := d.ex
  exact ((c.all 1 _ _ _ rfl).add k n E B' hn hE hl).mono fun e w' he => by
    obtain ⟨e1, h', t⟩ := he
    have c' := c.turn (i := 1) rfl t
    simp only [List.set_cons_zero, List.set_cons_succ] at c'
    exact ⟨e1, _, h1, h', c'⟩
theorem tells {w : World} {g h b : Nat} {A : List Pr} (s : Col w g h b A) : Calls Try.prog 22 #[.pointer (some ⟨g, 0, none⟩)] w fun e w' => ∃ p c n, e = .returned (.slice p n c) ∧ (PrI w' p (cutN A b) ∧ (cutN A b).length = n ∧ (p = none → c = 0)) ∧ Fr S0 w w' :=
  (cpairs_any g h b A w s).mono fun _ _ he => let ⟨p, c, n, e, hp⟩ := he
    ⟨p, c, n, e, ⟨hp.pri (by have := hp.len; have := cut_len s.ok.srt s.ok.pos (by have := s.m2; omega : 1 ≤ b); have := s.m3; omega), hp.len, fun h0 => by
      subst h0
      rcases hp.own.2 with ⟨h1, -⟩ | ⟨g', cap, cur, h1, -⟩
      · exact (Value.slice.inj h1).2.2
      · cases (Value.slice.inj h1).1⟩, hp.fr⟩
theorem Duo.pairs1 {w W : World} {b g1 g2 : Nat} {A B : List Pr} (d : Duo w W b g1 g2 A B) : Calls Try.prog 22 #[.pointer (some ⟨g1, 0, none⟩)] W fun e w' => ∃ p c n, e = .returned (.slice p n c) ∧ (PrI w' p (cutN A b) ∧ (cutN A b).length = n ∧ (p = none → c = 0)) ∧ Fr S0 W w' := by
  obtain ⟨own, h1, h2, c⟩ := d.ex
  exact tells (c.all 0 _ _ _ rfl).is
theorem Duo.pairs2 {w W : World} {b g1 g2 : Nat} {A B : List Pr} (d : Duo w W b g1 g2 A B) : Calls Try.prog 22 #[.pointer (some ⟨g2, 0, none⟩)] W fun e w' => ∃ p c n, e = .returned (.slice p n c) ∧ (PrI w' p (cutN B b) ∧ (cutN B b).length = n ∧ (p = none → c = 0)) ∧ Fr S0 W w' := by
  obtain ⟨own, h1, h2, c⟩ := d.ex
  exact tells (c.all 1 _ _ _ rfl).is
theorem Duo.folded1 {w W : World} {b g1 g2 F : Nat} {A B : List Pr} (d : Duo w W b g1 g2 A B) (hF : cutA A b = F) : Calls Try.prog 23 #[.pointer (some ⟨g1, 0, none⟩)] W fun e w' => e = .returned (.int .u64 (F : Nat)) ∧ Fr S0 W w' := by
  subst hF
  obtain ⟨own, h1, h2, c⟩ := d.ex
  exact cfolded_any _ _ _ _ _ (c.all 0 _ _ _ rfl).is
theorem Duo.folded2 {w W : World} {b g1 g2 F : Nat} {A B : List Pr} (d : Duo w W b g1 g2 A B) (hF : cutA B b = F) : Calls Try.prog 23 #[.pointer (some ⟨g2, 0, none⟩)] W fun e w' => e = .returned (.int .u64 (F : Nat)) ∧ Fr S0 W w' := by
  subst hF
  obtain ⟨own, h1, h2, c⟩ := d.ex
  exact cfolded_any _ _ _ _ _ (c.all 1 _ _ _ rfl).is

set_option maxRecDepth 100000 in
set_option maxHeartbeats 8000000 in
theorem law_again (p p2 : Option Addr) (c m c2 m2 M : Nat) (l l2 : List Pr) (w : World) (hm : l.length = m) (h : PrI w p l) (h64 : ∀ x ∈ l, x.2 < 18446744073709551616)
    (hm2 : l2.length = m2) (h2 : PrI w p2 l2) (h642 : ∀ x ∈ l2, x.2 < 18446744073709551616) :
    Calls Try.prog 7 #[.int .u16 (M : Nat), .slice p m c, .slice p2 m2 c2] w fun e w' => e = .returned (.bool true) ∧ Fr S0 w w' := by
  have hw := start w
  obtain ⟨B0, hB0⟩ : ∃ B0, M % 30 = B0 := ⟨_, rfl⟩
  obtain ⟨b, hb⟩ : ∃ b, 2 + B0 = b := ⟨_, rfl⟩
  have eB0 : (M : Int) % 30 = (B0 : Int) := by omega
  have eB1 : (M : Int).tmod 30 = (B0 : Int) := by rw [Int.tmod_eq_emod_of_nonneg (by omega)]; omega
  have eb : (2 : Int) + (B0 : Int) = (b : Int) := by omega
  have hB0l : B0 < 30 := by omega
  have hb2 : 2 ≤ b := by omega
  have hb3 : b ≤ 31 := by omega
  have HCT := Lib.hid (fun W (f : Fr S0 w W) => counted_any p c m b l W hb2 (by omega) hm (h.fr0 f) h64)
  have H := Lib.hid h2
  have HM := Lib.hid hm2
  have H64 := Lib.hid h642
  have hlen := h2.len
  rw [hm2] at hlen
  unfold maxLen at hlen
  clear h h64 hm hB0 hb hm2 h2 h642
  go_enter Try.func7, Try.ntmps7
  go_wp2_with fail
  refine hw _ ?_
  intro w1 f1
  have HF1 := Lib.hid f1
  have HC1 := Lib.hid (HCT.out w1 f1)
  clear hw f1 HCT
  go_wp2_with fail
  refine HC1.out.mono ?_
  rintro e w2 ⟨g, gh, q, n, d, rfl, hc⟩
  have C1 := Lib.hid ((Cls.none (fun _ => 9) b HF1.out).more hc)
  clear hc HC1 HF1
  generalize dye _ _ _ = own1 at C1
  have hC1 : Hid (Cls own1 w w2 b [(g, gh, cntd l)]) := C1
  obtain ⟨A, hA⟩ : ∃ A, cntd l = A := ⟨_, rfl⟩
  rw [hA] at hC1
  have HP := Lib.hid (tells (hC1.out.all 0 _ _ _ rfl).is)
  clear C1 hA
  go_wp2_with fail
  refine HP.out.mono ?_
  rintro e w3 ⟨q3, c3, n3, rfl, hp3, f3⟩
  have C3 := Lib.hid (hC1.out.fr0 f3)
  have HP3 := Lib.hid hp3
  have HFO := Lib.hid (cfolded_any g gh b A w3 (C3.out.all 0 _ _ _ rfl).is)
  clear hp3 f3 hC1 HP
  go_wp2_with fail
  refine HFO.out.mono ?_
  rintro e w4 ⟨rfl, f4⟩
  have C4 := Lib.hid (C3.out.fr0 f4)
  have HLD := Lib.hid (load_any q3 n3 c3 b A w4 (C4.out.all 0 _ _ _ rfl).is.ok hb2 (by omega) (HP3.out.1.fr0 f4) HP3.out.2.1 HP3.out.2.2)
  clear f4 C3 HP3 HFO
  go_wp2_with fail
  refine HLD.out.mono ?_
  rintro e w5 ⟨g2, k2, rfl, hnew⟩
  have D5 : Hid (Duo w w5 b g g2 A A) := Lib.hid ⟨_, _, _, C4.out.moreN hnew⟩
  clear hnew HLD C4
  go_wp2_with fail
  go_loopw [12] (fun i wr => ∃ (k : Nat) (X : List Pr), k ≤ m2 ∧ k ≤ 60 ∧ i = .int .i64 k ∧ Hid (Duo w wr b g g2 X X)) (fun i _ => m2 - (intOf i).toNat)
  case atStart => exact ⟨0, A, by omega, by omega, rfl, D5⟩
  case round =>
    clear D5
    obtain ⟨i, X, hi, hi60, rfl, hd⟩ := hrel
    by_cases him : (i : Int) < (m2 : Int) ∧ (i : Int) < 60
    · obtain ⟨him1, him2⟩ := him
      have hil : i < l2.length := by rw [HM.out]; omega
      obtain ⟨pb, po, hpe, -⟩ := (H.out.fr0 hd.out.fr).at i hil
      have hn64 := H64.out _ (List.getElem_mem hil)
      have HC : Hid (∀ W, Fr S0 w W → W.cell? ⟨pb, po + i * 2, none⟩ = some (.int .i64 (l2[i]'hil).1) ∧ W.cell? ⟨pb, po + i * 2 + 1, none⟩ = some (.int .u64 ((l2[i]'hil).2 : Int))) := Lib.hid fun W f => by
        obtain ⟨b', o', hp, c3, c4⟩ := (H.out.fr0 f).at i hil
        rw [hpe] at hp
        simp only [Option.some.injEq, Addr.mk.injEq] at hp
        obtain ⟨rfl, rfl, -⟩ := hp
        exact ⟨c3, c4⟩
      obtain ⟨⟨tk, tn⟩, ht⟩ : ∃ t, l2[i]'hil = t := ⟨_, rfl⟩
      rw [ht] at HC hn64
      simp only at HC hn64
      obtain ⟨E, hE⟩ : ∃ E, addE0 X tk tn = E := ⟨_, rfl⟩
      obtain ⟨Y, hY⟩ : ∃ Y, addL0 X tk tn = Y := ⟨_, rfl⟩
      obtain ⟨F, hF⟩ : ∃ F, cutA Y b = F := ⟨_, rfl⟩
      have HADD1 := Lib.hid (fun W (f : Fr S0 wr W) => (hd.out.fr0 f).add1 tk tn E Y hn64 hE hY)
      have HADD2 := Lib.hid (fun W (d : Duo w W b g g2 Y X) => d.add2 tk tn E Y hn64 hE hY)
      have HPA1 := Lib.hid (fun W (d : Duo w W b g g2 Y Y) => d.pairs1)
      have HPA2 := Lib.hid (fun W (d : Duo w W b g g2 Y Y) => d.pairs2)
      have HFA1 := Lib.hid (fun W (d : Duo w W b g g2 Y Y) => d.folded1 hF)
      have HFA2 := Lib.hid (fun W (d : Duo w W b g g2 Y Y) => d.folded2 hF)
      have HSM : Hid (∀ W q q' n c c', PrI W q (cutN Y b) → PrI W q' (cutN Y b) → (cutN Y b).length = n → Calls Try.prog 21 #[.slice q n c, .slice q' n c'] W fun e w' => e = .returned (.bool true) ∧ Fr S0 W w') := Lib.hid fun W q q' n c c' h1 h2 h3 => rsame15_yes q q' n c c' _ W h1 h2 h3
      have hEE : ((E : Int) != (E : Int)) = false := by simp
      have hFF : ((F : Int) != (F : Int)) = false := by simp
      subst hpe
      obtain ⟨x0, x1⟩ := HC.out wr hd.out.fr
      clear ht hil hE hY hF hd hn64
      go_upto_region 13 with fail
      go_cut [91] from 52 to 91 (fun x91 wx => x91 = .bool false ∧ Duo w wx b g g2 Y Y)
      case first =>
        go_region_held3 (fun w' => w'.cell? ⟨pb, po + i * 2, none⟩ = some (.int .i64 tk) ∧ w'.cell? ⟨pb, po + i * 2 + 1, none⟩ = some (.int .u64 (tn : Int)))
          (first
            | (go_split_ands; exact ⟨by assumption, by assumption⟩)
            | exact HC.out _ D9.out.fr
            | exact HC.out _ D8.out.fr
            | exact HC.out _ D7.out.fr
            | exact HC.out _ D6.out.fr
            | exact HC.out _ D5.out.fr
            | exact HC.out _ D4.out.fr
            | exact HC.out _ D3.out.fr)
          (first
            | (go_at_call 11; ((with_reducible refine (HADD1.out _ (Fr.drew _ _)).mono ?_); rintro _ w3 ⟨rfl, d3⟩; have D3 := Lib.hid d3; clear d3))
            | (go_at_call 11; ((with_reducible refine (HADD2.out _ D3.out).mono ?_); rintro _ w4 ⟨rfl, d4⟩; have D4 := Lib.hid d4; clear d4))
            | (go_at_call 22; ((with_reducible refine (HPA1.out _ D4.out).mono ?_); rintro _ w5 ⟨q5, c5, n5, rfl, hp5, f5⟩; have D5 := Lib.hid (D4.out.fr0 f5); have P5 := Lib.hid hp5; clear f5 hp5))
            | (go_at_call 22; ((with_reducible refine (HPA2.out _ D5.out).mono ?_); rintro _ w6 ⟨q6, c6, n6, rfl, hp6, f6⟩; obtain rfl : n5 = n6 := P5.out.2.1.symm.trans hp6.2.1; have D6 := Lib.hid (D5.out.fr0 f6); have P6 := Lib.hid (And.intro (P5.out.1.fr0 f6) hp6.1); clear f6 hp6))
            | (go_at_call 21; ((with_reducible refine (HSM.out _ _ _ _ _ _ P6.out.1 P6.out.2 P5.out.2.1).mono ?_); rintro _ w7 ⟨rfl, f7⟩; have D7 := Lib.hid (D6.out.fr0 f7); clear f7))
            | (go_at_call 23; ((with_reducible refine (HFA1.out _ D7.out).mono ?_); rintro _ w8 ⟨rfl, f8⟩; have D8 := Lib.hid (D7.out.fr0 f8); clear f8))
            | (go_at_call 23; ((with_reducible refine (HFA2.out _ D8.out).mono ?_); rintro _ w9 ⟨rfl, f9⟩; have D9 := Lib.hid (D8.out.fr0 f9); clear f9)))
        all_goals
          go_wp2_with fail
          go_meet
          exact ⟨rfl, D9.out⟩
      case rest =>
        obtain ⟨rfl, hd⟩ := hcut
        have HD := Lib.hid hd
        clear hd x0 x1 HADD1 HADD2 HPA1 HPA2 HFA1 HFA2 HSM
        go_wp2_with fail
        go_roundw
        case rel => exact ⟨i + 1, Y, by omega, by omega, by go_num, HD⟩
        case measure => simp [intOf]; omega
    · by_cases hi1 : (i : Int) < (m2 : Int)
      · have hi2 : decide ((i : Int) < 60) = false := decide_eq_false (by omega)
        go_wp2_with fail
        go_ret
        exact ⟨rfl, hd.out.fr⟩
      · go_wp2_with fail
        go_ret
        exact ⟨rfl, hd.out.fr⟩
end Go.Proofs.Ytibgjmlgjmnheaa
