/- Keys that are counted from behind. -/
import Derived.Test.YtocdjklgfmkbfaaDnAlive
import Derived.Test.YtocdjklgfmkbfaaDnAdds
import Derived.Deep.CutBlock
import Derived.Deep.DeepCutAuto
import Derived.Deep.CutRange
import Derived.Deep.RegionHeld3
namespace Go.Proofs.Ytocdjklgfmkbfaa
open Go.RowKit

/-- two stores of two colours, new to w -/
structure Duo (w W : World) (g1 g2 : Nat) (l1 l2 : List Pr) : Prop where
  ex : ∃ own h1 h2, Cl own 0 w W g1 h1 l1 ∧ Cl own 1 w W g2 h2 l2
  fr : Fr S0 w W
theorem Duo.fr0 {w W W' : World} {g1 g2 : Nat} {l1 l2 : List Pr} (d : Duo w W g1 g2 l1 l2) (f : Fr S0 W W') : Duo w W' g1 g2 l1 l2 :=
  let ⟨own, h1, h2, c1, c2⟩ := d.ex; ⟨⟨own, h1, h2, c1.fr0 f, c2.fr0 f⟩, d.fr.trans0 f⟩
theorem Duo.add1 {w W : World} {g1 g2 : Nat} {l1 l2 : List Pr} (d : Duo w W g1 g2 l1 l2) (k : Int) (n E : Nat) (l' : List Pr) (hn : n < 18446744073709551616) (hE : addE l1 k n = E) (hl : addL l1 k n = l') :
    Calls Try.prog 8 #[.pointer (some ⟨g1, 0, none⟩), .int .i64 k, .int .u64 (n : Nat)] W fun e w' => e = .returned (.int .i64 (E : Nat)) ∧ Duo w w' g1 g2 l' l2 := by
  obtain ⟨⟨own, h1, h2, c1, c2⟩, f⟩ := d
  exact (c1.add k n E l' hn hE hl).mono fun e w' he => let ⟨h', t⟩ := he.2; ⟨he.1, ⟨_, h', h2, c1.turn t, c2.other c1 t (by decide)⟩, c1.frame t f⟩
theorem Duo.add2 {w W : World} {g1 g2 : Nat} {l1 l2 : List Pr} (d : Duo w W g1 g2 l1 l2) (k : Int) (n E : Nat) (l' : List Pr) (hn : n < 18446744073709551616) (hE : addE l2 k n = E) (hl : addL l2 k n = l') :
    Calls Try.prog 8 #[.pointer (some ⟨g2, 0, none⟩), .int .i64 k, .int .u64 (n : Nat)] W fun e w' => e = .returned (.int .i64 (E : Nat)) ∧ Duo w w' g1 g2 l1 l' := by
  obtain ⟨⟨own, h1, h2, c1, c2⟩, f⟩ := d
  exact (c2.add k n E l' hn hE hl).mono fun e w' he => let ⟨h', t⟩ := he.2; ⟨he.1, ⟨_, h1, h', c1.other c2 t (by decide), c2.turn t⟩, c2.frame t f⟩
theorem Duo.new {w W : World} (f : Fr S0 w W) : Duo w ((W.alloc (.cells #[.int .i64 0, .int .i64 0, .int .i64 0, .slice none 0 0, .int .i64 0, .int .u64 0] 32)).alloc (.cells #[.int .i64 0, .int .i64 0, .int .i64 0, .slice none 0 0, .int .i64 0, .int .u64 0] 32)) W.heap.size (W.heap.size + 1) [] [] := by
  have c1 := Cl.new (fun _ => 0) 0 w W f
  have f1 := f.trans0 (Fr.alloc S0 W (.cells #[.int .i64 0, .int .i64 0, .int .i64 0, .slice none 0 0, .int .i64 0, .int .u64 0] 32))
  have c2 := Cl.new (tint (fun _ => 0) 0 W.heap.size) 1 w _ f1
  have c3 := c1.later (j := 1) (.cells #[.int .i64 0, .int .i64 0, .int .i64 0, .slice none 0 0, .int .i64 0, .int .u64 0] 32)
  rw [size_alloc] at c2 c3
  exact ⟨⟨_, _, _, c3, c2⟩, f1.trans0 (Fr.alloc _ _ _)⟩

theorem tells {w : World} {g h : Nat} {l : List Pr} (s : StIs w g h l) : Calls Try.prog 18 #[.pointer (some ⟨g, 0, none⟩)] w fun e w' => ∃ p c n, e = .returned (.slice p n c) ∧ PrI w' p l ∧ l.length = n ∧ Fr S0 w w' :=
  (pairs_any g h l w s).mono fun _ _ he => let ⟨p, c, n, e, hp⟩ := he; ⟨p, c, n, e, hp.pri (by have := s.ok.len; have := hp.len; omega), hp.len, hp.fr⟩
theorem Duo.pairs1 {w W : World} {g1 g2 : Nat} {l1 l2 : List Pr} (d : Duo w W g1 g2 l1 l2) : Calls Try.prog 18 #[.pointer (some ⟨g1, 0, none⟩)] W fun e w' => ∃ p c n, e = .returned (.slice p n c) ∧ PrI w' p l1 ∧ l1.length = n ∧ Fr S0 W w' := by
  obtain ⟨⟨own, h1, h2, c1, c2⟩, f⟩ := d
  exact tells c1.is
theorem Duo.pairs2 {w W : World} {g1 g2 : Nat} {l1 l2 : List Pr} (d : Duo w W g1 g2 l1 l2) : Calls Try.prog 18 #[.pointer (some ⟨g2, 0, none⟩)] W fun e w' => ∃ p c n, e = .returned (.slice p n c) ∧ PrI w' p l2 ∧ l2.length = n ∧ Fr S0 W w' := by
  obtain ⟨⟨own, h1, h2, c1, c2⟩, f⟩ := d
  exact tells c2.is
theorem Duo.total1 {w W : World} {g1 g2 : Nat} {l1 l2 : List Pr} (d : Duo w W g1 g2 l1 l2) : Calls Try.prog 19 #[.pointer (some ⟨g1, 0, none⟩)] W fun e w' => e = .returned (.int .u64 (ltot l1 : Nat)) ∧ Fr S0 W w' := by
  obtain ⟨⟨own, h1, h2, c1, c2⟩, f⟩ := d
  exact total_any _ _ _ _ c1.is
theorem Duo.total2 {w W : World} {g1 g2 : Nat} {l1 l2 : List Pr} (d : Duo w W g1 g2 l1 l2) : Calls Try.prog 19 #[.pointer (some ⟨g2, 0, none⟩)] W fun e w' => e = .returned (.int .u64 (ltot l2 : Nat)) ∧ Fr S0 W w' := by
  obtain ⟨⟨own, h1, h2, c1, c2⟩, f⟩ := d
  exact total_any _ _ _ _ c2.is

set_option maxRecDepth 100000 in
set_option maxHeartbeats 4000000 in
theorem law_order (p : Option Addr) (c m : Nat) (l : List Pr) (w : World) (hm : l.length = m) (h : PrI w p l) (h64 : ∀ x ∈ l, (-9223372036854775808 ≤ x.1 ∧ x.1 ≤ 9223372036854775807) ∧ x.2 < 18446744073709551616) :
    Calls Try.prog 4 #[.slice p m c] w fun e w' => e = .returned (.bool true) ∧ Fr S0 w w' := by
  have hw := start w
  have H := Lib.hid h
  have H64 := Lib.hid h64
  have HM := Lib.hid hm
  have hlen := h.len
  rw [hm] at hlen
  unfold maxLen at hlen
  clear h h64 hm
  by_cases h200 : (200 : Int) < (m : Int)
  · go_enter Try.func4, Try.ntmps4
    go_wp2_with fail
    refine hw _ ?_
    intro w1 f1
    clear hw
    go_wp2_with fail
    go_ret
    exact ⟨rfl, f1⟩
  have h200' : decide ((200 : Int) < (m : Int)) = false := decide_eq_false h200
  have hm2 : m ≤ 200 := by omega
  clear h200 hlen
  go_enter Try.func4, Try.ntmps4
  go_wp2_with fail
  refine hw _ ?_
  intro w1 f1
  clear hw
  have D0 := Lib.hid (Duo.new f1)
  clear f1
  go_wp2_with fail
  obtain ⟨g1, hg1⟩ : ∃ g, w1.heap.size = g := ⟨_, rfl⟩
  obtain ⟨g2, hg2⟩ : ∃ g, g1 + 1 = g := ⟨_, rfl⟩
  rw [hg1, hg2] at D0 ⊢
  clear hg1 hg2
  generalize (w1.alloc (.cells #[.int .i64 0, .int .i64 0, .int .i64 0, .slice none 0 0, .int .i64 0, .int .u64 0] 32)).alloc (.cells #[.int .i64 0, .int .i64 0, .int .i64 0, .slice none 0 0, .int .i64 0, .int .u64 0] 32) = w2 at D0 ⊢
  go_loopw [5, 6] (fun x _ wr => ∃ (i : Nat), i ≤ m ∧ x = .int .i64 i ∧ Hid (Duo w wr g1 g2 (adds ord [] (l.take i)) (adds ord [] (l.reverse.take i)))) (fun x _ _ => m - (intOf x).toNat)
  case atStart => exact ⟨0, by omega, rfl, D0⟩
  case round =>
    clear D0
    obtain ⟨i, hi, rfl, hd⟩ := hrel
    by_cases him : (i : Int) < (m : Int)
    · have hil : i < l.length := by rw [HM.out]; omega
      have hjl : m - 1 - i < l.length := by rw [HM.out]; omega
      obtain ⟨b, o, rfl, c0, -⟩ := (H.out.fr0 hd.out.fr).at i hil
      have HC : Hid (∀ W, Fr S0 w W → W.cell? ⟨b, o + i * 2 + 1, none⟩ = some (.int .u64 (l[i].2 : Int)) ∧ W.cell? ⟨b, o + (m - 1 - i) * 2, none⟩ = some (.int .i64 (l[m - 1 - i]'hjl).1) ∧ W.cell? ⟨b, o + (m - 1 - i) * 2 + 1, none⟩ = some (.int .u64 ((l[m - 1 - i]'hjl).2 : Int))) := Lib.hid fun W f => by
        obtain ⟨b', o', hp, -, c4⟩ := (H.out.fr0 f).at i hil
        obtain ⟨b'', o'', hp', c5, c6⟩ := (H.out.fr0 f).at (m - 1 - i) hjl
        simp only [Option.some.injEq, Addr.mk.injEq] at hp hp'
        obtain ⟨rfl, rfl, -⟩ := hp
        obtain ⟨rfl, rfl, -⟩ := hp'
        exact ⟨c4, c5, c6⟩
      have HS1 := Lib.hid (adds_take ord [] l i hil)
      have HS2 : Hid (adds ord [] (l.reverse.take (i + 1)) = addL (adds ord [] (l.reverse.take i)) (ord (l[m - 1 - i]'hjl)).1 (ord (l[m - 1 - i]'hjl)).2) := Lib.hid (by
        rw [adds_take ord [] l.reverse i (by rw [List.length_reverse]; exact hil), List.getElem_reverse]
        simp only [HM.out])
      have HE1 := Lib.hid (adds_err ord_small l i hil (by rw [HM.out]; omega))
      have HE2 : Hid (addE (adds ord [] (l.reverse.take i)) (ord (l[m - 1 - i]'hjl)).1 (ord (l[m - 1 - i]'hjl)).2 = if (ord (l[m - 1 - i]'hjl)).2 = 0 then 4 else 0) := Lib.hid (by
        have := adds_err ord_small l.reverse i (by rw [List.length_reverse]; exact hil) (by rw [List.length_reverse, HM.out]; omega)
        rw [List.getElem_reverse] at this
        simp only [HM.out] at this
        exact this)
      have r1 := H64.out _ (List.getElem_mem hil)
      have r2 := H64.out _ (List.getElem_mem hjl)
      obtain ⟨⟨k1, n1⟩, ht1⟩ : ∃ t, l[i] = t := ⟨_, rfl⟩
      obtain ⟨⟨k2, n2⟩, ht2⟩ : ∃ t, l[m - 1 - i]'hjl = t := ⟨_, rfl⟩
      rw [ht1] at c0 HC HS1 HE1 r1
      rw [ht2] at HC HS2 HE2 r2
      simp only at c0 HC r1 r2
      obtain ⟨K1, hK1⟩ : ∃ K, k1.tmod 4000 = K := ⟨_, rfl⟩
      obtain ⟨K2, hK2⟩ : ∃ K, k2.tmod 4000 = K := ⟨_, rfl⟩
      obtain ⟨N1, hN1⟩ : ∃ N, 1 + n1 % 1000 = N := ⟨_, rfl⟩
      obtain ⟨N2, hN2⟩ : ∃ N, 1 + n2 % 1000 = N := ⟨_, rfl⟩
      have o1 : ord (k1, n1) = (K1, N1) := by unfold ord; rw [hK1, hN1]
      have o2 : ord (k2, n2) = (K2, N2) := by unfold ord; rw [hK2, hN2]
      obtain ⟨j, hj⟩ : ∃ j, m - 1 - i = j := ⟨_, rfl⟩
      rw [o1] at HS1 HE1
      rw [o2] at HS2 HE2
      rw [if_neg (by simp only; omega)] at HE1 HE2
      rw [hj] at HC
      simp only at HS1 HS2 HE1 HE2
      obtain ⟨A1, hA1⟩ : ∃ A, adds ord [] (l.take (i + 1)) = A := ⟨_, rfl⟩
      obtain ⟨B1, hB1⟩ : ∃ B, adds ord [] (l.reverse.take (i + 1)) = B := ⟨_, rfl⟩
      have HAB := Lib.hid (And.intro hA1 hB1)
      rw [hA1] at HS1
      rw [hB1] at HS2
      obtain ⟨R1, hR1⟩ : ∃ R, n1 % 1000 = R := ⟨_, rfl⟩
      obtain ⟨R2, hR2⟩ : ∃ R, n2 % 1000 = R := ⟨_, rfl⟩
      obtain ⟨M1, hM1⟩ : ∃ M, m - 1 = M := ⟨_, rfl⟩
      have eR1 : (n1 : Int).tmod 1000 = (R1 : Int) := by rw [Int.tmod_eq_emod_of_nonneg (by omega)]; omega
      have eR2 : (n2 : Int).tmod 1000 = (R2 : Int) := by rw [Int.tmod_eq_emod_of_nonneg (by omega)]; omega
      have eN1 : IntKind.u64.wrap ((1 : Int) + (R1 : Int)) = (N1 : Int) := by rw [IntKind.wrap_u64]; omega
      have eN2 : IntKind.u64.wrap ((1 : Int) + (R2 : Int)) = (N2 : Int) := by rw [IntKind.wrap_u64]; omega
      have eM1 : IntKind.i64.wrap ((m : Int) - 1) = (M1 : Int) := by rw [IntKind.wrap_i64]; omega
      have ej : IntKind.i64.wrap ((M1 : Int) - (i : Int)) = (j : Int) := by rw [IntKind.wrap_i64]; omega
      have hjm : (j : Int) < (m : Int) := by omega
      have hN1m : N1 ≤ 1000 := by omega
      have hN2m : N2 ≤ 1000 := by omega
      have HADD1 := Lib.hid (fun W (f : Fr S0 wr W) => (hd.out.fr0 f).add1 K1 N1 0 A1 (by omega) HE1.out HS1.out.symm)
      have HADD2 := Lib.hid (fun W (d : Duo w W g1 g2 A1 (adds ord [] (l.reverse.take i))) => d.add2 K2 N2 0 B1 (by omega) HE2.out HS2.out.symm)
      obtain ⟨x0, x1, x2⟩ := HC.out wr hd.out.fr
      clear ht1 ht2 hN1 hN2 hj hR1 hR2 hM1 hil hjl o1 o2 hA1 hB1 HS1 HS2 HE1 HE2 hd
      go_upto_region 10 with fail
      go_cut [64] from 28 to 63 (fun x64 wx => x64 = .bool false ∧ Duo w wx g1 g2 A1 B1)
      case first =>
        clear hK1
        go_region_held3 (fun w' => w'.cell? ⟨b, o + i * 2 + 1, none⟩ = some (.int .u64 (n1 : Int)) ∧ w'.cell? ⟨b, o + j * 2, none⟩ = some (.int .i64 k2) ∧ w'.cell? ⟨b, o + j * 2 + 1, none⟩ = some (.int .u64 (n2 : Int)))
          (first
            | (go_split_ands; exact ⟨by assumption, by assumption, by assumption⟩)
            | exact HC.out _ D4.out.fr
            | exact HC.out _ D3.out.fr)
          (first
            | (go_at_call 8; ((with_reducible refine (HADD1.out _ (Fr.drew _ _)).mono ?_); rintro _ w3 ⟨rfl, d3⟩; have D3 := Lib.hid d3; clear d3))
            | (go_at_call 8; ((with_reducible refine (HADD2.out _ D3.out).mono ?_); rintro _ w4 ⟨rfl, d4⟩; have D4 := Lib.hid d4; clear d4)))
        all_goals
          go_wp2_with fail
          go_meet
          exact ⟨rfl, D4.out⟩
      case rest =>
        obtain ⟨rfl, hd⟩ := hcut
        have HD := Lib.hid hd
        clear hd c0 x0 x1 x2 HADD1 HADD2
        go_wp2_with fail
        go_roundw
        case rel => exact ⟨i + 1, by omega, by go_num, by rw [HAB.out.1, HAB.out.2]; exact HD⟩
        case measure => simp [intOf]; omega
    · obtain rfl : i = m := by omega
      have e1 : l.take i = l := List.take_of_length_le (by rw [HM.out]; exact Nat.le_refl _)
      have e2 : l.reverse.take i = l.reverse := List.take_of_length_le (by rw [List.length_reverse, HM.out]; exact Nat.le_refl _)
      have hAB : adds ord [] l.reverse = adds ord [] l := by
        obtain ⟨n1, k1⟩ := adds_near ord_small l.reverse [] 0 Near.nil (by rw [List.length_reverse, HM.out]; omega)
        obtain ⟨n2, k2⟩ := adds_near ord_small l [] 0 Near.nil (by rw [HM.out]; omega)
        exact n1.same n2 fun j => by rw [k1, k2, much_rev]
      rw [e1, e2, hAB] at hd
      obtain ⟨A, hA⟩ : ∃ A, adds ord [] l = A := ⟨_, rfl⟩
      rw [hA] at hd
      clear e1 e2 hAB hA
      go_wp2_with fail
      refine hd.out.pairs1.mono ?_
      rintro e w3 ⟨p3, d3, n3, rfl, i3, hn3, f3⟩
      have HD3 := Lib.hid (hd.out.fr0 f3)
      have HI3 := Lib.hid (And.intro i3 hn3)
      clear i3 hn3 f3 hd
      go_wp2_with fail
      refine HD3.out.pairs2.mono ?_
      rintro e w4 ⟨p4, d4, n4, rfl, i4, hn4, f4⟩
      obtain rfl : n3 = n4 := HI3.out.2.symm.trans hn4
      have HD4 := Lib.hid (HD3.out.fr0 f4)
      have HS := Lib.hid (rsame_yes p3 p4 n3 d3 d4 A w4 (HI3.out.1.fr0 f4) i4 hn4)
      clear HD3 HI3 i4 hn4 f4
      go_wp2_with fail
      refine HS.out.mono ?_
      rintro e w5 ⟨rfl, f5⟩
      have HD5 := Lib.hid (HD4.out.fr0 f5)
      have HT5 := Lib.hid HD5.out.total1
      clear HS f5 HD4
      obtain ⟨T, hT⟩ : ∃ T, ltot A = T := ⟨_, rfl⟩
      rw [hT] at HT5
      go_wp2_with fail
      refine HT5.out.mono ?_
      rintro e w6 ⟨rfl, f6⟩
      have HD6 := Lib.hid (HD5.out.fr0 f6)
      have HT6 := Lib.hid HD6.out.total2
      rw [hT] at HT6
      clear HT5 HD5 f6 hT
      go_wp2_with fail
      refine HT6.out.mono ?_
      rintro e w7 ⟨rfl, f7⟩
      have HF7 := Lib.hid (HD6.out.fr0 f7).fr
      clear HT6 HD6 f7
      go_wp2_with fail
      go_ret
      exact ⟨rfl, HF7.out⟩
end Go.Proofs.Ytocdjklgfmkbfaa
