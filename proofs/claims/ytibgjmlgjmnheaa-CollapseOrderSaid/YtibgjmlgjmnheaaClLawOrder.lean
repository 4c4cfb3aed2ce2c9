/- In what order keys are counted makes no difference. -/
import Derived.Test.YtibgjmlgjmnheaaClApp
namespace Go.Proofs.Ytibgjmlgjmnheaa
open Go.RowKit

theorem sml_short {l : List Pr} (h : l.length ≤ 100) : sml l = l.map fun x => (x.1.tmod 1048577, 1 + x.2 % 1000) := by
  unfold sml
  rw [List.take_of_length_le (by rw [List.length_map]; exact h)]
theorem sml_app {a b : List Pr} (h : a.length + b.length ≤ 100) : sml (a ++ b) = sml a ++ sml b := by
  rw [sml_short (l := a ++ b) (by rw [List.length_append]; exact h), sml_short (l := a) (by omega), sml_short (l := b) (by omega), List.map_append]
theorem cntd_cnt (l : List Pr) (j : Int) : cnt (cntd l) j = many (sml l) j := by
  unfold cntd
  rw [cnt_puts _ _ _ srt_nil]
  simp [cnt]
theorem cntd_merge {a b : List Pr} (h : a.length + b.length ≤ 100) : cntd (a ++ b) = lputs (cntd a) (cntd b) :=
  ext_cnt (cntd_good _).srt (putAll_srt (cntd_good a).srt _) (cntd_good _).pos (putAll_pos (cntd_good a).pos (cntd_good b).pos) fun j => by
    rw [cnt_putAll _ _ _ (cntd_good a).srt (cntd_good b).srt, cntd_cnt, cntd_cnt, cntd_cnt, sml_app h, many_app]
theorem cntd_comm (a b : List Pr) : lputs (cntd b) (cntd a) = lputs (cntd a) (cntd b) :=
  ext_cnt (putAll_srt (cntd_good b).srt _) (putAll_srt (cntd_good a).srt _) (putAll_pos (cntd_good b).pos (cntd_good a).pos) (putAll_pos (cntd_good a).pos (cntd_good b).pos) fun j => by
    rw [cnt_putAll _ _ _ (cntd_good a).srt (cntd_good b).srt, cnt_putAll _ _ _ (cntd_good b).srt (cntd_good a).srt, Nat.add_comm]
theorem cntd_perm {a b : List Pr} (p : a.Perm b) (h : a.length ≤ 100) : cntd a = cntd b :=
  ext_cnt (cntd_good a).srt (cntd_good b).srt (cntd_good a).pos (cntd_good b).pos fun j => by
    rw [cntd_cnt, cntd_cnt, sml_short h, sml_short (by rw [← p.length_eq]; exact h)]
    exact many_perm (p.map _) j
theorem cntd_back {a b : List Pr} (h : a.length + b.length ≤ 100) : cntd (b.reverse ++ a.reverse) = lputs (cntd a) (cntd b) := by
  rw [← cntd_merge h]
  exact cntd_perm (((List.reverse_perm b).append (List.reverse_perm a)).trans List.perm_append_comm) (by rw [List.length_append, List.length_reverse, List.length_reverse]; omega)
theorem takes (a b : List Pr) : takeE0 (cntd a) (cntd b) = 0 ∧ takeL0 (cntd a) (cntd b) = lputs (cntd a) (cntd b) := by
  have e : takeE0 (cntd a) (cntd b) = 0 := by
    rw [takeE0_eq, if_neg (by have := cntd_tot a; have := cntd_tot b; omega)]
  exact ⟨e, by unfold takeL0; rw [if_pos e]⟩
theorem drop_back {l : List Pr} {j : Nat} (h : j < l.length) : (l.drop j).reverse = (l.drop (j + 1)).reverse ++ [l[j]] := by rw [List.drop_eq_getElem_cons h, List.reverse_cons]

/-- what is told of two stores that count the same -/
structure Alike (w W : World) (b g : Nat) (Z : List Pr) (u : Nat → Nat) : Prop where
  one : ∃ h, Col W g h b Z
  all : ∀ k, k < 3 → ∃ h, Col W (u k) h b Z
  fr : Fr S0 w W
theorem Alike.fr0 {w W W' : World} {b g : Nat} {Z : List Pr} {u : Nat → Nat} (c : Alike w W b g Z u) (f : Fr S0 W W') : Alike w W' b g Z u :=
  ⟨c.one.imp fun _ s => s.fr0 f, fun k hk => (c.all k hk).imp fun _ s => s.fr0 f, c.fr.trans0 f⟩

set_option maxRecDepth 100000 in
set_option maxHeartbeats 8000000 in
theorem law_order (p p2 : Option Addr) (c m c2 m2 M : Nat) (l l2 : List Pr) (w : World) (hm : l.length = m) (h : PrI w p l) (h64 : ∀ x ∈ l, x.2 < 18446744073709551616) (hc : p = none → c = 0)
    (hm2 : l2.length = m2) (h2 : PrI w p2 l2) (h642 : ∀ x ∈ l2, x.2 < 18446744073709551616) (hc2 : p2 = none → c2 = 0) :
    Calls Try.prog 6 #[.int .u16 (M : Nat), .slice p m c, .slice p2 m2 c2] w fun e w' => e = .returned (.bool true) ∧ Fr S0 w w' := by
  have hw := start w
  by_cases h50 : (50 : Int) < (m : Int)
  · clear h h64 hc hm2 h2 h642 hc2 hm
    go_enter Try.func6, Try.ntmps6
    go_wp2_with fail
    refine hw _ ?_
    intro w1 f1
    clear hw
    go_wp2_with fail
    go_ret
    exact ⟨rfl, f1⟩
  have h50' : decide ((50 : Int) < (m : Int)) = false := decide_eq_false h50
  by_cases h51 : (50 : Int) < (m2 : Int)
  · clear h h64 hc hm2 h2 h642 hc2 hm
    go_enter Try.func6, Try.ntmps6
    go_wp2_with fail
    refine hw _ ?_
    intro w1 f1
    clear hw
    go_wp2_with fail
    go_ret
    exact ⟨rfl, f1⟩
  have h51' : decide ((50 : Int) < (m2 : Int)) = false := decide_eq_false h51
  obtain ⟨B0, hB0⟩ : ∃ B0, M % 30 = B0 := ⟨_, rfl⟩
  obtain ⟨b, hb⟩ : ∃ b, 2 + B0 = b := ⟨_, rfl⟩
  have eB0 : (M : Int) % 30 = (B0 : Int) := by omega
  have eB1 : (M : Int).tmod 30 = (B0 : Int) := by rw [Int.tmod_eq_emod_of_nonneg (by omega)]; omega
  have eb : (2 : Int) + (B0 : Int) = (b : Int) := by omega
  have hB0l : B0 < 30 := by omega
  have hb2 : 2 ≤ b := by omega
  have hb3 : b ≤ 31 := by omega
  have hmb : m ≤ 50 := by omega
  have hm2b : m2 ≤ 50 := by omega
  have HCT : Hid (∀ (W : World) (q : Option Addr) (d n : Nat) (k : List Pr), k.length = n → PrI W q k → (∀ x ∈ k, x.2 < 18446744073709551616) → Calls Try.prog 16 #[.int .i64 (b : Nat), .slice q n d] W fun e w' => ∃ g h q' n' d', e = .returned (.tuple #[.pointer (some ⟨g, 0, none⟩), .slice q' n' d']) ∧ Cnt W w' g h b q' n' (cntd k)) := Lib.hid fun W q d n k a1 a2 a3 => counted_any q d n b k W hb2 (by omega) a1 a2 a3
  have HA := Lib.hid (And.intro hm (And.intro h (And.intro h64 hc)))
  have HB := Lib.hid (And.intro hm2 (And.intro h2 (And.intro h642 hc2)))
  clear h h64 hc hm2 h2 h642 hc2 hm hB0 hb h50 h51
  go_enter Try.func6, Try.ntmps6
  go_wp2_with fail
  refine hw _ ?_
  intro w1 f1
  have C0 := Lib.hid (Cls.none (fun _ => 9) b f1)
  clear hw f1
  have H1 := Lib.hid (HCT.out w1 p c m l HA.out.1 (HA.out.2.1.fr0 C0.out.fr) HA.out.2.2.1)
  go_wp2_with fail
  refine H1.out.mono ?_
  rintro e w2 ⟨g1, k1, q1, n1, d1, rfl, hc1⟩
  have C1 := Lib.hid (C0.out.more hc1)
  clear hc1 H1 C0
  generalize dye _ _ _ = own1 at C1
  have H2 := Lib.hid (HCT.out w2 p2 c2 m2 l2 HB.out.1 (HB.out.2.1.fr0 C1.out.fr) HB.out.2.2.1)
  go_wp2_with fail
  refine H2.out.mono ?_
  rintro e w3 ⟨g2, k2, q2, n2, d2, rfl, hc2⟩
  have C2 := Lib.hid (C1.out.more hc2)
  clear hc2 H2 C1
  generalize dye _ _ _ = own2 at C2
  have A0 : Hid (Acc w3 (w3.alloc (.cells #[] 53)) (.slice (some ⟨w3.heap.size, 0, none⟩) 0 0) 0 []) := Lib.hid ⟨World.ownsRow_made w3 #[] 0 (Nat.zero_le _) (by decide) rfl, fresh_made (Fr.refl _ _), Fr.alloc _ _ _⟩
  have HP1 := Lib.hid (HA.out.2.1.fr0 (C2.out.fr.trans0 A0.out.fr))
  obtain ⟨mm, hmm⟩ : ∃ mm, m + m2 = mm := ⟨_, rfl⟩
  go_wp2_with (at_builtin; first | (refine app_acc (.tmp 53) (.tmp 54) A0.out HP1.out HA.out.1 HA.out.2.2.2 (Nat.zero_add m) (by omega) rfl rfl rfl rfl ?_; intro q3 d3 w4 hacc1; have A1 := Lib.hid hacc1; clear hacc1) | (refine app_acc (.tmp 55) (.tmp 56) A1.out (HB.out.2.1.fr0 (C2.out.fr.trans0 A1.out.fr)) HB.out.1 HB.out.2.2.2 hmm (by omega) rfl rfl rfl rfl ?_; intro q4 d4 w5 hacc2; have A2 := Lib.hid hacc2; clear hacc2))
  have C2' := Lib.hid (C2.out.fr0 A2.out.fr)
  clear A0 A1 HP1 C2
  have H3 := Lib.hid (HCT.out w5 q4 d4 mm (l ++ l2) (by rw [List.length_append, HA.out.1, HB.out.1, hmm]) (PrI.ofOwns (by have := A2.out.own; rwa [List.nil_append] at this) (by unfold maxLen; omega)) (fun x hx => (List.mem_append.1 hx).elim (HA.out.2.2.1 x) (HB.out.2.2.1 x)))
  go_wp2_with fail
  refine H3.out.mono ?_
  rintro e w6 ⟨g3, k3, q3', n3, d3', rfl, hc3⟩
  have C3 := Lib.hid (C2'.out.more hc3)
  clear hc3 H3 C2' A2
  generalize dye _ _ _ = own3 at C3
  go_wp2_with fail
  go_loopw [14, 15] (fun s i wr => ∃ (k n d : Nat) (q : Option Addr) (x : Int), k ≤ m2 ∧ Hid (x = (k : Int) - 1) ∧ i = .int .i64 x ∧ n + k = m2 ∧ s = .slice q n d ∧ Hid (Acc w6 wr (.slice q n d) n (l2.drop k).reverse)) (fun _ i _ => (intOf i + 1).toNat)
  case atStart => exact ⟨m2, 0, 0, none, _, Nat.le_refl _, Lib.hid rfl, rfl, by omega, rfl, Lib.hid (by rw [← HB.out.1, List.drop_length]; exact Acc.nil (Fr.refl _ _))⟩
  case round =>
    obtain ⟨k, n, d, q, x, hk, hx, rfl, hn, rfl, hacc⟩ := hrel
    by_cases hk0 : k = 0
    · subst hk0
      obtain rfl : x = -1 := by rw [hx.out]; rfl
      obtain rfl : m2 = n := by omega
      clear hx
      go_wp2_with fail
      go_loopw [14, 16] (fun s i wr => ∃ (k N d : Nat) (q : Option Addr) (x : Int), k ≤ m ∧ Hid (x = (k : Int) - 1) ∧ i = .int .i64 x ∧ N + k = m2 + m ∧ s = .slice q N d ∧ Hid (Acc w6 wr (.slice q N d) N (l2.reverse ++ (l.drop k).reverse))) (fun _ i _ => (intOf i + 1).toNat)
      case atStart => exact ⟨m, m2, d, q, _, Nat.le_refl _, Lib.hid rfl, rfl, by omega, rfl, Lib.hid (by rw [← HA.out.1, List.drop_length, List.reverse_nil, List.append_nil]; exact hacc.out)⟩
      case round =>
        clear hacc
        obtain ⟨k, N, d', q', x, hk, hx, rfl, hn', rfl, hacc⟩ := hrel
        by_cases hk0 : k = 0
        · subst hk0
          obtain rfl : x = -1 := by rw [hx.out]; rfl
          obtain ⟨NN, hNN⟩ : ∃ NN, m2 + m = NN := ⟨_, rfl⟩
          obtain rfl : N = NN := by omega
          have hacc0 := hacc.out
          rw [List.drop_zero] at hacc0
          have A4 := Lib.hid hacc0
          clear hx hacc hacc0
          have C3' := Lib.hid (C3.out.fr0 A4.out.fr)
          have H4 := Lib.hid (HCT.out wr q' d' N (l2.reverse ++ l.reverse) (by rw [List.length_append, List.length_reverse, List.length_reverse, HA.out.1, HB.out.1]; omega) (PrI.ofOwns A4.out.own (by unfold maxLen; omega)) (fun x hx => (List.mem_append.1 hx).elim (fun h => HB.out.2.2.1 x (List.mem_reverse.1 h)) (fun h => HA.out.2.2.1 x (List.mem_reverse.1 h))))
          clear C3 A4
          go_wp2_with fail
          refine H4.out.mono ?_
          rintro e w8 ⟨g4, k4, q4', n4, d4', rfl, hc4⟩
          have C4 := Lib.hid (C3'.out.more hc4)
          clear hc4 H4 C3'
          generalize dye _ _ _ = own4 at C4
          have H5 := Lib.hid (HCT.out w8 p2 c2 m2 l2 HB.out.1 (HB.out.2.1.fr0 C4.out.fr) HB.out.2.2.1)
          go_wp2_with fail
          refine H5.out.mono ?_
          rintro e w9 ⟨g5, k5, q5, n5, d5, rfl, hc5⟩
          have C5 := Lib.hid (C4.out.more hc5)
          clear hc5 H5 C4
          generalize dye _ _ _ = own5 at C5
          have H6 := Lib.hid (HCT.out w9 p c m l HA.out.1 (HA.out.2.1.fr0 C5.out.fr) HA.out.2.2.1)
          go_wp2_with fail
          refine H6.out.mono ?_
          rintro e w10 ⟨g6, k6, q6, n6, d6, rfl, hc6⟩
          have C6 := Lib.hid (C5.out.more hc6)
          clear hc6 H6 C5
          generalize dye _ _ _ = own6 at C6
          have C6' : Hid (Cls own6 w w10 b [(g1, k1, cntd l), (g2, k2, cntd l2), (g3, k3, cntd (l ++ l2)), (g4, k4, cntd (l2.reverse ++ l.reverse)), (g5, k5, cntd l2), (g6, k6, cntd l)]) := C6
          have hlen : l.length + l2.length ≤ 100 := by rw [HA.out.1, HB.out.1]; omega
          have e3 := cntd_merge hlen
          have e4 := cntd_back hlen
          obtain ⟨t1, t2⟩ := takes l l2
          obtain ⟨t3, t4⟩ := takes l2 l
          rw [cntd_comm] at t4
          have HT1 := fun W (s : Col W g1 k1 b (cntd l)) (t : Col W g2 k2 b (cntd l2)) => ctake_any g1 k1 g2 k2 b (cntd l) (cntd l2) W s t
          have HT2 := fun W (s : Col W g5 k5 b (cntd l2)) (t : Col W g6 k6 b (cntd l)) => ctake_any g5 k5 g6 k6 b (cntd l2) (cntd l) W s t
          simp only [t1, t2] at HT1
          simp only [t3, t4] at HT2
          have C7 := C6'.out
          rw [e3, e4] at C7
          obtain ⟨Z, hZ⟩ : ∃ Z, lputs (cntd l) (cntd l2) = Z := ⟨_, rfl⟩
          rw [hZ] at HT1 HT2 C7
          have HT1' := Lib.hid (HT1 w10 (C7.all 0 _ _ _ rfl).is (C7.all 1 _ _ _ rfl).is (C7.all 0 _ _ _ rfl).hl)
          have HT2' := Lib.hid HT2
          have C8 := Lib.hid C7
          clear HT1 HT2 C7 C6 C6' e3 e4 t1 t2 t3 t4 hlen hZ
          go_wp2_with fail
          refine HT1'.out.mono ?_
          rintro e w11 ⟨rfl, k1', u1⟩
          have C9' := C8.out.turn (i := 0) rfl u1
          simp only [List.set_cons_zero] at C9'
          have C9 := Lib.hid C9'
          clear u1 C9' HT1' C8
          generalize hue _ _ _ _ = own9 at C9
          have HT3 := Lib.hid (HT2'.out w11 (C9.out.all 4 _ _ _ rfl).is (C9.out.all 5 _ _ _ rfl).is (C9.out.all 4 _ _ _ rfl).hl)
          clear HT2'
          go_wp2_with fail
          refine HT3.out.mono ?_
          rintro e w12 ⟨rfl, k5', u2⟩
          have C10' := C9.out.turn (i := 4) rfl u2
          simp only [List.set_cons_zero, List.set_cons_succ] at C10'
          have AL : Hid (Alike w w12 b g1 Z (fun k => if k = 0 then g3 else if k = 1 then g4 else g5)) := Lib.hid ⟨⟨k1', (C10'.all 0 _ _ _ rfl).is⟩, fun k hk => (by
            rcases (by omega : k = 0 ∨ k = 1 ∨ k = 2) with rfl | rfl | rfl
            · exact ⟨k3, (C10'.all 2 _ _ _ rfl).is⟩
            · exact ⟨k4, (C10'.all 3 _ _ _ rfl).is⟩
            · exact ⟨k5', (C10'.all 4 _ _ _ rfl).is⟩), C10'.fr⟩
          clear u2 C10' HT3 C9
          have hbs := heap_alloc_new w12 (.cells #[.pointer (some ⟨g3, 0, none⟩), .pointer (some ⟨g4, 0, none⟩), .pointer (some ⟨g5, 0, none⟩)] 25)
          have HPT : Hid (∀ k, k < 3 → (w12.alloc (.cells #[.pointer (some ⟨g3, 0, none⟩), .pointer (some ⟨g4, 0, none⟩), .pointer (some ⟨g5, 0, none⟩)] 25)).cell? ⟨w12.heap.size, k, none⟩ = some (.pointer (some ⟨(fun k => if k = 0 then g3 else if k = 1 then g4 else g5) k, 0, none⟩))) := Lib.hid fun k hk => by
            rcases (by omega : k = 0 ∨ k = 1 ∨ k = 2) with rfl | rfl | rfl <;> (simp only [World.cell?, hbs]; rfl)
          have AL2 := Lib.hid (AL.out.fr0 (Fr.alloc S0 w12 (.cells #[.pointer (some ⟨g3, 0, none⟩), .pointer (some ⟨g4, 0, none⟩), .pointer (some ⟨g5, 0, none⟩)] 25)))
          clear hbs AL
          generalize (fun k => if k = 0 then g3 else if k = 1 then g4 else g5) = u at HPT AL2
          go_wp2_with fail
          obtain ⟨sb, hsb⟩ : ∃ sb, w12.heap.size = sb := ⟨_, rfl⟩
          rw [hsb] at HPT ⊢
          clear hsb
          generalize w12.alloc (.cells #[.pointer (some ⟨g3, 0, none⟩), .pointer (some ⟨g4, 0, none⟩), .pointer (some ⟨g5, 0, none⟩)] 25) = w13 at HPT AL2 ⊢
          go_loopw [24, 146] (fun _ i wr => ∃ k : Nat, k ≤ 3 ∧ i = .int .i64 k ∧ Hid (Fr S0 w13 wr)) (fun _ i _ => 3 - (intOf i).toNat)
          case atStart => exact ⟨0, by omega, rfl, Lib.hid (Fr.refl _ _)⟩
          case round =>
            obtain ⟨k, hk, rfl, hfr⟩ := hrel
            have AL3 := Lib.hid (AL2.out.fr0 hfr.out)
            by_cases hk3 : (k : Int) < 3
            · have s0 := hfr.out.cell (HPT.out k (by omega)) (fun h => h)
              obtain ⟨gu, hgu⟩ : ∃ gu, u k = gu := ⟨_, rfl⟩
              rw [hgu] at s0
              obtain ⟨h1, c1⟩ := AL3.out.one
              obtain ⟨h5, c5⟩ := AL3.out.all k (by omega)
              rw [hgu] at c5
              have S1 := Lib.hid c1
              have S5 := Lib.hid c5
              have HP1 := Lib.hid (cpairs_any g1 h1 b Z wr c1)
              clear c1 c5 hgu AL3
              go_wp2_with fail
              refine HP1.out.mono ?_
              rintro e v1 ⟨pa, ca, na, rfl, hpa⟩
              have R1 := Lib.hid (And.intro (S5.out.fr0 hpa.fr) (And.intro (S1.out.fr0 hpa.fr) hpa.fr))
              have P1 := Lib.hid hpa
              have HP5 := Lib.hid (cpairs_any gu h5 b Z v1 R1.out.1)
              clear hpa HP1 S1 S5
              go_wp2_with fail
              refine HP5.out.mono ?_
              rintro e v2 ⟨pc, cc, nc, rfl, hpc⟩
              have R2 := Lib.hid (And.intro (R1.out.1.fr0 hpc.fr) (And.intro (R1.out.2.1.fr0 hpc.fr) (R1.out.2.2.trans0 hpc.fr)))
              have hna : na ≤ 4096 := by have := P1.out.len; have := cut_len R2.out.1.ok.srt R2.out.1.ok.pos (by omega : 1 ≤ b); omega
              obtain rfl : na = nc := P1.out.len.symm.trans hpc.len
              have HSM := Lib.hid (rsame15_yes pa pc na ca cc _ v2 ((P1.out.pri (by omega)).fr0 hpc.fr) (hpc.pri (by omega)) P1.out.len)
              clear hpc HP5 R1 P1
              go_wp2_with fail
              refine HSM.out.mono ?_
              rintro e v3 ⟨rfl, f3⟩
              have R3 := Lib.hid (And.intro (R2.out.1.fr0 f3) (And.intro (R2.out.2.1.fr0 f3) (R2.out.2.2.trans0 f3)))
              have HF1 := Lib.hid (cfolded_any g1 h1 b Z v3 R3.out.2.1)
              clear f3 HSM R2
              go_wp2_with fail
              refine HF1.out.mono ?_
              rintro e v4 ⟨rfl, f4⟩
              have R4 := Lib.hid (And.intro (R3.out.1.fr0 f4) (And.intro (R3.out.2.1.fr0 f4) (R3.out.2.2.trans0 f4)))
              have HF5 := Lib.hid (cfolded_any gu h5 b Z v4 R4.out.1)
              clear f4 HF1 R3
              go_wp2_with fail
              refine HF5.out.mono ?_
              rintro e v5 ⟨rfl, f5⟩
              have R5 := Lib.hid (And.intro (R4.out.1.fr0 f5) (And.intro (R4.out.2.1.fr0 f5) (R4.out.2.2.trans0 f5)))
              have HG1 := Lib.hid (ctotal_any g1 h1 b Z v5 R5.out.2.1)
              clear f5 HF5 R4
              go_wp2_with fail
              refine HG1.out.mono ?_
              rintro e v6 ⟨rfl, f6⟩
              have R6 := Lib.hid (And.intro (R5.out.1.fr0 f6) (R5.out.2.2.trans0 f6))
              have HG5 := Lib.hid (ctotal_any gu h5 b Z v6 R6.out.1)
              clear f6 HG1 R5
              go_wp2_with fail
              refine HG5.out.mono ?_
              rintro e v7 ⟨rfl, f7⟩
              have R7 := Lib.hid (R6.out.2.trans0 f7)
              clear f7 HG5 R6
              go_wp2_with fail
              go_roundw
              case rel => exact ⟨k + 1, by omega, by go_num, Lib.hid (hfr.out.trans0 R7.out)⟩
              case measure => simp [intOf]; omega
            · obtain rfl : k = 3 := by omega
              go_wp2_with fail
              go_ret
              exact ⟨rfl, AL3.out.fr⟩
        · obtain ⟨j, rfl⟩ : ∃ j, k = j + 1 := ⟨k - 1, by omega⟩
          obtain rfl : x = (j : Int) := by rw [hx.out]; omega
          have hjl : j < l.length := by rw [HA.out.1]; omega
          obtain ⟨pb, po, rfl, d0, d1⟩ := (HA.out.2.1.fr0 (C3.out.fr.trans0 hacc.out.fr)).at j hjl
          have hdb := drop_back hjl
          obtain ⟨⟨tk, tn⟩, ht⟩ : ∃ t, l[j] = t := ⟨_, rfl⟩
          rw [ht] at d0 d1 hdb
          simp only at d0 d1
          have HDB := Lib.hid hdb
          have hbx := heap_alloc_new wr (.cells #[.int .i64 tk, .int .u64 (tn : Int)] 53)
          have HPX := Lib.hid (pri_one hbx)
          have HAX := Lib.hid (hacc.out.fr0 (Fr.alloc S0 wr (.cells #[.int .i64 tk, .int .u64 (tn : Int)] 53)))
          have hjm : (j : Int) < (m : Int) := by omega
          clear hx hk0 hacc ht hdb hbx
          go_wp2_with (at_builtin; refine app_acc (m := 1) (M := N + 1) (.tmp 82) (.tmp 87) HAX.out HPX.out rfl (fun h => by cases h) rfl (by omega) rfl rfl rfl rfl ?_; intro q5 d5 w7 hacc5; have A5 := Lib.hid hacc5; clear hacc5)
          go_roundw
          case rel => exact ⟨j, N + 1, d5, q5, _, by omega, Lib.hid rfl, by go_num, by omega, rfl, Lib.hid (by rw [HDB.out, ← List.append_assoc]; exact A5.out)⟩
          case measure => simp [intOf]
    · obtain ⟨j, rfl⟩ : ∃ j, k = j + 1 := ⟨k - 1, by omega⟩
      obtain rfl : x = (j : Int) := by rw [hx.out]; omega
      have hjl : j < l2.length := by rw [HB.out.1]; omega
      obtain ⟨pb, po, rfl, d0, d1⟩ := (HB.out.2.1.fr0 (C3.out.fr.trans0 hacc.out.fr)).at j hjl
      have hdb := drop_back hjl
      obtain ⟨⟨tk, tn⟩, ht⟩ : ∃ t, l2[j] = t := ⟨_, rfl⟩
      rw [ht] at d0 d1 hdb
      simp only at d0 d1
      have HDB := Lib.hid hdb
      have hbx := heap_alloc_new wr (.cells #[.int .i64 tk, .int .u64 (tn : Int)] 53)
      have HPX := Lib.hid (pri_one hbx)
      have HAX := Lib.hid (hacc.out.fr0 (Fr.alloc S0 wr (.cells #[.int .i64 tk, .int .u64 (tn : Int)] 53)))
      have hjm : (j : Int) < (m2 : Int) := by omega
      clear hx hk0 hacc ht hdb hbx
      go_wp2_with (at_builtin; refine app_acc (m := 1) (M := n + 1) (.tmp 68) (.tmp 73) HAX.out HPX.out rfl (fun h => by cases h) rfl (by omega) rfl rfl rfl rfl ?_; intro q5 d5 w7 hacc5; have A5 := Lib.hid hacc5; clear hacc5)
      go_roundw
      case rel => exact ⟨j, n + 1, d5, q5, _, by omega, Lib.hid rfl, by go_num, by omega, rfl, Lib.hid (by rw [HDB.out]; exact A5.out)⟩
      case measure => simp [intOf]
end Go.Proofs.Ytibgjmlgjmnheaa
