/- The document's histograms: one takes another. -/
import Derived.Test.YthfcfmnaiopogaaGreatHrEnds
namespace Go.Proofs.YthfcfmnaiopogaaGreat
open Go.RowKit

/-- the document's histogram g while it is turned -/
structure RMid (w W : World) (g : Nat) (p p' : Option Addr) (n c : Nat) (M : Hm) (b : Nat) (l : List Pr) : Prop where
  blk : W.heap[g]? = some (.cells (rcells M b p' n c) 49 (0, 0))
  pri : PrI W p' l
  len : l.length = n
  off : ∀ a, p' = some a → a.block ≠ g
  row : p' = p ∨ ∀ a, p' = some a → w.heap.size ≤ a.block ∧ a.block < W.heap.size
  fr : Fr (· = g) w W
section
variable {w W W' : World} {g : Nat} {p p' : Option Addr} {n c b : Nat} {M : Hm} {l : List Pr}
theorem RefIs.mid (s : RefIs w g p n c M) : RMid w w g p p n c M M.b M.l := ⟨s.blk, s.pri, s.len, s.off, .inl rfl, Fr.refl _ _⟩
theorem RMid.fr0 (h : RMid w W g p p' n c M b l) (f : Fr S0 W W') : RMid w W' g p p' n c M b l :=
  ⟨f.row h.blk (fun h => h), h.pri.fr0 f, h.len, h.off, h.row.imp id fun r a ha => ⟨(r a ha).1, Nat.lt_of_lt_of_le (r a ha).2 f.size⟩, h.fr.trans0 f⟩
theorem RMid.c6 (h : RMid w W g p p' n c M b l) : W.cell? ⟨g, 6, none⟩ = some (.int .i64 (b : Nat)) := by simp [World.cell?, h.blk, rcells]
theorem RMid.c7 (h : RMid w W g p p' n c M b l) : W.cell? ⟨g, 7, none⟩ = some (.slice p' n c) := by simp [World.cell?, h.blk, rcells]
theorem RMid.z (h : RMid w W g p p' n c M b l) (k : Nat) : W.frozen? ⟨g, k, none⟩ = false := by simp [World.frozen?, h.blk]
theorem RMid.set7 {q : Option Addr} {n' c' : Nat} {l' : List Pr} (h : RMid w W g p p' n c M b l) (hg : g < w.heap.size) (hp : PrI W q l') (hl : l'.length = n') (hq : ∀ a, q = some a → w.heap.size ≤ a.block ∧ a.block < W.heap.size) :
    RMid w (W.setCell ⟨g, 7, none⟩ (.slice q n' c')) g p q n' c' M b l' := by
  have hst : Fr (· = g) W (W.setCell ⟨g, 7, none⟩ (.slice q n' c')) := Fr.setCell (· = g) _ _ _ rfl
  exact ⟨by rw [heap_setCell_same W g 7 _ _ _ h.blk]; rfl, hp.fr hst (fun a ha e => by have h1 := (hq a ha).1; have h2 : a.block = g := e; omega), hl, fun a ha e => by have h1 := (hq a ha).1; omega,
    .inr fun a ha => ⟨(hq a ha).1, Nat.lt_of_lt_of_le (hq a ha).2 hst.size⟩, h.fr.trans hst fun _ _ h => h⟩
theorem RMid.set6 {b' : Nat} (h : RMid w W g p p' n c M b l) : RMid w (W.setCell ⟨g, 6, none⟩ (.int .i64 (b' : Nat))) g p p' n c M b' l := by
  have hst : Fr (· = g) W (W.setCell ⟨g, 6, none⟩ (.int .i64 (b' : Nat))) := Fr.setCell (· = g) _ _ _ rfl
  exact ⟨by rw [heap_setCell_same W g 6 _ _ _ h.blk]; rfl, h.pri.fr hst (fun a ha e => h.off a ha e), h.len, h.off, h.row.imp id fun r a ha => ⟨(r a ha).1, Nat.lt_of_lt_of_le (r a ha).2 hst.size⟩, h.fr.trans hst fun _ _ h => h⟩
theorem RMid.turn {M' : Hm} (h : RMid w W g p p' n c M b l) (e : M' = { M with b := b, l := l }) (hg : M'.Good) : RTurn w W g p p' n c M' := by
  subst e
  exact ⟨⟨h.blk, h.pri, h.len, h.off, hg⟩, h.fr, h.row⟩
end
theorem len_put_le : ∀ (l : List Pr) (x : Int) (n : Nat), (lput l x n).length ≤ l.length + 1
  | [], _, _ => Nat.le_refl _
  | y :: r, x, n => by
    have ih := len_put_le r x n
    rw [lput]
    split
    · simp only [List.length_cons]; omega
    · split <;> simp only [List.length_cons] <;> omega
theorem len_puts_le (l : List Pr) : ∀ (m : List Pr), (lputs l m).length ≤ l.length + m.length := by
  intro m
  induction m generalizing l with
  | nil => exact Nat.le_refl _
  | cons x m ih =>
    have h1 := ih (lput l x.1 x.2)
    have h2 := len_put_le l x.1 x.2
    show (lputs (lput l x.1 x.2) m).length ≤ _
    simp only [List.length_cons]; omega

section
variable (g q : Nat) (p p2 : Option Addr) (k c k2 c2 : Nat) (M G : Hm) (w : World) (s : RefIs w g p k c M) (t : RefIs w q p2 k2 c2 G)
include s t
set_option maxRecDepth 100000 in
set_option maxHeartbeats 1000000 in
theorem htake_kind (h : ¬ M.like G) : Calls Tryz.prog 55 #[.pointer (some ⟨g, 0, none⟩), .pointer (some ⟨q, 0, none⟩)] w fun e w' => e = .returned (.int .i64 3) ∧ Fr S0 w w' := by
  have c0 := s.c0
  have c1 := s.c1
  have c2 := s.c2
  have c5 := s.c5
  have d0 := t.c0
  have d1 := t.c1
  have d2 := t.c2
  have d5 := t.c5
  unfold Hm.like at h
  obtain ⟨L, eL⟩ : ∃ L, M.L = L := ⟨_, rfl⟩
  obtain ⟨H, eH⟩ : ∃ H, M.H = H := ⟨_, rfl⟩
  obtain ⟨D, eD⟩ : ∃ D, M.D = D := ⟨_, rfl⟩
  obtain ⟨r, er⟩ : ∃ r, M.gr = r := ⟨_, rfl⟩
  obtain ⟨L', eL'⟩ : ∃ L, G.L = L := ⟨_, rfl⟩
  obtain ⟨H', eH'⟩ : ∃ H, G.H = H := ⟨_, rfl⟩
  obtain ⟨D', eD'⟩ : ∃ D, G.D = D := ⟨_, rfl⟩
  obtain ⟨r', er'⟩ : ∃ r, G.gr = r := ⟨_, rfl⟩
  rw [eL, eH, eD, er, eL', eH', eD', er'] at h
  rw [eL] at c0
  rw [eH] at c1
  rw [eD] at c2
  rw [er] at c5
  rw [eL'] at d0
  rw [eH'] at d1
  rw [eD'] at d2
  rw [er'] at d5
  clear s t eL eH eD er eL' eH' eD' er'
  by_cases hL : L' = L
  · subst hL
    by_cases hH : H' = H
    · subst hH
      by_cases hD : D' = D
      · subst hD
        have hr : r' ≠ r := fun e => h ⟨rfl, rfl, rfl, e⟩
        clear h
        cases r <;> cases r' <;> simp at hr
        all_goals
          go_enter Tryz.func55, Tryz.ntmps55
          go_upto_region 20 with fail
          go_quiet (fail)
          go_wp2_with fail
          go_ret
          exact ⟨rfl, Fr.drewN _ _ _⟩
      · have hne : ((D' : Int) == (D : Int)) = false := by rw [beq_eq_false_iff_ne]; omega
        clear h
        go_enter Tryz.func55, Tryz.ntmps55
        go_upto_region 20 with fail
        go_quiet (fail)
        go_wp2_with fail
        go_ret
        exact ⟨rfl, Fr.drewN _ _ _⟩
    · have hne : ((H' : Int) == (H : Int)) = false := by rw [beq_eq_false_iff_ne]; omega
      clear h
      go_enter Tryz.func55, Tryz.ntmps55
      go_upto_region 20 with fail
      go_quiet (fail)
      go_wp2_with fail
      go_ret
      exact ⟨rfl, Fr.drewN _ _ _⟩
  · have hne : ((L' : Int) == (L : Int)) = false := by rw [beq_eq_false_iff_ne]; omega
    clear h
    go_enter Tryz.func55, Tryz.ntmps55
    go_upto_region 20 with fail
    go_quiet (fail)
    go_wp2_with fail
    go_ret
    exact ⟨rfl, Fr.drewN _ _ _⟩

set_option maxRecDepth 100000 in
set_option maxHeartbeats 1000000 in
theorem htake_cap (h : M.like G) (hcap : 4611686018427387904 - ltot M.l < ltot G.l) : Calls Tryz.prog 55 #[.pointer (some ⟨g, 0, none⟩), .pointer (some ⟨q, 0, none⟩)] w fun e w' => e = .returned (.int .i64 6) ∧ Fr S0 w w' := by
  obtain ⟨eL, eH, eD, er⟩ := h
  have htm := s.good.tot
  have htg := t.good.tot
  have a0 := s.c0
  have a1 := s.c1
  have a2 := s.c2
  have a5 := s.c5
  have a7 := s.c7
  have d0 := t.c0
  have d1 := t.c1
  have d2 := t.c2
  have d5 := t.c5
  have d7 := t.c7
  rw [eL] at d0
  rw [eH] at d1
  rw [eD] at d2
  rw [er] at d5
  have HTM := Lib.hid (fun W (f : Fr S0 w W) => rtotal_any p k c M.l W (s.pri.fr0 f) s.len (by omega))
  have HTG := Lib.hid (fun W (f : Fr S0 w W) => rtotal_any p2 k2 c2 G.l W (t.pri.fr0 f) t.len (by omega))
  have HC := Lib.hid (fun W (f : Fr S0 w W) => And.intro (f.cell a7 (fun h => h)) (f.cell d7 (fun h => h)))
  obtain ⟨A, eA⟩ : ∃ A, ltot M.l = A := ⟨_, rfl⟩
  obtain ⟨B, eB⟩ : ∃ B, ltot G.l = B := ⟨_, rfl⟩
  rw [eA] at HTM htm hcap
  rw [eB] at HTG htg hcap
  obtain ⟨R, eR⟩ : ∃ R, 4611686018427387904 - A = R := ⟨_, rfl⟩
  rw [eR] at hcap
  have e1 : (4611686018427387904 : Int) - (A : Int) = (R : Int) := by omega
  have w1 : IntKind.u64.wrap (R : Int) = (R : Int) := by rw [IntKind.wrap_u64]; omega
  cases hr : M.gr <;> rw [hr] at a5 d5
  · clear s t eA eB eR eL eH eD er hr htm htg
    go_enter Tryz.func55, Tryz.ntmps55
    go_upto_region 20 with fail
    go_quiet (fail)
    obtain ⟨u7, v7⟩ := HC.out _ (Fr.drewN _ _ nq)
    have HC7 := Lib.hid (And.intro u7 v7)
    go_upto_region 12 with fail
    go_region_held3 (fun w' => w'.cell? ⟨g, 7, none⟩ = some (.slice p k c) ∧ w'.cell? ⟨q, 7, none⟩ = some (.slice p2 k2 c2))
      (first
        | (go_split_ands; exact ⟨by assumption, by assumption⟩)
        | exact HC7.out
        | (go_split_ands; exact ⟨f9.cell (by assumption) (fun h => h), f9.cell (by assumption) (fun h => h)⟩)
        | fail)
      (first
        | (go_at_call 19; ((with_reducible refine (HTG.out _ (Fr.drewN S0 w (nq + 1))).mono ?_); rintro _ w3 ⟨rfl, f9⟩; have F3 := Lib.hid ((Fr.drewN S0 w (nq + 1)).trans0 f9)))
        | (go_at_call 19; ((with_reducible refine (HTM.out _ F3.out).mono ?_); rintro _ w4 ⟨rfl, f9⟩; have F4 := Lib.hid (F3.out.trans0 f9)))
        | fail)
    go_wp2_with fail
    go_ret
    exact ⟨rfl, F4.out⟩
  · clear s t eA eB eR eL eH eD er hr htm htg
    go_enter Tryz.func55, Tryz.ntmps55
    go_upto_region 20 with fail
    go_quiet (fail)
    obtain ⟨u7, v7⟩ := HC.out _ (Fr.drewN _ _ nq)
    have HC7 := Lib.hid (And.intro u7 v7)
    go_upto_region 12 with fail
    go_region_held3 (fun w' => w'.cell? ⟨g, 7, none⟩ = some (.slice p k c) ∧ w'.cell? ⟨q, 7, none⟩ = some (.slice p2 k2 c2))
      (first
        | (go_split_ands; exact ⟨by assumption, by assumption⟩)
        | exact HC7.out
        | (go_split_ands; exact ⟨f9.cell (by assumption) (fun h => h), f9.cell (by assumption) (fun h => h)⟩)
        | fail)
      (first
        | (go_at_call 19; ((with_reducible refine (HTG.out _ (Fr.drewN S0 w (nq + 1))).mono ?_); rintro _ w3 ⟨rfl, f9⟩; have F3 := Lib.hid ((Fr.drewN S0 w (nq + 1)).trans0 f9)))
        | (go_at_call 19; ((with_reducible refine (HTM.out _ F3.out).mono ?_); rintro _ w4 ⟨rfl, f9⟩; have F4 := Lib.hid (F3.out.trans0 f9)))
        | fail)
    go_wp2_with fail
    go_ret
    exact ⟨rfl, F4.out⟩

set_option maxRecDepth 100000 in
set_option maxHeartbeats 2000000 in
theorem htake_yes (h : M.like G) (hcap : ltot G.l ≤ 4611686018427387904 - ltot M.l) (hk : k + k2 ≤ 90000) (hoff : ∀ a, p2 = some a → a.block ≠ g)
    (hb : ∀ W p' n' c' l', RMid w W g p p' n' c' M M.b l' → W.cell? ⟨q, 6, none⟩ = some (.int .i64 (G.b : Nat))) :
    Calls Tryz.prog 55 #[.pointer (some ⟨g, 0, none⟩), .pointer (some ⟨q, 0, none⟩)] w fun e w' => e = .returned (.int .i64 0) ∧ ∃ p' n' c', RTurn w w' g p p' n' c' (M.taken G) := by
  have hGood : (M.taken G).Good := by
    have := Hm.Good.take s.good t.good
    unfold Hm.take at this
    rwa [if_pos (by unfold Hm.takeE; rw [if_neg (fun hn => hn h), if_neg (by omega)])] at this
  obtain ⟨eL, eH, eD, er⟩ := h
  have htm := s.good.tot
  have htg := t.good.tot
  have a0 := s.c0
  have a1 := s.c1
  have a2 := s.c2
  have a5 := s.c5
  have a7 := s.c7
  have d0 := t.c0
  have d1 := t.c1
  have d2 := t.c2
  have d5 := t.c5
  have d7 := t.c7
  rw [eL] at d0
  rw [eH] at d1
  rw [eD] at d2
  rw [er] at d5
  have HTM := Lib.hid (fun W (f : Fr S0 w W) => rtotal_any p k c M.l W (s.pri.fr0 f) s.len (by omega))
  have HTG := Lib.hid (fun W (f : Fr S0 w W) => rtotal_any p2 k2 c2 G.l W (t.pri.fr0 f) t.len (by omega))
  have HC := Lib.hid (fun W (f : Fr S0 w W) => And.intro (f.cell a7 (fun h => h)) (f.cell d7 (fun h => h)))
  have HMID := Lib.hid s.mid
  have HB := Lib.hid hb
  have HGL := Lib.hid s.lt
  have HAT := Lib.hid (fun W (f : Fr (· = g) w W) => (t.pri.fr f (fun a ha e => hoff a ha e)).at)
  have HLG := Lib.hid t.len
  have HLM := Lib.hid s.len
  have HLEN := Lib.hid (fun j => Nat.le_trans (len_puts_le M.l (G.l.take j)) (Nat.add_le_add_left (List.length_take_le' _ _) _))
  have HTOT := Lib.hid (fun j (hj : j < G.l.length) => show ltot (lputs M.l (G.l.take j)) + (G.l[j]).2 < 18446744073709551616 by
    rw [tot_putAll]
    have e1 := tot_take hj
    have e2 := tot_take_le G.l (j + 1)
    omega)
  have HNX := Lib.hid (fun j (hj : j < G.l.length) => show lputs M.l (G.l.take (j + 1)) = lput (lputs M.l (G.l.take j)) (G.l[j]).1 (G.l[j]).2 by
    rw [List.take_succ_eq_append_getElem hj, putAll_snoc])
  have HGOOD := Lib.hid hGood
  obtain ⟨A, eA⟩ : ∃ A, ltot M.l = A := ⟨_, rfl⟩
  obtain ⟨B, eB⟩ : ∃ B, ltot G.l = B := ⟨_, rfl⟩
  rw [eA] at HTM htm hcap
  rw [eB] at HTG htg hcap
  obtain ⟨R, eR⟩ : ∃ R, 4611686018427387904 - A = R := ⟨_, rfl⟩
  rw [eR] at hcap
  have e1 : (4611686018427387904 : Int) - (A : Int) = (R : Int) := by omega
  have w1 : IntKind.u64.wrap (R : Int) = (R : Int) := by rw [IntKind.wrap_u64]; omega
  have dcap : decide (R < B) = false := decide_eq_false (by omega)
  have HBS := Lib.hid (show (M.b : Nat) ≤ 64 ∧ G.b ≤ 64 from ⟨by have := s.good.b1; omega, by have := t.good.b1; omega⟩)
  cases hr : M.gr <;> rw [hr] at a5 d5
  · clear s t eA eB eR eL eH eD er hr htm htg hGood hb hoff
    go_enter Tryz.func55, Tryz.ntmps55
    go_upto_region 20 with fail
    go_quiet (fail)
    obtain ⟨u7, v7⟩ := HC.out _ (Fr.drewN _ _ nq)
    have HC7 := Lib.hid (And.intro u7 v7)
    go_upto_region 12 with fail
    go_region_held3 (fun w' => w'.cell? ⟨g, 7, none⟩ = some (.slice p k c) ∧ w'.cell? ⟨q, 7, none⟩ = some (.slice p2 k2 c2))
      (first
        | (go_split_ands; exact ⟨by assumption, by assumption⟩)
        | exact HC7.out
        | (go_split_ands; exact ⟨f9.cell (by assumption) (fun h => h), f9.cell (by assumption) (fun h => h)⟩)
        | fail)
      (first
        | (go_at_call 19; ((with_reducible refine (HTG.out _ (Fr.drewN S0 w (nq + 1))).mono ?_); rintro _ w3 ⟨rfl, f9⟩; have F3 := Lib.hid ((Fr.drewN S0 w (nq + 1)).trans0 f9)))
        | (go_at_call 19; ((with_reducible refine (HTM.out _ F3.out).mono ?_); rintro _ w4 ⟨rfl, f9⟩; have F4 := Lib.hid (F3.out.trans0 f9)))
        | fail)
    have v8 := (HC.out _ F4.out).2
    go_wp2_with fail
    have HM4 := Lib.hid (HMID.out.fr0 F4.out)
    clear v8 HC7 u7 v7 HTM HTG HC a0 a1 a2 a5 a7 d0 d1 d2 d5 d7 F3 F4 HMID
    go_loopw [6] (fun y wr => ∃ (i : Nat) (p' : Option Addr) (n' c' : Nat), y = .int .i64 (i : Int) ∧ i ≤ k2 ∧ Hid (RMid w wr g p p' n' c' M M.b (lputs M.l (G.l.take i)))) (fun y _ => k2 - (intOf y).toNat)
    case atStart => exact ⟨0, p, k, c, rfl, by omega, Lib.hid HM4.out⟩
    case round =>
      obtain ⟨i, p', n', c', rfl, hi, hm⟩ := hrel
      by_cases hik : i < k2
      · have hil : i < G.l.length := by rw [HLG.out]; exact hik
        obtain ⟨b, o, rfl, k0, k1⟩ := HAT.out _ hm.out.fr i hil
        have hlen := HLEN.out i
        have hlt := len_put_le (lputs M.l (G.l.take i)) (G.l[i]).1 (G.l[i]).2
        rw [HLM.out, HLG.out] at hlen
        have hln := hm.out.len
        rw [hln] at hlen hlt
        have htt := HTOT.out i hil
        have hnx := HNX.out i hil
        have u7 := hm.out.c7
        obtain ⟨K, eK⟩ : ∃ K, (G.l[i]).1 = K := ⟨_, rfl⟩
        obtain ⟨C, eC⟩ : ∃ C, (G.l[i]).2 = C := ⟨_, rfl⟩
        rw [eK] at k0 hnx hlt
        rw [eC] at k1 hnx htt hlt
        have HP := Lib.hid (fun W (f : Fr S0 wr W) => rput_any p' n' c' C K _ W (hm.out.pri.fr0 f) hln (by omega) htt)
        have HZ := Lib.hid (fun W (f : Fr S0 wr W) => And.intro (hm.out.fr0 f).c7 ((hm.out.fr0 f).z 7))
        have HNX2 := Lib.hid hnx
        have HSZ := Lib.hid hm.out.fr.size
        have hin : (i : Int) < (k2 : Int) := by omega
        have hn9 : n' ≤ 90000 := by omega
        clear hlen hln htt hnx eK eC
        go_upto_region 19 with fail
        go_region_law (first
          | (go_simp; go_at_call 102; (with_reducible refine (HP.out _ (Fr.drew S0 wr)).mono ?_); rintro _ w5 ⟨v5, N5, rfl, hacc⟩; have hlp := hacc.len; obtain ⟨p5, n5, c5, rfl, hl5, hp5, hf5⟩ := hacc.form (by omega); have HA := Lib.hid (And.intro hl5 (And.intro hp5 (And.intro (show ∀ a, p5 = some a → wr.heap.size ≤ a.block ∧ a.block < w5.heap.size from hf5) ((Fr.drew S0 wr).trans0 hacc.fr)))); obtain ⟨d7, dz⟩ := HZ.out _ ((Fr.drew S0 wr).trans0 hacc.fr); clear hacc hl5 hp5 hf5 hlp)
          | fail)
        all_goals
          go_wp2_with fail
          go_roundw
          case rel =>
            obtain ⟨hl5, hp5, hf5, hfr⟩ := HA.out
            refine ⟨i + 1, p5, n5, c5, by go_num, by omega, Lib.hid ?_⟩
            rw [HNX2.out]
            exact (hm.out.fr0 hfr).set7 HGL.out hp5 hl5 (fun a ha => ⟨Nat.le_trans HSZ.out (hf5 a ha).1, (hf5 a ha).2⟩)
          case measure => simp [intOf]; omega
      · obtain rfl : i = k2 := by omega
        have hml := hm.out
        rw [List.take_of_length_le (by rw [HLG.out]; exact Nat.le_refl _)] at hml
        have HM := Lib.hid hml
        have u6 := hml.c6
        have v6 := HB.out _ _ _ _ _ hml
        have z6 := hml.z 6
        have hbs := HBS.out
        obtain ⟨B1, eB1⟩ : ∃ B1, M.b = B1 := ⟨_, rfl⟩
        obtain ⟨B2, eB2⟩ : ∃ B2, G.b = B2 := ⟨_, rfl⟩
        obtain ⟨X, eX⟩ : ∃ X, max B1 B2 = X := ⟨_, rfl⟩
        have HX := Lib.hid (show (M.taken G) = { M with b := X, l := lputs M.l G.l } by unfold Hm.taken; rw [eB1, eB2, eX])
        rw [eB1] at u6 hbs
        rw [eB2] at v6 hbs
        have em : max (B1 : Int) (B2 : Int) = (X : Int) := by omega
        have em2 : (if (B1 : Int) < (B2 : Int) then (B2 : Int) else (B1 : Int)) = (X : Int) := by split <;> omega
        clear hml hm HB HBS HTOT HNX HLEN HLM HAT HM4 hi hik eX
        go_upto_region 13 with fail
        go_region
        go_wp2_with fail
        go_ret
        first
          | exact ⟨rfl, p', n', c', ((HM.out.fr0 (Fr.drew S0 wr)).set6 (b' := X)).turn HX.out HGOOD.out⟩
          | exact ⟨rfl, p', n', c', ((HM.out.set6 (b' := X)).fr0 (Fr.drew S0 _)).turn HX.out HGOOD.out⟩
          | fail
  · clear s t eA eB eR eL eH eD er hr htm htg hGood hb hoff
    go_enter Tryz.func55, Tryz.ntmps55
    go_upto_region 20 with fail
    go_quiet (fail)
    obtain ⟨u7, v7⟩ := HC.out _ (Fr.drewN _ _ nq)
    have HC7 := Lib.hid (And.intro u7 v7)
    go_upto_region 12 with fail
    go_region_held3 (fun w' => w'.cell? ⟨g, 7, none⟩ = some (.slice p k c) ∧ w'.cell? ⟨q, 7, none⟩ = some (.slice p2 k2 c2))
      (first
        | (go_split_ands; exact ⟨by assumption, by assumption⟩)
        | exact HC7.out
        | (go_split_ands; exact ⟨f9.cell (by assumption) (fun h => h), f9.cell (by assumption) (fun h => h)⟩)
        | fail)
      (first
        | (go_at_call 19; ((with_reducible refine (HTG.out _ (Fr.drewN S0 w (nq + 1))).mono ?_); rintro _ w3 ⟨rfl, f9⟩; have F3 := Lib.hid ((Fr.drewN S0 w (nq + 1)).trans0 f9)))
        | (go_at_call 19; ((with_reducible refine (HTM.out _ F3.out).mono ?_); rintro _ w4 ⟨rfl, f9⟩; have F4 := Lib.hid (F3.out.trans0 f9)))
        | fail)
    have v8 := (HC.out _ F4.out).2
    go_wp2_with fail
    have HM4 := Lib.hid (HMID.out.fr0 F4.out)
    clear v8 HC7 u7 v7 HTM HTG HC a0 a1 a2 a5 a7 d0 d1 d2 d5 d7 F3 F4 HMID
    go_loopw [6] (fun y wr => ∃ (i : Nat) (p' : Option Addr) (n' c' : Nat), y = .int .i64 (i : Int) ∧ i ≤ k2 ∧ Hid (RMid w wr g p p' n' c' M M.b (lputs M.l (G.l.take i)))) (fun y _ => k2 - (intOf y).toNat)
    case atStart => exact ⟨0, p, k, c, rfl, by omega, Lib.hid HM4.out⟩
    case round =>
      obtain ⟨i, p', n', c', rfl, hi, hm⟩ := hrel
      by_cases hik : i < k2
      · have hil : i < G.l.length := by rw [HLG.out]; exact hik
        obtain ⟨b, o, rfl, k0, k1⟩ := HAT.out _ hm.out.fr i hil
        have hlen := HLEN.out i
        have hlt := len_put_le (lputs M.l (G.l.take i)) (G.l[i]).1 (G.l[i]).2
        rw [HLM.out, HLG.out] at hlen
        have hln := hm.out.len
        rw [hln] at hlen hlt
        have htt := HTOT.out i hil
        have hnx := HNX.out i hil
        have u7 := hm.out.c7
        obtain ⟨K, eK⟩ : ∃ K, (G.l[i]).1 = K := ⟨_, rfl⟩
        obtain ⟨C, eC⟩ : ∃ C, (G.l[i]).2 = C := ⟨_, rfl⟩
        rw [eK] at k0 hnx hlt
        rw [eC] at k1 hnx htt hlt
        have HP := Lib.hid (fun W (f : Fr S0 wr W) => rput_any p' n' c' C K _ W (hm.out.pri.fr0 f) hln (by omega) htt)
        have HZ := Lib.hid (fun W (f : Fr S0 wr W) => And.intro (hm.out.fr0 f).c7 ((hm.out.fr0 f).z 7))
        have HNX2 := Lib.hid hnx
        have HSZ := Lib.hid hm.out.fr.size
        have hin : (i : Int) < (k2 : Int) := by omega
        have hn9 : n' ≤ 90000 := by omega
        clear hlen hln htt hnx eK eC
        go_upto_region 19 with fail
        go_region_law (first
          | (go_simp; go_at_call 102; (with_reducible refine (HP.out _ (Fr.drew S0 wr)).mono ?_); rintro _ w5 ⟨v5, N5, rfl, hacc⟩; have hlp := hacc.len; obtain ⟨p5, n5, c5, rfl, hl5, hp5, hf5⟩ := hacc.form (by omega); have HA := Lib.hid (And.intro hl5 (And.intro hp5 (And.intro (show ∀ a, p5 = some a → wr.heap.size ≤ a.block ∧ a.block < w5.heap.size from hf5) ((Fr.drew S0 wr).trans0 hacc.fr)))); obtain ⟨d7, dz⟩ := HZ.out _ ((Fr.drew S0 wr).trans0 hacc.fr); clear hacc hl5 hp5 hf5 hlp)
          | fail)
        all_goals
          go_wp2_with fail
          go_roundw
          case rel =>
            obtain ⟨hl5, hp5, hf5, hfr⟩ := HA.out
            refine ⟨i + 1, p5, n5, c5, by go_num, by omega, Lib.hid ?_⟩
            rw [HNX2.out]
            exact (hm.out.fr0 hfr).set7 HGL.out hp5 hl5 (fun a ha => ⟨Nat.le_trans HSZ.out (hf5 a ha).1, (hf5 a ha).2⟩)
          case measure => simp [intOf]; omega
      · obtain rfl : i = k2 := by omega
        have hml := hm.out
        rw [List.take_of_length_le (by rw [HLG.out]; exact Nat.le_refl _)] at hml
        have HM := Lib.hid hml
        have u6 := hml.c6
        have v6 := HB.out _ _ _ _ _ hml
        have z6 := hml.z 6
        have hbs := HBS.out
        obtain ⟨B1, eB1⟩ : ∃ B1, M.b = B1 := ⟨_, rfl⟩
        obtain ⟨B2, eB2⟩ : ∃ B2, G.b = B2 := ⟨_, rfl⟩
        obtain ⟨X, eX⟩ : ∃ X, max B1 B2 = X := ⟨_, rfl⟩
        have HX := Lib.hid (show (M.taken G) = { M with b := X, l := lputs M.l G.l } by unfold Hm.taken; rw [eB1, eB2, eX])
        rw [eB1] at u6 hbs
        rw [eB2] at v6 hbs
        have em : max (B1 : Int) (B2 : Int) = (X : Int) := by omega
        have em2 : (if (B1 : Int) < (B2 : Int) then (B2 : Int) else (B1 : Int)) = (X : Int) := by split <;> omega
        clear hml hm HB HBS HTOT HNX HLEN HLM HAT HM4 hi hik eX
        go_upto_region 13 with fail
        go_region
        go_wp2_with fail
        go_ret
        first
          | exact ⟨rfl, p', n', c', ((HM.out.fr0 (Fr.drew S0 wr)).set6 (b' := X)).turn HX.out HGOOD.out⟩
          | exact ⟨rfl, p', n', c', ((HM.out.set6 (b' := X)).fr0 (Fr.drew S0 _)).turn HX.out HGOOD.out⟩
          | fail
end
end Go.Proofs.YthfcfmnaiopogaaGreat
