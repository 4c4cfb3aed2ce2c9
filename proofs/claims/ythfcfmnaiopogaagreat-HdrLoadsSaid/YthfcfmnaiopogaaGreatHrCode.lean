/- What the landed histograms are asked, whatever they look like; two that are the same. -/
import Derived.Test.YthfcfmnaiopogaaGreatHrTimes
import Derived.Test.YthfcfmnaiopogaaGreatHrPairs
namespace Go.Proofs.YthfcfmnaiopogaaGreat
open Go.RowKit

/-- what is asked of a histogram: Is W g C M says that block g is M, and that its blocks are C -/
structure HdrReads (Is : World → Nat → (Nat → Prop) → Hm → Prop) : Prop where
  fr : ∀ {W W' g C M S}, Is W g C M → Fr S W W' → (∀ b, C b → ¬ S b) → Is W' g C M
  lt : ∀ {W g C M}, Is W g C M → ∀ b, C b → b < W.heap.size
  self : ∀ {W g C M}, Is W g C M → C g
  good : ∀ {W g C M}, Is W g C M → M.Good
  shape : ∀ {W g C M}, Is W g C M → Calls Tryz.prog 56 #[.pointer (some ⟨g, 0, none⟩)] W fun e w' => e = .returned (.agg #[.int .i64 (M.L : Nat), .int .i64 (M.H : Nat), .int .i64 (M.D : Nat)]) ∧ Fr S0 W w'
  grows : ∀ {W g C M}, Is W g C M → Calls Tryz.prog 57 #[.pointer (some ⟨g, 0, none⟩)] W fun e w' => e = .returned (.bool M.gr) ∧ Fr S0 W w'
  buckets : ∀ {W g C M}, Is W g C M → Calls Tryz.prog 36 #[.pointer (some ⟨g, 0, none⟩)] W fun e w' => e = .returned (.int .i64 (M.b : Nat)) ∧ Fr S0 W w'
  reach : ∀ {W g C M}, Is W g C M → Calls Tryz.prog 52 #[.pointer (some ⟨g, 0, none⟩)] W fun e w' => e = .returned (.int .i64 (M.reach : Nat)) ∧ Fr S0 W w'
  total : ∀ {W g C M}, Is W g C M → Calls Tryz.prog 31 #[.pointer (some ⟨g, 0, none⟩)] W fun e w' => e = .returned (.int .u64 (ltot M.l : Nat)) ∧ Fr S0 W w'
  pairs : ∀ {W g C M}, Is W g C M → Calls Tryz.prog 37 #[.pointer (some ⟨g, 0, none⟩)] W fun e w' => ∃ p c n, e = .returned (.slice p n c) ∧ PrsSee W w' p c n M.l
  least_no : ∀ {W g C M}, Is W g C M → M.l = [] → Calls Tryz.prog 60 #[.pointer (some ⟨g, 0, none⟩)] W fun e w' => e = .returned (.tuple #[.int .i64 0, .int .i64 8]) ∧ Fr S0 W w'
  least : ∀ {W g C M}, Is W g C M → ∀ t r, M.l = t :: r → Calls Tryz.prog 60 #[.pointer (some ⟨g, 0, none⟩)] W fun e w' => e = .returned (.tuple #[.int .i64 (M.least t.1 : Nat), .int .i64 0]) ∧ Fr S0 W w'
  most_no : ∀ {W g C M}, Is W g C M → M.l = [] → Calls Tryz.prog 61 #[.pointer (some ⟨g, 0, none⟩)] W fun e w' => e = .returned (.tuple #[.int .i64 0, .int .i64 8]) ∧ Fr S0 W w'
  most : ∀ {W g C M}, Is W g C M → ∀ t r, M.l = r ++ [t] → Calls Tryz.prog 61 #[.pointer (some ⟨g, 0, none⟩)] W fun e w' => e = .returned (.tuple #[.int .i64 (M.most t.1 : Nat), .int .i64 0]) ∧ Fr S0 W w'

section
variable {Is : World → Nat → (Nat → Prop) → Hm → Prop} (hr : HdrReads Is) (g : Nat) (C : Nat → Prop) (q : Nat) (p : Option Addr) (k c : Nat) (M : Hm) (w : World) (s : Is w g C M) (t : RefIs w q p k c M)
include hr s t
set_option maxRecDepth 100000 in
set_option maxHeartbeats 2000000 in
theorem same_any (hk : k ≤ 100000) : Calls Tryz.prog 16 #[.pointer (some ⟨g, 0, none⟩), .pointer (some ⟨q, 0, none⟩)] w fun e w' => e = .returned (.bool true) ∧ Fr S0 w w' := by
  have hg := t.good
  have HIS := fun W (f : Fr S0 w W) => hr.fr s f (fun _ _ h => h)
  have HSHAPE := Lib.hid (fun W (f : Fr S0 w W) => hr.shape (HIS W f))
  have HGROWS := Lib.hid (fun W (f : Fr S0 w W) => hr.grows (HIS W f))
  have HBUCK := Lib.hid (fun W (f : Fr S0 w W) => hr.buckets (HIS W f))
  have HREACH := Lib.hid (fun W (f : Fr S0 w W) => hr.reach (HIS W f))
  have HRREACH := Lib.hid (fun W (f : Fr S0 w W) => rreach_any q p k c M W (t.fr0 f))
  have HTOTAL := Lib.hid (fun W (f : Fr S0 w W) => hr.total (HIS W f))
  have HRTOTAL := Lib.hid (fun W (f : Fr S0 w W) => rtotal_any p k c M.l W (t.pri.fr0 f) t.len (by have := hg.tot; omega))
  have HPAIRS := Lib.hid (fun W (f : Fr S0 w W) => hr.pairs (HIS W f))
  have HRSAME := Lib.hid (fun p2 c2 n2 W W2 (f : Fr S0 w W) (h : PrsSee W W2 p2 c2 n2 M.l) => show n2 = k ∧ Calls Tryz.prog 59 #[.slice p2 k c2, .slice p k c] W2 (fun e w' => e = .returned (.bool true) ∧ Fr S0 W2 w') from by
    have hn : n2 = k := by rw [← h.len, t.len]
    subst hn
    exact ⟨rfl, rsame_yes p2 p n2 c2 c M.l W2 h.pri ((t.pri.fr0 f).fr0 h.fr) t.len⟩)
  have c0 := t.c0
  have c1 := t.c1
  have c2 := t.c2
  have c5 := t.c5
  have c6 := t.c6
  have c7 := t.c7
  have HCELLS := Lib.hid (fun W (f : Fr S0 w W) => (t.fr0 f).c7)
  obtain ⟨L, eL⟩ : ∃ L, M.L = L := ⟨_, rfl⟩
  obtain ⟨H, eH⟩ : ∃ H, M.H = H := ⟨_, rfl⟩
  obtain ⟨D, eD⟩ : ∃ D, M.D = D := ⟨_, rfl⟩
  obtain ⟨B, eB⟩ : ∃ B, M.b = B := ⟨_, rfl⟩
  obtain ⟨R, eR⟩ : ∃ R, M.reach = R := ⟨_, rfl⟩
  obtain ⟨T, eT⟩ : ∃ T, ltot M.l = T := ⟨_, rfl⟩
  obtain ⟨r, er⟩ : ∃ r, M.gr = r := ⟨_, rfl⟩
  rw [eL] at c0
  rw [eH] at c1
  rw [eD] at c2
  rw [er] at c5
  rw [eB] at c6
  simp only [eL, eH, eD] at HSHAPE
  simp only [er] at HGROWS
  simp only [eB] at HBUCK
  simp only [eR] at HREACH HRREACH
  simp only [eT] at HTOTAL HRTOTAL
  have HEMPTY : Hid (k = 0 → ∀ W, Fr S0 w W → (Calls Tryz.prog 60 #[.pointer (some ⟨g, 0, none⟩)] W fun e w' => e = .returned (.tuple #[.int .i64 0, .int .i64 8]) ∧ Fr S0 W w') ∧ (Calls Tryz.prog 61 #[.pointer (some ⟨g, 0, none⟩)] W fun e w' => e = .returned (.tuple #[.int .i64 0, .int .i64 8]) ∧ Fr S0 W w')) := Lib.hid fun h0 W f => by
    have hl : M.l = [] := List.eq_nil_of_length_eq_zero (by rw [t.len]; exact h0)
    exact ⟨hr.least_no (HIS W f) hl, hr.most_no (HIS W f) hl⟩
  have S2 := Lib.hid s
  have T2 := Lib.hid t
  clear s t hg HIS eL eH eD eB eR eT er
  go_enter Tryz.func16, Tryz.ntmps16
  go_upto_region 52 with fail
  go_cut [64] from 13 to 64 (fun x wx => x = .bool false ∧ Fr S0 w wx)
  case first =>
    go_region_held3 (fun w' => w'.cell? ⟨q, 0, none⟩ = some (.int .i64 (L : Nat)) ∧ w'.cell? ⟨q, 1, none⟩ = some (.int .i64 (H : Nat)) ∧ w'.cell? ⟨q, 2, none⟩ = some (.int .i64 (D : Nat)) ∧ w'.cell? ⟨q, 5, none⟩ = some (.bool r) ∧ w'.cell? ⟨q, 6, none⟩ = some (.int .i64 (B : Nat)) ∧ w'.cell? ⟨q, 7, none⟩ = some (.slice p k c) ∧ Fr S0 w w')
      (first
        | (go_split_ands; exact ⟨by assumption, by assumption, by assumption, by assumption, by assumption, by assumption, by assumption⟩)
        | exact ⟨c0, c1, c2, c5, c6, c7, Fr.drew S0 w⟩
        | (go_split_ands; exact ⟨f9.cell (by assumption) (fun h => h), f9.cell (by assumption) (fun h => h), f9.cell (by assumption) (fun h => h), f9.cell (by assumption) (fun h => h), f9.cell (by assumption) (fun h => h), f9.cell (by assumption) (fun h => h), Fr.trans0 (by assumption) f9⟩)
        | fail)
      (first
        | (go_at_call 56; ((with_reducible refine (HSHAPE.out _ (by go_split_ands; assumption)).mono ?_); rintro _ u1 ⟨rfl, f9⟩))
        | (go_at_call 57; ((with_reducible refine (HGROWS.out _ (by go_split_ands; assumption)).mono ?_); rintro _ u2 ⟨rfl, f9⟩))
        | (go_at_call 36; ((with_reducible refine (HBUCK.out _ (by go_split_ands; assumption)).mono ?_); rintro _ u3 ⟨rfl, f9⟩))
        | (go_at_call 52; ((with_reducible refine (HREACH.out _ (by go_split_ands; assumption)).mono ?_); rintro _ u4 ⟨rfl, f9⟩))
        | (go_at_call 58; ((with_reducible refine (HRREACH.out _ (by go_split_ands; assumption)).mono ?_); rintro _ u5 ⟨rfl, f9⟩))
        | (go_at_call 31; ((with_reducible refine (HTOTAL.out _ (by go_split_ands; assumption)).mono ?_); rintro _ u6 ⟨rfl, f9⟩))
        | (go_at_call 19; ((with_reducible refine (HRTOTAL.out _ (by go_split_ands; assumption)).mono ?_); rintro _ u7 ⟨rfl, f9⟩))
        | (go_at_call 37; (have HF8 := Lib.hid (show Fr S0 w _ by go_split_ands; assumption)); ((with_reducible refine (HPAIRS.out _ HF8.out).mono ?_); rintro _ u8 ⟨p2, c2', n2, rfl, hp⟩; obtain ⟨hn2, hsame⟩ := HRSAME.out p2 c2' n2 _ _ HF8.out hp; subst hn2; have f9 := hp.fr; have HSM := Lib.hid hsame; clear hp hsame))
        | (go_at_call 59; ((with_reducible refine HSM.out.mono ?_); rintro _ u9 ⟨rfl, f9⟩))
        | fail)
    all_goals
      go_wp2_with fail
      go_meet
      exact ⟨rfl, by go_split_ands; assumption⟩
  case rest =>
    obtain ⟨rfl, hfr⟩ := hcut
    have F0 := Lib.hid hfr
    clear hfr c0 c1 c2 c5 c6 c7 HSHAPE HGROWS HBUCK HREACH HRREACH HTOTAL HRTOTAL HPAIRS HRSAME
    by_cases hk0 : k = 0
    · have HEL := Lib.hid (fun W (f : Fr S0 w W) => (HEMPTY.out hk0 W f).1)
      have HEM := Lib.hid (fun W (f : Fr S0 w W) => (HEMPTY.out hk0 W f).2)
      subst hk0
      clear HEMPTY
      go_wp2_with fail
      refine (HEL.out _ F0.out).mono ?_
      rintro e w1 ⟨rfl, f⟩
      have F1 := Lib.hid (F0.out.trans0 f)
      clear f
      go_wp2_with fail
      refine (HEM.out _ F1.out).mono ?_
      rintro e w2 ⟨rfl, f⟩
      have F2 := Lib.hid (F1.out.trans0 f)
      have d7 := HCELLS.out _ F2.out
      clear f
      go_wp2_with fail
      go_ret
      exact ⟨rfl, F2.out⟩
    · have hlen := T2.out.len
      have hgood := T2.out.good
      obtain ⟨t0, r0, hl0⟩ : ∃ t r, M.l = t :: r := by
        cases hl : M.l with
        | nil => rw [hl] at hlen; simp at hlen; omega
        | cons t r => exact ⟨t, r, rfl⟩
      obtain ⟨r1, t1, hl1⟩ : ∃ r t, M.l = r ++ [t] := ⟨M.l.dropLast, M.l.getLast (by rw [hl0]; simp), (List.dropLast_concat_getLast _).symm⟩
      have hm0 : t0 ∈ M.l := by rw [hl0]; exact List.mem_cons_self
      have hm1 : t1 ∈ M.l := by rw [hl1]; simp
      have hk0' := hgood.keys t0 hm0
      have hk1' := hgood.keys t1 hm1
      have hb1 := hgood.b1
      obtain ⟨n0, hn0⟩ : ∃ n0 : Nat, t0.1 = n0 := ⟨t0.1.toNat, by omega⟩
      obtain ⟨n1, hn1⟩ : ∃ n1 : Nat, t1.1 = n1 := ⟨t1.1.toNat, by omega⟩
      rw [hn0, show ((n0 : Nat) : Int).toNat = n0 by omega] at hk0'
      rw [hn1, show ((n1 : Nat) : Int).toNat = n1 by omega] at hk1'
      have HLE := fun W (f : Fr S0 w W) => hr.least (hr.fr S2.out f (fun _ _ h => h)) t0 r0 hl0
      have HMO := fun W (f : Fr S0 w W) => hr.most (hr.fr S2.out f (fun _ _ h => h)) t1 r1 hl1
      have HE0 := fun W (f : Fr S0 w W) => hends_any q p k c M W (T2.out.fr0 f) n0 (by omega)
      have HE1 := fun W (f : Fr S0 w W) => hends_any q p k c M W (T2.out.fr0 f) n1 (by omega)
      simp only [hn0] at HLE
      simp only [hn1] at HMO
      obtain ⟨A0, eA0⟩ : ∃ A, M.least (n0 : Nat) = A := ⟨_, rfl⟩
      obtain ⟨A1, eA1⟩ : ∃ A, M.most (n1 : Nat) = A := ⟨_, rfl⟩
      simp only [eA0] at HLE HE0
      simp only [eA1] at HMO HE1
      have hkl : k - 1 < M.l.length := by omega
      have ha0 : (M.l[0]'(by omega)).1 = (n0 : Int) := by rw [← hn0]; simp [hl0]
      have ha1 : (M.l[k - 1]'hkl).1 = (n1 : Int) := by
        rw [← hn1]
        have e : M.l[k - 1]? = some t1 := by
          rw [hl1, List.getElem?_append_right (by rw [hl1, List.length_append] at hlen; simp at hlen; omega)]
          rw [hl1, List.length_append] at hlen
          simp only [List.length_cons, List.length_nil] at hlen
          rw [show k - 1 - r1.length = 0 by omega]
          rfl
        rw [List.getElem?_eq_getElem hkl] at e
        rw [Option.some.inj e]
      obtain ⟨b, o, hp0, hz, -⟩ := T2.out.pri.at 0 (by omega)
      obtain ⟨b', o', hp1, hy, -⟩ := T2.out.pri.at (k - 1) hkl
      rw [ha0] at hz
      rw [ha1] at hy
      obtain rfl := hp0
      simp only [Option.some.injEq, Addr.mk.injEq, and_true] at hp1
      obtain ⟨rfl, rfl⟩ := hp1
      obtain ⟨k1, hk1⟩ : ∃ k1, k - 1 = k1 := ⟨_, rfl⟩
      rw [hk1] at hy
      rw [Nat.zero_mul, Nat.add_zero] at hz
      have HCE := Lib.hid (fun W (f : Fr S0 w W) => And.intro (HCELLS.out W f) (And.intro (f.cell hz (fun h => h)) (f.cell hy (fun h => h))))
      have e1 : (k : Int) - 1 = (k1 : Int) := by omega
      have hkk : (0 : Int) < (k : Int) := by omega
      have hk1k : (k1 : Int) < (k : Int) := by omega
      have hkn : ((k : Int) == 0) = false := by rw [beq_eq_false_iff_ne]; omega
      have hk1b : k1 ≤ 100000 := by omega
      have hk10 : (0 : Int) ≤ (k1 : Int) := by omega
      have wk1 : IntKind.i64.wrap (k1 : Int) = (k1 : Int) := by rw [IntKind.wrap_i64]; omega
      have HLE := Lib.hid HLE
      have HMO := Lib.hid HMO
      have HE0 := Lib.hid HE0
      have HE1 := Lib.hid HE1
      clear hlen hgood hl0 hl1 hm0 hm1 hk0' hk1' hb1 hn0 hn1 eA0 eA1 hkl ha0 ha1 hz hy hk1 HEMPTY HCELLS S2 T2 hk0
      go_wp2_with fail
      refine (HLE.out _ F0.out).mono ?_
      rintro e w1 ⟨rfl, f⟩
      have F1 := Lib.hid (F0.out.trans0 f)
      clear f
      go_wp2_with fail
      refine (HMO.out _ F1.out).mono ?_
      rintro e w2 ⟨rfl, f⟩
      have F2 := Lib.hid (F1.out.trans0 f)
      obtain ⟨d7, dz, -⟩ := HCE.out _ F2.out
      clear f
      go_wp2_with fail
      refine (HE0.out _ F2.out).mono ?_
      rintro e w3 ⟨rfl, f⟩
      have F3 := Lib.hid (F2.out.trans0 f)
      clear d7 dz f
      obtain ⟨d7, -, dy⟩ := HCE.out _ F3.out
      have HC3 := Lib.hid (And.intro d7 dy)
      go_upto_region 20 with fail
      go_region_held3 (fun w' => w'.cell? ⟨q, 7, none⟩ = some (.slice (some ⟨b, o, none⟩) k c) ∧ w'.cell? ⟨b, o + k1 * 2, none⟩ = some (.int .i64 (n1 : Nat)))
        (first
          | (go_split_ands; exact ⟨by assumption, by assumption⟩)
          | exact HC3.out
          | (go_split_ands; exact ⟨f9.cell (by assumption) (fun h => h), f9.cell (by assumption) (fun h => h)⟩)
          | fail)
        (first
          | (go_at_call 22; ((with_reducible refine (HE1.out _ (F3.out.trans0 (Fr.drew S0 w3))).mono ?_); rintro _ w4 ⟨rfl, f9⟩; have F4 := Lib.hid ((F3.out.trans0 (Fr.drew S0 w3)).trans0 f9)))
          | fail)
      go_wp2_with fail
      go_ret
      exact ⟨rfl, F4.out⟩
end
end Go.Proofs.YthfcfmnaiopogaaGreat
