/- The landed histograms: the table of their counts; the ends of a cell; Least, Most, At. -/
import Derived.Test.YthfcfmnaiopogaaGreatHrPairs
import Derived.Test.YthfcfmnaiopogaaGreatWkAll
namespace Go.Proofs.YthfcfmnaiopogaaGreat
open Go.RowKit Go.ChangeMaps

theorem Hm.Good.tb {M : Hm} (g : M.Good) : Tb M.l := ⟨g.srt, g.pos, g.tot⟩
theorem pos_small {M : Hm} (g : M.Good) : ∀ x ∈ M.l, x.2 < 18446744073709551616 := fun x hx => by
  have h1 := cnt_mem g.srt hx
  have h2 := cnt_tot M.l x.1
  have h3 := g.tot
  omega
/-- a key that was counted names a cell -/
theorem Hm.Good.cell {M : Hm} (g : M.Good) {x : Pr} (hx : x ∈ M.l) : ∃ i : Nat, x.1 = i ∧ i < 9223372036854775808 ∧ ibk M.m i ≤ 63 - (M.u + M.m) := by
  have h1 := g.keys x hx
  have h2 := g.b1
  refine ⟨x.1.toNat, by omega, ?_, by omega⟩
  by_cases hc : x.1.toNat < 9223372036854775808
  · exact hc
  · exfalso
    have h3 := idx_vof M.u M.m x.1.toNat g.m1 (by have := g.s; omega) (by omega)
    have h4 := vof_lt M.u M.m x.1.toNat g.m1 (by have := g.s; omega) (by omega)
    have h5 := idx_small M.u M.m (vof M.u M.m x.1.toNat) g.m1 g.m5.2 g.s (by have := two_pos (M.u + ibk M.m x.1.toNat); omega)
    omega
/-- an answer that names a cell of those that were counted, by its rank -/
def endV (M : Hm) (f : Int → Nat) (a d : Nat) : Nat := if rkE a d (ltot M.l) = 0 then f (keyW M.l (rkR a d (ltot M.l))) else 0

theorem low_has : Has 83 := fun _ _ => by kernel_rfl
theorem high_has : Has 65 := fun _ _ => by kernel_rfl

section
variable (g h : Nat) (M : Hm) (w : World) (s : HistIs w g h M)
include s
set_option maxRecDepth 100000 in
set_option maxHeartbeats 400000 in
theorem xtable_any (hl : M.l.length ≤ 100000) : Calls Tryz.prog 64 #[.pointer (some ⟨g, 0, none⟩)] w fun e w' => ∃ gt, e = .returned (.pointer (some ⟨gt, 0, none⟩)) ∧ TabIs w' gt M.l ∧ Fr S0 w w' := by
  have HP := Lib.hid (xpairs_any g h M w s hl)
  have HTB := Lib.hid s.good.tb
  have HSM := Lib.hid (pos_small s.good)
  have HL := Lib.hid hl
  clear s hl
  go_enter Tryz.func64, Tryz.ntmps64
  go_wp2_with fail
  refine HP.out.mono ?_
  rintro e w1 ⟨p, c, n, rfl, hsee⟩
  have HN := Lib.hid (new_any p n c M.l w1 hsee.pri hsee.len (by rw [← hsee.len]; exact HL.out) HSM.out)
  have F1 := Lib.hid hsee.fr
  clear hsee HP
  go_wp2_with fail
  refine HN.out.mono ?_
  rintro e w2 ⟨f2, ⟨-, gt, rfl, ht, -⟩ | ⟨hn, -⟩⟩
  · have HE := Lib.hid (And.intro ht (F1.out.trans0 f2))
    clear HN ht f2
    go_wp2_with fail
    go_ret
    exact ⟨gt, rfl, HE.out.1, HE.out.2⟩
  · exact absurd HTB.out hn
set_option maxRecDepth 100000 in
set_option maxHeartbeats 400000 in
theorem xend_any (B gt a d : Nat) (f : Int → Nat) (hd : d < 18446744073709551616) (ht : TabIs w gt M.l) (hB : Has B)
    (hf : ∀ (i : Nat) W, Fr S0 w W → ibk M.m i ≤ 63 - (M.u + M.m) → i < 9223372036854775808 → Calls Tryz.prog B #[.pointer (some ⟨g, 0, none⟩), .int .i64 (vof M.u M.m i : Nat)] W fun e w' => e = .returned (.tuple #[.int .i64 (f (i : Nat) : Nat), .int .i64 0]) ∧ Fr S0 W w') :
    Calls Tryz.prog 63 #[.pointer (some ⟨g, 0, none⟩), .pointer (some ⟨gt, 0, none⟩), .int .u64 (a : Nat), .int .u64 (d : Nat), .func (.func B) #[.pointer (some ⟨g, 0, none⟩)] #[]] w fun e w' => e = .returned (.tuple #[.int .i64 (endV M f a d : Nat), .int .i64 (rkE a d (ltot M.l) : Nat)]) ∧ Fr S0 w w' := by
  have HP := Lib.hid (part_any gt M.l w a d ht hd)
  unfold partV at HP
  unfold endV
  by_cases hE : rkE a d (ltot M.l) = 0
  · obtain ⟨h1, h2, h3, h4⟩ := rk_yes hE
    have h5 := rnk_all h2 h3
    obtain ⟨⟨x, hx, hxk⟩, -, -⟩ := keyW_rank s.good.srt h5.1 h5.2
    obtain ⟨i, hi, hi2, hi3⟩ := s.good.cell hx
    have hkey : keyW M.l (rkR a d (ltot M.l)) = (i : Int) := by rw [h4, ← hxk, hi]
    rw [if_pos hE, hE, hkey] at HP
    rw [if_pos hE, hE, hkey]
    have HV := Lib.hid (fun W (f : Fr S0 w W) => value_yes g (M.L : Nat) (M.H : Nat) (M.D : Nat) M.u M.m W (s.map.fr0 f) i hi2 hi3)
    have HF := Lib.hid (fun W f => hf i W f hi3 hi2)
    have hcf := fun x W => hB #[.pointer (some ⟨g, 0, none⟩), .int .i64 x] W
    obtain ⟨X, eX⟩ : ∃ X, f (i : Nat) = X := ⟨_, rfl⟩
    obtain ⟨V, eV⟩ : ∃ V, vof M.u M.m i = V := ⟨_, rfl⟩
    rw [eV] at HV HF
    rw [eX] at HF ⊢
    clear s hf hB ht hE h1 h2 h3 h4 h5 hx hxk hi hkey eX eV hi3
    go_enter Tryz.func63, Tryz.ntmps63
    go_wp2_with fail
    refine HP.out.mono ?_
    rintro e w1 ⟨rfl, f1⟩
    have F1 := Lib.hid f1
    clear f1
    go_wp2_with fail
    refine (HV.out _ F1.out).mono ?_
    rintro e w2 ⟨rfl, f2⟩
    have F2 := Lib.hid (F1.out.trans0 f2)
    clear f2
    go_wp2_with fail
    refine (HF.out _ F2.out).mono ?_
    rintro e w3 ⟨rfl, f3⟩
    have F3 := Lib.hid (F2.out.trans0 f3)
    clear f3
    go_wp2_with fail
    go_ret2
    exact ⟨rfl, F3.out⟩
  · rw [if_neg hE] at HP
    rw [if_neg hE]
    obtain ⟨E, eE⟩ : ∃ E, rkE a d (ltot M.l) = E := ⟨_, rfl⟩
    rw [eE] at HP hE ⊢
    have hne : ((E : Int) == 0) = false := by rw [beq_eq_false_iff_ne]; omega
    clear s hf hB ht eE
    go_enter Tryz.func63, Tryz.ntmps63
    go_wp2_with fail
    refine HP.out.mono ?_
    rintro e w1 ⟨rfl, f1⟩
    have F1 := Lib.hid f1
    clear f1
    go_wp2_with fail
    go_ret2
    exact ⟨rfl, F1.out⟩

theorem low_tells (i : Nat) (W : World) (f : Fr S0 w W) (hi : ibk M.m i ≤ 63 - (M.u + M.m)) : Calls Tryz.prog 83 #[.pointer (some ⟨g, 0, none⟩), .int .i64 (vof M.u M.m i : Nat)] W fun e w' => e = .returned (.tuple #[.int .i64 (M.least (i : Nat) : Nat), .int .i64 0]) ∧ Fr S0 W w' := by
  have h1 := ask_low g (M.L : Nat) (M.H : Nat) (M.D : Nat) M.u M.m W (s.map.fr0 f) (vof M.u M.m i) (by have := vof_lt M.u M.m i s.good.m1 (by have := s.good.s; omega) hi; have := two_pos (M.u + ibk M.m i); omega)
  rw [beg_vof M.u M.m i s.good.m1 (by have := s.good.s; omega) hi] at h1
  unfold Hm.least
  rw [show ((i : Nat) : Int).toNat = i by omega]
  exact h1
theorem high_tells (i : Nat) (W : World) (f : Fr S0 w W) (hi : ibk M.m i ≤ 63 - (M.u + M.m)) : Calls Tryz.prog 65 #[.pointer (some ⟨g, 0, none⟩), .int .i64 (vof M.u M.m i : Nat)] W fun e w' => e = .returned (.tuple #[.int .i64 (M.most (i : Nat) : Nat), .int .i64 0]) ∧ Fr S0 W w' := by
  have h1 := ask_high g (M.L : Nat) (M.H : Nat) (M.D : Nat) M.u M.m W (s.map.fr0 f) (vof M.u M.m i) (by have := vof_lt M.u M.m i s.good.m1 (by have := s.good.s; omega) hi; have := two_pos (M.u + ibk M.m i); omega)
  rw [beg_vof M.u M.m i s.good.m1 (by have := s.good.s; omega) hi, hwid_vof M.u M.m i s.good.m1 (by have := s.good.s; omega) hi] at h1
  unfold Hm.most
  rw [show ((i : Nat) : Int).toNat = i by omega]
  exact h1
set_option maxRecDepth 100000 in
set_option maxHeartbeats 400000 in
theorem xleast_raw (hl : M.l.length ≤ 100000) : Calls Tryz.prog 60 #[.pointer (some ⟨g, 0, none⟩)] w fun e w' => e = .returned (.tuple #[.int .i64 (endV M M.least 0 1 : Nat), .int .i64 (rkE 0 1 (ltot M.l) : Nat)]) ∧ Fr S0 w w' := by
  have HTA := Lib.hid (xtable_any g h M w.drew (s.fr0 (Fr.drew _ _)) hl)
  have HEN := Lib.hid (fun gt W (f : Fr S0 w W) (ht : TabIs W gt M.l) => xend_any g h M W (s.fr0 f) 83 gt 0 1 M.least (by decide) ht low_has fun i W2 f2 hi _ => low_tells g h M W (s.fr0 f) i W2 f2 hi)
  have hmf : ∀ W, (Instr.makeFunc (.func 83) #[.pointer (some ⟨g, 0, none⟩)] #[]).run Tryz.prog W = .ok (.func (.func 83) #[.pointer (some ⟨g, 0, none⟩)] #[]) W := fun _ => by rfl
  obtain ⟨X, eX⟩ : ∃ X, endV M M.least 0 1 = X := ⟨_, rfl⟩
  obtain ⟨E, eE⟩ : ∃ E, rkE 0 1 (ltot M.l) = E := ⟨_, rfl⟩
  rw [eX, eE] at HEN
  rw [eX, eE]
  clear s eX eE
  simp only [show ((1 : Nat) : Int) = 1 from rfl, show ((0 : Nat) : Int) = 0 from rfl] at HEN
  go_enter Tryz.func60, Tryz.ntmps60
  go_upto_region 12 with fail
  go_region_held3 (fun w' => Fr S0 w w')
    (first | (go_split_ands; assumption) | exact Fr.drew _ _ | exact Fr.trans0 (by assumption) f9)
    (first
      | (go_at_call 64; ((with_reducible refine HTA.out.mono ?_); rintro _ w2 ⟨gt, rfl, ht, f9⟩; have HT2 := Lib.hid (And.intro ht ((Fr.drew S0 w).trans0 f9)); clear ht))
      | (go_at_call 63; ((with_reducible refine (HEN.out _ _ HT2.out.2 HT2.out.1).mono ?_); rintro _ w3 ⟨rfl, f9⟩; have F3 := Lib.hid (HT2.out.2.trans0 f9))))
  all_goals
    go_wp2_with fail
    go_ret2
    exact ⟨rfl, F3.out⟩
set_option maxRecDepth 100000 in
set_option maxHeartbeats 400000 in
theorem xmost_raw (hl : M.l.length ≤ 100000) : Calls Tryz.prog 61 #[.pointer (some ⟨g, 0, none⟩)] w fun e w' => e = .returned (.tuple #[.int .i64 (endV M M.most 1 1 : Nat), .int .i64 (rkE 1 1 (ltot M.l) : Nat)]) ∧ Fr S0 w w' := by
  have HTA := Lib.hid (xtable_any g h M w.drew (s.fr0 (Fr.drew _ _)) hl)
  have HEN := Lib.hid (fun gt W (f : Fr S0 w W) (ht : TabIs W gt M.l) => xend_any g h M W (s.fr0 f) 65 gt 1 1 M.most (by decide) ht high_has fun i W2 f2 hi _ => high_tells g h M W (s.fr0 f) i W2 f2 hi)
  have hmf : ∀ W, (Instr.makeFunc (.func 65) #[.pointer (some ⟨g, 0, none⟩)] #[]).run Tryz.prog W = .ok (.func (.func 65) #[.pointer (some ⟨g, 0, none⟩)] #[]) W := fun _ => by rfl
  obtain ⟨X, eX⟩ : ∃ X, endV M M.most 1 1 = X := ⟨_, rfl⟩
  obtain ⟨E, eE⟩ : ∃ E, rkE 1 1 (ltot M.l) = E := ⟨_, rfl⟩
  rw [eX, eE] at HEN
  rw [eX, eE]
  clear s eX eE
  simp only [show ((1 : Nat) : Int) = 1 from rfl] at HEN
  go_enter Tryz.func61, Tryz.ntmps61
  go_upto_region 12 with fail
  go_region_held3 (fun w' => Fr S0 w w')
    (first | (go_split_ands; assumption) | exact Fr.drew _ _ | exact Fr.trans0 (by assumption) f9)
    (first
      | (go_at_call 64; ((with_reducible refine HTA.out.mono ?_); rintro _ w2 ⟨gt, rfl, ht, f9⟩; have HT2 := Lib.hid (And.intro ht ((Fr.drew S0 w).trans0 f9)); clear ht))
      | (go_at_call 63; ((with_reducible refine (HEN.out _ _ HT2.out.2 HT2.out.1).mono ?_); rintro _ w3 ⟨rfl, f9⟩; have F3 := Lib.hid (HT2.out.2.trans0 f9))))
  all_goals
    go_wp2_with fail
    go_ret2
    exact ⟨rfl, F3.out⟩
set_option maxRecDepth 100000 in
set_option maxHeartbeats 400000 in
theorem xat_any (a d : Nat) (hd : d < 18446744073709551616) (hl : M.l.length ≤ 100000) : Calls Tryz.prog 20 #[.pointer (some ⟨g, 0, none⟩), .int .u64 (a : Nat), .int .u64 (d : Nat)] w fun e w' => e = .returned (.tuple #[.int .i64 (endV M M.most a d : Nat), .int .i64 (rkE a d (ltot M.l) : Nat)]) ∧ Fr S0 w w' := by
  have HTA := Lib.hid (xtable_any g h M w.drew (s.fr0 (Fr.drew _ _)) hl)
  have HEN := Lib.hid (fun gt W (f : Fr S0 w W) (ht : TabIs W gt M.l) => xend_any g h M W (s.fr0 f) 65 gt a d M.most hd ht high_has fun i W2 f2 hi _ => high_tells g h M W (s.fr0 f) i W2 f2 hi)
  have hmf : ∀ W, (Instr.makeFunc (.func 65) #[.pointer (some ⟨g, 0, none⟩)] #[]).run Tryz.prog W = .ok (.func (.func 65) #[.pointer (some ⟨g, 0, none⟩)] #[]) W := fun _ => by rfl
  obtain ⟨X, eX⟩ : ∃ X, endV M M.most a d = X := ⟨_, rfl⟩
  obtain ⟨E, eE⟩ : ∃ E, rkE a d (ltot M.l) = E := ⟨_, rfl⟩
  rw [eX, eE] at HEN
  rw [eX, eE]
  clear s eX eE
  go_enter Tryz.func20, Tryz.ntmps20
  go_upto_region 14 with fail
  go_region_held3 (fun w' => Fr S0 w w')
    (first | (go_split_ands; assumption) | exact Fr.drew _ _ | exact Fr.trans0 (by assumption) f9)
    (first
      | (go_at_call 64; ((with_reducible refine HTA.out.mono ?_); rintro _ w2 ⟨gt, rfl, ht, f9⟩; have HT2 := Lib.hid (And.intro ht ((Fr.drew S0 w).trans0 f9)); clear ht))
      | (go_at_call 63; ((with_reducible refine (HEN.out _ _ HT2.out.2 HT2.out.1).mono ?_); rintro _ w3 ⟨rfl, f9⟩; have F3 := Lib.hid (HT2.out.2.trans0 f9))))
  all_goals
    go_wp2_with fail
    go_ret2
    exact ⟨rfl, F3.out⟩
end
end Go.Proofs.YthfcfmnaiopogaaGreat
