/- The landed histograms: the mean, by the middles of cells. -/
import Derived.Test.YthfcfmnaiopogaaGreatHrEnd
import Derived.Test.YthfcfmnaiopogaaGreatHrAsk
import Derived.Test.YthfcfmnaiopogaaGreatWdMean
import Derived.Test.YthfcfmnaiopogaaGreatWdAvg
namespace Go.Proofs.YthfcfmnaiopogaaGreat
open Go.RowKit Go.ChangeMaps

theorem info_term : (Tryz.prog.info? 146).map (fun i => (i.zero, i.size, i.bytes)) = some (some (.agg #[.int .i64 0, .int .u64 0]), 2, 16) := by kernel_rfl
theorem elTm : ElemOk Tryz.prog 143 146 (.agg #[.int .i64 0, .int .u64 0]) 2 16 := ⟨Tryz.underlying143, info_term, rfl, by decide, by decide⟩
/-- what a cell stands for -/
def mid (M : Hm) (i : Int) : Nat := vof M.u M.m i.toNat + 2 ^ (M.u + ibk M.m i.toNat) / 2
def mts (M : Hm) (l : List Pr) : List Tm := l.map fun t => ((mid M t.1 : Int), t.2)
theorem mts_app (M : Hm) (a b : List Pr) : mts M (a ++ b) = mts M a ++ mts M b := by simp [mts]
theorem mts_len (M : Hm) (l : List Pr) : (mts M l).length = l.length := by simp [mts]
theorem wts_mts (M : Hm) (l : List Pr) : wts (mts M l) = ltot l := by
  induction l with
  | nil => rfl
  | cons x r ih =>
    have e : wts (mts M (x :: r)) = x.2 + wts (mts M r) := by simp [wts, mts]
    rw [e, ih, ltot]
theorem wts_perm {l l' : List Tm} (h : l.Perm l') : wts l = wts l' ∧ lsm l = lsm l' := by
  have e1 : ∀ (t : Tm) s, wts (t :: s) = t.2 + wts s := fun t s => by simp [wts]
  have e2 : ∀ (t : Tm) s, lsm (t :: s) = lft t.1 * t.2 + lsm s := fun t s => by simp [lsm]
  induction h with
  | nil => exact ⟨rfl, rfl⟩
  | cons x _ ih => rw [e1, e1, e2, e2, ih.1, ih.2]; exact ⟨rfl, rfl⟩
  | swap x y l => rw [e1, e1, e1, e1, e2, e2, e2, e2]; omega
  | trans _ _ ih1 ih2 => exact ⟨ih1.1.trans ih2.1, ih1.2.trans ih2.2⟩
theorem mid_lt {M : Hm} (hg : M.Good) {x : Pr} (hx : x ∈ M.l) : mid M x.1 < 9223372036854775808 := by
  obtain ⟨i, hi, -, h3⟩ := hg.cell hx
  have h1 := vof_lt M.u M.m i hg.m1 (by have := hg.s; omega) h3
  have h2 := two_pos (M.u + ibk M.m i)
  unfold mid
  rw [hi, show ((i : Nat) : Int).toNat = i by omega]
  omega
theorem mts_ok {M : Hm} (hg : M.Good) : ∀ t ∈ mts M M.l, TmOk t := fun t ht => by
  obtain ⟨x, hx, rfl⟩ := List.mem_map.1 ht
  have h1 := mid_lt hg hx
  have h2 := pos_small hg x hx
  exact ⟨by simp only; omega, by simp only; omega, h2⟩
/-- the mean -/
def meanV (M : Hm) : Int := ((lsm (mts M M.l) / wts (mts M M.l) : Nat) : Int) - 9223372036854775808
theorem TmI.ofOwns {w : World} {e : TypeId} {q : Option Addr} {n d : Nat} {l : List Tm} (h : w.ownsRow 0 e 2 (.slice q n d) n (prs l)) (hm : n ≤ maxLen) : TmI w q l :=
  have h1 := pri_own h hm
  ⟨h1.len, h1.cel⟩
/-- a row of terms that is being made -/
structure AccT (w wr : World) (v : Value) (N : Nat) (L : List Tm) : Prop where
  own : wr.ownsRow 0 146 2 v N (prs L)
  fresh : Fresh w v
  fr : Fr S0 w wr
section
variable (g h : Nat) (M : Hm) (w : World) (s : HistIs w g h M)
include s
set_option maxRecDepth 100000 in
set_option maxHeartbeats 400000 in
theorem xmiddle_any (I : Nat) (hb : ibk M.m I ≤ 63 - (M.u + M.m)) (hI : I < 9223372036854775808) : Calls Tryz.prog 94 #[.pointer (some ⟨g, 0, none⟩), .int .i64 (I : Nat)] w fun e w' => e = .returned (.int .i64 (mid M (I : Nat) : Nat)) ∧ Fr S0 w w' := by
  have hlt := vof_lt M.u M.m I s.good.m1 (by have := s.good.s; omega) hb
  have hp := two_pos (M.u + ibk M.m I)
  have HV := Lib.hid (fun W (f : Fr S0 w W) => value_yes g (M.L : Nat) (M.H : Nat) (M.D : Nat) M.u M.m W (s.fr0 f).map I hI hb)
  have HS := Lib.hid (fun W (f : Fr S0 w W) => ask_size g (M.L : Nat) (M.H : Nat) (M.D : Nat) M.u M.m W (s.fr0 f).map (vof M.u M.m I) (by omega))
  rw [hwid_vof M.u M.m I s.good.m1 (by have := s.good.s; omega) hb] at HS
  have HMI : Hid (mid M (I : Nat) = vof M.u M.m I + 2 ^ (M.u + ibk M.m I) / 2) := Lib.hid (by unfold mid; rw [show ((I : Nat) : Int).toNat = I by omega])
  obtain ⟨V, eV⟩ : ∃ V, vof M.u M.m I = V := ⟨_, rfl⟩
  obtain ⟨Z, eZ⟩ : ∃ Z, 2 ^ (M.u + ibk M.m I) = Z := ⟨_, rfl⟩
  simp only [eV] at HV HS hlt HMI
  simp only [eZ] at HS hlt hp HMI
  obtain ⟨X, eX⟩ : ∃ X, V + Z / 2 = X := ⟨_, rfl⟩
  rw [eX] at HMI
  rw [HMI.out]
  have q1 : (Z : Int).tdiv 2 = ((Z / 2 : Nat) : Int) := rfl
  obtain ⟨Y, eY⟩ : ∃ Y, Z / 2 = Y := ⟨_, rfl⟩
  rw [eY] at q1 eX
  have e1 : (V : Int) + (Y : Int) = (X : Int) := by omega
  have w1 : IntKind.i64.wrap (Y : Int) = (Y : Int) := by rw [IntKind.wrap_i64]; omega
  have w2 : IntKind.i64.wrap (X : Int) = (X : Int) := by rw [IntKind.wrap_i64]; omega
  clear s eV eZ eX eY hlt hp HMI
  go_enter Tryz.func94, Tryz.ntmps94
  go_wp2_with fail
  refine (HV.out _ (Fr.refl _ _)).mono ?_
  rintro e w1 ⟨rfl, f1⟩
  have F1 := Lib.hid f1
  clear f1
  go_wp2_with fail
  refine (HS.out _ F1.out).mono ?_
  rintro e w2 ⟨rfl, f2⟩
  have F2 := Lib.hid (F1.out.trans0 f2)
  clear f2
  go_wp2_with fail
  go_ret
  exact ⟨rfl, F2.out⟩
set_option maxRecDepth 100000 in
set_option maxHeartbeats 400000 in
theorem xmean_no (h0 : ltot M.l = 0) : Calls Tryz.prog 49 #[.pointer (some ⟨g, 0, none⟩)] w fun e w' => e = .returned (.tuple #[.int .i64 0, .int .i64 8]) ∧ Fr S0 w w' := by
  have c8 := s.c8
  rw [h0] at c8
  clear s h0
  go_enter Tryz.func49, Tryz.ntmps49
  go_wp2_with fail
  go_ret2
  exact ⟨rfl, Fr.refl _ _⟩
set_option maxRecDepth 100000 in
set_option maxHeartbeats 2000000 in
theorem xmean_yes (h0 : 0 < ltot M.l) (hl : M.l.length ≤ 100000) : Calls Tryz.prog 49 #[.pointer (some ⟨g, 0, none⟩)] w fun e w' => e = .returned (.tuple #[.int .i64 (meanV M), .int .i64 0]) ∧ Fr S0 w w' := by
  have MP := Lib.hid s.mp
  have HS := Lib.hid s
  have HHL := Lib.hid s.mp.lt
  have HTOT := s.good.tot
  have c7 := s.c7
  have c8 := s.c8
  have HMEAN : Hid (∀ (D : List Pr) p c W, D.Perm M.l → TmI W p (mts M D) → Calls Tryz.prog 95 #[.slice p D.length c] W fun e w' => e = .returned (.tuple #[.int .i64 (meanV M), .int .i64 0]) ∧ Fr S0 W w') := Lib.hid fun D p c W hp ht => by
    obtain ⟨e1, e2⟩ := wts_perm (show (mts M D).Perm (mts M M.l) from hp.map _)
    have h1 := mean_any p c (mts M D) W ht fun t ht => mts_ok s.good t ((hp.map _).mem_iff.1 ht)
    rw [mts_len] at h1
    refine h1.mono fun e w' he => ?_
    have h2 := he.yes (by
      unfold MeanNo
      rw [e1, wts_mts]
      omega)
    rw [e1, e2] at h2
    exact h2
  have HMID : Hid (∀ x, x ∈ M.l → ∀ W, Fr S0 w W → Calls Tryz.prog 94 #[.pointer (some ⟨g, 0, none⟩), .int .i64 x.1] W fun e w' => e = .returned (.int .i64 (mid M x.1 : Nat)) ∧ Fr S0 W w') := Lib.hid fun x hx W f => by
    obtain ⟨i, hi, h2, h3⟩ := s.good.cell hx
    rw [hi]
    exact xmiddle_any g h M W (s.fr0 f) i h3 h2
  obtain ⟨T, eT⟩ : ∃ T, ltot M.l = T := ⟨_, rfl⟩
  rw [eT] at c8 h0
  obtain ⟨X, eX⟩ : ∃ X, meanV M = X := ⟨_, rfl⟩
  rw [eX] at HMEAN
  rw [eX]
  obtain ⟨l, el⟩ : ∃ l, M.l = l := ⟨_, rfl⟩
  rw [el] at MP HMEAN HMID hl
  have hz : ((T : Int) == 0) = false := by rw [beq_eq_false_iff_ne]; omega
  have HR : Hid (∀ k, k ≤ 100001 → Room k) := Lib.hid fun k hk => Room.mk (by omega)
  have HL := Lib.hid hl
  clear s eT eX el hl HTOT
  go_enter Tryz.func49, Tryz.ntmps49
  go_wp2_with (at_range; refine wpList_range_mp _ rfl _ rfl h l rfl MP.out ?_; intro w2 it2 f2; have IT2 := Lib.hid it2; have F2 := Lib.hid f2; clear it2 f2)
  obtain ⟨r, hr⟩ : ∃ r, w.heap.size = r := ⟨_, rfl⟩
  have HRW := Lib.hid hr
  rw [hr] at IT2
  rw [hr]
  clear hr
  go_frame
  go_loopw [4] (fun a wr => ∃ (D R : List Pr) (v : Value), a = v ∧ Hid (AccT w wr v D.length (mts M D) ∧ Itr wr r h l D R ∧ (∀ k, v.ownBlock = some k → k ≠ r) ∧ ∀ x, x ∈ D → x ∈ l)) (fun _ wr => l.length - came wr r)
  case atStart => exact ⟨[], l, _, rfl, Lib.hid ⟨⟨World.ownsRow_nil _ _ _ _, fresh_nil _ _, F2.out⟩, IT2.out, (fun y hy => by cases hy), fun x hx => by cases hx⟩⟩
  case round =>
    obtain ⟨D, R, v, rfl, HK⟩ := hrel
    go_wp2_with (at_next; refine wpList_next_mp _ rfl _ rfl _ _ _ _ _ rfl HK.out.2.1 ?_ ?_)
    · intro hperm hR
      obtain ⟨q, d, rfl⟩ := slFormN HK.out.1.own
      have HME := Lib.hid (HMEAN.out D q d wr hperm (TmI.ofOwns HK.out.1.own (by have h1 := hperm.length_eq; have h2 := HL.out; unfold maxLen; omega)))
      clear hperm hR
      go_wp2_with fail
      refine HME.out.mono ?_
      rintro e w5 ⟨rfl, f5⟩
      have F5 := Lib.hid (HK.out.1.fr.trans0 f5)
      clear f5 HME
      go_wp2_with fail
      go_ret2
      exact ⟨rfl, F5.out⟩
    · intro a b R' w3 hx it3 f3 hen
      have hir := it3.lt
      have hcm := it3.came
      have hcm0 := HK.out.2.1.came
      rw [List.length_append, List.length_singleton] at hcm
      have hN := HL.out
      have HA3 : Hid (AccT w w3 u4 D.length (mts M D)) := Lib.hid ⟨f3.owns HK.out.1.own fun k hk e => HK.out.2.2.1 k hk e, HK.out.1.fresh, HK.out.1.fr.trans f3 fun j hj e => by have h1 := HRW.out; have h2 : j = r := e; omega⟩
      have HIT := Lib.hid it3
      have HRD : Hid (Room (D.length + 1)) := HR.out _ (by omega)
      have HCM := Lib.hid (show came wr r < l.length ∧ came wr r = D.length from ⟨by omega, hcm0.1⟩)
      have HIR := Lib.hid hir
      have HMD := Lib.hid (HMID.out (a, b) hx w3 HA3.out.fr)
      have HIN := Lib.hid hx
      obtain ⟨Z, eZ⟩ : ∃ Z, mid M a = Z := ⟨_, rfl⟩
      have HZ := Lib.hid eZ
      simp only [eZ] at HMD
      clear hx it3 f3 hir hcm hcm0 hN eZ
      go_wp2_with fail
      refine HMD.out.mono ?_
      rintro e w5 ⟨rfl, f5⟩
      have F5 := Lib.hid f5
      have HA5 : Hid (AccT w w5 u4 D.length (mts M D)) := Lib.hid ⟨f5.owns HA3.out.own fun _ _ h => h, HA3.out.fresh, HA3.out.fr.trans0 f5⟩
      have HIT5 := Lib.hid (HIT.out.fr f5 (fun h => h) (fun h => h))
      have HIR5 : Hid (r < w5.heap.size) := Lib.hid (Nat.lt_of_lt_of_le HIR.out f5.size)
      clear f5 HMD HA3 HIT HIR
      go_wp2_with ((with_reducible show wpList _ _ _ (Oper.mk (some 31) _ _ _ _ _ :: _) _ _); refine app_one elTm (.tmp 24) (.tmp 30) rfl HA5.out.own rfl rfl rfl rfl rfl (one_pr Z b) HRD.out ?_; intro g1 cap1 w4 hown hgrow hat hlt; have HA4 : Hid (AccT w w4 (.slice (some ⟨g1, 0, none⟩) (D.length + 1) cap1) (D.length + 1) (mts M D ++ [((Z : Int), b)])) := Lib.hid ⟨by rw [show prs (mts M D ++ [((Z : Int), b)]) = prs (mts M D) ++ #[Value.int .i64 (Z : Int), Value.int .u64 (b : Int)].toList by simp [prs]]; exact hown, fresh_app HA5.out.fr HA5.out.fresh hat, (HA5.out.fr.trans0 (Fr.alloc S0 w5 _)).append hgrow HA5.out.fresh⟩; have HIT4 := Lib.hid (HIT5.out.fr ((Fr.alloc (fun k => u4.ownBlock = some k) w5 _).trans (Fr.grown hgrow) fun _ _ e => e) (fun e => HK.out.2.2.1 _ e rfl) (fun e => absurd (HK.out.1.fresh _ e) (Nat.not_le_of_lt HHL.out))); have HG4 : Hid (g1 ≠ r) := Lib.hid (hat.elim (fun e => HK.out.2.2.1 _ e) fun e => (by have := HIR5.out; omega)); clear hown hgrow hat hlt)
      go_roundw
      case rel => exact ⟨D ++ [(a, b)], R', _, rfl, Lib.hid ⟨by rw [List.length_append, mts_app, show mts M [(a, b)] = [((Z : Int), b)] by simp [mts, HZ.out]]; exact HA4.out, HIT4.out, (fun k hk => by obtain rfl := Option.some.inj hk; exact HG4.out), fun x hx => (List.mem_append.1 hx).elim (HK.out.2.2.2 x) fun h => by rw [List.mem_singleton.1 h]; exact HIN.out⟩⟩
      case measure =>
        have h1 := HIT4.out.came
        rw [List.length_append, List.length_singleton] at h1
        have h2 := HCM.out
        omega
end
end Go.Proofs.YthfcfmnaiopogaaGreat
