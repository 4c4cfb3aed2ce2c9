/- Steps that go to given values, by the law's own helper. -/
import Derived.Test.YthfcfmnaiopogaaGreatHrRanked
namespace Go.Proofs.YthfcfmnaiopogaaGreat
open Go.RowKit

/-- a step: where to, count, upto -/
abbrev StT := Int × Nat × Nat
/-- a slice of steps that is read -/
def StI (w : World) (p : Option Addr) (l : List StT) : Prop := ∀ i, (h : i < l.length) → ∃ b o, p = some ⟨b, o, none⟩ ∧ w.cell? ⟨b, o + i * 3, none⟩ = some (.int .i64 l[i].1) ∧ w.cell? ⟨b, o + i * 3 + 1, none⟩ = some (.int .u64 (l[i].2.1 : Nat)) ∧ w.cell? ⟨b, o + i * 3 + 2, none⟩ = some (.int .u64 (l[i].2.2 : Nat))
/-- what is counted up to the i-th value -/
def wasU (M : Hm) (tz : List Int) : Nat → Nat
  | 0 => 0
  | i + 1 => M.between 0 (tz.getD i 0)
theorem between_le (M : Hm) (v w : Int) : M.between v w ≤ ltot M.l := by
  unfold Hm.between
  split
  · omega
  · exact btw_le _ _ _
theorem wasU_le (M : Hm) (tz : List Int) : ∀ i, wasU M tz i ≤ ltot M.l
  | 0 => by simp [wasU]
  | i + 1 => between_le M _ _
/-- steps are what they should be -/
structure Stp (M : Hm) (tz : List Int) (l : List StT) : Prop where
  few : l.length ≤ tz.length
  none : ltot M.l = 0 → l.length = 0
  some : 0 < ltot M.l → 0 < l.length
  is : ∀ i, (h : i < l.length) → l[i] = (tz.getD i 0, wasU M tz (i + 1) - wasU M tz i, wasU M tz (i + 1)) ∧ wasU M tz i ≤ wasU M tz (i + 1) ∧ wasU M tz i < ltot M.l
  all : wasU M tz l.length = ltot M.l

section
variable {Is : World → Nat → (Nat → Prop) → Hm → Prop}
set_option maxRecDepth 100000 in
set_option maxHeartbeats 4000000 in
theorem steps_any (hr : HdrReads Is) (g : Nat) (C : Nat → Prop) (q : Nat) (p : Option Addr) (k c : Nat) (M : Hm) (w : World) (s : Is w g C M) (t : RefIs w q p k c M) (hk : k ≤ 100000)
    (ps : Option Addr) (n cs : Nat) (l : List StT) (pt : Option Addr) (m ct : Nat) (tz : List Int) (hn : l.length = n) (hl : StI w ps l) (hm : tz.length = m) (hz : ZI w pt tz) (hvb : ∀ v ∈ tz, -9223372036854775808 ≤ v ∧ v ≤ 9223372036854775807) (hs : Stp M tz l) (hnb : n < 4611686018427387904) :
    Calls Tryz.prog 44 #[.pointer (some ⟨g, 0, none⟩), .pointer (some ⟨q, 0, none⟩), .slice ps n cs, .slice pt m ct] w fun e w' => e = .returned (.bool true) ∧ Fr S0 w w' := by
  have hg := t.good
  have c7 := t.c7
  have HTOT := Lib.hid (fun W (f : Fr S0 w W) => hr.total (hr.fr s f (fun _ _ h => h)))
  have HRTOTAL := Lib.hid (fun W (f : Fr S0 w W) => rtotal_any p k c M.l W (t.pri.fr0 f) t.len (by have := hg.tot; omega))
  have HBET := Lib.hid (fun W (f : Fr S0 w W) (x : Int) (hx : x ≤ 9223372036854775807) => hbetween_any q p k c M W (t.fr0 f) 0 x (by omega) hx hk)
  have hwl := wasU_le M tz
  obtain ⟨T, eT⟩ : ∃ T, ltot M.l = T := ⟨_, rfl⟩
  have hT : T < 18446744073709551616 := by have := hg.tot; omega
  obtain ⟨few, non, som, is, al⟩ := hs
  rw [eT] at HTOT HRTOTAL hwl non som is al
  have HWL := Lib.hid hwl
  have HIS := Lib.hid is
  have HAL := Lib.hid al
  have HN := Lib.hid hn
  have HM := Lib.hid hm
  have HL := Lib.hid hl
  have HZ := Lib.hid hz
  have HVB := Lib.hid hvb
  rw [hn] at few non som
  rw [hm] at few
  have few2 : decide (m < n) = false := decide_eq_false (by omega)
  clear hg hwl is al hn hm hl hz hvb eT s t hk hr
  go_enter Tryz.func44, Tryz.ntmps44
  go_wp2_with fail
  refine (HRTOTAL.out w (Fr.refl _ _)).mono ?_
  rintro e w1 ⟨rfl, f1⟩
  have F1 := Lib.hid f1
  clear f1 c7 HRTOTAL
  by_cases ht0 : T = 0
  · subst ht0
    obtain rfl := non rfl
    go_wp2_with fail
    go_loopw [9, 11, 12] (fun zw z _ wr => z = .int .i64 0 ∧ zw = .int .u64 0 ∧ Hid (Fr S0 w wr)) (fun _ _ _ _ => 0)
    case atStart => exact ⟨rfl, rfl, F1⟩
    case round =>
      obtain ⟨rfl, rfl, hf⟩ := hrel
      have HT := Lib.hid (HTOT.out wr hf.out)
      go_wp2_with fail
      refine HT.out.mono ?_
      rintro e w2 ⟨rfl, f2⟩
      have F2 := Lib.hid (hf.out.trans0 f2)
      clear f2
      go_wp2_with fail
      go_ret
      exact ⟨rfl, F2.out⟩
  · have tz0 : ((T : Int) == 0) = false := by simp; omega
    have tp : (0 : Int) < (T : Int) := by omega
    have np := som (by omega)
    have nz : ((n : Int) == 0) = false := by simp; omega
    clear non som
    go_wp2_with fail
    go_loopw [9, 11, 12] (fun zw z _ wr => ∃ i : Nat, z = .int .i64 (i : Int) ∧ zw = .int .u64 (wasU M tz i : Nat) ∧ i ≤ n ∧ Hid (Fr S0 w wr)) (fun _ z _ _ => n - (intOf z).toNat)
    case atStart => exact ⟨0, rfl, rfl, by omega, F1⟩
    case round =>
      obtain ⟨i, rfl, rfl, hin, hf⟩ := hrel
      by_cases hik : i < n
      · have hil : i < l.length := by rw [HN.out]; exact hik
        have him : i < tz.length := by rw [HM.out]; omega
        obtain ⟨b, o, rfl, k0, k1, k2⟩ := HL.out i hil
        obtain ⟨b2, o2, rfl, k3⟩ := HZ.out i him
        obtain ⟨hst, hle, hlt⟩ := HIS.out i hil
        rw [hst] at k0 k1 k2
        simp only at k0 k1 k2
        have hvi := HVB.out _ (List.getElem_mem him)
        have hgd : tz.getD i 0 = tz[i] := by simp [him]
        have hwx : wasU M tz (i + 1) = M.between 0 tz[i] := by rw [wasU, hgd]
        rw [hgd] at k0
        obtain ⟨v, ev⟩ : ∃ v, tz[i] = v := ⟨_, rfl⟩
        rw [ev] at k0 k3 hvi hwx
        have hyl := HWL.out (i + 1)
        obtain ⟨X, eX⟩ : ∃ X, wasU M tz i = X := ⟨_, rfl⟩
        obtain ⟨Y, eY⟩ : ∃ Y, wasU M tz (i + 1) = Y := ⟨_, rfl⟩
        have EY := Lib.hid eY
        rw [eX, eY] at k1 hle
        rw [eY] at k2 hwx hyl
        rw [eX] at hlt ⊢
        obtain ⟨Z, eZ⟩ : ∃ Z, Y - X = Z := ⟨_, rfl⟩
        rw [eZ] at k1
        have hzz : (Y : Int) - (X : Int) = (Z : Int) := by omega
        have xt : ((X : Int) == (T : Int)) = false := by simp; omega
        have xt2 : ¬ X = T := by omega
        obtain ⟨hv1, hv2⟩ := hvi
        have HB := Lib.hid (fun W (f : Fr S0 wr W) => HBET.out W (hf.out.trans0 f) v hv2)
        rw [← hwx] at HB
        have HCEL := Lib.hid (fun W (f : Fr S0 w W) => And.intro (f.cell k0 (fun h => h)) (And.intro (f.cell k1 (fun h => h)) (And.intro (f.cell k2 (fun h => h)) (f.cell k3 (fun h => h)))))
        have y3 := hf.out.cell k3 (fun h => h)
        have hin2 : (i : Int) < (n : Int) := by omega
        have him2 : (i : Int) < (m : Int) := by omega
        clear k0 k1 k2 k3 hst hgd ev hwx eX eY eZ hil him
        go_wp2_with fail
        refine (HB.out wr (Fr.refl _ _)).mono ?_
        rintro e w2 ⟨rfl, f2⟩
        have F2 := Lib.hid (hf.out.trans0 f2)
        clear y3 f2
        obtain ⟨y0, y1, y2, y3⟩ := HCEL.out _ F2.out
        go_wp2_with fail
        go_quiet (fail)
        go_wp2_with fail
        go_roundw
        case rel => exact ⟨i + 1, by go_num, by rw [EY.out], by omega, Lib.hid (F2.out.trans0 (Fr.drewN S0 w2 _))⟩
        case measure => simp [intOf]; omega
      · have dg : decide (i < n) = false := decide_eq_false hik
        obtain rfl : i = n := by omega
        have hxt : wasU M tz i = T := by have := HAL.out; rw [HN.out] at this; exact this
        rw [hxt]
        have HT := Lib.hid (HTOT.out wr hf.out)
        clear hxt
        go_wp2_with fail
        refine HT.out.mono ?_
        rintro e w2 ⟨rfl, f2⟩
        have F2 := Lib.hid (hf.out.trans0 f2)
        clear f2
        go_wp2_with fail
        go_ret
        exact ⟨rfl, F2.out⟩
end
end Go.Proofs.YthfcfmnaiopogaaGreat
