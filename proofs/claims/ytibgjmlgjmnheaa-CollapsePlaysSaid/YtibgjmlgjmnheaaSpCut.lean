/- Cut and Take. -/
import Derived.Test.YtibgjmlgjmnheaaSpAdd
import Derived.Test.YtibgjmlgjmnheaaSpDel
import Derived.Test.YtibgjmlgjmnheaaSpMerge
namespace Go.Proofs.Ytibgjmlgjmnheaa
open Go.RowKit
variable {X : Sx}

theorem StIs.intro {w : World} {g h : Nat} {p : Option Addr} {n c : Nat} {l : List Pr} (s : Sto X w g h p n c l) : StIs X w g h l := ⟨p, n, c, s⟩
/-- what a number below 1 counts as -/
def most (m : Int) : Nat := (max m 1).toNat
theorem most_pos (m : Int) : 1 ≤ most m := by unfold most; omega
theorem cut_split {l : List Pr} {m j : Nat} (hm : 1 ≤ m) (h : m < l.length) (hj : l.length - m = j) : ∃ hj2 : j < l.length, cutN l m = (l[j].1, l[j].2 + ltot (l.take j)) :: l.drop (j + 1) ∧ cutA l m = ltot (l.take j) := by
  subst hj
  refine ⟨by omega, ?_, rfl⟩
  unfold cutN
  rw [if_neg (by omega), List.drop_eq_getElem_cons (by omega)]

section
variable (g h : Nat) (m : Int) (l : List Pr) (w : World)
set_option maxRecDepth 100000 in
set_option maxHeartbeats 2000000 in
theorem cut_any (hm64 : -9223372036854775808 ≤ m ∧ m ≤ 9223372036854775807) (s : StIs X w g h l) :
    Calls Try.prog 45 #[.pointer (some ⟨g, 1, none⟩), .int .i64 m] w fun e w' => e = .returned (.int .u64 (cutA l (most m) : Nat)) ∧ ∃ h', Turned X w w' g h h' (cutN l (most m)) := by
  obtain ⟨p, n, c, s⟩ := s
  have c0 := s.raw.c0
  have hsm := s.small
  obtain ⟨M, hM⟩ : ∃ M, most m = M := ⟨_, rfl⟩
  have hM1 : 1 ≤ M := by rw [← hM]; exact most_pos m
  have emax : (if m < 1 then (1 : Int) else m) = (M : Int) := by rw [← hM]; unfold most; split <;> omega
  have emax2 : max m 1 = (M : Int) := by rw [← hM]; unfold most; omega
  have hMb : (M : Int) ≤ 9223372036854775807 := by omega
  rw [hM]
  by_cases hle : l.length ≤ M
  · rw [cutA_none hle, cut_none hle]
    have HT := Lib.hid (fun W f => Turned.same (w' := W) (StIs.intro s) f)
    have hx : (n : Int) - (M : Int) ≤ 0 := by have := s.len; omega
    have hb1 : -9223372036854775808 ≤ (n : Int) - (M : Int) := by omega
    clear s hM hle hM1
    go_enter Try.func45, Try.ntmps45
    go_wp2_with fail
    go_ret
    exact ⟨rfl, h, HT.out w (Fr.refl _ _)⟩
  · obtain ⟨J, hJ⟩ : ∃ J, l.length - M = J := ⟨_, rfl⟩
    obtain ⟨hJl, e1, e2⟩ := cut_split hM1 (by omega) hJ
    have hln := s.len
    rcases s.base with ⟨-, h2, -, -⟩ | rfl
    · omega
    obtain ⟨A, hA⟩ : ∃ A, ltot (l.take J) = A := ⟨_, rfl⟩
    obtain ⟨⟨k, tn⟩, ht⟩ : ∃ t, l[J] = t := ⟨_, rfl⟩
    obtain ⟨V, hV⟩ : ∃ V, tn + A = V := ⟨_, rfl⟩
    rw [ht, hA] at e1
    rw [hA] at e2
    simp only at e1
    rw [hV] at e1
    rw [e1, e2]
    have hgood : Good (cutN l M) := s.ok.cut hM1
    have htot : ltot (cutN l M) = ltot l := cut_tot s.ok.srt s.ok.pos hM1
    rw [e1] at hgood htot
    have HG := Lib.hid hgood
    have HTT := Lib.hid htot
    have hVt : V ≤ 4611686018427387904 := by have := hgood.tot; rw [ltot] at this; simp only at this; omega
    have HLL : Hid (l = l.take J ++ (k, tn) :: l.drop (J + 1) ∧ (l.take J).length = J) := Lib.hid ⟨by
      have := List.take_append_drop J l
      rw [List.drop_eq_getElem_cons hJl, ht] at this
      exact this.symm, by rw [List.length_take]; omega⟩
    have HSU := Lib.hid (sum_any (some ⟨h, 0, none⟩) J c (l.take J) w (s.pri.take J) (by rw [List.length_take]; omega) (by have := tot_take_le l J; have := s.ok.tot; omega))
    rw [hA] at HSU
    obtain ⟨b', o', hp, -, d1⟩ := s.pri.at J hJl
    simp only [Option.some.injEq, Addr.mk.injEq] at hp
    obtain ⟨rfl, rfl, -⟩ := hp
    rw [ht, Nat.zero_add] at d1
    simp only at d1
    have HS := Lib.hid s
    have HD := Lib.hid d1
    have esum : (tn : Int) + (A : Int) = (V : Int) := by omega
    have esub : (n : Int) - (M : Int) = (J : Int) := by omega
    have hJn : (J : Int) < (n : Int) := by omega
    have hJ0 : (0 : Int) < (J : Int) := by omega
    have hJp : 0 < J := by omega
    have hJn2 : J < n := by omega
    have hcap := s.cap
    unfold maxLen at hcap
    have hJc : (J : Int) ≤ (c : Int) := by omega
    have hVm : (V : Int) ≤ 4611686018427387904 := by omega
    have hJb : decide ((J : Int) ≤ 0) = false := decide_eq_false (by omega)
    clear s hM hM1 hle hJ hJl hln hA hV hgood htot ht e1 e2 d1
    go_enter Try.func45, Try.ntmps45
    go_wp2_with fail
    refine HSU.out.mono ?_
    rintro e w1 ⟨rfl, f1⟩
    have s1 := HS.out.fr0 f1
    have HS1 := Lib.hid s1
    have HF1 := Lib.hid f1
    have c0 := s1.raw.c0
    have d1 := f1.cell HD.out (fun h => h)
    have d2 := s1.own.frozenAt (J * 2 + 1)
    obtain ⟨W2, hW2⟩ : ∃ W2, w1.setCell ⟨h, J * 2 + 1, none⟩ (.int .u64 (V : Int)) = W2 := ⟨_, rfl⟩
    have f2 : Fr (· = h) w1 W2 := by rw [← hW2]; exact Fr.setCell _ _ _ _ rfl
    have hhg : h ≠ g := s1.apart (by simp)
    have r2 : Raw X W2 g (some ⟨h, 0, none⟩) n c (ltot l) := s1.raw.fr f2 fun e => hhg e.symm
    have o2 : W2.ownsRow 0 53 2 (.slice (some ⟨h, 0, none⟩) n c) n (prs (l.take J ++ (k, V) :: l.drop (J + 1))) := by
      have e := prs_set (l.take J) k tn V (l.drop (J + 1)) J HLL.out.2
      rw [← HLL.out.1] at e
      rw [← e, ← hW2]
      exact (s1.own.stored (J * 2 + 1) (.int .u64 (V : Int))).1
    have y0 := r2.c0
    have HR2 := Lib.hid r2
    have HF2 := Lib.hid ((f1.mono (T := fun x => x = g ∨ x = h) fun _ _ h => h.elim).trans f2 fun _ _ e => .inr e)
    have HDL := Lib.hid (del_any h n c J (l.take J ++ (k, V) :: l.drop (J + 1)) W2 o2 hsm (by omega) (by omega) hJp hJn2)
    rw [List.drop_left' HLL.out.2] at HDL
    have HHG := Lib.hid hhg
    clear s1 f1 f2 r2 o2 HSU hhg
    go_wp2_with fail
    refine HDL.out.mono ?_
    rintro e w3 ⟨rfl, o3, f3⟩
    have r3 := HR2.out.fr f3 fun e => HHG.out e.symm
    have HR3 := Lib.hid r3
    have HO3 := Lib.hid o3
    have HF3 := Lib.hid (HF2.out.trans f3 fun _ _ e => .inr e)
    have u0 := r3.c0
    have u1 := r3.fz 1
    clear r3 o3 f3 HDL y0 c0 d1 d2 hW2
    go_wp2_with fail
    go_ret
    exact ⟨rfl, h, ⟨fin h HR3.out HO3.out (fun a ha => by obtain rfl := Option.some.inj ha; exact HHG.out) HTT.out.symm HG.out, .inl rfl, HF3.out.trans (Fr.setCell (· = g) _ _ _ rfl) fun _ _ e => .inl e⟩⟩
end
end Go.Proofs.Ytibgjmlgjmnheaa
