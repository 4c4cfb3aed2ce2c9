/- SpCut, SpRef -/
import Derived.Test.YtaemgflhgdlmiaaGreatPw1
import Derived.Test.YtaemgflhgdlmiaaGreatPw2
import Derived.Test.YtaemgflhgdlmiaaGreatPw4
import Derived.Test.YtaemgflhgdlmiaaGreatPw5
import Derived.Test.YtaemgflhgdlmiaaGreatPw6
import Derived.Test.YtaemgflhgdlmiaaGreatPw7
import Derived.Test.YtaemgflhgdlmiaaGreatPw8
import Derived.Test.YtaemgflhgdlmiaaGreatPw14
import Derived.Test.YtaemgflhgdlmiaaGreatPw15
import Derived.Test.YtaemgflhgdlmiaaGreatPw16
import Derived.Test.YtaemgflhgdlmiaaGreatPw17
import Derived.Deep.RegionLaw
import Derived.Deep.RegionHeld3
import Derived.Maps.AppendAt
import Derived.Lib.SliceRun
import Derived.StillTailTactics
import Derived.BigRegion
import Derived.WalkKit
import Derived.WalkSpells
import Derived.WalkLawsBesides
import Derived.Deep.QuietTactic
import Derived.BigQuiet
import Derived.RegionTactic
import Derived.Deep.AppendLies
import Derived.Laws.ResultCell
import Derived.Laws.EntriesVeiled
import Derived.Lib.Hide
import Derived.Test.YtaemgflhgdlmiaaGreatRows
import Derived.Laws.BytesArg
import Derived.Lib.SlBytesConst
import Derived.Laws.AppendOwnNone
import Derived.Lib.AppendZeros
import Derived.Laws.CopyOwn
import Derived.Lib.Overlaps
import Derived.Laws.Externs
import Derived.Lib.AppendZerosOnto
import Derived.Laws.OwnMore
import Derived.Deep.CutBlock
import Derived.Deep.DeepCutAuto
import Derived.Deep.CutRange
set_option maxRecDepth 100000
set_option maxHeartbeats 8000000
namespace Go.Proofs.YtaemgflhgdlmiaaGreat
open Go.RowKit
variable {X : Sx}
theorem StIs.intro {w : World} {g h : Nat} {p : Option Addr} {n c : Nat} {l : List Pr} (s : Sto X w g h p n c l) : StIs X w g h l := ⟨p, n, c, s⟩
def most (m : Int) : Nat := (max m 1).toNat
theorem most_pos (m : Int) : 1 ≤ most m := by unfold most; omega
theorem cut_split {l : List Pr} {m j : Nat} (hm : 1 ≤ m) (h : m < l.length) (hj : l.length - m = j) : ∃ hj2 : j < l.length, cutN l m = (l[j].1, l[j].2 + ltot (l.take j)) :: l.drop (j + 1) ∧ cutA l m = ltot (l.take j) := by
  subst hj
  refine ⟨by omega, ?_, rfl⟩
  unfold cutN
  rw [if_neg (by omega), List.drop_eq_getElem_cons (by omega)]
section
variable (g h : Nat) (m : Int) (l : List Pr) (w : World)
theorem cut_any (hm64 : -9223372036854775808 ≤ m ∧ m ≤ 9223372036854775807) (s : StIs X w g h l) :
    Calls Tryz.prog 103 #[.pointer (some ⟨g, 3, none⟩), .int .i64 m] w fun e w' => e = .returned (.int .u64 (cutA l (most m) : Nat)) ∧ ∃ h', Turned X w w' g h h' (cutN l (most m)) := by
  obtain ⟨p, n, c, s⟩ := s
  have c0 := s.raw.c0
  have hsm := s.small
  obtain ⟨M, hM⟩ : ∃ M, most m = M := ⟨_, rfl⟩
  have hM1 : 1 ≤ M := by rw [← hM]; exact most_pos m
  have emax : (if m < 1 then (1 : Int) else m) = (M : Int) := by rw [← hM]; unfold most; split <;> omega
  have emax2 : max m 1 = (M : Int) := by rw [← hM]; unfold most; omega
  have hMb : (M : Int) ≤ 9223372036854775807 := by omega
  rw [hM]
  by_cases hle : l.length ≤ M
  · rw [cutA_none hle, cut_none hle]
    have HT := Lib.hid (fun W f => Turned.same (w' := W) (StIs.intro s) f)
    have hx : (n : Int) - (M : Int) ≤ 0 := by have := s.len; omega
    have hb1 : -9223372036854775808 ≤ (n : Int) - (M : Int) := by omega
    clear s hM hle hM1
    go_enter Tryz.func103, Tryz.ntmps103
    go_wp2_with fail
    go_ret
    exact ⟨rfl, h, HT.out w (Fr.refl _ _)⟩
  · obtain ⟨J, hJ⟩ : ∃ J, l.length - M = J := ⟨_, rfl⟩
    obtain ⟨hJl, e1, e2⟩ := cut_split hM1 (by omega) hJ
    have hln := s.len
    rcases s.base with ⟨-, h2, -, -⟩ | rfl
    · omega
    obtain ⟨A, hA⟩ : ∃ A, ltot (l.take J) = A := ⟨_, rfl⟩
    obtain ⟨⟨k, tn⟩, ht⟩ : ∃ t, l[J] = t := ⟨_, rfl⟩
    obtain ⟨V, hV⟩ : ∃ V, tn + A = V := ⟨_, rfl⟩
    rw [ht, hA] at e1
    rw [hA] at e2
    simp only at e1
    rw [hV] at e1
    rw [e1, e2]
    have hgood : Good (cutN l M) := s.ok.cut hM1
    have htot : ltot (cutN l M) = ltot l := cut_tot s.ok.srt s.ok.pos hM1
    rw [e1] at hgood htot
    have HG := Lib.hid hgood
    have HTT := Lib.hid htot
    have hVt : V ≤ 4611686018427387904 := by have := hgood.tot; rw [ltot] at this; simp only at this; omega
    have HLL : Hid (l = l.take J ++ (k, tn) :: l.drop (J + 1) ∧ (l.take J).length = J) := Lib.hid ⟨by
      have := List.take_append_drop J l
      rw [List.drop_eq_getElem_cons hJl, ht] at this
      exact this.symm, by rw [List.length_take]; omega⟩
    have HSU := Lib.hid (sum_any (some ⟨h, 0, none⟩) J c (l.take J) w (s.pri.take J) (by rw [List.length_take]; omega) (by have := tot_take_le l J; have := s.ok.tot; omega))
    rw [hA] at HSU
    obtain ⟨b', o', hp, -, d1⟩ := s.pri.at J hJl
    simp only [Option.some.injEq, Addr.mk.injEq] at hp
    obtain ⟨rfl, rfl, -⟩ := hp
    rw [ht, Nat.zero_add] at d1
    simp only at d1
    have HS := Lib.hid s
    have HD := Lib.hid d1
    have esum : (tn : Int) + (A : Int) = (V : Int) := by omega
    have esub : (n : Int) - (M : Int) = (J : Int) := by omega
    have hJn : (J : Int) < (n : Int) := by omega
    have hJ0 : (0 : Int) < (J : Int) := by omega
    have hJp : 0 < J := by omega
    have hJn2 : J < n := by omega
    have hcap := s.cap
    unfold maxLen at hcap
    have hJc : (J : Int) ≤ (c : Int) := by omega
    have hVm : (V : Int) ≤ 4611686018427387904 := by omega
    have hJb : decide ((J : Int) ≤ 0) = false := decide_eq_false (by omega)
    clear s hM hM1 hle hJ hJl hln hA hV hgood htot ht e1 e2 d1
    go_enter Tryz.func103, Tryz.ntmps103
    go_wp2_with fail
    refine HSU.out.mono ?_
    rintro e w1 ⟨rfl, f1⟩
    have s1 := HS.out.fr0 f1
    have HS1 := Lib.hid s1
    have HF1 := Lib.hid f1
    have c0 := s1.raw.c0
    have d1 := f1.cell HD.out (fun h => h)
    have d2 := s1.own.frozenAt (J * 2 + 1)
    obtain ⟨W2, hW2⟩ : ∃ W2, w1.setCell ⟨h, J * 2 + 1, none⟩ (.int .u64 (V : Int)) = W2 := ⟨_, rfl⟩
    have f2 : Fr (· = h) w1 W2 := by rw [← hW2]; exact Fr.setCell _ _ _ _ rfl
    have hhg : h ≠ g := s1.apart (by simp)
    have r2 : Raw X W2 g (some ⟨h, 0, none⟩) n c (ltot l) := s1.raw.fr f2 fun e => hhg e.symm
    have o2 : W2.ownsRow 0 67 2 (.slice (some ⟨h, 0, none⟩) n c) n (prs (l.take J ++ (k, V) :: l.drop (J + 1))) := by
      have e := prs_set (l.take J) k tn V (l.drop (J + 1)) J HLL.out.2
      rw [← HLL.out.1] at e
      rw [← e, ← hW2]
      exact (s1.own.stored (J * 2 + 1) (.int .u64 (V : Int))).1
    have y0 := r2.c0
    have HR2 := Lib.hid r2
    have HF2 := Lib.hid ((f1.mono (T := fun x => x = g ∨ x = h) fun _ _ h => h.elim).trans f2 fun _ _ e => .inr e)
    have HDL := Lib.hid (del_any h n c J (l.take J ++ (k, V) :: l.drop (J + 1)) W2 o2 hsm (by omega) (by omega) hJp hJn2)
    rw [List.drop_left' HLL.out.2] at HDL
    have HHG := Lib.hid hhg
    clear s1 f1 f2 r2 o2 HSU hhg
    go_wp2_with fail
    refine HDL.out.mono ?_
    rintro e w3 ⟨rfl, o3, f3⟩
    have r3 := HR2.out.fr f3 fun e => HHG.out e.symm
    have HR3 := Lib.hid r3
    have HO3 := Lib.hid o3
    have HF3 := Lib.hid (HF2.out.trans f3 fun _ _ e => .inr e)
    have u0 := r3.c0
    have u1 := r3.fz 3
    clear r3 o3 f3 HDL y0 c0 d1 d2 hW2
    go_wp2_with fail
    go_ret
    exact ⟨rfl, h, ⟨fin h HR3.out HO3.out (fun a ha => by obtain rfl := Option.some.inj ha; exact HHG.out) HTT.out.symm HG.out, .inl rfl, HF3.out.trans (Fr.setCell (· = g) _ _ _ rfl) fun _ _ e => .inl e⟩⟩
end
end Go.Proofs.YtaemgflhgdlmiaaGreat

namespace Go.Proofs.YtaemgflhgdlmiaaGreat
open Go.RowKit
section
variable (p : Option Addr) (n c : Nat) (k : Int) (l : List Pr) (w : World)
theorem rcut_any (m : Int) (h : PrI w p l) (hn : l.length = n) (hN : n ≤ 100000) (ht : ltot l < 18446744073709551616) :
    Calls Tryz.prog 67 #[.slice p n c, .int .i64 m] w fun e w' => ∃ v, e = .returned (.tuple #[v, .int .u64 (cutA l (most m) : Nat)]) ∧ Got w w' p v (cutN l (most m)) := by
  obtain ⟨M, hM⟩ : ∃ M, most m = M := ⟨_, rfl⟩
  have hM1 : 1 ≤ M := by rw [← hM]; exact most_pos m
  have hcase : (m < 1 ∧ M = 1) ∨ (¬ m < 1 ∧ m = (M : Int)) := by
    rw [← hM]; unfold most
    by_cases h : m < 1
    · exact .inl ⟨h, by omega⟩
    · exact .inr ⟨h, by omega⟩
  rw [hM]
  by_cases hle : l.length ≤ M
  · rw [cutA_none hle, cut_none hle]
    have HG := Lib.hid (Got.same (c := c) h hn (Fr.refl S0 w))
    have hnM : (n : Int) ≤ (M : Int) := by omega
    rcases hcase with ⟨h1, rfl⟩ | ⟨h1, rfl⟩
    · clear h hn ht hM hle hM1
      go_enter Tryz.func67, Tryz.ntmps67
      go_wp2_with fail
      go_ret2
      exact ⟨_, rfl, HG.out⟩
    · have h2 : decide ((M : Int) < 1) = false := decide_eq_false h1
      clear h hn ht hM hle
      go_enter Tryz.func67, Tryz.ntmps67
      go_wp2_with fail
      go_ret2
      exact ⟨_, rfl, HG.out⟩
  · have HH := Lib.hid h
    have hlen := h.len
    clear h
    obtain ⟨J, hJ⟩ : ∃ J, l.length - M = J := ⟨_, rfl⟩
    obtain ⟨hJl, ec, ea⟩ := cut_split hM1 (by omega) hJ
    obtain ⟨A, hA⟩ : ∃ A, ltot (l.take J) = A := ⟨_, rfl⟩
    rw [hA] at ec ea
    obtain ⟨C, hC⟩ : ∃ C, cutN l M = C := ⟨_, rfl⟩
    rw [ea, hC]
    have HC := Lib.hid (hC.symm.trans ec)
    have HA := Lib.hid hA
    have HN := Lib.hid hn
    have HT := Lib.hid ht
    have HAT : Hid (l[J].2 + A < 18446744073709551616) := Lib.hid (by
      have h1 := tot_take hJl
      have h2 := tot_take_le l (J + 1)
      omega)
    have HCL : Hid (C.length = n - J) := Lib.hid (by rw [← hC, ec, List.length_cons, List.length_drop, hn]; omega)
    have hJn : J < n := by omega
    have hJn2 : (J : Int) < (n : Int) := by omega
    rcases hcase with ⟨h1, rfl⟩ | ⟨h1, rfl⟩
    · have eJ : (n : Int) - 1 = (J : Int) := by omega
      have hnle : decide ((n : Int) ≤ 1) = false := decide_eq_false (by omega)
      clear hC ec ea hA hn ht hM hle hJ hM1
      go_enter Tryz.func67, Tryz.ntmps67
      go_wp2_with fail
      go_loopw [6, 7] (fun s i wr => ∃ j T : Nat, j ≤ J ∧ i = .int .i64 j ∧ s = .int .u64 T ∧ Hid (ltot (l.take j) = T) ∧ w = wr) (fun _ i _ => J - (intOf i).toNat)
      case atStart => exact ⟨0, 0, by omega, rfl, rfl, (by first | exact Lib.hid rfl | exact Lib.hid trivial), rfl⟩
      case round =>
        obtain ⟨j, T, hj, rfl, rfl, hT, hw⟩ := hrel
        obtain rfl := hw
        by_cases hjn : (j : Int) < (J : Int)
        · have hjl : j < l.length := by rw [HN.out]; omega
          obtain ⟨b, o, rfl, c0, c1⟩ := HH.out.at j hjl
          have HD := Lib.hid (tot_take hjl)
          have hlt := tot_take_le l (j + 1)
          rw [HD.out, hT.out] at hlt
          obtain ⟨⟨tk, tn⟩, ht⟩ : ∃ t, l[j] = t := ⟨_, rfl⟩
          rw [ht] at c0 c1 HD hlt
          simp only at c0 c1 hlt HD
          have hb : T + tn < 18446744073709551616 := by have := HT.out; omega
          have HDD : Hid (ltot (l.take (j + 1)) = T + tn) := Lib.hid (by rw [HD.out, hT.out])
          have hjn2 : (j : Int) < (n : Int) := by omega
          clear HD hT ht hlt
          go_wp2_with fail
          go_roundw
          case rel => exact ⟨j + 1, T + tn, by omega, by go_num, by go_num, HDD, trivial⟩
          case measure => simp [intOf]; omega
        · obtain rfl : j = J := by omega
          obtain rfl : T = A := hT.out.symm.trans HA.out
          clear hT
          go_wp2_with fail
          go_loopw [8, 9, 10] (fun o i _ wr => ∃ t : Nat, j + t ≤ n ∧ i = .int .i64 ((j + t : Nat) : Int) ∧ Hid (Acc w wr o t (C.take t))) (fun _ i _ _ => n - (intOf i).toNat)
          case atStart => exact ⟨0, by omega, by go_num, Lib.hid (Acc.nil (Fr.refl _ _))⟩
          case round =>
            obtain ⟨t, ht, rfl, hacc⟩ := hrel
            obtain ⟨pv, cv, rfl⟩ := slFormN hacc.out.own
            have HR : Hid (Room (t + 1)) := Lib.hid (Room.mk (by omega))
            have eI : ((j + t : Nat) : Int) = (j : Int) + (t : Int) := by omega
            obtain ⟨I, hI⟩ : ∃ I, j + t = I := ⟨_, rfl⟩
            rw [hI]
            by_cases hin : (I : Int) < (n : Int)
            · have hil : I < l.length := by rw [HN.out]; omega
              obtain ⟨b, o, hpe, c0, c1⟩ := (HH.out.fr0 hacc.out.fr).at I hil
              subst hpe
              obtain ⟨⟨tk, tn⟩, hk⟩ : ∃ x, l[I]'hil = x := ⟨_, rfl⟩
              rw [hk] at c0 c1
              simp only at c0 c1
              have htc : t < C.length := by rw [HCL.out]; omega
              have hCt := List.take_succ_eq_append_getElem htc
              by_cases ht0 : t = 0
              · subst ht0
                have hIj : I = j := hI.symm
                have hC0 : C[0]'htc = (tk, tn + T) := by
                  have := HC.out
                  subst this
                  subst hIj
                  show (l[I].1, l[I].2 + T) = (tk, tn + T)
                  rw [hk]
                have hb : tn + T < 18446744073709551616 := by
                  have := HAT.out
                  subst hIj
                  rw [hk] at this
                  exact this
                obtain ⟨V, hV⟩ : ∃ V, tn + T = V := ⟨_, rfl⟩
                rw [hV] at hC0 hb
                have esum : (tn : Int) + (T : Int) = (V : Int) := by omega
                have HCT : Hid (C.take (0 + 1) = C.take 0 ++ [(tk, V)]) := Lib.hid (by rw [hCt, hC0])
                have hVm : (V : Int) < 18446744073709551616 := by omega
                have HIJ := Lib.hid hIj
                clear hC0 hk hV hCt htc hI eI hil hIj
                have HAB := Lib.hid (hacc.out.fr0 (Fr.alloc S0 wr (.cells #[.int .i64 tk, .int .u64 (V : Int)] 67)))
                go_upto_region 17 with fail
                go_wp2_with (at_builtin; refine app_one elPr (.tmp 55) (.tmp 57) (size_alloc _ _) HAB.out.own rfl rfl rfl rfl rfl (one_pr tk V) HR.out ?_; intro g1 cap1 w3 hown hgrow hat hlt; have HA3 := Lib.hid (HAB.out.app hown hgrow (hat.imp id fun h => h.trans (by rw [size_alloc]))); clear hown hgrow hat hlt)
                go_roundw
                case rel => exact ⟨0 + 1, by have := HIJ.out; omega, by rw [HIJ.out]; go_num, by rw [HCT.out]; exact HA3⟩
                case measure => simp [intOf]; omega
              · have ht0b : ((t : Int) == 0) = false := by rw [beq_eq_false_iff_ne]; omega
                have hCt2 : C[t]'htc = (tk, tn) := by
                  have hCC := HC.out
                  subst hCC
                  rw [← hk]
                  obtain ⟨t', rfl⟩ : ∃ t', t = t' + 1 := ⟨t - 1, by omega⟩
                  simp only [List.getElem_cons_succ, List.getElem_drop]
                  congr 1
                  omega
                have HCT : Hid (C.take (t + 1) = C.take t ++ [(tk, tn)]) := Lib.hid (by rw [hCt, hCt2])
                clear hCt2 hk hCt htc eI hil ht0
                have HAB := Lib.hid (hacc.out.fr0 (Fr.alloc S0 wr (.cells #[.int .i64 tk, .int .u64 (tn : Int)] 67)))
                go_upto_region 17 with fail
                go_wp2_with (at_builtin; refine app_one elPr (.tmp 55) (.tmp 57) (size_alloc _ _) HAB.out.own rfl rfl rfl rfl rfl (one_pr tk tn) HR.out ?_; intro g1 cap1 w3 hown hgrow hat hlt; have HA3 := Lib.hid (HAB.out.app hown hgrow (hat.imp id fun h => h.trans (by rw [size_alloc]))); clear hown hgrow hat hlt)
                go_roundw
                case rel => exact ⟨t + 1, by omega, by go_num, by rw [HCT.out]; exact HA3⟩
                case measure => simp [intOf]; omega
            · obtain rfl : I = n := by omega
              have HE : Hid (C.take t = C) := Lib.hid (List.take_of_length_le (by rw [HCL.out]; omega))
              go_wp2_with fail
              go_ret2
              exact ⟨_, rfl, (HE.out ▸ hacc.out).got _ (by rw [HCL.out]; omega) (Fr.refl _ _)⟩
    · have eJ : (n : Int) - (M : Int) = (J : Int) := by omega
      have hnle : decide (n ≤ M) = false := decide_eq_false (by omega)
      have h2 : decide ((M : Int) < 1) = false := decide_eq_false h1
      clear hC ec ea hA hn ht hM hle hJ
      go_enter Tryz.func67, Tryz.ntmps67
      go_wp2_with fail
      go_loopw [6, 7] (fun s i wr => ∃ j T : Nat, j ≤ J ∧ i = .int .i64 j ∧ s = .int .u64 T ∧ Hid (ltot (l.take j) = T) ∧ w = wr) (fun _ i _ => J - (intOf i).toNat)
      case atStart => exact ⟨0, 0, by omega, rfl, rfl, (by first | exact Lib.hid rfl | exact Lib.hid trivial), rfl⟩
      case round =>
        obtain ⟨j, T, hj, rfl, rfl, hT, hw⟩ := hrel
        obtain rfl := hw
        by_cases hjn : (j : Int) < (J : Int)
        · have hjl : j < l.length := by rw [HN.out]; omega
          obtain ⟨b, o, rfl, c0, c1⟩ := HH.out.at j hjl
          have HD := Lib.hid (tot_take hjl)
          have hlt := tot_take_le l (j + 1)
          rw [HD.out, hT.out] at hlt
          obtain ⟨⟨tk, tn⟩, ht⟩ : ∃ t, l[j] = t := ⟨_, rfl⟩
          rw [ht] at c0 c1 HD hlt
          simp only at c0 c1 hlt HD
          have hb : T + tn < 18446744073709551616 := by have := HT.out; omega
          have HDD : Hid (ltot (l.take (j + 1)) = T + tn) := Lib.hid (by rw [HD.out, hT.out])
          have hjn2 : (j : Int) < (n : Int) := by omega
          clear HD hT ht hlt
          go_wp2_with fail
          go_roundw
          case rel => exact ⟨j + 1, T + tn, by omega, by go_num, by go_num, HDD, trivial⟩
          case measure => simp [intOf]; omega
        · obtain rfl : j = J := by omega
          obtain rfl : T = A := hT.out.symm.trans HA.out
          clear hT
          go_wp2_with fail
          go_loopw [8, 9, 10] (fun o i _ wr => ∃ t : Nat, j + t ≤ n ∧ i = .int .i64 ((j + t : Nat) : Int) ∧ Hid (Acc w wr o t (C.take t))) (fun _ i _ _ => n - (intOf i).toNat)
          case atStart => exact ⟨0, by omega, by go_num, Lib.hid (Acc.nil (Fr.refl _ _))⟩
          case round =>
            obtain ⟨t, ht, rfl, hacc⟩ := hrel
            obtain ⟨pv, cv, rfl⟩ := slFormN hacc.out.own
            have HR : Hid (Room (t + 1)) := Lib.hid (Room.mk (by omega))
            have eI : ((j + t : Nat) : Int) = (j : Int) + (t : Int) := by omega
            obtain ⟨I, hI⟩ : ∃ I, j + t = I := ⟨_, rfl⟩
            rw [hI]
            by_cases hin : (I : Int) < (n : Int)
            · have hil : I < l.length := by rw [HN.out]; omega
              obtain ⟨b, o, hpe, c0, c1⟩ := (HH.out.fr0 hacc.out.fr).at I hil
              subst hpe
              obtain ⟨⟨tk, tn⟩, hk⟩ : ∃ x, l[I]'hil = x := ⟨_, rfl⟩
              rw [hk] at c0 c1
              simp only at c0 c1
              have htc : t < C.length := by rw [HCL.out]; omega
              have hCt := List.take_succ_eq_append_getElem htc
              by_cases ht0 : t = 0
              · subst ht0
                have hIj : I = j := hI.symm
                have hC0 : C[0]'htc = (tk, tn + T) := by
                  have := HC.out
                  subst this
                  subst hIj
                  show (l[I].1, l[I].2 + T) = (tk, tn + T)
                  rw [hk]
                have hb : tn + T < 18446744073709551616 := by
                  have := HAT.out
                  subst hIj
                  rw [hk] at this
                  exact this
                obtain ⟨V, hV⟩ : ∃ V, tn + T = V := ⟨_, rfl⟩
                rw [hV] at hC0 hb
                have esum : (tn : Int) + (T : Int) = (V : Int) := by omega
                have HCT : Hid (C.take (0 + 1) = C.take 0 ++ [(tk, V)]) := Lib.hid (by rw [hCt, hC0])
                have hVm : (V : Int) < 18446744073709551616 := by omega
                have HIJ := Lib.hid hIj
                clear hC0 hk hV hCt htc hI eI hil hIj
                have HAB := Lib.hid (hacc.out.fr0 (Fr.alloc S0 wr (.cells #[.int .i64 tk, .int .u64 (V : Int)] 67)))
                go_upto_region 17 with fail
                go_wp2_with (at_builtin; refine app_one elPr (.tmp 55) (.tmp 57) (size_alloc _ _) HAB.out.own rfl rfl rfl rfl rfl (one_pr tk V) HR.out ?_; intro g1 cap1 w3 hown hgrow hat hlt; have HA3 := Lib.hid (HAB.out.app hown hgrow (hat.imp id fun h => h.trans (by rw [size_alloc]))); clear hown hgrow hat hlt)
                go_roundw
                case rel => exact ⟨0 + 1, by have := HIJ.out; omega, by rw [HIJ.out]; go_num, by rw [HCT.out]; exact HA3⟩
                case measure => simp [intOf]; omega
              · have ht0b : ((t : Int) == 0) = false := by rw [beq_eq_false_iff_ne]; omega
                have hCt2 : C[t]'htc = (tk, tn) := by
                  have hCC := HC.out
                  subst hCC
                  rw [← hk]
                  obtain ⟨t', rfl⟩ : ∃ t', t = t' + 1 := ⟨t - 1, by omega⟩
                  simp only [List.getElem_cons_succ, List.getElem_drop]
                  congr 1
                  omega
                have HCT : Hid (C.take (t + 1) = C.take t ++ [(tk, tn)]) := Lib.hid (by rw [hCt, hCt2])
                clear hCt2 hk hCt htc eI hil ht0
                have HAB := Lib.hid (hacc.out.fr0 (Fr.alloc S0 wr (.cells #[.int .i64 tk, .int .u64 (tn : Int)] 67)))
                go_upto_region 17 with fail
                go_wp2_with (at_builtin; refine app_one elPr (.tmp 55) (.tmp 57) (size_alloc _ _) HAB.out.own rfl rfl rfl rfl rfl (one_pr tk tn) HR.out ?_; intro g1 cap1 w3 hown hgrow hat hlt; have HA3 := Lib.hid (HAB.out.app hown hgrow (hat.imp id fun h => h.trans (by rw [size_alloc]))); clear hown hgrow hat hlt)
                go_roundw
                case rel => exact ⟨t + 1, by omega, by go_num, by rw [HCT.out]; exact HA3⟩
                case measure => simp [intOf]; omega
            · obtain rfl : I = n := by omega
              have HE : Hid (C.take t = C) := Lib.hid (List.take_of_length_le (by rw [HCL.out]; omega))
              go_wp2_with fail
              go_ret2
              exact ⟨_, rfl, (HE.out ▸ hacc.out).got _ (by rw [HCL.out]; omega) (Fr.refl _ _)⟩
end
end Go.Proofs.YtaemgflhgdlmiaaGreat
