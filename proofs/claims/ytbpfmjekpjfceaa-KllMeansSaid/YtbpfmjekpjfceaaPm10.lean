/- KcHalve -/
import Derived.Test.YtbpfmjekpjfceaaPm1
import Derived.Test.YtbpfmjekpjfceaaPm2
import Derived.Test.YtbpfmjekpjfceaaPm3
import Derived.Test.YtbpfmjekpjfceaaPm4
import Derived.Test.YtbpfmjekpjfceaaPm6
import Derived.Test.YtbpfmjekpjfceaaPm7
import Derived.Test.YtbpfmjekpjfceaaPm8
import Derived.Test.YtbpfmjekpjfceaaPm9
import Derived.Deep.RegionLaw
import Derived.Deep.RegionHeld3
import Derived.BigRegion
import Derived.WalkKit
import Derived.Maps.AppendAt
import Derived.Laws.AppendOwnNone
import Derived.Laws.OwnMore
import Derived.Lib.AppendZerosOnto
import Derived.Lib.SliceRun
import Derived.Lib.Walk
import Derived.Laws.BytesArg
import Derived.Lib.SlBytesConst
import Derived.WalkSpells
import Derived.WalkLawsBesides
import Derived.Deep.QuietTactic
import Derived.BigQuiet
import Derived.RegionTactic
import Derived.Deep.AppendLies
import Derived.Laws.ResultCell
import Derived.Laws.EntriesVeiled
import Derived.Lib.Hide
import Derived.Test.YtbpfmjekpjfceaaRows
set_option maxRecDepth 100000
set_option maxHeartbeats 8000000
namespace Go.Proofs.Ytbpfmjekpjfceaa
open Go.RowKit
theorem KsTurn.len {C D : Nat → Prop} {w W : World} {g k T E : Nat} {L : Lv} (t : KsTurn w W g C D k L T E) : Fr C w W := let ⟨_, _, _, f, _⟩ := t; f
theorem stay_drop : ∀ l : List Int, stay l = l.drop (2 * (l.length / 2))
  | [] => rfl
  | [_] => by simp [stay]
  | a :: b :: r => by
    rw [stay, stay_drop r, show (a :: b :: r).length / 2 = r.length / 2 + 1 by simp only [List.length_cons]; omega, show 2 * (r.length / 2 + 1) = 2 * (r.length / 2) + 1 + 1 by omega, List.drop_succ_cons, List.drop_succ_cons]
theorem twos_sub (c : Nat) : ∀ l : List Int, (twos c l).Sublist l
  | [] => List.Sublist.refl _
  | [_] => List.nil_sublist _
  | a :: b :: r => by
    rw [twos]
    split
    · exact ((twos_sub c r).cons b).cons_cons a
    · exact ((twos_sub c r).cons_cons b).cons a
theorem twos_asc (c : Nat) {l : List Int} (h : Asc l) : Asc (twos c l) := List.Pairwise.sublist (twos_sub c l) h
theorem AscL.set {L : Lv} (hA : AscL L) (h : Nat) {l : List Int} (hl : Asc l) : AscL (L.set h l) := fun x hx => by
  rcases List.mem_or_eq_of_mem_set hx with h1 | rfl
  · exact hA x h1
  · exact hl
section
variable (g k T E h cc : Nat) (C D : Nat → Prop) (L : Lv) (w : World)
theorem xhalve_any (s : KsS w g C D k L T E) (hh : h < L.length) (hH : h ≤ 60) (hcc : cc < 2) (h2 : 2 ≤ L[h].length) (hA : AscL L) (hl : ∀ l ∈ L, l.length ≤ 1000000) (hE : E ≤ 4611686018427387904) :
    Calls Try.prog 72 #[.pointer (some ⟨g, 0, none⟩), .int .i64 (h : Nat), .int .i64 (cc : Nat)] w fun e w' => e = .returned (.tuple #[]) ∧ KsTurn w w' g C D k (comp L h cc) T (ledg E (2 ^ h)) := by
  obtain ⟨p, n, c, rs, s⟩ := s
  have c1 := s.c1
  obtain ⟨b, rfl, hbg, hbC, q, m, d, ch, z, zh, hdd⟩ := s.lev h hh
  have hml : m ≤ 1000000 := by rw [← z.len]; exact hl _ (List.getElem_mem hh)
  have hlen := s.len
  obtain ⟨l, hl0⟩ : ∃ l, L[h] = l := ⟨_, rfl⟩
  rw [hl0] at z h2
  have hzl := z.len
  have hasc : Asc l := by rw [← hl0]; exact hA.at h hh
  obtain ⟨e2, he2⟩ : ∃ e2, m / 2 = e2 := ⟨_, rfl⟩
  obtain ⟨r2, hr2⟩ : ∃ r2, m % 2 = r2 := ⟨_, rfl⟩
  obtain ⟨ev, hev⟩ : ∃ ev, 2 * e2 = ev := ⟨_, rfl⟩
  have ir : (m : Int) % 2 = (r2 : Int) := by omega
  have ir2 : (m : Int).tmod 2 = (r2 : Int) := by rw [Int.tmod_eq_emod_of_nonneg (by omega)]; exact ir
  have ie : (m : Int) - (r2 : Int) = (ev : Int) := by omega
  have hevm : ev ≤ m := by omega
  have HS := Lib.hid s
  have HZ := Lib.hid z
  have HL0 := Lib.hid hl0
  have HZL := Lib.hid hzl
  have HAL := Lib.hid hA
  have HLL := Lib.hid hl
  have HASC := Lib.hid hasc
  have HDD := Lib.hid hdd
  have HE2 : Hid (m / 2 = e2 ∧ 2 * e2 = ev ∧ 1 ≤ e2) := Lib.hid ⟨he2, hev, by omega⟩
  have HEb := Lib.hid hE
  have hmi : (m : Int) ≤ 1000000 := by omega
  have hevi : (ev : Int) ≤ 1000000 := by omega
  have hhn : (h : Int) < (n : Int) := by omega
  have hh0 : (0 : Int) ≤ (h : Int) := by omega
  clear s z hl0 hzl hA hl hasc hdd he2 hr2 hev h2 hlen hE
  go_enter Try.func72, Try.ntmps72
  go_wp2_with fail
  go_loopw [8, 9] (fun u i wr => ∃ j : Nat, i = .int .i64 (2 * j + cc : Nat) ∧ j ≤ e2 ∧ Hid (AccZ w wr u j ((twos cc l).take j))) (fun _ i _ => ev + 2 - (intOf i).toNat)
  case atStart => exact ⟨0, by simp, Nat.zero_le _, Lib.hid (AccZ.nil (Fr.refl _ _))⟩
  case round =>
    obtain ⟨j, rfl, hj, hacc⟩ := hrel
    obtain ⟨pv, cv, rfl⟩ := slFormN hacc.out.own
    obtain ⟨I, hI⟩ : ∃ I, 2 * j + cc = I := ⟨_, rfl⟩
    rw [hI]
    have HI := Lib.hid hI
    by_cases hlt : (I : Int) < (ev : Int)
    · have hje : j < e2 := by have := HE2.out; omega
      have hil : 2 * j + cc < l.length := by have := HE2.out; rw [HZL.out]; omega
      have htl : j < (twos cc l).length := by rw [twos_len2, HZL.out, HE2.out.1]; exact hje
      have hv0 : (twos cc l)[j] = l[2 * j + cc] := twos_at cc hcc l j (by have := HE2.out; rw [HZL.out]; omega)
      obtain ⟨b2, o2, rfl, dv⟩ := (HZ.out.fr0 hacc.out.fr).at (2 * j + cc) hil
      obtain ⟨v, hv⟩ : ∃ v, l[2 * j + cc] = v := ⟨_, rfl⟩
      have HTK : Hid ((twos cc l).take (j + 1) = (twos cc l).take j ++ [v]) := Lib.hid (by rw [List.take_succ_eq_append_getElem htl, hv0, hv])
      rw [hv, hI] at dv
      have hI0 : (0 : Int) ≤ (I : Int) := by omega
      have hIm : (I : Int) < (m : Int) := by omega
      have HR : Hid (Room (j + 1)) := Lib.hid (Room.mk (by have := HE2.out; omega))
      clear hI hil htl hv0 hv
      go_wp2_with (first
        | ((with_reducible show wpList _ _ _ (Oper.mk (some 35) _ _ _ _ _ :: _) _ _); refine app_one elZ (.tmp 29) (.tmp 34) rfl hacc.out.own rfl rfl rfl rfl rfl (one_z _) HR.out ?_; intro g1 cap1 w6 hown hgrow hat hlt; have HA6 := Lib.hid (hacc.out.app hown hgrow hat); clear hown hgrow hat hlt)
        | fail)
      go_roundw
      case rel => exact ⟨j + 1, by have := HI.out; congr 1; omega, by omega, by rw [HTK.out]; exact HA6⟩
      case measure => have := HI.out; simp [intOf]; omega
    · have hje : j = e2 := by have := HE2.out; omega
      subst hje
      have hall : (twos cc l).take j = twos cc l := List.take_of_length_le (by rw [twos_len2, HZL.out, HE2.out.1]; exact Nat.le_refl _)
      rw [hall] at hacc
      have HACC : Hid (AccZ w wr (.slice pv j cv) j (twos cc l)) := hacc
      have sr := HS.out.fr0 hacc.out.fr
      have HSR := Lib.hid sr
      have HLV : Hid (∀ W, Fr S0 wr W → W.cell? ⟨g, 1, none⟩ = some (.slice (some ⟨b, 0, none⟩) n c) ∧ W.cell? ⟨b, h, none⟩ = some (.slice q m d) ∧ W.frozen? ⟨b, h, none⟩ = false) := Lib.hid fun W f => by
        have f2 := hacc.out.fr.trans0 f
        refine ⟨f2.cell c1 (fun h => h), f2.cell ch (fun h => h), ?_⟩
        obtain ⟨b', hb', -, -, -, -, -, -, -, hz, -⟩ := (HS.out.fr0 f2).lev h hh
        simp only [Option.some.injEq, Addr.mk.injEq, and_true] at hb'
        subst hb'
        exact hz
      obtain ⟨b2, o2, rfl, -⟩ := HZ.out.at 0 (by have := HE2.out; rw [HZL.out]; omega)
      have HPUT : Hid (∀ (W : World) (D7 : Nat → Prop) (rs7 : List Sv), KsIs W g C D7 (some ⟨b, 0, none⟩) n c rs7 k (L.set h (stay l)) T E → Fr C wr W → Calls Try.prog 48 #[.pointer (some ⟨g, 0, none⟩), .int .i64 (h + 1 : Nat), .slice pv j cv] W fun e w' => e = .returned (.tuple #[]) ∧ KsTurn W w' g C D7 k (putC (L.set h (stay l)) (h + 1) (twos cc l)) T E) := Lib.hid fun W D7 rs7 s7 f7 => by
        obtain ⟨pv', cv', hv, zv, hvb⟩ := hacc.out.sl
        simp only [Value.slice.injEq, true_and] at hv
        obtain ⟨rfl, rfl⟩ := hv
        have hoff : ∀ a, pv = some a → ¬ C a.block := fun a ha hc => by
          have h1 := (hvb a ha).1
          have h2 := HS.out.below a.block (.inl hc)
          omega
        refine xput_any g k T E (h + 1) j cv C D7 (L.set h (stay l)) pv (twos cc l) W ⟨_, _, _, _, s7⟩ (zv.fr f7 fun _ a ha => hoff a ha) (fun _ => hoff) (twos_asc cc HASC.out) (HAL.out.set h (stay_asc l HASC.out)) (by omega) (fun x hx => ?_) (by have := HE2.out; omega)
        rcases List.mem_or_eq_of_mem_set hx with h1 | rfl
        · have := HLL.out x h1; omega
        · have := stay_len l; omega
      have HCO : Hid (putC (L.set h (stay l)) (h + 1) (twos cc l) = comp L h cc) := Lib.hid (by
        rw [putC_puts _ _ _ (fun e => by have h1 := twos_len2 cc l; have h2 := HZL.out; have h3 := HE2.out; rw [e, List.length_nil] at h1; omega), comp_is cc L h hh, HL0.out])
      obtain ⟨X, hX⟩ : ∃ X, 2 ^ h = X := ⟨_, rfl⟩
      have hXb : X ≤ 1152921504606846976 := by rw [← hX]; exact Nat.pow_le_pow_right (by decide) hH
      have ipow : (2 : Int) ^ h = (X : Int) := by rw [← hX]; push_cast; rfl
      have w1 : IntKind.u64.wrap ((2 : Int) ^ h) = (X : Int) := by rw [ipow, IntKind.wrap_u64]; omega
      have w2 : (2 : Int) ^ h % 18446744073709551616 = (X : Int) := by rw [ipow]; omega
      have HX := Lib.hid hX
      have hh49 : (h : Int) < 64 := by omega
      have e3 : ((h + 1 : Nat) : Int) = (h : Int) + 1 := by omega
      rw [e3] at HPUT
      have hdm := HZ.out.cap
      have hdx := HZ.out.max
      have hevd : (ev : Int) ≤ (d : Int) := by omega
      have hsd : Hid (stay l = l.drop ev) := Lib.hid (by have := HE2.out; rw [stay_drop, HZL.out, this.1, this.2.1])
      clear hall hacc sr hI hX ipow e3
      rcases (by omega : d = ev ∨ ¬ d = ev) with hd | hd
      · subst hd
        obtain rfl : m = d := by omega
        have ZS : Hid (Sz wr (some ⟨b2, o2, none⟩) 0 0 (stay l)) := Lib.hid (by rw [hsd.out]; exact (HZ.out.fr0 HACC.out.fr).end)
        clear hevd hdm hdx
        have HI := Lib.hid (fun W (f : Fr S0 wr W) => clonez_any (some ⟨b2, o2, none⟩) 0 0 (stay l) W (ZS.out.fr0 f) (by omega))
        obtain ⟨c1r, chr, zhr⟩ := HLV.out wr (Fr.refl _ _)
        go_wp2_with fail
        go_region_law (first
          | (go_simp; go_at_call 52; (with_reducible refine (HI.out _ (Fr.drew S0 _)).mono ?_); rintro _ w3 ⟨u, rfl, acc⟩; obtain ⟨pu, cu, rfl⟩ := slFormN acc.own; have A3 := Lib.hid acc; obtain ⟨e1, e2, e3⟩ := HLV.out _ ((Fr.drew S0 _).trans0 acc.fr); clear acc; dsimp only))
        all_goals
          have H7 := Lib.hid (HSR.out.lay1 (h := h) ((Fr.drew S0 _).trans0 A3.out.fr) (Sz.ofOwns A3.out.own) (fun a ha => ⟨Nat.le_trans (Fr.drew S0 wr).size (A3.out.fresh a.block (by subst ha; rfl)), (A3.out.own.lt a.block (by subst ha; rfl)).2⟩))
          clear e1 e2 e3 A3
          obtain ⟨D7, s7, f7, hD7⟩ := H7.out
          have HP := Lib.hid (HPUT.out _ D7 _ s7 f7)
          have H77 := Lib.hid (And.intro f7 hD7)
          clear s7 f7 hD7 H7
          go_wp2_with fail
          refine HP.out.mono ?_
          rintro e w8 ⟨rfl, t8⟩
          rw [HCO.out] at t8
          obtain ⟨C8, D8, s8, f8, hC8, hD8⟩ := t8
          have HO := Lib.hid (xowe_any g k T E C8 D8 (comp L h cc) w8 s8 X (by omega) HEb.out)
          have H8 := Lib.hid (And.intro f8 (And.intro hC8 hD8))
          clear s8 f8 hC8 hD8 HP
          go_wp2_with fail
          refine HO.out.mono ?_
          rintro e w9 ⟨rfl, t9⟩
          have H9 := Lib.hid (KsTurn.after (HACC.out.fr.mono fun _ _ h => h.elim) (fun _ h => .inl h) (fun _ h => .inl h) (KsTurn.after H77.out.1 (fun _ h => .inl h) H77.out.2 (KsTurn.after H8.out.1 H8.out.2.1 H8.out.2.2 t9)))
          clear t9 HO
          go_wp2_with fail
          go_end0
          exact ⟨rfl, by rw [HX.out]; exact H9.out⟩
      · have ZS : Hid (Sz wr (some ⟨b2, o2 + ev, none⟩) (m - ev) (d - ev) (stay l)) := Lib.hid (by rw [hsd.out]; exact (HZ.out.fr0 HACC.out.fr).suf ev hevm)
        have hdd2 : ¬ (d : Int) = (ev : Int) := by omega
        clear hdm hdx
        have HI := Lib.hid (fun W (f : Fr S0 wr W) => clonez_any (some ⟨b2, o2 + ev, none⟩) (m - ev) (d - ev) (stay l) W (ZS.out.fr0 f) (by omega))
        obtain ⟨c1r, chr, zhr⟩ := HLV.out wr (Fr.refl _ _)
        go_wp2_with fail
        go_region_law (first
          | (go_simp; go_at_call 52; (with_reducible refine (HI.out _ (Fr.drew S0 _)).mono ?_); rintro _ w3 ⟨u, rfl, acc⟩; obtain ⟨pu, cu, rfl⟩ := slFormN acc.own; have A3 := Lib.hid acc; obtain ⟨e1, e2, e3⟩ := HLV.out _ ((Fr.drew S0 _).trans0 acc.fr); clear acc; dsimp only))
        all_goals
          have H7 := Lib.hid (HSR.out.lay1 (h := h) ((Fr.drew S0 _).trans0 A3.out.fr) (Sz.ofOwns A3.out.own) (fun a ha => ⟨Nat.le_trans (Fr.drew S0 wr).size (A3.out.fresh a.block (by subst ha; rfl)), (A3.out.own.lt a.block (by subst ha; rfl)).2⟩))
          clear e1 e2 e3 A3
          obtain ⟨D7, s7, f7, hD7⟩ := H7.out
          have HP := Lib.hid (HPUT.out _ D7 _ s7 f7)
          have H77 := Lib.hid (And.intro f7 hD7)
          clear s7 f7 hD7 H7
          go_wp2_with fail
          refine HP.out.mono ?_
          rintro e w8 ⟨rfl, t8⟩
          rw [HCO.out] at t8
          obtain ⟨C8, D8, s8, f8, hC8, hD8⟩ := t8
          have HO := Lib.hid (xowe_any g k T E C8 D8 (comp L h cc) w8 s8 X (by omega) HEb.out)
          have H8 := Lib.hid (And.intro f8 (And.intro hC8 hD8))
          clear s8 f8 hC8 hD8 HP
          go_wp2_with fail
          refine HO.out.mono ?_
          rintro e w9 ⟨rfl, t9⟩
          have H9 := Lib.hid (KsTurn.after (HACC.out.fr.mono fun _ _ h => h.elim) (fun _ h => .inl h) (fun _ h => .inl h) (KsTurn.after H77.out.1 (fun _ h => .inl h) H77.out.2 (KsTurn.after H8.out.1 H8.out.2.1 H8.out.2.2 t9)))
          clear t9 HO
          go_wp2_with fail
          go_end0
          exact ⟨rfl, by rw [HX.out]; exact H9.out⟩
end
end Go.Proofs.Ytbpfmjekpjfceaa
