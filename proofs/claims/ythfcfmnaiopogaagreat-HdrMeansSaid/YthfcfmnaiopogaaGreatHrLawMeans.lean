/- The law on means. -/
import Derived.Test.YthfcfmnaiopogaaGreatHrGot
import Derived.Test.YthfcfmnaiopogaaGreatHrMean
import Derived.Test.YthfcfmnaiopogaaGreatWdRefMean
import Derived.Test.YthfcfmnaiopogaaGreatHmRefs
import Derived.Test.YthfcfmnaiopogaaGreatWkAll
namespace Go.Proofs.YthfcfmnaiopogaaGreat
open Go.RowKit Go.ChangeMaps

theorem ZsI.ofOwns {w : World} {q : Option Addr} {n d : Nat} {l : List Int} (h : w.ownsRow 0 2 1 (.slice q n d) n (zs l)) (hm : n ≤ maxLen) : ZsI w q l := by
  have hlen : l.length = n := by have h1 := h.1; simpa [zs] using h1
  refine ⟨by omega, fun hl => ?_⟩
  rcases h.2 with ⟨hv, hn⟩ | ⟨g, cap, cur, hv, _⟩
  · exact absurd (List.eq_nil_of_length_eq_zero (by omega)) hl
  · simp only [Value.slice.injEq] at hv
    obtain ⟨rfl, -, rfl⟩ := hv
    refine ⟨g, 0, rfl, fun i hi => ?_⟩
    rw [Nat.zero_add, h.cellAt _ (by omega)]
    simp [zs, hi]
/-- rows of unlike things lie apart: what is appended to one leaves the other one as it is -/
theorem keep_row {w w1 : World} {o : Obj} {e e' : TypeId} {s s' n n' : Nat} {v v' : Value} {xs xs' : List Value} (h : w.ownsRow 0 e s v n xs) (h' : w.ownsRow 0 e' s' v' n' xs') (hne : e ≠ e') (g : (w.alloc o).grownBy w1 v.ownBlock) :
    w1.ownsRow 0 e' s' v' n' xs' := by
  refine (h'.alloc o).kept g ?_
  rcases h'.2 with ⟨rfl, -⟩ | ⟨b', cap', cur', rfl, -, hb', -⟩
  · exact .inl rfl
  · refine .inr fun hv => ?_
    rcases h.2 with ⟨rfl, -⟩ | ⟨b, cap, cur, rfl, -, hb, -⟩
    · simp [Value.ownBlock] at hv
    · simp only [Value.ownBlock, Option.some.injEq] at hv
      subst hv
      rw [hb'] at hb
      simp only [Option.some.injEq, Obj.cells.injEq] at hb
      exact hne hb.2.1.symm
theorem mts_take (M : Hm) {l : List Pr} {k : Nat} (h : k < l.length) : zs ((mts M (l.take (k + 1))).map fun t => t.1) = zs ((mts M (l.take k)).map fun t => t.1) ++ [.int .i64 (mid M l[k].1 : Nat)] ∧ u64s ((mts M (l.take (k + 1))).map fun t => t.2) = u64s ((mts M (l.take k)).map fun t => t.2) ++ [.int .u64 (l[k].2 : Nat)] := by
  rw [List.take_succ_eq_append_getElem h, mts_app]
  constructor
  · rw [List.map_append]
    unfold zs
    rw [List.map_append]
    rfl
  · rw [List.map_append]
    unfold u64s
    rw [List.map_append]
    rfl
section
variable (a d : Nat) (p : Option Addr) (m c : Nat) (vs : List Int) (q : Option Addr) (k c2 : Nat) (ns : List Nat) (w : World)
set_option maxRecDepth 100000 in
set_option maxHeartbeats 4000000 in
theorem law_means (hm : vs.length = m) (hz : ZI w p vs) (hvb : ∀ v ∈ vs, -9223372036854775808 ≤ v ∧ v ≤ 9223372036854775807) (hk : ns.length = k) (hq : SlI w .u16 q ns) (hnb : ∀ n ∈ ns, n < 65536) :
    Calls Tryz.prog 10 #[.int .u64 (a : Nat), .int .u8 (d : Nat), .slice p m c, .slice q k c2] w fun e w' => e = .returned (.bool true) ∧ Fr S0 w w' := by
  have HA := Lib.hid (alive_any w)
  obtain ⟨L, H, D, ⟨l0, lh, hh⟩, ⟨d1, d5⟩, hs, hsh⟩ := wshape_any a d 1000000
  have HSH := Lib.hid hsh
  have HR := Lib.hid (fun W (f : Fr S0 w W) => rec_got L H D true p m c vs q k c2 ns W d1 d5 l0 lh hh hs hm (hz.fr0 f) hvb hk (hq.fr0 f) hnb)
  obtain ⟨T, eT⟩ : ∃ T, min m 40 = T := ⟨_, rfl⟩
  have hT40 : T ≤ 40 := by omega
  rw [eT] at HR
  obtain ⟨M, eM⟩ : ∃ M, recs (Hm.new L H D true) vs ns T = M := ⟨_, rfl⟩
  rw [eM] at HR
  clear hsh l0 lh hh hm hz hvb hk hq hnb eT eM hs d1 d5
  go_enter Tryz.func10, Tryz.ntmps10
  go_wp2_with fail
  refine HA.out.mono ?_
  rintro e w1 ⟨rfl, f1⟩
  have F1 := Lib.hid f1
  clear f1 HA
  go_wp2_with fail
  refine (HSH.out _).mono ?_
  rintro e w2 ⟨rfl, f2⟩
  have F2 := Lib.hid (F1.out.trans0 f2)
  clear f2 F1 HSH
  go_wp2_with fail
  refine (HR.out _ F2.out).mono ?_
  rintro e w3 ⟨x, h, r, pp, n, cc, rfl, got⟩
  have GOT := Lib.hid got
  have F3 := Lib.hid (F2.out.trans0 got.fr)
  clear got HR
  have HC := Lib.hid (fun W (f : Fr S0 w3 W) => And.intro (GOT.out.ref.fr0 f).c3 (And.intro (GOT.out.ref.fr0 f).c4 (GOT.out.ref.fr0 f).c7))
  have hlen := GOT.out.ref.len
  have hg := GOT.out.hist.good
  have hn5 : n ≤ 100000 := by have := GOT.out.len; omega
  by_cases hn : n = 0
  · have h0 : M.l = [] := List.length_eq_zero_iff.1 (by omega)
    have HME := Lib.hid (xmean_no x h M w3 GOT.out.hist (by rw [h0]; rfl))
    subst hn
    clear hlen hg h0 hn5
    go_wp2_with fail
    refine HME.out.mono ?_
    rintro e w4 ⟨rfl, f4⟩
    have F4 := Lib.hid (F3.out.trans0 f4)
    have k7 := (HC.out _ f4).2.2
    clear f4 HME
    go_wp2_with fail
    go_ret
    exact ⟨rfl, F4.out⟩
  · have hne : M.l ≠ [] := fun h => hn (by rw [← hlen, h]; rfl)
    have htp := tot_pos hg.pos hne
    have HME := Lib.hid (xmean_yes x h M w3 GOT.out.hist htp GOT.out.len)
    have HOK := Lib.hid (mts_ok hg)
    have HNO : Hid (¬ MeanNo (mts M M.l)) := Lib.hid (by unfold MeanNo; rw [wts_mts]; have := hg.tot; omega)
    have HXX : Hid (meanV M = ((lsm (mts M M.l) / wts (mts M M.l) : Nat) : Int) - 9223372036854775808) := Lib.hid rfl
    have nz : ((n : Int) == 0) = false := by rw [beq_eq_false_iff_ne]; omega
    have HR : Hid (∀ k, k ≤ 100000 → Room (k + 1)) := Lib.hid fun k hk => Room.mk (by omega)
    obtain ⟨X, eX⟩ : ∃ X, meanV M = X := ⟨_, rfl⟩
    rw [eX] at HME HXX
    have HN := Lib.hid hlen
    have HG := Lib.hid hg
    clear hne htp hlen hg eX hn
    go_wp2_with fail
    refine HME.out.mono ?_
    rintro e w4 ⟨rfl, f4⟩
    have F4 := Lib.hid f4
    have k7 := (HC.out _ f4).2.2
    clear f4 HME
    go_wp2_with fail
    go_loopw [13, 14, 15] (fun v nn i wr => ∃ k : Nat, k ≤ n ∧ i = .int .i64 (k : Nat) ∧ Hid (wr.ownsRow 0 2 1 v k (zs ((mts M (M.l.take k)).map fun t => t.1)) ∧ wr.ownsRow 0 22 1 nn k (u64s ((mts M (M.l.take k)).map fun t => t.2)) ∧ Fr S0 w3 wr ∧ Fresh w3 v ∧ Fresh w3 nn)) (fun _ _ i _ => n - (intOf i).toNat)
    case atStart => exact ⟨0, Nat.zero_le _, rfl, Lib.hid ⟨World.ownsRow_nil _ _ _ _, World.ownsRow_nil _ _ _ _, F4.out, fresh_nil _ _, fresh_nil _ _⟩⟩
    case round =>
      obtain ⟨k, hk, rfl, HK⟩ := hrel
      clear k7
      have k7 := (HC.out _ HK.out.2.2.1).2.2
      obtain ⟨pv, cv, rfl⟩ := slFormN HK.out.1
      obtain ⟨pn, cn, rfl⟩ := slFormN HK.out.2.1
      by_cases hkn : k < n
      · have hkl : k < M.l.length := by rw [HN.out]; exact hkn
        obtain ⟨b, o, rfl, hc1, hc2⟩ := GOT.out.ref.pri.at k hkl
        have hmem : M.l[k] ∈ M.l := List.getElem_mem hkl
        obtain ⟨I, hI, hI2, hI3⟩ := HG.out.cell hmem
        have hml := mid_lt HG.out hmem
        have HTK := Lib.hid (mts_take M hkl)
        rw [hI] at hc1 hml HTK
        obtain ⟨Nn, eN⟩ : ∃ N, M.l[k].2 = N := ⟨_, rfl⟩
        rw [eN] at hc2 HTK
        have HV := Lib.hid (fun W => rvalue_yes M.u M.m I W HG.out.m1 HG.out.m5.2 HG.out.s hI3)
        have hvl := vof_lt M.u M.m I HG.out.m1 (by have := HG.out.s; omega) hI3
        have hp2 := two_pos (M.u + ibk M.m I)
        have HCL := Lib.hid (fun W => rcell_any M.u M.m (vof M.u M.m I) W HG.out.m1 HG.out.s (by omega))
        rw [beg_vof M.u M.m I HG.out.m1 (by have := HG.out.s; omega) hI3, hwid_vof M.u M.m I HG.out.m1 (by have := HG.out.s; omega) hI3] at HCL
        have hmid : mid M (I : Nat) = vof M.u M.m I + 2 ^ (M.u + ibk M.m I) / 2 := by unfold mid; rw [show ((I : Nat) : Int).toNat = I by omega]
        rw [hmid] at hml HTK
        obtain ⟨V, eV⟩ : ∃ V, vof M.u M.m I = V := ⟨_, rfl⟩
        obtain ⟨Z, eZ⟩ : ∃ Z, 2 ^ (M.u + ibk M.m I) = Z := ⟨_, rfl⟩
        simp only [eV, eZ] at HV HCL HTK hml hvl hp2
        have q1 : (Z : Int).tdiv 2 = ((Z / 2 : Nat) : Int) := rfl
        obtain ⟨Y, eY⟩ : ∃ Y, Z / 2 = Y := ⟨_, rfl⟩
        rw [eY] at q1 HTK hml
        obtain ⟨S, eS⟩ : ∃ S, V + Y = S := ⟨_, rfl⟩
        rw [eS] at HTK hml
        have e1 : (V : Int) + (Y : Int) = (S : Int) := by omega
        have v1 : IntKind.i64.wrap (Y : Int) = (Y : Int) := by rw [IntKind.wrap_i64]; omega
        have v2 : IntKind.i64.wrap (S : Int) = (S : Int) := by rw [IntKind.wrap_i64]; omega
        have hkn2 : (k : Int) < (n : Int) := by omega
        have HCC := Lib.hid (fun W (f : Fr S0 w3 W) => And.intro (HC.out W f).1 (And.intro (HC.out W f).2.1 (And.intro (HC.out W f).2.2 (And.intro (f.cell hc1 (fun h => h)) (f.cell hc2 (fun h => h))))))
        have HRK := Lib.hid (HR.out k (by omega))
        have OV := Lib.hid HK.out.1
        have ON := Lib.hid HK.out.2.1
        obtain ⟨k3, k4, -, k8, k9⟩ := HCC.out _ HK.out.2.2.1
        have HK5 := Lib.hid (And.intro k3 (And.intro k4 (And.intro k7 (And.intro k8 k9))))
        clear hc1 hc2 hmem hI hI2 hI3 eN hmid eV eZ eY eS hvl hp2 hml k3 k4 k8 k9
        go_upto_region 22 with fail
        go_region_held3 (fun w' => w'.cell? ⟨r, 3, none⟩ = some (.int .i64 (M.u : Nat)) ∧ w'.cell? ⟨r, 4, none⟩ = some (.int .i64 (M.m : Nat)) ∧ w'.cell? ⟨r, 7, none⟩ = some (.slice (some ⟨b, o, none⟩) n cc) ∧ w'.cell? ⟨b, o + k * 2, none⟩ = some (.int .i64 (I : Nat)) ∧ w'.cell? ⟨b, o + k * 2 + 1, none⟩ = some (.int .u64 (Nn : Nat)))
          (first | (go_split_ands; exact ⟨by assumption, by assumption, by assumption, by assumption, by assumption⟩) | exact HK5.out)
          (first | (go_at_call 40; ((with_reducible refine (HV.out _).mono ?_); rintro _ _ ⟨rfl, rfl⟩)))
        obtain ⟨d3, d4, d7, d8, d9⟩ := HCC.out _ (HK.out.2.2.1.trans0 (Fr.drew S0 wr))
        have HK6 := Lib.hid (And.intro d3 (And.intro d4 (And.intro d7 (And.intro d8 d9))))
        go_upto_region 15 with fail
        go_region_held3 (fun w' => w'.cell? ⟨r, 3, none⟩ = some (.int .i64 (M.u : Nat)) ∧ w'.cell? ⟨r, 4, none⟩ = some (.int .i64 (M.m : Nat)) ∧ w'.cell? ⟨r, 7, none⟩ = some (.slice (some ⟨b, o, none⟩) n cc) ∧ w'.cell? ⟨b, o + k * 2, none⟩ = some (.int .i64 (I : Nat)) ∧ w'.cell? ⟨b, o + k * 2 + 1, none⟩ = some (.int .u64 (Nn : Nat)))
          (first | (go_split_ands; exact ⟨by assumption, by assumption, by assumption, by assumption, by assumption⟩) | exact HK6.out)
          (first | (go_at_call 50; ((with_reducible refine (HCL.out _).mono ?_); rintro _ _ ⟨rfl, rfl⟩)))
        have FD := Lib.hid ((Fr.drew S0 wr).trans0 (Fr.drew S0 _))
        have hfr := Lib.hid (HK.out.2.2.1.trans0 FD.out)
        have ov := Lib.hid (FD.out.owns OV.out fun _ _ h => h)
        have on := Lib.hid (FD.out.owns ON.out fun _ _ h => h)
        go_wp2_with (first
          | ((with_reducible show wpList _ _ _ (Oper.mk (some 100) _ _ _ _ _ :: _) _ _); refine app_one elZ (.tmp 94) (.tmp 99) rfl ov.out rfl rfl rfl rfl rfl one8 HRK.out ?_; intro g1 cap1 w5 ov1 hg1 hat1 hlt1; have F5 := Lib.hid ((hfr.out.trans0 (Fr.alloc S0 _ _)).append hg1 HK.out.2.2.2.1); have V5 := Lib.hid (fresh_app (n := k + 1) (c := cap1) hfr.out HK.out.2.2.2.1 hat1); have ON1 := Lib.hid (keep_row ov.out on.out (by decide) hg1); have OV1 := Lib.hid ov1; obtain ⟨-, -, d7, -, d9⟩ := HCC.out _ F5.out; clear ov1 hg1 hat1 hlt1)
          | ((with_reducible show wpList _ _ _ (Oper.mk (some 111) _ _ _ _ _ :: _) _ _); refine app_one el64 (.tmp 101) (.tmp 110) rfl ON1.out rfl rfl rfl rfl rfl one8 HRK.out ?_; intro g2 cap2 w6 on2 hg2 hat2 hlt2; have F6 := Lib.hid ((F5.out.trans0 (Fr.alloc S0 _ _)).append hg2 HK.out.2.2.2.2); have V6 := Lib.hid (fresh_app (n := k + 1) (c := cap2) F5.out HK.out.2.2.2.2 hat2); have OV2 := Lib.hid (keep_row ON1.out OV1.out (by decide) hg2); have ON2 := Lib.hid on2; clear on2 hg2 hat2 hlt2))
        go_roundw
        case rel => exact ⟨k + 1, by omega, by first | rfl | go_num, Lib.hid ⟨by rw [HTK.out.1]; exact OV2.out, by rw [HTK.out.2]; exact ON2.out, F6.out, V5.out, V6.out⟩⟩
        case measure => simp [intOf] <;> omega
      · obtain rfl : k = n := by omega
        have et : M.l.take k = M.l := List.take_of_length_le (by rw [HN.out]; exact Nat.le_refl _)
        have HK2 := HK.out
        rw [et] at HK2
        have hkx : k ≤ maxLen := by unfold maxLen; omega
        have HRM := Lib.hid (rmean_any pv pn cv cn k (mts M M.l) wr (by rw [mts_len]; exact HN.out) (ZsI.ofOwns HK2.1 hkx) (SlI.ofOwns HK2.2.1) HOK.out)
        have HEN : Hid (∀ e w', RMeanEnds wr (mts M M.l) e w' → e = .returned (.tuple #[.int .i64 X, .bool true]) ∧ Fr S0 wr w') := Lib.hid fun e w' he => by
          unfold RMeanEnds at he
          rw [if_neg HNO.out, ← HXX.out] at he
          exact he
        clear et HK2 hkx
        go_wp2_with fail
        refine HRM.out.mono ?_
        intro e w7 he
        obtain ⟨rfl, f7⟩ := HEN.out e w7 he
        have F7 := Lib.hid ((F3.out.trans0 HK.out.2.2.1).trans0 f7)
        clear f7 he HRM
        go_wp2_with fail
        go_ret
        exact ⟨rfl, F7.out⟩
end
end Go.Proofs.YthfcfmnaiopogaaGreat
