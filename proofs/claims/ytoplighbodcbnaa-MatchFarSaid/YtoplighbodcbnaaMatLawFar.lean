/- MatchFar. -/
import Derived.Test.YtoplighbodcbnaaMatFar
import Derived.Test.YtoplighbodcbnaaMatLawWeighs
namespace Go.Proofs.Ytoplighbodcbnaa
open Go.RowKit Go.MapKept

set_option maxRecDepth 100000 in
set_option maxHeartbeats 4000000 in
theorem law_far (p : Option Addr) (c n P : Nat) (bs : List Nat) (w : World) (hn : n < 65536) (hP : bs.length = P) (h : SlI w .u8 p bs) (hpc : p = none → c = 0) (hb8 : ∀ x ∈ bs, x < 256) :
    Calls Try.prog 6 #[.slice p P c, .int .u16 (n : Nat)] w fun r w' => r = .returned (.bool true) ∧ Fr S0 w w' := by
  have H := Lib.hid h
  have HP := Lib.hid hP
  have H8 := Lib.hid hb8
  have HPC := Lib.hid hpc
  clear h hb8 hP hpc
  by_cases h3 : (P : Int) < 3
  · go_enter Try.func6, Try.ntmps6
    go_wp2_with fail
    refine start _ _ ?_
    intro w1 f1
    have F1 := Lib.hid f1
    clear f1
    go_wp2
    go_ret
    exact ⟨rfl, F1.out⟩
  · by_cases h4 : (40 : Int) < (P : Int)
    · have h3' : decide ((P : Int) < 3) = false := decide_eq_false h3
      have h3'' : decide (P < 3) = false := decide_eq_false (by omega)
      go_enter Try.func6, Try.ntmps6
      go_wp2_with fail
      refine start _ _ ?_
      intro w1 f1
      have F1 := Lib.hid f1
      clear f1
      go_wp2
      go_ret
      exact ⟨rfl, F1.out⟩
    · have h3' : decide ((P : Int) < 3) = false := decide_eq_false h3
      have h3'' : decide (P < 3) = false := decide_eq_false (by omega)
      obtain ⟨G, hG⟩ : ∃ G, n % 9 = G := ⟨_, rfl⟩
      have eG : (n : Int) % 9 = (G : Int) := by omega
      have hG9 : G < 9 := by omega
      obtain ⟨F, hF⟩ : ∃ F, 32768 - P + G = F := ⟨_, rfl⟩
      have eF : 32768 - (P : Int) + (G : Int) = (F : Int) := by omega
      have hF4 : F ≤ 32776 := by omega
      have hF5 : 32728 ≤ F := by omega
      have HNF : Hid (P + F = 32768 + G) := Lib.hid (by omega)
      clear hG hF
      have HR0 : Hid (Room P) := Lib.hid (Room.mk (by omega))
      go_enter Try.func6, Try.ntmps6
      go_wp2_with fail
      refine start _ _ ?_
      intro w1 f1
      have F1 := Lib.hid f1
      clear f1
      go_wp2_with (at_builtin; refine app_many el8 (.tmp 23) (.tmp 24) (own_none w1 5) (SrcIs.ofSl ((H.out.fr0 F1.out).fr0 (Fr.alloc S0 w1 (.cells #[] 5))) HPC.out) (by rw [HP.out, Nat.zero_add]) rfl rfl rfl (by rw [← HP.out]; rfl) (ones _) HR0.out ?_; intro p2 c2 w2 own2 g2 at2; have O2 := Lib.hid own2; have G2 := Lib.hid g2; have A2 := Lib.hid at2; clear own2 g2 at2)
      have F2 := Lib.hid (fr_made F1.out G2.out)
      have N2 := Lib.hid (fresh_many (fresh_made F1.out) (size_le F1.out) A2.out)
      clear G2 A2
      go_loopw [5, 6] (fun s i wr => ∃ (j : Nat) (q : Option Addr) (m d : Nat), j ≤ F ∧ i = .int .i64 j ∧ m = P + j ∧ s = .slice q m d ∧ wr.ownsRow 0 5 1 (.slice q m d) m (u8s (bs ++ List.replicate j 7)) ∧ Fr S0 w wr ∧ Fresh w (.slice q m d)) (fun _ i _ => F - (intOf i).toNat)
      case atStart => exact ⟨0, p2, P, c2, by omega, rfl, by omega, rfl, by rw [List.replicate_zero, List.append_nil]; exact O2.out, F2.out, N2.out⟩
      case round =>
        obtain ⟨j, q, m, d, hj, rfl, hmj, rfl, hown, hfr, hnew⟩ := hrel
        have HOWN := Lib.hid hown
        have HFR := Lib.hid hfr
        have HNEW := Lib.hid hnew
        have HMJ := Lib.hid hmj
        have hm4 : m ≤ 40000 := by omega
        clear hown hfr hnew O2 F2 N2 hmj
        by_cases hjn : (j : Int) < (F : Int)
        · have HR : Hid (Room (m + 1)) := Lib.hid (Room.mk (by omega))
          go_wp2_with (at_builtin; refine app_one el8 (.tmp 37) (.tmp 38) rfl HOWN.out rfl rfl rfl rfl rfl one8 HR.out ?_; intro g cap w3 hown hgrow hat hlt2; have HO := Lib.hid hown; have HG := Lib.hid hgrow; have HA := Lib.hid hat; clear hown hgrow hat)
          go_roundw
          case rel => exact ⟨j + 1, some ⟨g, 0, none⟩, m + 1, cap, by omega, by simp, by have := HMJ.out; omega, rfl, by rw [List.replicate_succ', ← List.append_assoc, ← u8s_append]; exact HO.out, HFR.out.append ((World.grownBy_alloc _ _ _).trans HG.out) HNEW.out, fresh_app HFR.out HNEW.out HA.out⟩
          case measure => simp [intOf]; omega
        · have hjF : j = F := by omega
          have HO4 : Hid (wr.ownsRow 0 5 1 (.slice q m d) m (u8s (bs ++ List.replicate F 7))) := Lib.hid (by rw [← hjF]; exact HOWN.out)
          have HMF : Hid (m = P + F) := Lib.hid (by rw [← hjF]; exact HMJ.out)
          clear hjF HOWN HMJ
          go_wp2_with fail
          go_loopw [7] (fun i wi => ∃ i2 : Nat, i2 ≤ P ∧ i = .int .i64 i2 ∧ (∀ z, z < i2 → bs.getD z 0 ≠ 7) ∧ Fr S0 wr wi) (fun i _ => P - (intOf i).toNat)
          case atStart => exact ⟨0, by omega, rfl, fun z hz => by omega, Fr.refl _ _⟩
          case round =>
            obtain ⟨i2, hi2, rfl, hno, hfr2⟩ := hrel
            have HNO := Lib.hid hno
            have HF0 := Lib.hid hfr2
            have HFR2 := Lib.hid (HFR.out.trans0 hfr2)
            have HO5 := Lib.hid (hfr2.owns HO4.out fun _ _ h => h)
            clear hno hfr2
            by_cases hi : (i2 : Int) < (P : Int)
            · obtain ⟨B, o, rfl, hx0⟩ := (H.out.fr0 HFR2.out).at i2 (by rw [HP.out]; omega)
              have HX := Lib.hid (getD_at bs i2 (by rw [HP.out]; omega))
              obtain ⟨x, hxe⟩ : ∃ x, bs[i2]'(by rw [HP.out]; omega) = x := ⟨_, rfl⟩
              rw [hxe] at hx0 HX
              clear hxe
              by_cases hx7 : (x : Int) = 7
              · have e7 : ((x : Int) == 7) = true := by simp [hx7]
                clear hx7
                go_wp2
                go_ret
                exact ⟨rfl, HFR2.out⟩
              · have e7 : ((x : Int) == 7) = false := by simp [hx7]
                go_wp2_with fail
                go_roundw
                case rel => exact ⟨i2 + 1, by omega, by simp, fun z hz => by
                  by_cases e1 : z = i2
                  · rw [e1, HX.out]; omega
                  · exact HNO.out z (by omega), HF0.out⟩
                case measure => simp [intOf]; omega
            · have HNO2 : Hid (∀ z, z < P → bs.getD z 0 ≠ 7) := Lib.hid (by have h1 := HNO.out; rwa [show i2 = P by omega] at h1)
              have HR2 : Hid (Room (m + P)) := Lib.hid (Room.mk (by omega))
              obtain ⟨T, hT⟩ : ∃ T, bs ++ List.replicate F 7 ++ bs = T := ⟨_, rfl⟩
              have HFAR : Hid (FarIs T bs P m) := Lib.hid (by rw [← hT, HMF.out]; exact far_of bs P F HP.out (by omega) (by omega) (by omega) HNO2.out)
              have HT8 : Hid (∀ x ∈ T, x < 256) := Lib.hid (by
                rw [← hT]
                intro x hx
                rcases List.mem_append.1 hx with h1 | h1
                · rcases List.mem_append.1 h1 with h2 | h2
                  · exact H8.out x h2
                  · have := (List.mem_replicate.1 h2).2; omega
                · exact H8.out x h1)
              have HTT := Lib.hid hT
              obtain ⟨L, hL⟩ : ∃ L, m + P = L := ⟨_, rfl⟩
              have HLL := Lib.hid hL
              have HTL : Hid (T.length = L) := Lib.hid (by rw [HFAR.out.lt, hL])
              rw [hL] at HR2
              have hL4 : L ≤ 40040 := by omega
              clear hT hL HNO
              go_wp2_with (at_builtin; refine app_many el8 (.tmp 51) (.tmp 52) HO5.out (SrcIs.ofSl (H.out.fr0 HFR2.out) HPC.out) (by rw [HP.out]; exact HLL.out) rfl rfl rfl (by rw [← HP.out]; rfl) (ones _) HR2.out ?_; intro p3 c3 w3 own3 g3 at3; have O3 := Lib.hid own3; have G3 := Lib.hid g3; clear own3 g3 at3)
              have HO6 : Hid (w3.ownsRow 0 5 1 (.slice p3 L c3) L (u8s T)) := Lib.hid (by rw [← HTT.out, ← u8s_append]; exact O3.out)
              have F3 : Hid (Fr S0 w w3) := Lib.hid (HFR2.out.trans (Fr.grown G3.out) fun k hk e => by have := HNEW.out k e; omega)
              have HSL := Lib.hid (SlI.ofOwns HO6.out)
              have hLc : L ≤ c3 := by obtain ⟨_, _, e, _, h, _⟩ := slForm HO6.out; cases e; exact h
              clear O3 G3
              refine (find_n p3 c3 L T _ HTL.out HSL.out hLc HT8.out (by omega)).mono ?_
              rintro _ w4 ⟨q4, m4, d4, hm4, rfl, hk4, hle4, f4⟩
              have HM4 := Lib.hid hm4
              have HK4 := Lib.hid hk4
              have F4 := Lib.hid f4
              clear hm4 hk4 f4
              go_wp2_with fail
              refine (tell_n q4 m4 d4 L T _ HTL.out HK4.out HM4.out (by omega)).mono ?_
              rintro _ w5 ⟨p5, c5, rfl, o5, f5⟩
              have HS5 := Lib.hid (SlI.ofOwns o5)
              have F5 := Lib.hid f5
              clear o5 f5
              go_wp2_with fail
              go_loopw [11] (fun i wi => ∃ i3 : Nat, i3 ≤ m4 ∧ i = .int .i64 i3 ∧ Fr S0 w5 wi) (fun i _ => m4 - (intOf i).toNat)
              case atStart => exact ⟨0, by omega, rfl, Fr.refl _ _⟩
              case round =>
                obtain ⟨i3, hi3, rfl, hfr5⟩ := hrel
                have HFR5 := Lib.hid hfr5
                clear hfr5
                by_cases hi4 : (i3 : Int) < (m4 : Int)
                · obtain ⟨g, rfl, c0, c1, c2⟩ := (HK4.out.fr0 (F5.out.trans0 HFR5.out)).at i3 (by rw [HM4.out]; omega)
                  have hall := toks_all T _ (List.getElem_mem (show i3 < (toks T 0).length by rw [HM4.out]; omega))
                  obtain ⟨⟨tx, tl, td⟩, ht⟩ : ∃ t, (toks T 0)[i3]'(by rw [HM4.out]; omega) = t := ⟨_, rfl⟩
                  rw [ht] at c0 c1 c2 hall
                  simp only at c0 c1 c2 hall
                  have ed : (td : Int) ≤ 32768 := by omega
                  clear ht hall
                  go_wp2_with fail
                  go_roundw
                  case rel => exact ⟨i3 + 1, by omega, by simp, HFR5.out⟩
                  case measure => simp [intOf]; omega
                · obtain ⟨l, u, hu, hu0, hu1⟩ := HFAR.out.end' (by have := HMF.out; have := HNF.out; omega)
                  have hml : l.length + 1 = m4 := by rw [← HM4.out, hu]; simp
                  obtain ⟨g, rfl, c0, c1, c2⟩ := (HK4.out.fr0 (F5.out.trans0 HFR5.out)).at l.length (by rw [HM4.out]; omega)
                  have hat : ∀ h' : l.length < (toks T 0).length, (toks T 0)[l.length] = u := by
                    intro h'
                    have : (toks T 0)[l.length]? = some u := by rw [hu]; simp
                    rw [List.getElem?_eq_getElem h'] at this
                    exact Option.some.inj this
                  rw [hat] at c0 c1 c2
                  obtain ⟨tx, tl, td⟩ := u
                  simp only at c0 c1 c2 hu0 hu1
                  obtain ⟨M, hM⟩ : ∃ M, l.length = M := ⟨_, rfl⟩
                  rw [hM] at c0 c1 c2 hml
                  have eM : (m4 : Int) - 1 = (M : Int) := by omega
                  have eM2 : (M : Int) < (m4 : Int) := by omega
                  have kc1 := fun (o : Obj) => conv_n (HS5.out.fr0 (HFR5.out.trans0 (Fr.alloc S0 _ o))) L c5 HTL.out
                  have kc2 := fun (o : Obj) => conv_n (HSL.out.fr0 (((F4.out.trans0 F5.out).trans0 HFR5.out).trans0 (Fr.alloc S0 _ o))) L c3 HTL.out
                  have HEND : Hid (Fr S0 w wr) := Lib.hid (F3.out.trans0 ((F4.out.trans0 F5.out).trans0 HFR5.out))
                  clear hu hat hM
                  by_cases hG0 : G = 0
                  · obtain ⟨e1, e2⟩ := hu0 (by have := HMF.out; have := HNF.out; omega)
                    rw [e1] at c2
                    rw [e2] at c1
                    subst hG0
                    have eG' : (n : Int) % 9 = 0 := eG
                    clear eG
                    have c2' : wr.cell? ⟨g, M * 3 + 2, none⟩ = some (.int .i64 32768) := c2
                    clear c2
                    go_wp2
                    go_ret
                    exact ⟨rfl, HEND.out.trans0 (Fr.alloc _ _ _)⟩
                  · have e1 := hu1 (by have := HMF.out; have := HNF.out; omega)
                    have e2 : ((G : Int) == 0) = false := by simpa using hG0
                    have e3 : (0 : Int) < (G : Int) := by omega
                    have e4 : (td : Int) ≤ (P : Int) := by omega
                    go_wp2
                    go_ret
                    exact ⟨rfl, HEND.out.trans0 (Fr.alloc _ _ _)⟩
end Go.Proofs.Ytoplighbodcbnaa
