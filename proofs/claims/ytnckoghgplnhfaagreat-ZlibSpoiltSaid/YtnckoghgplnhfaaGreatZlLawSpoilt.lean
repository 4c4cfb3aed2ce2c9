/- The law on sums that are others, and on streams that are cut off. -/
import Derived.Test.YtnckoghgplnhfaaGreatZlLawHeads
namespace Go.Proofs.YtnckoghgplnhfaaGreat
open Go.RowKit

theorem xor_ne (x y : Nat) (h : y ≠ 0) : x ^^^ y ≠ x := by
  intro e
  have : x ^^^ (x ^^^ y) = x ^^^ x := by rw [e]
  rw [← Nat.xor_assoc, Nat.xor_self, Nat.zero_xor] at this
  exact h this
theorem set_ne {l : List Nat} {i x : Nat} (h : l[i]? ≠ some x) (hi : i < l.length) : l.set i x ≠ l := by
  intro e
  have : (l.set i x)[i]? = some x := by rw [List.getElem?_set_self hi]
  rw [e] at this
  exact h this
theorem zero_nor {y : Nat} (h : y ≠ 0) : ((y : Int) != 0) = true := by rw [bne_iff_ne]; omega
/-- one of the last four bytes is another one -/
theorem spoilt_no {S T : List Nat} (h : Reads S T) (K A X : Nat) (hl : T.length ≤ 1000) (hA : A < 4) (hK : K = S.length + 5 - A) (hne : (wrap9 S T)[K]? ≠ some X) : zopen ((wrap9 S T).set K X) 1000 = .no 91 := by
  have e : K = S.length + (3 - A) + 1 + 1 := by omega
  have hs : (S ++ sum4 T).set (S.length + (3 - A)) X = S ++ (sum4 T).set (3 - A) X := by
    rw [List.set_append_right _ _ (by omega)]
    congr 2
    omega
  have hg : (wrap9 S T)[K]? = (sum4 T)[3 - A]? := by
    rw [wrap9_cons, e, List.getElem?_cons_succ, List.getElem?_cons_succ, List.getElem?_append_right (by omega)]
    congr 1
    omega
  rw [hg] at hne
  rw [wrap9_cons, e, List.set_cons_succ, List.set_cons_succ, hs]
  exact zopen_sum h 120 1 1000 _ (by rw [List.length_set]; rfl) (set_ne hne (by rw [sum4_length]; omega)) (by decide) hl

set_option maxRecDepth 100000 in
set_option maxHeartbeats 8000000 in
theorem law_spoilt (p : Option Addr) (d : Nat) (b : List Nat) (at_ y : Nat) (cut : Int) (w : World) (hb : SlI w .u8 p b) (h8 : ∀ x ∈ b, x < 256) (hp : p = none → d = 0) (hd : b.length ≤ d) (hat : at_ < 256) (hy : y < 256) :
    Calls Tryz.prog 5 #[.slice p b.length d, .int .u8 at_, .int .u8 y, .int .i64 cut] w fun r w' => r = .returned (.bool true) ∧ Fr S0 w w' := by
  have HAL := Lib.hid (alive9_any w)
  obtain ⟨n, hn⟩ : ∃ n, b.length = n := ⟨_, rfl⟩
  rw [hn] at hd ⊢
  by_cases hbig : n > 300
  · obtain ⟨T, hT⟩ : ∃ T, b.take 300 = T := ⟨_, rfl⟩
    have hbT : SlI w .u8 p T := by rw [← hT]; exact hb.take 300
    have hT8 : ∀ x ∈ T, x < 256 := by rw [← hT]; exact fun x hx => h8 x (List.mem_of_mem_take hx)
    have hTn : T.length = 300 := by rw [← hT, List.length_take]; omega
    have hNd : 300 ≤ d := by omega
    have hg : (n : Int) > 300 := by omega
    have hcap : (300 : Int) ≤ (d : Int) := by omega
    clear hb h8 hn hd hbig
    obtain ⟨P, hP⟩ : ∃ P, wrap9 (bst T) T = P := ⟨_, rfl⟩
    obtain ⟨M, hM⟩ : ∃ M, P.length = M := ⟨_, rfl⟩
    have hbl := bst_length T hT8
    have hML : M = (bst T).length + 6 := by rw [← hM, ← hP, wrap9_length]
    have hP8 : ∀ x ∈ P, x < 256 := by rw [← hP]; exact wrap9_256 (bst_256 T hT8)
    have HPK : Hid (∀ W, Fr S0 w W → Calls Tryz.prog 8 #[.slice p 300 d] W (Says P M W)) := Lib.hid fun W f =>
      (pack_any p 300 d T W hTn (hbT.fr0 f) hT8 hp hNd (by omega)).mono fun _ _ h => says hM (by rw [hP] at h; exact h)
    have HRM : Hid (Room M) := Lib.hid (Room.mk (by omega))
    have HCT0 : Hid (∀ C, C < M → ∀ W q c, W.ownsRow 0 5 1 (.slice q M c) M (u8s P) → Calls Tryz.prog 10 #[.slice q C c, .int .i64 1000] W fun e w' => e = .returned (.tuple #[.slice none 0 0, .int .i64 20]) ∧ Fr S0 W w') := Lib.hid fun C hC W q c own => by
      obtain ⟨qx, cx, ex, -, h1, h2⟩ := slForm own
      simp only [Value.slice.injEq, true_and] at ex
      obtain ⟨rfl, rfl⟩ := ex
      refine (open_any (x := .no 20) q C c 1000 (P.take C) W (by rw [List.length_take]; omega) ((SlI.ofOwns own).take C) (fun x hx => hP8 x (List.mem_of_mem_take hx)) (by omega) h2 (by omega) (by omega) (by rw [← hP]; exact zopen_cut (reads_bst T hT8) 1000 C (by omega) (by omega))).mono ?_
      rintro e w' ⟨f, he⟩
      exact ⟨he, f⟩
    obtain ⟨A, hA⟩ : ∃ A, at_ % 4 = A := ⟨_, rfl⟩
    have eA : (at_ : Int) % 4 = (A : Int) := by omega
    obtain ⟨K, hK⟩ : ∃ K, M - 1 - A = K := ⟨_, rfl⟩
    obtain ⟨M1, hM1⟩ : ∃ M1, M - 1 = M1 := ⟨_, rfl⟩
    have eM1 : (M : Int) - 1 = (M1 : Int) := by omega
    have eK : (M1 : Int) - (A : Int) = (K : Int) := by omega
    have jK : K < M := by omega
    have j6 : 6 ≤ M := by omega
    have jM : (M : Int) ≤ 100000 := by omega
    have jM1 : (M1 : Int) ≤ 100000 := by omega
    have jKb : (K : Int) ≤ 100000 := by omega
    have jKM : (K : Int) < (M : Int) := by omega
    have jL : M ≤ 1000000 := by omega
    have jKA : K = (bst T).length + 5 - A := by omega
    have jA : A < 4 := by omega
    have jT : T.length ≤ 1000 := by omega
    have jl : (1000 : Nat) ≤ 1048576 := by decide
    obtain ⟨v, hv⟩ : ∃ v, P[K]'(by rw [hM]; exact jK) = v := ⟨_, rfl⟩
    have hv8 : v < 256 := by rw [← hv]; exact hP8 _ (List.getElem_mem _)
    have HUK : Hid ((u8s P)[K]? = some (.int .u8 (v : Nat))) := Lib.hid (by rw [← hv]; simp [u8s, hM, jK])
    obtain ⟨X, hX⟩ : ∃ X, v ^^^ y = X := ⟨_, rfl⟩
    have hx : bits .xor .u8 (v : Int) (y : Int) = ((X : Nat) : Int) := by rw [← hX]; exact u8_xor_nat _ _ hv8 hy
    have hX8 : X < 256 := by rw [← hX]; exact Nat.xor_lt_two_pow (n := 8) hv8 hy
    obtain ⟨Q, hQ⟩ : ∃ Q, P.set K X = Q := ⟨_, rfl⟩
    have hQl : Q.length = M := by rw [← hQ, List.length_set, hM]
    have hQ8 : ∀ x ∈ Q, x < 256 := by rw [← hQ]; exact fun x hx => (List.mem_or_eq_of_mem_set hx).elim (hP8 x) (fun e => e ▸ hX8)
    have HSET : Hid (u8s Q = (u8s P).set K (.int .u8 (X : Nat))) := Lib.hid (by rw [← hQ]; unfold u8s; rw [List.map_set])
    by_cases hy0 : y = 0
    · subst hy0
      have hx0 : bits .xor .u8 (v : Int) 0 = (X : Int) := hx
      have HOP : Hid (∀ W q c, W.ownsRow 0 5 1 (.slice q M c) M (u8s Q) → Calls Tryz.prog 10 #[.slice q M c, .int .i64 1000] W fun e w' => ∃ q' n' c' E, e = .returned (.tuple #[.slice q' n' c', .int .i64 E]) ∧ Fr S0 W w') := Lib.hid fun W q c own => by
        refine (open_own (x := zopen Q 1000) (lim := 1000) hQl own hQ8 jL jl rfl).mono ?_
        rintro e w' ⟨f, h⟩
        generalize zopen Q 1000 = R at h
        cases R with
        | ok T' k =>
          obtain ⟨v', rfl, hv'⟩ := h
          obtain ⟨q', c', rfl, -, -, -⟩ := slForm hv'.own
          exact ⟨q', _, c', 0, rfl, f⟩
        | no m => exact ⟨none, 0, 0, (m : Nat), h, f⟩
      clear jL jKA jA jT jl hP hM hbl hML hP8 hbT hTn hT8 hT hp hNd hv hX hA hK hM1 hQl hQ8 hy hX8 hx
      by_cases hc0 : cut < 0
      · clear hQ HCT0
        go_enter Tryz.func5, Tryz.ntmps5
        go_wp2_with fail
        refine HAL.out.mono ?_
        rintro _ w1 ⟨rfl, f1⟩
        have F1 := Lib.hid f1
        have KP := Lib.hid (HPK.out _ f1)
        clear f1 HAL HPK
        go_wp2_with fail
        refine KP.out.mono ?_
        rintro _ w2 ⟨q2, c2, rfl, f2, o2⟩
        have F2 := Lib.hid (F1.out.trans0 f2)
        have O2 := Lib.hid o2
        obtain ⟨gb, hgb⟩ : ∃ gb, q2 = some ⟨gb, 0, none⟩ := own_some o2 (by omega)
        subst hgb
        obtain ⟨qx, cx, ex, -, hMc, hcm⟩ := slForm o2
        simp only [Value.slice.injEq, true_and] at ex
        obtain ⟨rfl, rfl⟩ := ex
        have jc : (M : Int) ≤ (c2 : Int) := by omega
        have SR : Hid (SrcIs (w2.alloc (.cells #[] 5)) (.slice (some ⟨gb, 0, none⟩) M c2) M (u8s P)) := Lib.hid ((SrcIs.ofOwns o2).fr (Fr.alloc S0 w2 _) (fun _ _ h => h))
        clear f2 o2 KP F1 hMc hcm
        go_wp2_with (first
          | ((with_reducible show wpList _ _ _ (Oper.mk (some 27) _ _ _ _ _ :: _) _ _); refine app_many el8 (.tmp 25) (.tmp 26) (own_none w2 _) SR.out (Nat.zero_add _) rfl rfl rfl rfl (one8s _) HRM.out ?_; intro p3 c3 w3 own3 g3 at3; have h3 := fr_made (Fr.refl S0 w2) g3; have v3 := fresh_many (fresh_made (n := 0) (c := 0) (Fr.refl S0 w2)) (size_le (Fr.refl S0 w2)) at3; rw [List.nil_append] at own3; obtain ⟨g, hgg⟩ := own_some own3 (by omega); subst hgg; have OWN3 := Lib.hid own3; have H3 := Lib.hid h3; have V3 := Lib.hid (v3 g rfl); have hcell := own3.cellAt K (by omega); rw [HUK.out] at hcell; have hfro := own3.frozenAt K; clear g3 at3 own3 h3 v3)
          | fail)
        obtain ⟨ho, hgr⟩ := OWN3.out.stored K (.int .u8 (X : Nat))
        have own4 : (w3.setCell ⟨g, K, none⟩ (.int .u8 (X : Nat))).ownsRow 0 5 1 (.slice (some ⟨g, 0, none⟩) M c3) M (u8s Q) := by rw [HSET.out]; exact ho
        have h4 := H3.out.append hgr (fun k hk => by simp only [Option.some.injEq] at hk; have := V3.out; omega)
        have O4 := Lib.hid (h4.owns O2.out (fun _ _ h => h))
        have F4 := Lib.hid (F2.out.trans0 h4)
        generalize w3.setCell ⟨g, K, none⟩ (.int .u8 (X : Nat)) = w4 at own4 h4 O4 F4 ⊢
        have KO := Lib.hid (HOP.out w4 (some ⟨g, 0, none⟩) c3 own4)
        clear ho hgr own4 h4 hcell hfro OWN3 H3 V3 O2 F2 SR HUK HSET HRM HOP
        go_wp2_with fail
        refine KO.out.mono ?_
        rintro _ w5 ⟨q5, n5, c5, E, rfl, f5⟩
        have F5 := Lib.hid (F4.out.trans0 f5)
        have O5 := Lib.hid (f5.owns O4.out (fun _ _ h => h))
        clear f5 KO F4 O4
        go_wp2_with fail
        go_ret
        exact ⟨rfl, F5.out⟩
      · by_cases hc1 : cut ≥ (M : Int)
        · clear hQ HCT0
          go_enter Tryz.func5, Tryz.ntmps5
          go_wp2_with fail
          refine HAL.out.mono ?_
          rintro _ w1 ⟨rfl, f1⟩
          have F1 := Lib.hid f1
          have KP := Lib.hid (HPK.out _ f1)
          clear f1 HAL HPK
          go_wp2_with fail
          refine KP.out.mono ?_
          rintro _ w2 ⟨q2, c2, rfl, f2, o2⟩
          have F2 := Lib.hid (F1.out.trans0 f2)
          have O2 := Lib.hid o2
          obtain ⟨gb, hgb⟩ : ∃ gb, q2 = some ⟨gb, 0, none⟩ := own_some o2 (by omega)
          subst hgb
          obtain ⟨qx, cx, ex, -, hMc, hcm⟩ := slForm o2
          simp only [Value.slice.injEq, true_and] at ex
          obtain ⟨rfl, rfl⟩ := ex
          have jc : (M : Int) ≤ (c2 : Int) := by omega
          have SR : Hid (SrcIs (w2.alloc (.cells #[] 5)) (.slice (some ⟨gb, 0, none⟩) M c2) M (u8s P)) := Lib.hid ((SrcIs.ofOwns o2).fr (Fr.alloc S0 w2 _) (fun _ _ h => h))
          clear f2 o2 KP F1 hMc hcm
          go_wp2_with (first
            | ((with_reducible show wpList _ _ _ (Oper.mk (some 27) _ _ _ _ _ :: _) _ _); refine app_many el8 (.tmp 25) (.tmp 26) (own_none w2 _) SR.out (Nat.zero_add _) rfl rfl rfl rfl (one8s _) HRM.out ?_; intro p3 c3 w3 own3 g3 at3; have h3 := fr_made (Fr.refl S0 w2) g3; have v3 := fresh_many (fresh_made (n := 0) (c := 0) (Fr.refl S0 w2)) (size_le (Fr.refl S0 w2)) at3; rw [List.nil_append] at own3; obtain ⟨g, hgg⟩ := own_some own3 (by omega); subst hgg; have OWN3 := Lib.hid own3; have H3 := Lib.hid h3; have V3 := Lib.hid (v3 g rfl); have hcell := own3.cellAt K (by omega); rw [HUK.out] at hcell; have hfro := own3.frozenAt K; clear g3 at3 own3 h3 v3)
            | fail)
          obtain ⟨ho, hgr⟩ := OWN3.out.stored K (.int .u8 (X : Nat))
          have own4 : (w3.setCell ⟨g, K, none⟩ (.int .u8 (X : Nat))).ownsRow 0 5 1 (.slice (some ⟨g, 0, none⟩) M c3) M (u8s Q) := by rw [HSET.out]; exact ho
          have h4 := H3.out.append hgr (fun k hk => by simp only [Option.some.injEq] at hk; have := V3.out; omega)
          have O4 := Lib.hid (h4.owns O2.out (fun _ _ h => h))
          have F4 := Lib.hid (F2.out.trans0 h4)
          generalize w3.setCell ⟨g, K, none⟩ (.int .u8 (X : Nat)) = w4 at own4 h4 O4 F4 ⊢
          have KO := Lib.hid (HOP.out w4 (some ⟨g, 0, none⟩) c3 own4)
          clear ho hgr own4 h4 hcell hfro OWN3 H3 V3 O2 F2 SR HUK HSET HRM HOP
          go_wp2_with fail
          refine KO.out.mono ?_
          rintro _ w5 ⟨q5, n5, c5, E, rfl, f5⟩
          have F5 := Lib.hid (F4.out.trans0 f5)
          have O5 := Lib.hid (f5.owns O4.out (fun _ _ h => h))
          clear f5 KO F4 O4
          go_wp2_with fail
          go_ret
          exact ⟨rfl, F5.out⟩
        · obtain ⟨C, rfl⟩ : ∃ C : Nat, cut = C := ⟨cut.toNat, by omega⟩
          have HCT := Lib.hid (HCT0.out C (by omega))
          have jC : (C : Int) ≤ (M : Int) := by omega
          clear hQ HCT0
          go_enter Tryz.func5, Tryz.ntmps5
          go_wp2_with fail
          refine HAL.out.mono ?_
          rintro _ w1 ⟨rfl, f1⟩
          have F1 := Lib.hid f1
          have KP := Lib.hid (HPK.out _ f1)
          clear f1 HAL HPK
          go_wp2_with fail
          refine KP.out.mono ?_
          rintro _ w2 ⟨q2, c2, rfl, f2, o2⟩
          have F2 := Lib.hid (F1.out.trans0 f2)
          have O2 := Lib.hid o2
          obtain ⟨gb, hgb⟩ : ∃ gb, q2 = some ⟨gb, 0, none⟩ := own_some o2 (by omega)
          subst hgb
          obtain ⟨qx, cx, ex, -, hMc, hcm⟩ := slForm o2
          simp only [Value.slice.injEq, true_and] at ex
          obtain ⟨rfl, rfl⟩ := ex
          have jc : (M : Int) ≤ (c2 : Int) := by omega
          have SR : Hid (SrcIs (w2.alloc (.cells #[] 5)) (.slice (some ⟨gb, 0, none⟩) M c2) M (u8s P)) := Lib.hid ((SrcIs.ofOwns o2).fr (Fr.alloc S0 w2 _) (fun _ _ h => h))
          clear f2 o2 KP F1 hMc hcm
          go_wp2_with (first
            | ((with_reducible show wpList _ _ _ (Oper.mk (some 27) _ _ _ _ _ :: _) _ _); refine app_many el8 (.tmp 25) (.tmp 26) (own_none w2 _) SR.out (Nat.zero_add _) rfl rfl rfl rfl (one8s _) HRM.out ?_; intro p3 c3 w3 own3 g3 at3; have h3 := fr_made (Fr.refl S0 w2) g3; have v3 := fresh_many (fresh_made (n := 0) (c := 0) (Fr.refl S0 w2)) (size_le (Fr.refl S0 w2)) at3; rw [List.nil_append] at own3; obtain ⟨g, hgg⟩ := own_some own3 (by omega); subst hgg; have OWN3 := Lib.hid own3; have H3 := Lib.hid h3; have V3 := Lib.hid (v3 g rfl); have hcell := own3.cellAt K (by omega); rw [HUK.out] at hcell; have hfro := own3.frozenAt K; clear g3 at3 own3 h3 v3)
            | fail)
          obtain ⟨ho, hgr⟩ := OWN3.out.stored K (.int .u8 (X : Nat))
          have own4 : (w3.setCell ⟨g, K, none⟩ (.int .u8 (X : Nat))).ownsRow 0 5 1 (.slice (some ⟨g, 0, none⟩) M c3) M (u8s Q) := by rw [HSET.out]; exact ho
          have h4 := H3.out.append hgr (fun k hk => by simp only [Option.some.injEq] at hk; have := V3.out; omega)
          have O4 := Lib.hid (h4.owns O2.out (fun _ _ h => h))
          have F4 := Lib.hid (F2.out.trans0 h4)
          generalize w3.setCell ⟨g, K, none⟩ (.int .u8 (X : Nat)) = w4 at own4 h4 O4 F4 ⊢
          have KO := Lib.hid (HOP.out w4 (some ⟨g, 0, none⟩) c3 own4)
          clear ho hgr own4 h4 hcell hfro OWN3 H3 V3 O2 F2 SR HUK HSET HRM HOP
          go_wp2_with fail
          refine KO.out.mono ?_
          rintro _ w5 ⟨q5, n5, c5, E, rfl, f5⟩
          have F5 := Lib.hid (F4.out.trans0 f5)
          have O5 := Lib.hid (f5.owns O4.out (fun _ _ h => h))
          clear f5 KO F4 O4
          go_wp2_with fail
          refine (HCT.out w5 (some ⟨gb, 0, none⟩) c2 O5.out).mono ?_
          rintro _ w6 ⟨rfl, f6⟩
          have F6 := Lib.hid (F5.out.trans0 f6)
          clear f6 F5 O5 HCT
          go_wp2_with fail
          go_ret
          exact ⟨rfl, F6.out⟩
    · have byn : ((y : Int) != 0) = true := zero_nor hy0
      have HOP : Hid (∀ W q c, W.ownsRow 0 5 1 (.slice q M c) M (u8s Q) → Calls Tryz.prog 10 #[.slice q M c, .int .i64 1000] W fun e w' => e = .returned (.tuple #[.slice none 0 0, .int .i64 91]) ∧ Fr S0 W w') := Lib.hid fun W q c own => by
        have hz : zopen Q 1000 = .no 91 := by
          rw [← hQ, ← hP]
          refine spoilt_no (reads_bst T hT8) K A X jT jA jKA ?_
          have hv2 : (wrap9 (bst T) T)[K]? = some v := by rw [hP, ← hv]; exact List.getElem?_eq_getElem _
          rw [hv2]
          intro e
          simp only [Option.some.injEq] at e
          exact xor_ne v y hy0 (by rw [hX, e])
        exact (open_own (x := .no 91) (lim := 1000) hQl own hQ8 jL jl hz).mono fun _ _ h => ⟨h.2, h.1⟩
      clear jL jKA jA jT jl hP hM hbl hML hP8 hbT hTn hT8 hT hp hNd hv hX hA hK hM1 hQl hQ8 hy0 hy hX8
      by_cases hc0 : cut < 0
      · clear hQ HCT0
        go_enter Tryz.func5, Tryz.ntmps5
        go_wp2_with fail
        refine HAL.out.mono ?_
        rintro _ w1 ⟨rfl, f1⟩
        have F1 := Lib.hid f1
        have KP := Lib.hid (HPK.out _ f1)
        clear f1 HAL HPK
        go_wp2_with fail
        refine KP.out.mono ?_
        rintro _ w2 ⟨q2, c2, rfl, f2, o2⟩
        have F2 := Lib.hid (F1.out.trans0 f2)
        have O2 := Lib.hid o2
        obtain ⟨gb, hgb⟩ : ∃ gb, q2 = some ⟨gb, 0, none⟩ := own_some o2 (by omega)
        subst hgb
        obtain ⟨qx, cx, ex, -, hMc, hcm⟩ := slForm o2
        simp only [Value.slice.injEq, true_and] at ex
        obtain ⟨rfl, rfl⟩ := ex
        have jc : (M : Int) ≤ (c2 : Int) := by omega
        have SR : Hid (SrcIs (w2.alloc (.cells #[] 5)) (.slice (some ⟨gb, 0, none⟩) M c2) M (u8s P)) := Lib.hid ((SrcIs.ofOwns o2).fr (Fr.alloc S0 w2 _) (fun _ _ h => h))
        clear f2 o2 KP F1 hMc hcm
        go_wp2_with (first
          | ((with_reducible show wpList _ _ _ (Oper.mk (some 27) _ _ _ _ _ :: _) _ _); refine app_many el8 (.tmp 25) (.tmp 26) (own_none w2 _) SR.out (Nat.zero_add _) rfl rfl rfl rfl (one8s _) HRM.out ?_; intro p3 c3 w3 own3 g3 at3; have h3 := fr_made (Fr.refl S0 w2) g3; have v3 := fresh_many (fresh_made (n := 0) (c := 0) (Fr.refl S0 w2)) (size_le (Fr.refl S0 w2)) at3; rw [List.nil_append] at own3; obtain ⟨g, hgg⟩ := own_some own3 (by omega); subst hgg; have OWN3 := Lib.hid own3; have H3 := Lib.hid h3; have V3 := Lib.hid (v3 g rfl); have hcell := own3.cellAt K (by omega); rw [HUK.out] at hcell; have hfro := own3.frozenAt K; clear g3 at3 own3 h3 v3)
          | fail)
        obtain ⟨ho, hgr⟩ := OWN3.out.stored K (.int .u8 (X : Nat))
        have own4 : (w3.setCell ⟨g, K, none⟩ (.int .u8 (X : Nat))).ownsRow 0 5 1 (.slice (some ⟨g, 0, none⟩) M c3) M (u8s Q) := by rw [HSET.out]; exact ho
        have h4 := H3.out.append hgr (fun k hk => by simp only [Option.some.injEq] at hk; have := V3.out; omega)
        have O4 := Lib.hid (h4.owns O2.out (fun _ _ h => h))
        have F4 := Lib.hid (F2.out.trans0 h4)
        generalize w3.setCell ⟨g, K, none⟩ (.int .u8 (X : Nat)) = w4 at own4 h4 O4 F4 ⊢
        have KO := Lib.hid (HOP.out w4 (some ⟨g, 0, none⟩) c3 own4)
        clear ho hgr own4 h4 hcell hfro OWN3 H3 V3 O2 F2 SR HUK HSET HRM HOP
        go_wp2_with fail
        refine KO.out.mono ?_
        rintro _ w5 ⟨rfl, f5⟩
        have F5 := Lib.hid (F4.out.trans0 f5)
        have O5 := Lib.hid (f5.owns O4.out (fun _ _ h => h))
        clear f5 KO F4 O4
        go_wp2_with fail
        go_ret
        exact ⟨rfl, F5.out⟩
      · by_cases hc1 : cut ≥ (M : Int)
        · clear hQ HCT0
          go_enter Tryz.func5, Tryz.ntmps5
          go_wp2_with fail
          refine HAL.out.mono ?_
          rintro _ w1 ⟨rfl, f1⟩
          have F1 := Lib.hid f1
          have KP := Lib.hid (HPK.out _ f1)
          clear f1 HAL HPK
          go_wp2_with fail
          refine KP.out.mono ?_
          rintro _ w2 ⟨q2, c2, rfl, f2, o2⟩
          have F2 := Lib.hid (F1.out.trans0 f2)
          have O2 := Lib.hid o2
          obtain ⟨gb, hgb⟩ : ∃ gb, q2 = some ⟨gb, 0, none⟩ := own_some o2 (by omega)
          subst hgb
          obtain ⟨qx, cx, ex, -, hMc, hcm⟩ := slForm o2
          simp only [Value.slice.injEq, true_and] at ex
          obtain ⟨rfl, rfl⟩ := ex
          have jc : (M : Int) ≤ (c2 : Int) := by omega
          have SR : Hid (SrcIs (w2.alloc (.cells #[] 5)) (.slice (some ⟨gb, 0, none⟩) M c2) M (u8s P)) := Lib.hid ((SrcIs.ofOwns o2).fr (Fr.alloc S0 w2 _) (fun _ _ h => h))
          clear f2 o2 KP F1 hMc hcm
          go_wp2_with (first
            | ((with_reducible show wpList _ _ _ (Oper.mk (some 27) _ _ _ _ _ :: _) _ _); refine app_many el8 (.tmp 25) (.tmp 26) (own_none w2 _) SR.out (Nat.zero_add _) rfl rfl rfl rfl (one8s _) HRM.out ?_; intro p3 c3 w3 own3 g3 at3; have h3 := fr_made (Fr.refl S0 w2) g3; have v3 := fresh_many (fresh_made (n := 0) (c := 0) (Fr.refl S0 w2)) (size_le (Fr.refl S0 w2)) at3; rw [List.nil_append] at own3; obtain ⟨g, hgg⟩ := own_some own3 (by omega); subst hgg; have OWN3 := Lib.hid own3; have H3 := Lib.hid h3; have V3 := Lib.hid (v3 g rfl); have hcell := own3.cellAt K (by omega); rw [HUK.out] at hcell; have hfro := own3.frozenAt K; clear g3 at3 own3 h3 v3)
            | fail)
          obtain ⟨ho, hgr⟩ := OWN3.out.stored K (.int .u8 (X : Nat))
          have own4 : (w3.setCell ⟨g, K, none⟩ (.int .u8 (X : Nat))).ownsRow 0 5 1 (.slice (some ⟨g, 0, none⟩) M c3) M (u8s Q) := by rw [HSET.out]; exact ho
          have h4 := H3.out.append hgr (fun k hk => by simp only [Option.some.injEq] at hk; have := V3.out; omega)
          have O4 := Lib.hid (h4.owns O2.out (fun _ _ h => h))
          have F4 := Lib.hid (F2.out.trans0 h4)
          generalize w3.setCell ⟨g, K, none⟩ (.int .u8 (X : Nat)) = w4 at own4 h4 O4 F4 ⊢
          have KO := Lib.hid (HOP.out w4 (some ⟨g, 0, none⟩) c3 own4)
          clear ho hgr own4 h4 hcell hfro OWN3 H3 V3 O2 F2 SR HUK HSET HRM HOP
          go_wp2_with fail
          refine KO.out.mono ?_
          rintro _ w5 ⟨rfl, f5⟩
          have F5 := Lib.hid (F4.out.trans0 f5)
          have O5 := Lib.hid (f5.owns O4.out (fun _ _ h => h))
          clear f5 KO F4 O4
          go_wp2_with fail
          go_ret
          exact ⟨rfl, F5.out⟩
        · obtain ⟨C, rfl⟩ : ∃ C : Nat, cut = C := ⟨cut.toNat, by omega⟩
          have HCT := Lib.hid (HCT0.out C (by omega))
          have jC : (C : Int) ≤ (M : Int) := by omega
          clear hQ HCT0
          go_enter Tryz.func5, Tryz.ntmps5
          go_wp2_with fail
          refine HAL.out.mono ?_
          rintro _ w1 ⟨rfl, f1⟩
          have F1 := Lib.hid f1
          have KP := Lib.hid (HPK.out _ f1)
          clear f1 HAL HPK
          go_wp2_with fail
          refine KP.out.mono ?_
          rintro _ w2 ⟨q2, c2, rfl, f2, o2⟩
          have F2 := Lib.hid (F1.out.trans0 f2)
          have O2 := Lib.hid o2
          obtain ⟨gb, hgb⟩ : ∃ gb, q2 = some ⟨gb, 0, none⟩ := own_some o2 (by omega)
          subst hgb
          obtain ⟨qx, cx, ex, -, hMc, hcm⟩ := slForm o2
          simp only [Value.slice.injEq, true_and] at ex
          obtain ⟨rfl, rfl⟩ := ex
          have jc : (M : Int) ≤ (c2 : Int) := by omega
          have SR : Hid (SrcIs (w2.alloc (.cells #[] 5)) (.slice (some ⟨gb, 0, none⟩) M c2) M (u8s P)) := Lib.hid ((SrcIs.ofOwns o2).fr (Fr.alloc S0 w2 _) (fun _ _ h => h))
          clear f2 o2 KP F1 hMc hcm
          go_wp2_with (first
            | ((with_reducible show wpList _ _ _ (Oper.mk (some 27) _ _ _ _ _ :: _) _ _); refine app_many el8 (.tmp 25) (.tmp 26) (own_none w2 _) SR.out (Nat.zero_add _) rfl rfl rfl rfl (one8s _) HRM.out ?_; intro p3 c3 w3 own3 g3 at3; have h3 := fr_made (Fr.refl S0 w2) g3; have v3 := fresh_many (fresh_made (n := 0) (c := 0) (Fr.refl S0 w2)) (size_le (Fr.refl S0 w2)) at3; rw [List.nil_append] at own3; obtain ⟨g, hgg⟩ := own_some own3 (by omega); subst hgg; have OWN3 := Lib.hid own3; have H3 := Lib.hid h3; have V3 := Lib.hid (v3 g rfl); have hcell := own3.cellAt K (by omega); rw [HUK.out] at hcell; have hfro := own3.frozenAt K; clear g3 at3 own3 h3 v3)
            | fail)
          obtain ⟨ho, hgr⟩ := OWN3.out.stored K (.int .u8 (X : Nat))
          have own4 : (w3.setCell ⟨g, K, none⟩ (.int .u8 (X : Nat))).ownsRow 0 5 1 (.slice (some ⟨g, 0, none⟩) M c3) M (u8s Q) := by rw [HSET.out]; exact ho
          have h4 := H3.out.append hgr (fun k hk => by simp only [Option.some.injEq] at hk; have := V3.out; omega)
          have O4 := Lib.hid (h4.owns O2.out (fun _ _ h => h))
          have F4 := Lib.hid (F2.out.trans0 h4)
          generalize w3.setCell ⟨g, K, none⟩ (.int .u8 (X : Nat)) = w4 at own4 h4 O4 F4 ⊢
          have KO := Lib.hid (HOP.out w4 (some ⟨g, 0, none⟩) c3 own4)
          clear ho hgr own4 h4 hcell hfro OWN3 H3 V3 O2 F2 SR HUK HSET HRM HOP
          go_wp2_with fail
          refine KO.out.mono ?_
          rintro _ w5 ⟨rfl, f5⟩
          have F5 := Lib.hid (F4.out.trans0 f5)
          have O5 := Lib.hid (f5.owns O4.out (fun _ _ h => h))
          clear f5 KO F4 O4
          go_wp2_with fail
          refine (HCT.out w5 (some ⟨gb, 0, none⟩) c2 O5.out).mono ?_
          rintro _ w6 ⟨rfl, f6⟩
          have F6 := Lib.hid (F5.out.trans0 f6)
          clear f6 F5 O5 HCT
          go_wp2_with fail
          go_ret
          exact ⟨rfl, F6.out⟩
  · obtain ⟨T, hT⟩ : ∃ T, b = T := ⟨_, rfl⟩
    have hbT : SlI w .u8 p T := by rw [← hT]; exact hb
    have hT8 : ∀ x ∈ T, x < 256 := by rw [← hT]; exact h8
    have hTn : T.length = n := by rw [← hT]; exact hn
    have hNd : n ≤ d := hd
    have hg : ¬ (n : Int) > 300 := by omega
    clear hb h8 hn hd
    obtain ⟨P, hP⟩ : ∃ P, wrap9 (bst T) T = P := ⟨_, rfl⟩
    obtain ⟨M, hM⟩ : ∃ M, P.length = M := ⟨_, rfl⟩
    have hbl := bst_length T hT8
    have hML : M = (bst T).length + 6 := by rw [← hM, ← hP, wrap9_length]
    have hP8 : ∀ x ∈ P, x < 256 := by rw [← hP]; exact wrap9_256 (bst_256 T hT8)
    have HPK : Hid (∀ W, Fr S0 w W → Calls Tryz.prog 8 #[.slice p n d] W (Says P M W)) := Lib.hid fun W f =>
      (pack_any p n d T W hTn (hbT.fr0 f) hT8 hp hNd (by omega)).mono fun _ _ h => says hM (by rw [hP] at h; exact h)
    have HRM : Hid (Room M) := Lib.hid (Room.mk (by omega))
    have HCT0 : Hid (∀ C, C < M → ∀ W q c, W.ownsRow 0 5 1 (.slice q M c) M (u8s P) → Calls Tryz.prog 10 #[.slice q C c, .int .i64 1000] W fun e w' => e = .returned (.tuple #[.slice none 0 0, .int .i64 20]) ∧ Fr S0 W w') := Lib.hid fun C hC W q c own => by
      obtain ⟨qx, cx, ex, -, h1, h2⟩ := slForm own
      simp only [Value.slice.injEq, true_and] at ex
      obtain ⟨rfl, rfl⟩ := ex
      refine (open_any (x := .no 20) q C c 1000 (P.take C) W (by rw [List.length_take]; omega) ((SlI.ofOwns own).take C) (fun x hx => hP8 x (List.mem_of_mem_take hx)) (by omega) h2 (by omega) (by omega) (by rw [← hP]; exact zopen_cut (reads_bst T hT8) 1000 C (by omega) (by omega))).mono ?_
      rintro e w' ⟨f, he⟩
      exact ⟨he, f⟩
    obtain ⟨A, hA⟩ : ∃ A, at_ % 4 = A := ⟨_, rfl⟩
    have eA : (at_ : Int) % 4 = (A : Int) := by omega
    obtain ⟨K, hK⟩ : ∃ K, M - 1 - A = K := ⟨_, rfl⟩
    obtain ⟨M1, hM1⟩ : ∃ M1, M - 1 = M1 := ⟨_, rfl⟩
    have eM1 : (M : Int) - 1 = (M1 : Int) := by omega
    have eK : (M1 : Int) - (A : Int) = (K : Int) := by omega
    have jK : K < M := by omega
    have j6 : 6 ≤ M := by omega
    have jM : (M : Int) ≤ 100000 := by omega
    have jM1 : (M1 : Int) ≤ 100000 := by omega
    have jKb : (K : Int) ≤ 100000 := by omega
    have jKM : (K : Int) < (M : Int) := by omega
    have jL : M ≤ 1000000 := by omega
    have jKA : K = (bst T).length + 5 - A := by omega
    have jA : A < 4 := by omega
    have jT : T.length ≤ 1000 := by omega
    have jl : (1000 : Nat) ≤ 1048576 := by decide
    obtain ⟨v, hv⟩ : ∃ v, P[K]'(by rw [hM]; exact jK) = v := ⟨_, rfl⟩
    have hv8 : v < 256 := by rw [← hv]; exact hP8 _ (List.getElem_mem _)
    have HUK : Hid ((u8s P)[K]? = some (.int .u8 (v : Nat))) := Lib.hid (by rw [← hv]; simp [u8s, hM, jK])
    obtain ⟨X, hX⟩ : ∃ X, v ^^^ y = X := ⟨_, rfl⟩
    have hx : bits .xor .u8 (v : Int) (y : Int) = ((X : Nat) : Int) := by rw [← hX]; exact u8_xor_nat _ _ hv8 hy
    have hX8 : X < 256 := by rw [← hX]; exact Nat.xor_lt_two_pow (n := 8) hv8 hy
    obtain ⟨Q, hQ⟩ : ∃ Q, P.set K X = Q := ⟨_, rfl⟩
    have hQl : Q.length = M := by rw [← hQ, List.length_set, hM]
    have hQ8 : ∀ x ∈ Q, x < 256 := by rw [← hQ]; exact fun x hx => (List.mem_or_eq_of_mem_set hx).elim (hP8 x) (fun e => e ▸ hX8)
    have HSET : Hid (u8s Q = (u8s P).set K (.int .u8 (X : Nat))) := Lib.hid (by rw [← hQ]; unfold u8s; rw [List.map_set])
    by_cases hy0 : y = 0
    · subst hy0
      have hx0 : bits .xor .u8 (v : Int) 0 = (X : Int) := hx
      have HOP : Hid (∀ W q c, W.ownsRow 0 5 1 (.slice q M c) M (u8s Q) → Calls Tryz.prog 10 #[.slice q M c, .int .i64 1000] W fun e w' => ∃ q' n' c' E, e = .returned (.tuple #[.slice q' n' c', .int .i64 E]) ∧ Fr S0 W w') := Lib.hid fun W q c own => by
        refine (open_own (x := zopen Q 1000) (lim := 1000) hQl own hQ8 jL jl rfl).mono ?_
        rintro e w' ⟨f, h⟩
        generalize zopen Q 1000 = R at h
        cases R with
        | ok T' k =>
          obtain ⟨v', rfl, hv'⟩ := h
          obtain ⟨q', c', rfl, -, -, -⟩ := slForm hv'.own
          exact ⟨q', _, c', 0, rfl, f⟩
        | no m => exact ⟨none, 0, 0, (m : Nat), h, f⟩
      clear jL jKA jA jT jl hP hM hbl hML hP8 hbT hTn hT8 hT hp hNd hv hX hA hK hM1 hQl hQ8 hy hX8 hx
      by_cases hc0 : cut < 0
      · clear hQ HCT0
        go_enter Tryz.func5, Tryz.ntmps5
        go_wp2_with fail
        refine HAL.out.mono ?_
        rintro _ w1 ⟨rfl, f1⟩
        have F1 := Lib.hid f1
        have KP := Lib.hid (HPK.out _ f1)
        clear f1 HAL HPK
        go_wp2_with fail
        refine KP.out.mono ?_
        rintro _ w2 ⟨q2, c2, rfl, f2, o2⟩
        have F2 := Lib.hid (F1.out.trans0 f2)
        have O2 := Lib.hid o2
        obtain ⟨gb, hgb⟩ : ∃ gb, q2 = some ⟨gb, 0, none⟩ := own_some o2 (by omega)
        subst hgb
        obtain ⟨qx, cx, ex, -, hMc, hcm⟩ := slForm o2
        simp only [Value.slice.injEq, true_and] at ex
        obtain ⟨rfl, rfl⟩ := ex
        have jc : (M : Int) ≤ (c2 : Int) := by omega
        have SR : Hid (SrcIs (w2.alloc (.cells #[] 5)) (.slice (some ⟨gb, 0, none⟩) M c2) M (u8s P)) := Lib.hid ((SrcIs.ofOwns o2).fr (Fr.alloc S0 w2 _) (fun _ _ h => h))
        clear f2 o2 KP F1 hMc hcm
        go_wp2_with (first
          | ((with_reducible show wpList _ _ _ (Oper.mk (some 27) _ _ _ _ _ :: _) _ _); refine app_many el8 (.tmp 25) (.tmp 26) (own_none w2 _) SR.out (Nat.zero_add _) rfl rfl rfl rfl (one8s _) HRM.out ?_; intro p3 c3 w3 own3 g3 at3; have h3 := fr_made (Fr.refl S0 w2) g3; have v3 := fresh_many (fresh_made (n := 0) (c := 0) (Fr.refl S0 w2)) (size_le (Fr.refl S0 w2)) at3; rw [List.nil_append] at own3; obtain ⟨g, hgg⟩ := own_some own3 (by omega); subst hgg; have OWN3 := Lib.hid own3; have H3 := Lib.hid h3; have V3 := Lib.hid (v3 g rfl); have hcell := own3.cellAt K (by omega); rw [HUK.out] at hcell; have hfro := own3.frozenAt K; clear g3 at3 own3 h3 v3)
          | fail)
        obtain ⟨ho, hgr⟩ := OWN3.out.stored K (.int .u8 (X : Nat))
        have own4 : (w3.setCell ⟨g, K, none⟩ (.int .u8 (X : Nat))).ownsRow 0 5 1 (.slice (some ⟨g, 0, none⟩) M c3) M (u8s Q) := by rw [HSET.out]; exact ho
        have h4 := H3.out.append hgr (fun k hk => by simp only [Option.some.injEq] at hk; have := V3.out; omega)
        have O4 := Lib.hid (h4.owns O2.out (fun _ _ h => h))
        have F4 := Lib.hid (F2.out.trans0 h4)
        generalize w3.setCell ⟨g, K, none⟩ (.int .u8 (X : Nat)) = w4 at own4 h4 O4 F4 ⊢
        have KO := Lib.hid (HOP.out w4 (some ⟨g, 0, none⟩) c3 own4)
        clear ho hgr own4 h4 hcell hfro OWN3 H3 V3 O2 F2 SR HUK HSET HRM HOP
        go_wp2_with fail
        refine KO.out.mono ?_
        rintro _ w5 ⟨q5, n5, c5, E, rfl, f5⟩
        have F5 := Lib.hid (F4.out.trans0 f5)
        have O5 := Lib.hid (f5.owns O4.out (fun _ _ h => h))
        clear f5 KO F4 O4
        go_wp2_with fail
        go_ret
        exact ⟨rfl, F5.out⟩
      · by_cases hc1 : cut ≥ (M : Int)
        · clear hQ HCT0
          go_enter Tryz.func5, Tryz.ntmps5
          go_wp2_with fail
          refine HAL.out.mono ?_
          rintro _ w1 ⟨rfl, f1⟩
          have F1 := Lib.hid f1
          have KP := Lib.hid (HPK.out _ f1)
          clear f1 HAL HPK
          go_wp2_with fail
          refine KP.out.mono ?_
          rintro _ w2 ⟨q2, c2, rfl, f2, o2⟩
          have F2 := Lib.hid (F1.out.trans0 f2)
          have O2 := Lib.hid o2
          obtain ⟨gb, hgb⟩ : ∃ gb, q2 = some ⟨gb, 0, none⟩ := own_some o2 (by omega)
          subst hgb
          obtain ⟨qx, cx, ex, -, hMc, hcm⟩ := slForm o2
          simp only [Value.slice.injEq, true_and] at ex
          obtain ⟨rfl, rfl⟩ := ex
          have jc : (M : Int) ≤ (c2 : Int) := by omega
          have SR : Hid (SrcIs (w2.alloc (.cells #[] 5)) (.slice (some ⟨gb, 0, none⟩) M c2) M (u8s P)) := Lib.hid ((SrcIs.ofOwns o2).fr (Fr.alloc S0 w2 _) (fun _ _ h => h))
          clear f2 o2 KP F1 hMc hcm
          go_wp2_with (first
            | ((with_reducible show wpList _ _ _ (Oper.mk (some 27) _ _ _ _ _ :: _) _ _); refine app_many el8 (.tmp 25) (.tmp 26) (own_none w2 _) SR.out (Nat.zero_add _) rfl rfl rfl rfl (one8s _) HRM.out ?_; intro p3 c3 w3 own3 g3 at3; have h3 := fr_made (Fr.refl S0 w2) g3; have v3 := fresh_many (fresh_made (n := 0) (c := 0) (Fr.refl S0 w2)) (size_le (Fr.refl S0 w2)) at3; rw [List.nil_append] at own3; obtain ⟨g, hgg⟩ := own_some own3 (by omega); subst hgg; have OWN3 := Lib.hid own3; have H3 := Lib.hid h3; have V3 := Lib.hid (v3 g rfl); have hcell := own3.cellAt K (by omega); rw [HUK.out] at hcell; have hfro := own3.frozenAt K; clear g3 at3 own3 h3 v3)
            | fail)
          obtain ⟨ho, hgr⟩ := OWN3.out.stored K (.int .u8 (X : Nat))
          have own4 : (w3.setCell ⟨g, K, none⟩ (.int .u8 (X : Nat))).ownsRow 0 5 1 (.slice (some ⟨g, 0, none⟩) M c3) M (u8s Q) := by rw [HSET.out]; exact ho
          have h4 := H3.out.append hgr (fun k hk => by simp only [Option.some.injEq] at hk; have := V3.out; omega)
          have O4 := Lib.hid (h4.owns O2.out (fun _ _ h => h))
          have F4 := Lib.hid (F2.out.trans0 h4)
          generalize w3.setCell ⟨g, K, none⟩ (.int .u8 (X : Nat)) = w4 at own4 h4 O4 F4 ⊢
          have KO := Lib.hid (HOP.out w4 (some ⟨g, 0, none⟩) c3 own4)
          clear ho hgr own4 h4 hcell hfro OWN3 H3 V3 O2 F2 SR HUK HSET HRM HOP
          go_wp2_with fail
          refine KO.out.mono ?_
          rintro _ w5 ⟨q5, n5, c5, E, rfl, f5⟩
          have F5 := Lib.hid (F4.out.trans0 f5)
          have O5 := Lib.hid (f5.owns O4.out (fun _ _ h => h))
          clear f5 KO F4 O4
          go_wp2_with fail
          go_ret
          exact ⟨rfl, F5.out⟩
        · obtain ⟨C, rfl⟩ : ∃ C : Nat, cut = C := ⟨cut.toNat, by omega⟩
          have HCT := Lib.hid (HCT0.out C (by omega))
          have jC : (C : Int) ≤ (M : Int) := by omega
          clear hQ HCT0
          go_enter Tryz.func5, Tryz.ntmps5
          go_wp2_with fail
          refine HAL.out.mono ?_
          rintro _ w1 ⟨rfl, f1⟩
          have F1 := Lib.hid f1
          have KP := Lib.hid (HPK.out _ f1)
          clear f1 HAL HPK
          go_wp2_with fail
          refine KP.out.mono ?_
          rintro _ w2 ⟨q2, c2, rfl, f2, o2⟩
          have F2 := Lib.hid (F1.out.trans0 f2)
          have O2 := Lib.hid o2
          obtain ⟨gb, hgb⟩ : ∃ gb, q2 = some ⟨gb, 0, none⟩ := own_some o2 (by omega)
          subst hgb
          obtain ⟨qx, cx, ex, -, hMc, hcm⟩ := slForm o2
          simp only [Value.slice.injEq, true_and] at ex
          obtain ⟨rfl, rfl⟩ := ex
          have jc : (M : Int) ≤ (c2 : Int) := by omega
          have SR : Hid (SrcIs (w2.alloc (.cells #[] 5)) (.slice (some ⟨gb, 0, none⟩) M c2) M (u8s P)) := Lib.hid ((SrcIs.ofOwns o2).fr (Fr.alloc S0 w2 _) (fun _ _ h => h))
          clear f2 o2 KP F1 hMc hcm
          go_wp2_with (first
            | ((with_reducible show wpList _ _ _ (Oper.mk (some 27) _ _ _ _ _ :: _) _ _); refine app_many el8 (.tmp 25) (.tmp 26) (own_none w2 _) SR.out (Nat.zero_add _) rfl rfl rfl rfl (one8s _) HRM.out ?_; intro p3 c3 w3 own3 g3 at3; have h3 := fr_made (Fr.refl S0 w2) g3; have v3 := fresh_many (fresh_made (n := 0) (c := 0) (Fr.refl S0 w2)) (size_le (Fr.refl S0 w2)) at3; rw [List.nil_append] at own3; obtain ⟨g, hgg⟩ := own_some own3 (by omega); subst hgg; have OWN3 := Lib.hid own3; have H3 := Lib.hid h3; have V3 := Lib.hid (v3 g rfl); have hcell := own3.cellAt K (by omega); rw [HUK.out] at hcell; have hfro := own3.frozenAt K; clear g3 at3 own3 h3 v3)
            | fail)
          obtain ⟨ho, hgr⟩ := OWN3.out.stored K (.int .u8 (X : Nat))
          have own4 : (w3.setCell ⟨g, K, none⟩ (.int .u8 (X : Nat))).ownsRow 0 5 1 (.slice (some ⟨g, 0, none⟩) M c3) M (u8s Q) := by rw [HSET.out]; exact ho
          have h4 := H3.out.append hgr (fun k hk => by simp only [Option.some.injEq] at hk; have := V3.out; omega)
          have O4 := Lib.hid (h4.owns O2.out (fun _ _ h => h))
          have F4 := Lib.hid (F2.out.trans0 h4)
          generalize w3.setCell ⟨g, K, none⟩ (.int .u8 (X : Nat)) = w4 at own4 h4 O4 F4 ⊢
          have KO := Lib.hid (HOP.out w4 (some ⟨g, 0, none⟩) c3 own4)
          clear ho hgr own4 h4 hcell hfro OWN3 H3 V3 O2 F2 SR HUK HSET HRM HOP
          go_wp2_with fail
          refine KO.out.mono ?_
          rintro _ w5 ⟨q5, n5, c5, E, rfl, f5⟩
          have F5 := Lib.hid (F4.out.trans0 f5)
          have O5 := Lib.hid (f5.owns O4.out (fun _ _ h => h))
          clear f5 KO F4 O4
          go_wp2_with fail
          refine (HCT.out w5 (some ⟨gb, 0, none⟩) c2 O5.out).mono ?_
          rintro _ w6 ⟨rfl, f6⟩
          have F6 := Lib.hid (F5.out.trans0 f6)
          clear f6 F5 O5 HCT
          go_wp2_with fail
          go_ret
          exact ⟨rfl, F6.out⟩
    · have byn : ((y : Int) != 0) = true := zero_nor hy0
      have HOP : Hid (∀ W q c, W.ownsRow 0 5 1 (.slice q M c) M (u8s Q) → Calls Tryz.prog 10 #[.slice q M c, .int .i64 1000] W fun e w' => e = .returned (.tuple #[.slice none 0 0, .int .i64 91]) ∧ Fr S0 W w') := Lib.hid fun W q c own => by
        have hz : zopen Q 1000 = .no 91 := by
          rw [← hQ, ← hP]
          refine spoilt_no (reads_bst T hT8) K A X jT jA jKA ?_
          have hv2 : (wrap9 (bst T) T)[K]? = some v := by rw [hP, ← hv]; exact List.getElem?_eq_getElem _
          rw [hv2]
          intro e
          simp only [Option.some.injEq] at e
          exact xor_ne v y hy0 (by rw [hX, e])
        exact (open_own (x := .no 91) (lim := 1000) hQl own hQ8 jL jl hz).mono fun _ _ h => ⟨h.2, h.1⟩
      clear jL jKA jA jT jl hP hM hbl hML hP8 hbT hTn hT8 hT hp hNd hv hX hA hK hM1 hQl hQ8 hy0 hy hX8
      by_cases hc0 : cut < 0
      · clear hQ HCT0
        go_enter Tryz.func5, Tryz.ntmps5
        go_wp2_with fail
        refine HAL.out.mono ?_
        rintro _ w1 ⟨rfl, f1⟩
        have F1 := Lib.hid f1
        have KP := Lib.hid (HPK.out _ f1)
        clear f1 HAL HPK
        go_wp2_with fail
        refine KP.out.mono ?_
        rintro _ w2 ⟨q2, c2, rfl, f2, o2⟩
        have F2 := Lib.hid (F1.out.trans0 f2)
        have O2 := Lib.hid o2
        obtain ⟨gb, hgb⟩ : ∃ gb, q2 = some ⟨gb, 0, none⟩ := own_some o2 (by omega)
        subst hgb
        obtain ⟨qx, cx, ex, -, hMc, hcm⟩ := slForm o2
        simp only [Value.slice.injEq, true_and] at ex
        obtain ⟨rfl, rfl⟩ := ex
        have jc : (M : Int) ≤ (c2 : Int) := by omega
        have SR : Hid (SrcIs (w2.alloc (.cells #[] 5)) (.slice (some ⟨gb, 0, none⟩) M c2) M (u8s P)) := Lib.hid ((SrcIs.ofOwns o2).fr (Fr.alloc S0 w2 _) (fun _ _ h => h))
        clear f2 o2 KP F1 hMc hcm
        go_wp2_with (first
          | ((with_reducible show wpList _ _ _ (Oper.mk (some 27) _ _ _ _ _ :: _) _ _); refine app_many el8 (.tmp 25) (.tmp 26) (own_none w2 _) SR.out (Nat.zero_add _) rfl rfl rfl rfl (one8s _) HRM.out ?_; intro p3 c3 w3 own3 g3 at3; have h3 := fr_made (Fr.refl S0 w2) g3; have v3 := fresh_many (fresh_made (n := 0) (c := 0) (Fr.refl S0 w2)) (size_le (Fr.refl S0 w2)) at3; rw [List.nil_append] at own3; obtain ⟨g, hgg⟩ := own_some own3 (by omega); subst hgg; have OWN3 := Lib.hid own3; have H3 := Lib.hid h3; have V3 := Lib.hid (v3 g rfl); have hcell := own3.cellAt K (by omega); rw [HUK.out] at hcell; have hfro := own3.frozenAt K; clear g3 at3 own3 h3 v3)
          | fail)
        obtain ⟨ho, hgr⟩ := OWN3.out.stored K (.int .u8 (X : Nat))
        have own4 : (w3.setCell ⟨g, K, none⟩ (.int .u8 (X : Nat))).ownsRow 0 5 1 (.slice (some ⟨g, 0, none⟩) M c3) M (u8s Q) := by rw [HSET.out]; exact ho
        have h4 := H3.out.append hgr (fun k hk => by simp only [Option.some.injEq] at hk; have := V3.out; omega)
        have O4 := Lib.hid (h4.owns O2.out (fun _ _ h => h))
        have F4 := Lib.hid (F2.out.trans0 h4)
        generalize w3.setCell ⟨g, K, none⟩ (.int .u8 (X : Nat)) = w4 at own4 h4 O4 F4 ⊢
        have KO := Lib.hid (HOP.out w4 (some ⟨g, 0, none⟩) c3 own4)
        clear ho hgr own4 h4 hcell hfro OWN3 H3 V3 O2 F2 SR HUK HSET HRM HOP
        go_wp2_with fail
        refine KO.out.mono ?_
        rintro _ w5 ⟨rfl, f5⟩
        have F5 := Lib.hid (F4.out.trans0 f5)
        have O5 := Lib.hid (f5.owns O4.out (fun _ _ h => h))
        clear f5 KO F4 O4
        go_wp2_with fail
        go_ret
        exact ⟨rfl, F5.out⟩
      · by_cases hc1 : cut ≥ (M : Int)
        · clear hQ HCT0
          go_enter Tryz.func5, Tryz.ntmps5
          go_wp2_with fail
          refine HAL.out.mono ?_
          rintro _ w1 ⟨rfl, f1⟩
          have F1 := Lib.hid f1
          have KP := Lib.hid (HPK.out _ f1)
          clear f1 HAL HPK
          go_wp2_with fail
          refine KP.out.mono ?_
          rintro _ w2 ⟨q2, c2, rfl, f2, o2⟩
          have F2 := Lib.hid (F1.out.trans0 f2)
          have O2 := Lib.hid o2
          obtain ⟨gb, hgb⟩ : ∃ gb, q2 = some ⟨gb, 0, none⟩ := own_some o2 (by omega)
          subst hgb
          obtain ⟨qx, cx, ex, -, hMc, hcm⟩ := slForm o2
          simp only [Value.slice.injEq, true_and] at ex
          obtain ⟨rfl, rfl⟩ := ex
          have jc : (M : Int) ≤ (c2 : Int) := by omega
          have SR : Hid (SrcIs (w2.alloc (.cells #[] 5)) (.slice (some ⟨gb, 0, none⟩) M c2) M (u8s P)) := Lib.hid ((SrcIs.ofOwns o2).fr (Fr.alloc S0 w2 _) (fun _ _ h => h))
          clear f2 o2 KP F1 hMc hcm
          go_wp2_with (first
            | ((with_reducible show wpList _ _ _ (Oper.mk (some 27) _ _ _ _ _ :: _) _ _); refine app_many el8 (.tmp 25) (.tmp 26) (own_none w2 _) SR.out (Nat.zero_add _) rfl rfl rfl rfl (one8s _) HRM.out ?_; intro p3 c3 w3 own3 g3 at3; have h3 := fr_made (Fr.refl S0 w2) g3; have v3 := fresh_many (fresh_made (n := 0) (c := 0) (Fr.refl S0 w2)) (size_le (Fr.refl S0 w2)) at3; rw [List.nil_append] at own3; obtain ⟨g, hgg⟩ := own_some own3 (by omega); subst hgg; have OWN3 := Lib.hid own3; have H3 := Lib.hid h3; have V3 := Lib.hid (v3 g rfl); have hcell := own3.cellAt K (by omega); rw [HUK.out] at hcell; have hfro := own3.frozenAt K; clear g3 at3 own3 h3 v3)
            | fail)
          obtain ⟨ho, hgr⟩ := OWN3.out.stored K (.int .u8 (X : Nat))
          have own4 : (w3.setCell ⟨g, K, none⟩ (.int .u8 (X : Nat))).ownsRow 0 5 1 (.slice (some ⟨g, 0, none⟩) M c3) M (u8s Q) := by rw [HSET.out]; exact ho
          have h4 := H3.out.append hgr (fun k hk => by simp only [Option.some.injEq] at hk; have := V3.out; omega)
          have O4 := Lib.hid (h4.owns O2.out (fun _ _ h => h))
          have F4 := Lib.hid (F2.out.trans0 h4)
          generalize w3.setCell ⟨g, K, none⟩ (.int .u8 (X : Nat)) = w4 at own4 h4 O4 F4 ⊢
          have KO := Lib.hid (HOP.out w4 (some ⟨g, 0, none⟩) c3 own4)
          clear ho hgr own4 h4 hcell hfro OWN3 H3 V3 O2 F2 SR HUK HSET HRM HOP
          go_wp2_with fail
          refine KO.out.mono ?_
          rintro _ w5 ⟨rfl, f5⟩
          have F5 := Lib.hid (F4.out.trans0 f5)
          have O5 := Lib.hid (f5.owns O4.out (fun _ _ h => h))
          clear f5 KO F4 O4
          go_wp2_with fail
          go_ret
          exact ⟨rfl, F5.out⟩
        · obtain ⟨C, rfl⟩ : ∃ C : Nat, cut = C := ⟨cut.toNat, by omega⟩
          have HCT := Lib.hid (HCT0.out C (by omega))
          have jC : (C : Int) ≤ (M : Int) := by omega
          clear hQ HCT0
          go_enter Tryz.func5, Tryz.ntmps5
          go_wp2_with fail
          refine HAL.out.mono ?_
          rintro _ w1 ⟨rfl, f1⟩
          have F1 := Lib.hid f1
          have KP := Lib.hid (HPK.out _ f1)
          clear f1 HAL HPK
          go_wp2_with fail
          refine KP.out.mono ?_
          rintro _ w2 ⟨q2, c2, rfl, f2, o2⟩
          have F2 := Lib.hid (F1.out.trans0 f2)
          have O2 := Lib.hid o2
          obtain ⟨gb, hgb⟩ : ∃ gb, q2 = some ⟨gb, 0, none⟩ := own_some o2 (by omega)
          subst hgb
          obtain ⟨qx, cx, ex, -, hMc, hcm⟩ := slForm o2
          simp only [Value.slice.injEq, true_and] at ex
          obtain ⟨rfl, rfl⟩ := ex
          have jc : (M : Int) ≤ (c2 : Int) := by omega
          have SR : Hid (SrcIs (w2.alloc (.cells #[] 5)) (.slice (some ⟨gb, 0, none⟩) M c2) M (u8s P)) := Lib.hid ((SrcIs.ofOwns o2).fr (Fr.alloc S0 w2 _) (fun _ _ h => h))
          clear f2 o2 KP F1 hMc hcm
          go_wp2_with (first
            | ((with_reducible show wpList _ _ _ (Oper.mk (some 27) _ _ _ _ _ :: _) _ _); refine app_many el8 (.tmp 25) (.tmp 26) (own_none w2 _) SR.out (Nat.zero_add _) rfl rfl rfl rfl (one8s _) HRM.out ?_; intro p3 c3 w3 own3 g3 at3; have h3 := fr_made (Fr.refl S0 w2) g3; have v3 := fresh_many (fresh_made (n := 0) (c := 0) (Fr.refl S0 w2)) (size_le (Fr.refl S0 w2)) at3; rw [List.nil_append] at own3; obtain ⟨g, hgg⟩ := own_some own3 (by omega); subst hgg; have OWN3 := Lib.hid own3; have H3 := Lib.hid h3; have V3 := Lib.hid (v3 g rfl); have hcell := own3.cellAt K (by omega); rw [HUK.out] at hcell; have hfro := own3.frozenAt K; clear g3 at3 own3 h3 v3)
            | fail)
          obtain ⟨ho, hgr⟩ := OWN3.out.stored K (.int .u8 (X : Nat))
          have own4 : (w3.setCell ⟨g, K, none⟩ (.int .u8 (X : Nat))).ownsRow 0 5 1 (.slice (some ⟨g, 0, none⟩) M c3) M (u8s Q) := by rw [HSET.out]; exact ho
          have h4 := H3.out.append hgr (fun k hk => by simp only [Option.some.injEq] at hk; have := V3.out; omega)
          have O4 := Lib.hid (h4.owns O2.out (fun _ _ h => h))
          have F4 := Lib.hid (F2.out.trans0 h4)
          generalize w3.setCell ⟨g, K, none⟩ (.int .u8 (X : Nat)) = w4 at own4 h4 O4 F4 ⊢
          have KO := Lib.hid (HOP.out w4 (some ⟨g, 0, none⟩) c3 own4)
          clear ho hgr own4 h4 hcell hfro OWN3 H3 V3 O2 F2 SR HUK HSET HRM HOP
          go_wp2_with fail
          refine KO.out.mono ?_
          rintro _ w5 ⟨rfl, f5⟩
          have F5 := Lib.hid (F4.out.trans0 f5)
          have O5 := Lib.hid (f5.owns O4.out (fun _ _ h => h))
          clear f5 KO F4 O4
          go_wp2_with fail
          refine (HCT.out w5 (some ⟨gb, 0, none⟩) c2 O5.out).mono ?_
          rintro _ w6 ⟨rfl, f6⟩
          have F6 := Lib.hid (F5.out.trans0 f6)
          clear f6 F5 O5 HCT
          go_wp2_with fail
          go_ret
          exact ⟨rfl, F6.out⟩
end Go.Proofs.YtnckoghgplnhfaaGreat
