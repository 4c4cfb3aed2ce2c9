/- The law on heads. -/
import Derived.Test.YtnckoghgplnhfaaGreatZlLawPacks
namespace Go.Proofs.YtnckoghgplnhfaaGreat
open Go.RowKit

theorem own_some {w : World} {e : TypeId} {q : Option Addr} {n c : Nat} {xs : List Value} (h : w.ownsRow 0 e 1 (.slice q n c) n xs) (hn : 0 < n) : ∃ g, q = some ⟨g, 0, none⟩ := by
  rcases h.2 with ⟨-, h0⟩ | ⟨g, cap, cur, hv, _⟩
  · omega
  · simp only [Value.slice.injEq] at hv
    exact ⟨g, hv.1⟩

set_option maxRecDepth 100000 in
set_option maxHeartbeats 8000000 in
theorem law_heads (x y : Nat) (p : Option Addr) (d : Nat) (b : List Nat) (w : World) (hx : x < 256) (hy : y < 256) (hb : SlI w .u8 p b) (h8 : ∀ x ∈ b, x < 256) (hp : p = none → d = 0) (hd : b.length ≤ d) :
    Calls Tryz.prog 6 #[.int .u8 x, .int .u8 y, .slice p b.length d] w fun r w' => r = .returned (.bool true) ∧ Fr S0 w w' := by
  have HAL := Lib.hid (alive9_any w)
  obtain ⟨n, hn⟩ : ∃ n, b.length = n := ⟨_, rfl⟩
  rw [hn] at hd ⊢
  by_cases hbig : n > 200
  · obtain ⟨T, hT⟩ : ∃ T, b.take 200 = T := ⟨_, rfl⟩
    have hbT : SlI w .u8 p T := by rw [← hT]; exact hb.take 200
    have hT8 : ∀ x ∈ T, x < 256 := by rw [← hT]; exact fun x hx => h8 x (List.mem_of_mem_take hx)
    have hTn : T.length = 200 := by rw [← hT, List.length_take]; omega
    have hNd : 200 ≤ d := by omega
    have hg : (n : Int) > 200 := by omega
    have hcap : (200 : Int) ≤ (d : Int) := by omega
    clear hb h8 hn hd hbig
    obtain ⟨P, hP⟩ : ∃ P, wrap9 (bst T) T = P := ⟨_, rfl⟩
    obtain ⟨M, hM⟩ : ∃ M, P.length = M := ⟨_, rfl⟩
    have hbl := bst_length T hT8
    have hML : M = (bst T).length + 6 := by rw [← hM, ← hP, wrap9_length]
    have hP8 : ∀ x ∈ P, x < 256 := by rw [← hP]; exact wrap9_256 (bst_256 T hT8)
    have HPK : Hid (∀ W, Fr S0 w W → Calls Tryz.prog 8 #[.slice p 200 d] W (Says P M W)) := Lib.hid fun W f =>
      (pack_any p 200 d T W hTn (hbT.fr0 f) hT8 hp hNd (by omega)).mono fun _ _ h => says hM (by rw [hP] at h; exact h)
    have HCV : Hid (∀ W, Fr S0 w W → (convert 22 9 (.slice p 200 d)).run Tryz.prog W = .ok (.string (strB T)) W) := Lib.hid fun W f => by
      have k := conv_sl (hbT.fr0 f) 200 d (by omega)
      rw [List.take_of_length_le (by omega)] at k
      exact k
    obtain ⟨R, hR⟩ : ∃ R, bst T ++ sum4 T = R := ⟨_, rfl⟩
    have hRl : R.length = M - 2 := by rw [← hR, List.length_append, sum4_length]; omega
    have hR8 : ∀ v ∈ [x, y] ++ R, v < 256 := by
      intro v hv
      simp only [List.cons_append, List.nil_append, List.mem_cons] at hv
      rcases hv with hv | hv | hv
      · omega
      · omega
      · rw [← hR] at hv
        rcases List.mem_append.1 hv with hv | hv
        · exact bst_256 T hT8 v hv
        · exact sum4_256 T v hv
    have hRM : ([x, y] ++ R).length = M := by simp only [List.length_append, List.length_cons, List.length_nil]; omega
    have HPR : Hid ((P.drop 2).length = M - 2 ∧ P.drop 2 = R ∧ (∀ v ∈ [x, y] ++ R, v < 256) ∧ ([x, y] ++ R).length = M) := Lib.hid ⟨by rw [List.length_drop, hM], by rw [← hP, ← hR]; rfl, hR8, hRM⟩
    have HHD : Hid (hdB ([x, y] ++ R) = headB x y) := Lib.hid (by simp [hdB])
    have HRM : Hid (Room M) := Lib.hid (Room.mk (by omega))
    have hM6 : 6 ≤ M := by omega
    cases hh : headB x y with
    | false =>
      rw [hh] at HHD
      have HOP : Hid (∀ W q c, W.ownsRow 0 5 1 (.slice q M c) M (u8s ([x, y] ++ R)) → Calls Tryz.prog 10 #[.slice q M c, .int .i64 300] W fun e w' => e = .returned (.tuple #[.slice none 0 0, .int .i64 90]) ∧ Fr S0 W w') := Lib.hid fun W q c own =>
        (open_own (x := .no 90) (lim := 300) hRM own hR8 (by omega) (by omega) (zopen_no x y 300 R hh)).mono fun _ _ h => ⟨h.2, h.1⟩
      clear hP hM hbl hML hP8 hbT hTn hT8 hT hp hNd hh hR hRl hR8 hRM HCV
      go_enter Tryz.func6, Tryz.ntmps6
      go_wp2_with fail
      refine HAL.out.mono ?_
      rintro _ w1 ⟨rfl, f1⟩
      have F1 := Lib.hid f1
      have G1 : Hid (RowG w (w1.alloc (.cells #[.int .u8 (x : Int), .int .u8 (y : Int)] 5)) (.slice (some ⟨w1.heap.size, 0, none⟩) 2 2) 2 [x, y]) := Lib.hid ⟨own_row2 w1 _ _ _, f1.trans0 (Fr.alloc _ _ _), fresh_made f1⟩
      have KP := Lib.hid (HPK.out _ G1.out.fr)
      clear f1 HAL HPK F1
      go_wp2_with fail
      refine KP.out.mono ?_
      rintro _ w2 ⟨q2, c2, rfl, f2, o2⟩
      have G2 := Lib.hid (G1.out.fr0 f2)
      obtain ⟨gb, hgb⟩ : ∃ gb, q2 = some ⟨gb, 0, none⟩ := own_some o2 (by omega)
      subst hgb
      obtain ⟨qx, cx, ex, -, hMc, hcm⟩ := slForm o2
      simp only [Value.slice.injEq, true_and] at ex
      obtain ⟨rfl, rfl⟩ := ex
      have j1 : (2 : Int) ≤ (M : Int) := by omega
      have j2 : (M : Int) ≤ (c2 : Int) := by omega
      have j3 : ¬ c2 = 2 := by omega
      have SR : Hid (SrcIs w2 (.slice (some ⟨gb, 2, none⟩) (M - 2) (c2 - 2)) (M - 2) (u8s R)) := Lib.hid (by
        have k := SrcIs.ofSl (c := c2 - 2) ((SlI.ofOwns o2).drop 2) (fun h => by cases h)
        rw [Nat.zero_add, HPR.out.1, HPR.out.2.1] at k
        exact k)
      have HNN : Hid (2 + (M - 2) = M) := Lib.hid (by omega)
      clear f2 o2 KP G1 hMc hcm
      go_wp2_with (first
        | ((with_reducible show wpList _ _ _ (Oper.mk (some 25) _ _ _ _ _ :: _) _ _); refine app_many el8 (.tmp 21) (.tmp 24) G2.out.own SR.out HNN.out rfl rfl rfl rfl (one8s _) HRM.out ?_; intro p3 c3 w3 own3 g3 at3; have G3 := Lib.hid (G2.out.app own3 g3 at3); clear own3 g3 at3)
        | fail)
      have KO := Lib.hid (HOP.out w3 p3 c3 G3.out.own)
      obtain ⟨qy, cy, ey, -, hMc, hcm⟩ := slForm G3.out.own
      simp only [Value.slice.injEq, true_and] at ey
      obtain ⟨rfl, rfl⟩ := ey
      have HZ : Hid (∀ W', Fr S0 w3 W' → Calls Tryz.prog 12 #[.slice p3 M c3] W' fun e w' => e = .returned (.bool false) ∧ Fr S0 W' w') := Lib.hid fun W' f => by
        have k := zhead_any p3 M c3 ([x, y] ++ R) W' HPR.out.2.2.2 (SlI.ofOwns (f.owns G3.out.own (fun _ _ h => h))) HPR.out.2.2.1
        rw [HHD.out] at k
        exact k
      have HZR : Hid (∀ W', Fr S0 w3 W' → Calls Tryz.prog 13 #[.slice p3 M c3] W' fun e w' => e = .returned (.bool false) ∧ Fr S0 W' w') := Lib.hid fun W' f => by
        have k := rhead_any p3 M c3 ([x, y] ++ R) W' HPR.out.2.2.2 (SlI.ofOwns (f.owns G3.out.own (fun _ _ h => h))) HPR.out.2.2.1
        rw [HHD.out] at k
        exact k
      clear G2 SR HNN HRM HOP HPR HHD j1 j2 j3 hMc hcm
      refine KO.out.mono ?_
      rintro _ w4 ⟨rfl, f4⟩
      have F4 := Lib.hid f4
      have KZ := Lib.hid (HZR.out w4 f4)
      clear f4 KO HZR
      go_wp2_with fail
      refine KZ.out.mono ?_
      rintro _ w5 ⟨rfl, f5⟩
      have F5 := Lib.hid (F4.out.trans0 f5)
      have KY := Lib.hid (HZ.out w5 F5.out)
      clear f5 KZ HZ F4
      go_wp2_with fail
      refine KY.out.mono ?_
      rintro _ w6 ⟨rfl, f6⟩
      have F6 := Lib.hid (G3.out.fr.trans0 (F5.out.trans0 f6))
      clear f6 KY F5 G3
      go_wp2_with fail
      go_ret
      exact ⟨rfl, F6.out⟩
    | true =>
      rw [hh] at HHD
      have HOP : Hid (∀ W q c, W.ownsRow 0 5 1 (.slice q M c) M (u8s ([x, y] ++ R)) → Calls Tryz.prog 10 #[.slice q M c, .int .i64 300] W fun e w' => ∃ q' c', e = .returned (.tuple #[.slice q' 200 c', .int .i64 0]) ∧ Fr S0 W w' ∧ ∀ W', Fr S0 w' W' → (convert 22 9 (.slice q' 200 c')).run Tryz.prog W' = .ok (.string (strB T)) W') := Lib.hid fun W q c own => by
        refine (open_own (x := .ok T 0) (lim := 300) hRM own hR8 (by omega) (by omega) (by rw [← hR]; exact zopen_yes (reads_bst T hT8) x y 300 hh (by omega))).mono ?_
        rintro e w' ⟨f, v, rfl, hv⟩
        obtain ⟨q', c', rfl, -, -, -⟩ := slForm hv.own
        refine ⟨q', c', by rw [hTn], f, fun W' g => ?_⟩
        have k := conv_own (g.owns hv.own (fun _ _ h => h))
        rw [hTn] at k
        exact k
      clear hP hM hbl hML hP8 hbT hTn hT8 hT hp hNd hh hR hRl hR8 hRM
      go_enter Tryz.func6, Tryz.ntmps6
      go_wp2_with fail
      refine HAL.out.mono ?_
      rintro _ w1 ⟨rfl, f1⟩
      have F1 := Lib.hid f1
      have G1 : Hid (RowG w (w1.alloc (.cells #[.int .u8 (x : Int), .int .u8 (y : Int)] 5)) (.slice (some ⟨w1.heap.size, 0, none⟩) 2 2) 2 [x, y]) := Lib.hid ⟨own_row2 w1 _ _ _, f1.trans0 (Fr.alloc _ _ _), fresh_made f1⟩
      have KP := Lib.hid (HPK.out _ G1.out.fr)
      clear f1 HAL HPK F1
      go_wp2_with fail
      refine KP.out.mono ?_
      rintro _ w2 ⟨q2, c2, rfl, f2, o2⟩
      have G2 := Lib.hid (G1.out.fr0 f2)
      obtain ⟨gb, hgb⟩ : ∃ gb, q2 = some ⟨gb, 0, none⟩ := own_some o2 (by omega)
      subst hgb
      obtain ⟨qx, cx, ex, -, hMc, hcm⟩ := slForm o2
      simp only [Value.slice.injEq, true_and] at ex
      obtain ⟨rfl, rfl⟩ := ex
      have j1 : (2 : Int) ≤ (M : Int) := by omega
      have j2 : (M : Int) ≤ (c2 : Int) := by omega
      have j3 : ¬ c2 = 2 := by omega
      have SR : Hid (SrcIs w2 (.slice (some ⟨gb, 2, none⟩) (M - 2) (c2 - 2)) (M - 2) (u8s R)) := Lib.hid (by
        have k := SrcIs.ofSl (c := c2 - 2) ((SlI.ofOwns o2).drop 2) (fun h => by cases h)
        rw [Nat.zero_add, HPR.out.1, HPR.out.2.1] at k
        exact k)
      have HNN : Hid (2 + (M - 2) = M) := Lib.hid (by omega)
      clear f2 o2 KP G1 hMc hcm
      go_wp2_with (first
        | ((with_reducible show wpList _ _ _ (Oper.mk (some 25) _ _ _ _ _ :: _) _ _); refine app_many el8 (.tmp 21) (.tmp 24) G2.out.own SR.out HNN.out rfl rfl rfl rfl (one8s _) HRM.out ?_; intro p3 c3 w3 own3 g3 at3; have G3 := Lib.hid (G2.out.app own3 g3 at3); clear own3 g3 at3)
        | fail)
      have KO := Lib.hid (HOP.out w3 p3 c3 G3.out.own)
      obtain ⟨qy, cy, ey, -, hMc, hcm⟩ := slForm G3.out.own
      simp only [Value.slice.injEq, true_and] at ey
      obtain ⟨rfl, rfl⟩ := ey
      have HZ : Hid (∀ W', Fr S0 w3 W' → Calls Tryz.prog 12 #[.slice p3 M c3] W' fun e w' => e = .returned (.bool true) ∧ Fr S0 W' w') := Lib.hid fun W' f => by
        have k := zhead_any p3 M c3 ([x, y] ++ R) W' HPR.out.2.2.2 (SlI.ofOwns (f.owns G3.out.own (fun _ _ h => h))) HPR.out.2.2.1
        rw [HHD.out] at k
        exact k
      have HZR : Hid (∀ W', Fr S0 w3 W' → Calls Tryz.prog 13 #[.slice p3 M c3] W' fun e w' => e = .returned (.bool true) ∧ Fr S0 W' w') := Lib.hid fun W' f => by
        have k := rhead_any p3 M c3 ([x, y] ++ R) W' HPR.out.2.2.2 (SlI.ofOwns (f.owns G3.out.own (fun _ _ h => h))) HPR.out.2.2.1
        rw [HHD.out] at k
        exact k
      clear G2 SR HNN HRM HOP HPR HHD j1 j2 j3 hMc hcm
      refine KO.out.mono ?_
      rintro _ w4 ⟨q4, c4, rfl, f4, k4⟩
      have F4 := Lib.hid f4
      have K4 := Lib.hid k4
      have KZ := Lib.hid (HZR.out w4 f4)
      clear f4 k4 KO HZR
      go_wp2_with fail
      refine KZ.out.mono ?_
      rintro _ w5 ⟨rfl, f5⟩
      have F5 := Lib.hid (F4.out.trans0 f5)
      have K5 := Lib.hid (fun W f => K4.out W (f5.trans0 f))
      have KY := Lib.hid (HZ.out w5 F5.out)
      clear f5 KZ HZ F4 K4
      go_wp2_with fail
      refine KY.out.mono ?_
      rintro _ w6 ⟨rfl, f6⟩
      have F6 := Lib.hid (G3.out.fr.trans0 (F5.out.trans0 f6))
      have k5 := K5.out w6 f6
      have k6 := HCV.out w6 F6.out
      clear f6 KY K5 F5 HCV G3
      go_wp2_with fail
      go_ret
      exact ⟨rfl, F6.out⟩
  · obtain ⟨T, hT⟩ : ∃ T, b = T := ⟨_, rfl⟩
    have hbT : SlI w .u8 p T := by rw [← hT]; exact hb
    have hT8 : ∀ x ∈ T, x < 256 := by rw [← hT]; exact h8
    have hTn : T.length = n := by rw [← hT]; exact hn
    have hNd : n ≤ d := hd
    have hg : ¬ (n : Int) > 200 := by omega
    clear hb h8 hn hd
    obtain ⟨P, hP⟩ : ∃ P, wrap9 (bst T) T = P := ⟨_, rfl⟩
    obtain ⟨M, hM⟩ : ∃ M, P.length = M := ⟨_, rfl⟩
    have hbl := bst_length T hT8
    have hML : M = (bst T).length + 6 := by rw [← hM, ← hP, wrap9_length]
    have hP8 : ∀ x ∈ P, x < 256 := by rw [← hP]; exact wrap9_256 (bst_256 T hT8)
    have HPK : Hid (∀ W, Fr S0 w W → Calls Tryz.prog 8 #[.slice p n d] W (Says P M W)) := Lib.hid fun W f =>
      (pack_any p n d T W hTn (hbT.fr0 f) hT8 hp hNd (by omega)).mono fun _ _ h => says hM (by rw [hP] at h; exact h)
    have HCV : Hid (∀ W, Fr S0 w W → (convert 22 9 (.slice p n d)).run Tryz.prog W = .ok (.string (strB T)) W) := Lib.hid fun W f => by
      have k := conv_sl (hbT.fr0 f) n d (by omega)
      rw [List.take_of_length_le (by omega)] at k
      exact k
    obtain ⟨R, hR⟩ : ∃ R, bst T ++ sum4 T = R := ⟨_, rfl⟩
    have hRl : R.length = M - 2 := by rw [← hR, List.length_append, sum4_length]; omega
    have hR8 : ∀ v ∈ [x, y] ++ R, v < 256 := by
      intro v hv
      simp only [List.cons_append, List.nil_append, List.mem_cons] at hv
      rcases hv with hv | hv | hv
      · omega
      · omega
      · rw [← hR] at hv
        rcases List.mem_append.1 hv with hv | hv
        · exact bst_256 T hT8 v hv
        · exact sum4_256 T v hv
    have hRM : ([x, y] ++ R).length = M := by simp only [List.length_append, List.length_cons, List.length_nil]; omega
    have HPR : Hid ((P.drop 2).length = M - 2 ∧ P.drop 2 = R ∧ (∀ v ∈ [x, y] ++ R, v < 256) ∧ ([x, y] ++ R).length = M) := Lib.hid ⟨by rw [List.length_drop, hM], by rw [← hP, ← hR]; rfl, hR8, hRM⟩
    have HHD : Hid (hdB ([x, y] ++ R) = headB x y) := Lib.hid (by simp [hdB])
    have HRM : Hid (Room M) := Lib.hid (Room.mk (by omega))
    have hM6 : 6 ≤ M := by omega
    cases hh : headB x y with
    | false =>
      rw [hh] at HHD
      have HOP : Hid (∀ W q c, W.ownsRow 0 5 1 (.slice q M c) M (u8s ([x, y] ++ R)) → Calls Tryz.prog 10 #[.slice q M c, .int .i64 300] W fun e w' => e = .returned (.tuple #[.slice none 0 0, .int .i64 90]) ∧ Fr S0 W w') := Lib.hid fun W q c own =>
        (open_own (x := .no 90) (lim := 300) hRM own hR8 (by omega) (by omega) (zopen_no x y 300 R hh)).mono fun _ _ h => ⟨h.2, h.1⟩
      clear hP hM hbl hML hP8 hbT hTn hT8 hT hp hNd hh hR hRl hR8 hRM HCV
      go_enter Tryz.func6, Tryz.ntmps6
      go_wp2_with fail
      refine HAL.out.mono ?_
      rintro _ w1 ⟨rfl, f1⟩
      have F1 := Lib.hid f1
      have G1 : Hid (RowG w (w1.alloc (.cells #[.int .u8 (x : Int), .int .u8 (y : Int)] 5)) (.slice (some ⟨w1.heap.size, 0, none⟩) 2 2) 2 [x, y]) := Lib.hid ⟨own_row2 w1 _ _ _, f1.trans0 (Fr.alloc _ _ _), fresh_made f1⟩
      have KP := Lib.hid (HPK.out _ G1.out.fr)
      clear f1 HAL HPK F1
      go_wp2_with fail
      refine KP.out.mono ?_
      rintro _ w2 ⟨q2, c2, rfl, f2, o2⟩
      have G2 := Lib.hid (G1.out.fr0 f2)
      obtain ⟨gb, hgb⟩ : ∃ gb, q2 = some ⟨gb, 0, none⟩ := own_some o2 (by omega)
      subst hgb
      obtain ⟨qx, cx, ex, -, hMc, hcm⟩ := slForm o2
      simp only [Value.slice.injEq, true_and] at ex
      obtain ⟨rfl, rfl⟩ := ex
      have j1 : (2 : Int) ≤ (M : Int) := by omega
      have j2 : (M : Int) ≤ (c2 : Int) := by omega
      have j3 : ¬ c2 = 2 := by omega
      have SR : Hid (SrcIs w2 (.slice (some ⟨gb, 2, none⟩) (M - 2) (c2 - 2)) (M - 2) (u8s R)) := Lib.hid (by
        have k := SrcIs.ofSl (c := c2 - 2) ((SlI.ofOwns o2).drop 2) (fun h => by cases h)
        rw [Nat.zero_add, HPR.out.1, HPR.out.2.1] at k
        exact k)
      have HNN : Hid (2 + (M - 2) = M) := Lib.hid (by omega)
      clear f2 o2 KP G1 hMc hcm
      go_wp2_with (first
        | ((with_reducible show wpList _ _ _ (Oper.mk (some 25) _ _ _ _ _ :: _) _ _); refine app_many el8 (.tmp 21) (.tmp 24) G2.out.own SR.out HNN.out rfl rfl rfl rfl (one8s _) HRM.out ?_; intro p3 c3 w3 own3 g3 at3; have G3 := Lib.hid (G2.out.app own3 g3 at3); clear own3 g3 at3)
        | fail)
      have KO := Lib.hid (HOP.out w3 p3 c3 G3.out.own)
      obtain ⟨qy, cy, ey, -, hMc, hcm⟩ := slForm G3.out.own
      simp only [Value.slice.injEq, true_and] at ey
      obtain ⟨rfl, rfl⟩ := ey
      have HZ : Hid (∀ W', Fr S0 w3 W' → Calls Tryz.prog 12 #[.slice p3 M c3] W' fun e w' => e = .returned (.bool false) ∧ Fr S0 W' w') := Lib.hid fun W' f => by
        have k := zhead_any p3 M c3 ([x, y] ++ R) W' HPR.out.2.2.2 (SlI.ofOwns (f.owns G3.out.own (fun _ _ h => h))) HPR.out.2.2.1
        rw [HHD.out] at k
        exact k
      have HZR : Hid (∀ W', Fr S0 w3 W' → Calls Tryz.prog 13 #[.slice p3 M c3] W' fun e w' => e = .returned (.bool false) ∧ Fr S0 W' w') := Lib.hid fun W' f => by
        have k := rhead_any p3 M c3 ([x, y] ++ R) W' HPR.out.2.2.2 (SlI.ofOwns (f.owns G3.out.own (fun _ _ h => h))) HPR.out.2.2.1
        rw [HHD.out] at k
        exact k
      clear G2 SR HNN HRM HOP HPR HHD j1 j2 j3 hMc hcm
      refine KO.out.mono ?_
      rintro _ w4 ⟨rfl, f4⟩
      have F4 := Lib.hid f4
      have KZ := Lib.hid (HZR.out w4 f4)
      clear f4 KO HZR
      go_wp2_with fail
      refine KZ.out.mono ?_
      rintro _ w5 ⟨rfl, f5⟩
      have F5 := Lib.hid (F4.out.trans0 f5)
      have KY := Lib.hid (HZ.out w5 F5.out)
      clear f5 KZ HZ F4
      go_wp2_with fail
      refine KY.out.mono ?_
      rintro _ w6 ⟨rfl, f6⟩
      have F6 := Lib.hid (G3.out.fr.trans0 (F5.out.trans0 f6))
      clear f6 KY F5 G3
      go_wp2_with fail
      go_ret
      exact ⟨rfl, F6.out⟩
    | true =>
      rw [hh] at HHD
      have HOP : Hid (∀ W q c, W.ownsRow 0 5 1 (.slice q M c) M (u8s ([x, y] ++ R)) → Calls Tryz.prog 10 #[.slice q M c, .int .i64 300] W fun e w' => ∃ q' c', e = .returned (.tuple #[.slice q' n c', .int .i64 0]) ∧ Fr S0 W w' ∧ ∀ W', Fr S0 w' W' → (convert 22 9 (.slice q' n c')).run Tryz.prog W' = .ok (.string (strB T)) W') := Lib.hid fun W q c own => by
        refine (open_own (x := .ok T 0) (lim := 300) hRM own hR8 (by omega) (by omega) (by rw [← hR]; exact zopen_yes (reads_bst T hT8) x y 300 hh (by omega))).mono ?_
        rintro e w' ⟨f, v, rfl, hv⟩
        obtain ⟨q', c', rfl, -, -, -⟩ := slForm hv.own
        refine ⟨q', c', by rw [hTn], f, fun W' g => ?_⟩
        have k := conv_own (g.owns hv.own (fun _ _ h => h))
        rw [hTn] at k
        exact k
      clear hP hM hbl hML hP8 hbT hTn hT8 hT hp hNd hh hR hRl hR8 hRM
      go_enter Tryz.func6, Tryz.ntmps6
      go_wp2_with fail
      refine HAL.out.mono ?_
      rintro _ w1 ⟨rfl, f1⟩
      have F1 := Lib.hid f1
      have G1 : Hid (RowG w (w1.alloc (.cells #[.int .u8 (x : Int), .int .u8 (y : Int)] 5)) (.slice (some ⟨w1.heap.size, 0, none⟩) 2 2) 2 [x, y]) := Lib.hid ⟨own_row2 w1 _ _ _, f1.trans0 (Fr.alloc _ _ _), fresh_made f1⟩
      have KP := Lib.hid (HPK.out _ G1.out.fr)
      clear f1 HAL HPK F1
      go_wp2_with fail
      refine KP.out.mono ?_
      rintro _ w2 ⟨q2, c2, rfl, f2, o2⟩
      have G2 := Lib.hid (G1.out.fr0 f2)
      obtain ⟨gb, hgb⟩ : ∃ gb, q2 = some ⟨gb, 0, none⟩ := own_some o2 (by omega)
      subst hgb
      obtain ⟨qx, cx, ex, -, hMc, hcm⟩ := slForm o2
      simp only [Value.slice.injEq, true_and] at ex
      obtain ⟨rfl, rfl⟩ := ex
      have j1 : (2 : Int) ≤ (M : Int) := by omega
      have j2 : (M : Int) ≤ (c2 : Int) := by omega
      have j3 : ¬ c2 = 2 := by omega
      have SR : Hid (SrcIs w2 (.slice (some ⟨gb, 2, none⟩) (M - 2) (c2 - 2)) (M - 2) (u8s R)) := Lib.hid (by
        have k := SrcIs.ofSl (c := c2 - 2) ((SlI.ofOwns o2).drop 2) (fun h => by cases h)
        rw [Nat.zero_add, HPR.out.1, HPR.out.2.1] at k
        exact k)
      have HNN : Hid (2 + (M - 2) = M) := Lib.hid (by omega)
      clear f2 o2 KP G1 hMc hcm
      go_wp2_with (first
        | ((with_reducible show wpList _ _ _ (Oper.mk (some 25) _ _ _ _ _ :: _) _ _); refine app_many el8 (.tmp 21) (.tmp 24) G2.out.own SR.out HNN.out rfl rfl rfl rfl (one8s _) HRM.out ?_; intro p3 c3 w3 own3 g3 at3; have G3 := Lib.hid (G2.out.app own3 g3 at3); clear own3 g3 at3)
        | fail)
      have KO := Lib.hid (HOP.out w3 p3 c3 G3.out.own)
      obtain ⟨qy, cy, ey, -, hMc, hcm⟩ := slForm G3.out.own
      simp only [Value.slice.injEq, true_and] at ey
      obtain ⟨rfl, rfl⟩ := ey
      have HZ : Hid (∀ W', Fr S0 w3 W' → Calls Tryz.prog 12 #[.slice p3 M c3] W' fun e w' => e = .returned (.bool true) ∧ Fr S0 W' w') := Lib.hid fun W' f => by
        have k := zhead_any p3 M c3 ([x, y] ++ R) W' HPR.out.2.2.2 (SlI.ofOwns (f.owns G3.out.own (fun _ _ h => h))) HPR.out.2.2.1
        rw [HHD.out] at k
        exact k
      have HZR : Hid (∀ W', Fr S0 w3 W' → Calls Tryz.prog 13 #[.slice p3 M c3] W' fun e w' => e = .returned (.bool true) ∧ Fr S0 W' w') := Lib.hid fun W' f => by
        have k := rhead_any p3 M c3 ([x, y] ++ R) W' HPR.out.2.2.2 (SlI.ofOwns (f.owns G3.out.own (fun _ _ h => h))) HPR.out.2.2.1
        rw [HHD.out] at k
        exact k
      clear G2 SR HNN HRM HOP HPR HHD j1 j2 j3 hMc hcm
      refine KO.out.mono ?_
      rintro _ w4 ⟨q4, c4, rfl, f4, k4⟩
      have F4 := Lib.hid f4
      have K4 := Lib.hid k4
      have KZ := Lib.hid (HZR.out w4 f4)
      clear f4 k4 KO HZR
      go_wp2_with fail
      refine KZ.out.mono ?_
      rintro _ w5 ⟨rfl, f5⟩
      have F5 := Lib.hid (F4.out.trans0 f5)
      have K5 := Lib.hid (fun W f => K4.out W (f5.trans0 f))
      have KY := Lib.hid (HZ.out w5 F5.out)
      clear f5 KZ HZ F4 K4
      go_wp2_with fail
      refine KY.out.mono ?_
      rintro _ w6 ⟨rfl, f6⟩
      have F6 := Lib.hid (G3.out.fr.trans0 (F5.out.trans0 f6))
      have k5 := K5.out w6 f6
      have k6 := HCV.out w6 F6.out
      clear f6 KY K5 F5 HCV G3
      go_wp2_with fail
      go_ret
      exact ⟨rfl, F6.out⟩
end Go.Proofs.YtnckoghgplnhfaaGreat
