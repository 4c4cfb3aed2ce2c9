/- InflateBehind (made by tools/genbehind.py). -/
import Derived.Test.YtmcmchldjfnneaaInfLawLimit
namespace Go.Proofs.Ytmcmchldjfnneaa
open Go.RowKit

set_option maxRecDepth 100000 in
set_option maxHeartbeats 1000000 in
theorem beh_far (p q : Option Addr) (n m d e : Nat) (cut : Int) (w : World) (hn : ¬ (n ≤ 2000 ∧ m ≤ 2000)) :
    Calls Try.prog 5 #[.slice p n d, .slice q m e, .int .i64 cut] w fun e w' => e = .returned (.bool true) ∧ Fr S0 w w' := by
  by_cases h1 : n ≤ 2000
  · have h2 : ¬ m ≤ 2000 := fun h => hn ⟨h1, h⟩
    clear hn
    go_enter Try.func5, Try.ntmps5
    go_wp2_with fail
    refine start w _ fun w1 f1 => ?_
    go_wp2_with fail
    go_ret
    exact ⟨rfl, f1⟩
  · clear hn
    go_enter Try.func5, Try.ntmps5
    go_wp2_with fail
    refine start w _ fun w1 f1 => ?_
    go_wp2_with fail
    go_ret
    exact ⟨rfl, f1⟩
set_option maxRecDepth 100000 in
set_option maxHeartbeats 1000000 in
theorem beh_no (p q : Option Addr) (d e j m : Nat) (b : List Nat) (cut : Int) (w : World) (hb : SlI w .u8 p b) (h8 : ∀ x ∈ b, x < 256) (hp : p = none → d = 0) (hL : b.length ≤ 2000) (hm : j ≤ 2000) (hx : infl b 65536 = .no m) :
    Calls Try.prog 5 #[.slice p b.length d, .slice q j e, .int .i64 cut] w fun e w' => e = .returned (.bool true) ∧ Fr S0 w w' := by
  have R := Lib.hid (read_not (L := 65536) hb h8 hp (by omega) (by omega) hx rfl rfl)
  have hm := infl_nz b 65536 m hx
  clear hx hb h8
  have hm2 : ¬ (m : Int) = 0 := by omega
  go_enter Try.func5, Try.ntmps5
  go_wp2_with fail
  refine start w _ fun w1 f1 => ?_
  go_wp2_with fail
  refine (R.out w1 f1).mono ?_
  rintro e w2 ⟨rfl, f2⟩
  have HF := Lib.hid (f1.trans0 f2)
  clear f1 f2 R
  go_wp2_with fail
  go_ret
  exact ⟨rfl, HF.out⟩
set_option maxRecDepth 100000 in
set_option maxHeartbeats 2000000 in
theorem beh_neg (bk off d : Nat) (q : Option Addr) (e : Nat) (b m T : List Nat) (k U : Nat) (cut : Int) (hc : cut < 0) (w : World) (hb : SlI w .u8 (some ⟨bk, off, none⟩) b) (h8 : ∀ x ∈ b, x < 256) (hL : b.length ≤ 2000) (hd : b.length ≤ d)
    (hm : SlI w .u8 q m) (hm8 : ∀ x ∈ m, x < 256) (hmL : m.length ≤ 2000) (hq : q = none → e = 0) (hx : infl b 65536 = .ok T k) (hU : upN k / 8 = U) :
    Calls Try.prog 5 #[.slice (some ⟨bk, off, none⟩) b.length d, .slice q m.length e, .int .i64 cut] w fun e w' => e = .returned (.bool true) ∧ Fr S0 w w' := by
  obtain ⟨q4, q5, q6⟩ := infl_behind hx
  have hU2 : U ≤ b.length := by unfold upN at hU; omega
  obtain ⟨B, hB⟩ : ∃ B, b.take U = B := ⟨_, rfl⟩
  have hBL : B.length = U := by rw [← hB, List.length_take]; omega
  have sB : SlI w .u8 (some ⟨bk, off, none⟩) B := hB ▸ hb.take U
  have hB8 : ∀ x ∈ B ++ m, x < 256 := by
    intro x hx
    rcases List.mem_append.1 hx with h | h
    · exact h8 x (by rw [← hB] at h; exact List.mem_of_mem_take h)
    · exact hm8 x h
  have hx2 : infl (B ++ m) 65536 = .ok T k := by rw [← hB, ← hU]; exact q5 m
  have R1 := Lib.hid (read_at (d := d) (L := 65536) (U := U) hb h8 (fun h => by cases h) (by omega) (by omega) hx rfl (by rw [hU]))
  have HB8 := Lib.hid hB8
  have HX2 := Lib.hid hx2
  have HSB := Lib.hid sB
  have HM := Lib.hid hm
  have HQ := Lib.hid hq
  have E1 : Hid (Room (0 + U)) := Lib.hid (Room.mk (by omega))
  have E2 : Hid (Room (U + m.length)) := Lib.hid (Room.mk (by omega))
  have HBL := Lib.hid hBL
  have HU := Lib.hid hU
  have hUd : U ≤ d := by omega
  clear hb h8 hm hm8 hq hx hU q4 q5 q6 hB hBL sB hB8 hx2
  go_enter Try.func5, Try.ntmps5
  go_wp2_with fail
  refine start w _ fun w1 f1 => ?_
  go_wp2_with fail
  refine (R1.out w1 f1).mono ?_
  rintro e w2 ⟨p2, c2, rfl, f2, o2⟩
  have g2 := f1.trans0 f2
  clear f1 f2 R1
  have s1 : SrcIs (w2.alloc (.cells #[] 5)) (.slice (some ⟨bk, off, none⟩) U d) U (u8s B) := by
    have := SrcIs.ofSl (c := d) ((HSB.out.fr0 g2).fr0 (Fr.alloc S0 w2 (.cells #[] 5))) (fun h => by cases h)
    rw [HBL.out] at this
    exact this
  go_wp2_with (first
    | ((with_reducible show wpList _ _ _ (Oper.mk (some 46) _ _ _ _ _ :: _) _ _); refine app_many el8 (.tmp 42) (.tmp 45) (own_none w2 _) s1 (Nat.zero_add _) rfl rfl rfl rfl (one8s _) (by rw [Nat.zero_add] at E1; exact E1.out) ?_; intro p4 c4 w4 own4 g4 at4; have h4 := fr_made (Fr.refl S0 w2) g4; have v4 := fresh_many (fresh_made (n := 0) (c := 0) (Fr.refl S0 w2)) (size_le (Fr.refl S0 w2)) at4; clear g4 at4)
    | ((with_reducible show wpList _ _ _ (Oper.mk (some 48) _ _ _ _ _ :: _) _ _); refine app_many el8 (.tmp 46) (.tmp 47) own4 (SrcIs.ofSl ((HM.out.fr0 g2).fr0 h4) HQ.out) rfl rfl rfl rfl rfl (ones _) E2.out ?_; intro p5 c5 w5 own5 g5 at5; have h5 := h4.append g5 v4; clear g5 at5))
  have g5 := g2.trans0 h5
  replace o2 := h5.owns o2 (fun _ _ h => h)
  have own6 : w5.ownsRow 0 5 1 (.slice p5 (U + m.length) c5) (U + m.length) (u8s (B ++ m)) := by
    rw [← u8s_append]; exact own5
  have R2 : Hid (Calls Try.prog 9 #[.slice p5 (U + m.length) c5, .int .i64 65536] w5 fun e w' => ∃ q c, e = .returned (.tuple #[.slice q T.length c, .int .i64 U, .int .i64 0]) ∧ Fr S0 w5 w' ∧ w'.ownsRow 0 5 1 (.slice q T.length c) T.length (u8s T)) := by
    have hcz : p5 = none → c5 = 0 := by
      obtain ⟨p', c', hv, h1, -, -⟩ := slForm own6
      simp only [Value.slice.injEq] at hv
      obtain ⟨rfl, -, rfl⟩ := hv
      exact h1
    have := read_at (d := c5) (L := 65536) (U := U) (SlI.ofOwns own6) HB8.out hcz (by rw [List.length_append, HBL.out]; omega) (by omega) HX2.out rfl (by rw [HU.out]) w5 (Fr.refl _ _)
    rw [List.length_append, HBL.out] at this
    exact Lib.hid this
  clear own5 own6 h4 v4 h5 s1 own4 HSB HM HB8 HX2 HBL HU HQ g2 E1 E2
  refine R2.out.mono ?_
  rintro e w6 ⟨p6, c6, rfl, f6, o6⟩
  have g6 := g5.trans0 f6
  have k2 := conv_own (f6.owns o2 (fun _ _ h => h))
  have k6 := conv_own o6
  clear f6 g5 o2 o6 R2
  have HF := Lib.hid g6
  clear g6
  go_wp2_with fail
  go_ret
  exact ⟨rfl, HF.out⟩
set_option maxRecDepth 100000 in
set_option maxHeartbeats 2000000 in
theorem beh_all (bk off d : Nat) (q : Option Addr) (e : Nat) (b m T : List Nat) (k U : Nat) (cut : Int) (hc : ¬ cut < 0) (hc2 : ¬ cut < (U : Int)) (w : World) (hb : SlI w .u8 (some ⟨bk, off, none⟩) b) (h8 : ∀ x ∈ b, x < 256) (hL : b.length ≤ 2000) (hd : b.length ≤ d)
    (hm : SlI w .u8 q m) (hm8 : ∀ x ∈ m, x < 256) (hmL : m.length ≤ 2000) (hq : q = none → e = 0) (hx : infl b 65536 = .ok T k) (hU : upN k / 8 = U) :
    Calls Try.prog 5 #[.slice (some ⟨bk, off, none⟩) b.length d, .slice q m.length e, .int .i64 cut] w fun e w' => e = .returned (.bool true) ∧ Fr S0 w w' := by
  obtain ⟨q4, q5, q6⟩ := infl_behind hx
  have hU2 : U ≤ b.length := by unfold upN at hU; omega
  obtain ⟨B, hB⟩ : ∃ B, b.take U = B := ⟨_, rfl⟩
  have hBL : B.length = U := by rw [← hB, List.length_take]; omega
  have sB : SlI w .u8 (some ⟨bk, off, none⟩) B := hB ▸ hb.take U
  have hB8 : ∀ x ∈ B ++ m, x < 256 := by
    intro x hx
    rcases List.mem_append.1 hx with h | h
    · exact h8 x (by rw [← hB] at h; exact List.mem_of_mem_take h)
    · exact hm8 x h
  have hx2 : infl (B ++ m) 65536 = .ok T k := by rw [← hB, ← hU]; exact q5 m
  have R1 := Lib.hid (read_at (d := d) (L := 65536) (U := U) hb h8 (fun h => by cases h) (by omega) (by omega) hx rfl (by rw [hU]))
  have HB8 := Lib.hid hB8
  have HX2 := Lib.hid hx2
  have HSB := Lib.hid sB
  have HM := Lib.hid hm
  have HQ := Lib.hid hq
  have E1 : Hid (Room (0 + U)) := Lib.hid (Room.mk (by omega))
  have E2 : Hid (Room (U + m.length)) := Lib.hid (Room.mk (by omega))
  have HBL := Lib.hid hBL
  have HU := Lib.hid hU
  have hUd : U ≤ d := by omega
  clear hb h8 hm hm8 hq hx hU q4 q5 q6 hB hBL sB hB8 hx2
  go_enter Try.func5, Try.ntmps5
  go_wp2_with fail
  refine start w _ fun w1 f1 => ?_
  go_wp2_with fail
  refine (R1.out w1 f1).mono ?_
  rintro e w2 ⟨p2, c2, rfl, f2, o2⟩
  have g2 := f1.trans0 f2
  clear f1 f2 R1
  have s1 : SrcIs (w2.alloc (.cells #[] 5)) (.slice (some ⟨bk, off, none⟩) U d) U (u8s B) := by
    have := SrcIs.ofSl (c := d) ((HSB.out.fr0 g2).fr0 (Fr.alloc S0 w2 (.cells #[] 5))) (fun h => by cases h)
    rw [HBL.out] at this
    exact this
  go_wp2_with (first
    | ((with_reducible show wpList _ _ _ (Oper.mk (some 46) _ _ _ _ _ :: _) _ _); refine app_many el8 (.tmp 42) (.tmp 45) (own_none w2 _) s1 (Nat.zero_add _) rfl rfl rfl rfl (one8s _) (by rw [Nat.zero_add] at E1; exact E1.out) ?_; intro p4 c4 w4 own4 g4 at4; have h4 := fr_made (Fr.refl S0 w2) g4; have v4 := fresh_many (fresh_made (n := 0) (c := 0) (Fr.refl S0 w2)) (size_le (Fr.refl S0 w2)) at4; clear g4 at4)
    | ((with_reducible show wpList _ _ _ (Oper.mk (some 48) _ _ _ _ _ :: _) _ _); refine app_many el8 (.tmp 46) (.tmp 47) own4 (SrcIs.ofSl ((HM.out.fr0 g2).fr0 h4) HQ.out) rfl rfl rfl rfl rfl (ones _) E2.out ?_; intro p5 c5 w5 own5 g5 at5; have h5 := h4.append g5 v4; clear g5 at5))
  have g5 := g2.trans0 h5
  replace o2 := h5.owns o2 (fun _ _ h => h)
  have own6 : w5.ownsRow 0 5 1 (.slice p5 (U + m.length) c5) (U + m.length) (u8s (B ++ m)) := by
    rw [← u8s_append]; exact own5
  have R2 : Hid (Calls Try.prog 9 #[.slice p5 (U + m.length) c5, .int .i64 65536] w5 fun e w' => ∃ q c, e = .returned (.tuple #[.slice q T.length c, .int .i64 U, .int .i64 0]) ∧ Fr S0 w5 w' ∧ w'.ownsRow 0 5 1 (.slice q T.length c) T.length (u8s T)) := by
    have hcz : p5 = none → c5 = 0 := by
      obtain ⟨p', c', hv, h1, -, -⟩ := slForm own6
      simp only [Value.slice.injEq] at hv
      obtain ⟨rfl, -, rfl⟩ := hv
      exact h1
    have := read_at (d := c5) (L := 65536) (U := U) (SlI.ofOwns own6) HB8.out hcz (by rw [List.length_append, HBL.out]; omega) (by omega) HX2.out rfl (by rw [HU.out]) w5 (Fr.refl _ _)
    rw [List.length_append, HBL.out] at this
    exact Lib.hid this
  clear own5 own6 h4 v4 h5 s1 own4 HSB HM HB8 HX2 HBL HU HQ g2 E1 E2
  refine R2.out.mono ?_
  rintro e w6 ⟨p6, c6, rfl, f6, o6⟩
  have g6 := g5.trans0 f6
  have k2 := conv_own (f6.owns o2 (fun _ _ h => h))
  have k6 := conv_own o6
  clear f6 g5 o2 o6 R2
  have HF := Lib.hid g6
  clear g6
  go_wp2_with fail
  go_ret
  exact ⟨rfl, HF.out⟩
set_option maxRecDepth 100000 in
set_option maxHeartbeats 2000000 in
theorem beh_cut (bk off d : Nat) (q : Option Addr) (e : Nat) (b m T : List Nat) (k U : Nat) (c : Nat) (hc : c < U) (w : World) (hb : SlI w .u8 (some ⟨bk, off, none⟩) b) (h8 : ∀ x ∈ b, x < 256) (hL : b.length ≤ 2000) (hd : b.length ≤ d)
    (hm : SlI w .u8 q m) (hm8 : ∀ x ∈ m, x < 256) (hmL : m.length ≤ 2000) (hq : q = none → e = 0) (hx : infl b 65536 = .ok T k) (hU : upN k / 8 = U) :
    Calls Try.prog 5 #[.slice (some ⟨bk, off, none⟩) b.length d, .slice q m.length e, .int .i64 (c : Nat)] w fun e w' => e = .returned (.bool true) ∧ Fr S0 w w' := by
  obtain ⟨q4, q5, q6⟩ := infl_behind hx
  have hU2 : U ≤ b.length := by unfold upN at hU; omega
  obtain ⟨B, hB⟩ : ∃ B, b.take U = B := ⟨_, rfl⟩
  have hBL : B.length = U := by rw [← hB, List.length_take]; omega
  have sB : SlI w .u8 (some ⟨bk, off, none⟩) B := hB ▸ hb.take U
  have hB8 : ∀ x ∈ B ++ m, x < 256 := by
    intro x hx
    rcases List.mem_append.1 hx with h | h
    · exact h8 x (by rw [← hB] at h; exact List.mem_of_mem_take h)
    · exact hm8 x h
  have hx2 : infl (B ++ m) 65536 = .ok T k := by rw [← hB, ← hU]; exact q5 m
  have hC : (b.take c).length = c := by rw [List.length_take]; omega
  have R3 : Hid (∀ W, Fr S0 w W → Calls Try.prog 9 #[.slice (some ⟨bk, off, none⟩) c d, .int .i64 65536] W fun e w' => e = .returned (.tuple #[.slice none 0 0, .int .i64 0, .int .i64 20]) ∧ Fr S0 W w') := by
    have := read_not (lim := 65536) (d := d) (L := 65536) (M := 20) (hb.take c) (fun x hx => h8 x (List.mem_of_mem_take hx)) (fun h => by cases h) (by omega) (by omega) (q6 c (by omega)) rfl rfl
    rw [hC] at this
    exact Lib.hid this
  have R1 := Lib.hid (read_at (d := d) (L := 65536) (U := U) hb h8 (fun h => by cases h) (by omega) (by omega) hx rfl (by rw [hU]))
  have HB8 := Lib.hid hB8
  have HX2 := Lib.hid hx2
  have HSB := Lib.hid sB
  have HM := Lib.hid hm
  have HQ := Lib.hid hq
  have E1 : Hid (Room (0 + U)) := Lib.hid (Room.mk (by omega))
  have E2 : Hid (Room (U + m.length)) := Lib.hid (Room.mk (by omega))
  have HBL := Lib.hid hBL
  have HU := Lib.hid hU
  have hcC : (c : Int) < (U : Int) := by omega
  have hc0 : ¬ (c : Int) < 0 := by omega
  have hcd : c ≤ d := by omega
  have hUd : U ≤ d := by omega
  clear hb h8 hm hm8 hq hx hU q4 q5 q6 hB hBL sB hB8 hx2 hC hc
  go_enter Try.func5, Try.ntmps5
  go_wp2_with fail
  refine start w _ fun w1 f1 => ?_
  go_wp2_with fail
  refine (R1.out w1 f1).mono ?_
  rintro e w2 ⟨p2, c2, rfl, f2, o2⟩
  have g2 := f1.trans0 f2
  clear f1 f2 R1
  have s1 : SrcIs (w2.alloc (.cells #[] 5)) (.slice (some ⟨bk, off, none⟩) U d) U (u8s B) := by
    have := SrcIs.ofSl (c := d) ((HSB.out.fr0 g2).fr0 (Fr.alloc S0 w2 (.cells #[] 5))) (fun h => by cases h)
    rw [HBL.out] at this
    exact this
  go_wp2_with (first
    | ((with_reducible show wpList _ _ _ (Oper.mk (some 46) _ _ _ _ _ :: _) _ _); refine app_many el8 (.tmp 42) (.tmp 45) (own_none w2 _) s1 (Nat.zero_add _) rfl rfl rfl rfl (one8s _) (by rw [Nat.zero_add] at E1; exact E1.out) ?_; intro p4 c4 w4 own4 g4 at4; have h4 := fr_made (Fr.refl S0 w2) g4; have v4 := fresh_many (fresh_made (n := 0) (c := 0) (Fr.refl S0 w2)) (size_le (Fr.refl S0 w2)) at4; clear g4 at4)
    | ((with_reducible show wpList _ _ _ (Oper.mk (some 48) _ _ _ _ _ :: _) _ _); refine app_many el8 (.tmp 46) (.tmp 47) own4 (SrcIs.ofSl ((HM.out.fr0 g2).fr0 h4) HQ.out) rfl rfl rfl rfl rfl (ones _) E2.out ?_; intro p5 c5 w5 own5 g5 at5; have h5 := h4.append g5 v4; clear g5 at5))
  have g5 := g2.trans0 h5
  replace o2 := h5.owns o2 (fun _ _ h => h)
  have own6 : w5.ownsRow 0 5 1 (.slice p5 (U + m.length) c5) (U + m.length) (u8s (B ++ m)) := by
    rw [← u8s_append]; exact own5
  have R2 : Hid (Calls Try.prog 9 #[.slice p5 (U + m.length) c5, .int .i64 65536] w5 fun e w' => ∃ q c, e = .returned (.tuple #[.slice q T.length c, .int .i64 U, .int .i64 0]) ∧ Fr S0 w5 w' ∧ w'.ownsRow 0 5 1 (.slice q T.length c) T.length (u8s T)) := by
    have hcz : p5 = none → c5 = 0 := by
      obtain ⟨p', c', hv, h1, -, -⟩ := slForm own6
      simp only [Value.slice.injEq] at hv
      obtain ⟨rfl, -, rfl⟩ := hv
      exact h1
    have := read_at (d := c5) (L := 65536) (U := U) (SlI.ofOwns own6) HB8.out hcz (by rw [List.length_append, HBL.out]; omega) (by omega) HX2.out rfl (by rw [HU.out]) w5 (Fr.refl _ _)
    rw [List.length_append, HBL.out] at this
    exact Lib.hid this
  clear own5 own6 h4 v4 h5 s1 own4 HSB HM HB8 HX2 HBL HU HQ g2 E1 E2
  refine R2.out.mono ?_
  rintro e w6 ⟨p6, c6, rfl, f6, o6⟩
  have g6 := g5.trans0 f6
  have k2 := conv_own (f6.owns o2 (fun _ _ h => h))
  have k6 := conv_own o6
  clear f6 g5 o2 o6 R2
  go_wp2_with fail
  refine (R3.out w6 g6).mono ?_
  rintro e w7 ⟨rfl, f7⟩
  have HF := Lib.hid (g6.trans0 f7)
  clear g6 f7 R3
  go_wp2_with fail
  go_ret
  exact ⟨rfl, HF.out⟩
theorem law_behind (p q : Option Addr) (d e : Nat) (b m : List Nat) (cut : Int) (w : World) (hb : SlI w .u8 p b) (h8 : ∀ x ∈ b, x < 256) (hp : p = none → d = 0) (hd : b.length ≤ d) (hm : SlI w .u8 q m) (hm8 : ∀ x ∈ m, x < 256) (hq : q = none → e = 0) :
    Calls Try.prog 5 #[.slice p b.length d, .slice q m.length e, .int .i64 cut] w fun e w' => e = .returned (.bool true) ∧ Fr S0 w w' := by
  by_cases hL : b.length ≤ 2000 ∧ m.length ≤ 2000
  · cases hx : infl b 65536 with
    | no j => exact beh_no p q d e m.length j b cut w hb h8 hp hL.1 hL.2 hx
    | ok T k =>
      have hne : b ≠ [] := by
        intro h
        subst h
        have h20 : infl [] 65536 = .no 20 := by
          unfold infl
          rw [rBlocks]
          have : rBlock [] 65536 [] 0 = .no 20 := rfl
          rw [this]
        rw [h20] at hx
        cases hx
      obtain ⟨bk, off, rfl, -⟩ := hb.2 hne
      by_cases h1 : cut < 0
      · exact beh_neg bk off d q e b m T k _ cut h1 w hb h8 hL.1 hd hm hm8 hL.2 hq hx rfl
      · by_cases h2 : cut < ((upN k / 8 : Nat) : Int)
        · obtain ⟨c, rfl⟩ : ∃ n : Nat, cut = (n : Int) := ⟨cut.toNat, by omega⟩
          exact beh_cut bk off d q e b m T k _ c (by omega) w hb h8 hL.1 hd hm hm8 hL.2 hq hx rfl
        · exact beh_all bk off d q e b m T k _ cut h1 h2 w hb h8 hL.1 hd hm hm8 hL.2 hq hx rfl
  · exact beh_far p q b.length m.length d e cut w hL
end Go.Proofs.Ytmcmchldjfnneaa
