/- The document's examples and the laws of layer 3, over what its functions promise. -/
import Derived.Test.YthkaikhkoaiipaaAdRef
namespace Go.Proofs.Ythkaikhkoaiipaa
open Go.RowKit

set_option maxRecDepth 100000 in
set_option maxHeartbeats 4000000 in
theorem alive_any (C : AdCode) (w : World) : Calls Try.prog 7 #[] w fun e w' => e = .returned (.bool true) ∧ Fr S0 w w' := by
  have e1 : adSum [] = 1 := by decide
  have e2 : adSum [87, 105, 107, 105, 112, 101, 100, 105, 97] = 300286872 := by decide
  have e3 : adJoin (adSum [87, 105, 107, 105]) (adSum [112, 101, 100, 105, 97]) 5 = 300286872 := by decide
  have E1 := Lib.hid e1
  have E2 := Lib.hid e2
  have E3 := Lib.hid e3
  have A1 : Hid (adSum [87, 105, 107, 105] < 4294967296) := Lib.hid (adMore_lt _ _)
  have A2 : Hid (adSum [112, 101, 100, 105, 97] < 4294967296) := Lib.hid (adMore_lt _ _)
  clear e1 e2 e3
  go_enter Try.func7, Try.ntmps7
  go_wp2_with fail
  refine (C.sum_ none 0 [] _ (SlI.nil _ _ _) (by simp) (by simp)).mono ?_
  rintro e w1 ⟨rfl, f1⟩
  rw [E1.out]
  have kb := constB
  go_wp2_with fail
  refine (C.sum_ _ 9 [87, 105, 107, 105, 112, 101, 100, 105, 97] _ (SlI.new w1 _ _ _ _ _ rfl (by decide)) (by decide) (by decide)).mono ?_
  rintro e w2 ⟨rfl, f2⟩
  rw [E2.out]
  have g2 : Fr S0 w w2 := f1.trans0 ((Fr.alloc _ _ _).trans0 f2)
  clear f1 f2
  go_wp2_with fail
  refine (C.sum_ _ 4 [87, 105, 107, 105] _ (SlI.new w2 _ _ _ _ _ rfl (by decide)) (by decide) (by decide)).mono ?_
  rintro e w3 ⟨rfl, f3⟩
  have g3 : Fr S0 w w3 := g2.trans0 ((Fr.alloc _ _ _).trans0 f3)
  clear f3 g2
  obtain ⟨a, ha⟩ : ∃ a, adSum [87, 105, 107, 105] = a := ⟨_, rfl⟩
  obtain ⟨a2, ha2⟩ : ∃ a, adSum [112, 101, 100, 105, 97] = a := ⟨_, rfl⟩
  rw [ha] at A1
  rw [ha2] at A2
  rw [ha, ha2] at E3
  rw [ha]
  have HA2 := Lib.hid ha2
  clear ha ha2
  go_wp2_with fail
  refine (C.sum_ _ 5 [112, 101, 100, 105, 97] _ (SlI.new w3 _ _ _ _ _ rfl (by decide)) (by decide) (by decide)).mono ?_
  rintro e w4 ⟨rfl, f4⟩
  rw [HA2.out]
  have g4 : Fr S0 w w4 := g3.trans0 ((Fr.alloc _ _ _).trans0 f4)
  clear f4 g3
  go_wp2_with fail
  refine (C.join_ a a2 5 _ A1.out A2.out (by decide) (by decide)).mono ?_
  rintro e w5 ⟨rfl, f5⟩
  rw [show (5 : Int).toNat = 5 from rfl, E3.out]
  have g5 := g4.trans0 f5
  clear f5 g4
  go_wp2
  go_ret
  exact ⟨rfl, g5⟩

theorem start (C : AdCode) (w : World) (R) (h : ∀ w1, Fr S0 w w1 → R (.returned (.bool true)) w1) : Calls Try.prog 7 #[] w R :=
  (alive_any C w).mono fun e w1 he => by rw [he.1]; exact h w1 he.2

set_option maxRecDepth 100000 in
set_option maxHeartbeats 1000000 in
theorem law_sums (C : AdCode) (s : Nat) (p : Option Addr) (d : Nat) (l : List Nat) (w : World) (hs : s < 4294967296) (hl : SlI w .u8 p l) (hb : ∀ x ∈ l, x < 256) (hd : l.length ≤ d) :
    Calls Try.prog 3 #[.int .u32 s, .slice p l.length d] w fun e w' => e = .returned (.bool true) ∧ Fr S0 w w' := by
  have HB := Lib.hid hb
  have HD := Lib.hid hd
  have HC := Lib.hid hs
  have hw := start C w
  clear hb hd
  by_cases k1 : (20000 : Int) < (l.length : Int)
  · clear hs
    go_enter Try.func3, Try.ntmps3
    go_wp2_with (go_at_call 7; refine hw _ ?_; intro w1 hf)
    go_ret
    exact ⟨rfl, hf⟩
  · have L1 : Hid (adSum l < 4294967296) := Lib.hid (adMore_lt _ _)
    have L2 : Hid (adMore s l < 4294967296) := Lib.hid (adMore_lt _ _)
    have R1 : Hid (rightB (adSum l) = true) := Lib.hid (adMore_right _ _)
    have R2 : Hid (rightB (adMore s l) = true) := Lib.hid (adMore_right _ _)
    go_enter Try.func3, Try.ntmps3
    go_wp2_with fail
    refine hw _ ?_
    intro w1 g1
    clear hw
    go_wp2_with fail
    refine (C.sum_ p d l _ (hl.fr0 g1) HB.out HD.out).mono ?_
    rintro e w2 ⟨rfl, f2⟩
    have g2 := g1.trans0 f2
    clear f2 g1
    go_wp2_with fail
    refine (rsum_any p d l _ (hl.fr0 g2) HB.out).mono ?_
    rintro e w' ⟨rfl, rfl⟩
    go_wp2_with fail
    refine (C.more_ s p d l _ HC.out (hl.fr0 g2) HB.out HD.out).mono ?_
    rintro e w3 ⟨rfl, f3⟩
    have g3 := g2.trans0 f3
    clear f3 g2
    go_wp2_with fail
    refine (rmore_any s p d l _ HC.out (hl.fr0 g3) HB.out).mono ?_
    rintro e w' ⟨rfl, rfl⟩
    go_wp2_with fail
    refine (C.sum_ p d l _ (hl.fr0 g3) HB.out HD.out).mono ?_
    rintro e w4 ⟨rfl, f4⟩
    have g4 := g3.trans0 f4
    clear f4 g3
    go_wp2_with fail
    refine (C.right_ _ _ L1.out).mono ?_
    rintro e w5 ⟨rfl, f5⟩
    rw [R1.out]
    have g5 := g4.trans0 f5
    clear f5 g4
    go_wp2_with fail
    refine (C.more_ s p d l _ HC.out (hl.fr0 g5) HB.out HD.out).mono ?_
    rintro e w6 ⟨rfl, f6⟩
    have g6 := g5.trans0 f6
    clear f6 g5
    go_wp2_with fail
    refine (C.right_ _ _ L2.out).mono ?_
    rintro e w7 ⟨rfl, f7⟩
    rw [R2.out]
    have g7 := g6.trans0 f7
    clear f7 g6
    go_wp2_with fail
    refine (C.right_ s _ HC.out).mono ?_
    rintro e w8 ⟨rfl, f8⟩
    have g8 := g7.trans0 f8
    clear f8 g7
    have hd1 : decide ((s : Int) % 65536 < 65521) = decide (s % 65536 < 65521) := by rw [decide_eq_decide]; omega
    have hd2 : decide ((s : Int) / 65536 < 65521) = decide (s / 65536 < 65521) := by rw [decide_eq_decide]; omega
    by_cases q1 : (s : Int) % 65536 < 65521
    · by_cases q2 : (s : Int) / 65536 < 65521
      · rw [show rightB s = true by unfold rightB; rw [← hd1, ← hd2, decide_eq_true q1, decide_eq_true q2]; rfl]
        clear hd1 hd2
        go_wp2
        go_ret
        exact ⟨rfl, g8⟩
      · rw [show rightB s = false by unfold rightB; rw [← hd1, ← hd2, decide_eq_true q1, decide_eq_false q2]; rfl]
        clear hd1 hd2
        have q3 := decide_eq_false q2
        go_wp2
        go_ret
        exact ⟨rfl, g8⟩
    · rw [show rightB s = false by unfold rightB; rw [← hd1, ← hd2, decide_eq_false q1]; rfl]
      clear hd1 hd2
      have q3 := decide_eq_false q1
      go_wp2
      go_ret
      exact ⟨rfl, g8⟩

set_option maxRecDepth 100000 in
set_option maxHeartbeats 1000000 in
theorem law_any (C : AdCode) (s t : Nat) (n : Int) (w : World) (hs : s < 4294967296) (ht : t < 4294967296) (hn : n ≤ 9223372036854775807) (hn0 : -9223372036854775808 ≤ n) :
    Calls Try.prog 5 #[.int .u32 s, .int .u32 t, .int .i64 n] w fun e w' => e = .returned (.bool true) ∧ Fr S0 w w' := by
  have hw := start C w
  have HJ := Lib.hid (C.join_ s t n)
  have HR := Lib.hid (rjoin_any s t n)
  have H := Lib.hid (And.intro hs (And.intro ht (And.intro hn hn0)))
  clear hs ht hn hn0
  go_enter Try.func5, Try.ntmps5
  go_wp2_with fail
  refine hw _ ?_
  intro w1 g1
  clear hw
  go_wp2_with fail
  refine (HJ.out _ H.out.1 H.out.2.1 H.out.2.2.1 H.out.2.2.2).mono ?_
  rintro e w2 ⟨rfl, f2⟩
  have g2 := g1.trans0 f2
  clear f2 g1
  go_wp2_with fail
  refine (HR.out _ H.out.1 H.out.2.1 H.out.2.2.1).mono ?_
  rintro e w' ⟨rfl, rfl⟩
  go_wp2
  go_ret
  exact ⟨rfl, g2⟩

set_option maxRecDepth 100000 in
set_option maxHeartbeats 1000000 in
theorem law_joins (C : AdCode) (p : Option Addr) (d : Nat) (l : List Nat) (p2 : Option Addr) (d2 : Nat) (m : List Nat) (w : World) (hl : SlI w .u8 p l) (hb : ∀ x ∈ l, x < 256) (hp : p = none → d = 0)
    (hl2 : SlI w .u8 p2 m) (hb2 : ∀ x ∈ m, x < 256) (hp2 : p2 = none → d2 = 0) (hd : l.length ≤ d) (hd2 : m.length ≤ d2) :
    Calls Try.prog 4 #[.slice p l.length d, .slice p2 m.length d2] w fun e w' => e = .returned (.bool true) ∧ Fr S0 w w' := by
  have HB := Lib.hid hb
  have HD := Lib.hid hd
  have HD2 := Lib.hid hd2
  have HP := Lib.hid hp
  have HB2 := Lib.hid hb2
  have HP2 := Lib.hid hp2
  have hw := start C w
  clear hb hp hb2 hp2 hd hd2
  by_cases k1 : (20000 : Int) < (l.length : Int)
  · go_enter Try.func4, Try.ntmps4
    go_wp2_with (go_at_call 7; refine hw _ ?_; intro w1 hf)
    go_ret
    exact ⟨rfl, hf⟩
  · by_cases k2 : (20000 : Int) < (m.length : Int)
    · go_enter Try.func4, Try.ntmps4
      go_wp2_with (go_at_call 7; refine hw _ ?_; intro w1 hf)
      go_ret
      exact ⟨rfl, hf⟩
    · have R1 : Hid (Room (0 + l.length)) := Lib.hid (Room.mk (by omega))
      have R2 : Hid (Room (l.length + m.length)) := Lib.hid (Room.mk (by omega))
      go_enter Try.func4, Try.ntmps4
      go_wp2_with fail
      refine hw _ ?_
      intro w2 g2
      clear hw
      have s1 := SrcIs.ofSl ((hl.fr0 g2).fr0 (Fr.alloc S0 w2 (.cells #[] 5))) HP.out
      go_wp2_with (first
        | ((with_reducible show wpList _ _ _ (Oper.mk (some 18) _ _ _ _ _ :: _) _ _); refine app_many el8 (.tmp 16) (.tmp 17) (own_none w2 _) s1 (Nat.zero_add _) rfl rfl rfl rfl (ones _) (by rw [Nat.zero_add] at R1; exact R1.out) ?_; intro p4 c4 w4 own4 g4 at4; have h4 := fr_made (Fr.refl S0 w2) g4; have v4 := fresh_many (fresh_made (n := 0) (c := 0) (Fr.refl S0 w2)) (size_le (Fr.refl S0 w2)) at4; clear g4 at4)
        | ((with_reducible show wpList _ _ _ (Oper.mk (some 20) _ _ _ _ _ :: _) _ _); refine app_many el8 (.tmp 18) (.tmp 19) own4 (SrcIs.ofSl ((hl2.fr0 g2).fr0 h4) HP2.out) rfl rfl rfl rfl rfl (ones _) R2.out ?_; intro p5 c5 w5 own5 g5 at5; have h5 := h4.append g5 v4; clear g5 at5))
      have g5 := g2.trans0 h5
      have HAB : Hid (∀ x ∈ l ++ m, x < 256) := Lib.hid fun x hx => (List.mem_append.1 hx).elim (HB.out x) (HB2.out x)
      have hs := C.sum_ p5 c5 (l ++ m) w5 (SlI.ofOwns (by rw [List.map_append]; exact own5)) HAB.out (by obtain ⟨_, _, hv, _, hcap, _⟩ := slForm own5; simp only [Value.slice.injEq] at hv; obtain ⟨_, _, rfl⟩ := hv; rw [List.length_append]; exact hcap)
      rw [List.length_append] at hs
      have HS := Lib.hid hs
      have J := Lib.hid (join_sum l m)
      have M := Lib.hid (adMore_append 1 l m)
      have L1 : Hid (adSum l < 4294967296) := Lib.hid (adMore_lt _ _)
      have L2 : Hid (adSum m < 4294967296) := Lib.hid (adMore_lt _ _)
      clear hs own5 own4 h4 v4 h5 s1 g2
      refine HS.out.mono ?_
      rintro e w6 ⟨rfl, f6⟩
      have g6 := g5.trans0 f6
      clear f6 g5 HS
      go_wp2_with fail
      refine (C.sum_ p d l _ (hl.fr0 g6) HB.out HD.out).mono ?_
      rintro e w7 ⟨rfl, f7⟩
      have g7 := g6.trans0 f7
      clear f7 g6
      go_wp2_with fail
      refine (C.sum_ p2 d2 m _ (hl2.fr0 g7) HB2.out HD2.out).mono ?_
      rintro e w8 ⟨rfl, f8⟩
      have g8 := g7.trans0 f8
      clear f8 g7
      go_wp2_with fail
      refine (C.join_ (adSum l) (adSum m) m.length _ L1.out L2.out (by omega) (by omega)).mono ?_
      rintro e w9 ⟨rfl, f9⟩
      rw [show ((m.length : Int)).toNat = m.length from rfl, J.out]
      have g9 := g8.trans0 f9
      clear f9 g8
      go_wp2_with fail
      refine (C.sum_ p d l _ (hl.fr0 g9) HB.out HD.out).mono ?_
      rintro e w10 ⟨rfl, f10⟩
      have g10 := g9.trans0 f10
      clear f10 g9
      go_wp2_with fail
      refine (C.more_ (adSum l) p2 d2 m _ L1.out (hl2.fr0 g10) HB2.out HD2.out).mono ?_
      rintro e w11 ⟨rfl, f11⟩
      rw [show adMore (adSum l) m = adSum (l ++ m) from M.out]
      have g11 := g10.trans0 f11
      clear f11 g10
      go_wp2
      go_ret
      exact ⟨rfl, g11⟩

theorem xor_ne (x y : Nat) (h : y ≠ 0) : x ^^^ y ≠ x := by
  intro e
  have : x ^^^ (x ^^^ y) = x ^^^ x := by rw [e]
  rw [← Nat.xor_assoc, Nat.xor_self, Nat.zero_xor] at this
  exact h this

set_option maxRecDepth 100000 in
set_option maxHeartbeats 1000000 in
theorem law_byte (C : AdCode) (p : Option Addr) (d : Nat) (l : List Nat) (at_ : Int) (y : Nat) (w : World) (hl : SlI w .u8 p l) (hb : ∀ x ∈ l, x < 256) (hp : p = none → d = 0) (hy : y < 256) (hd : l.length ≤ d) :
    Calls Try.prog 6 #[.slice p l.length d, .int .i64 at_, .int .u8 y] w fun e w' => e = .returned (.bool true) ∧ Fr S0 w w' := by
  have HB := Lib.hid hb
  have HD := Lib.hid hd
  have HP := Lib.hid hp
  have HY := Lib.hid hy
  have hw := start C w
  clear hb hp hy hd
  by_cases k1 : (20000 : Int) < (l.length : Int)
  · go_enter Try.func6, Try.ntmps6
    go_wp2_with (go_at_call 7; refine hw _ ?_; intro w1 hf)
    go_ret
    exact ⟨rfl, hf⟩
  by_cases k2 : at_ < 0
  · go_enter Try.func6, Try.ntmps6
    go_wp2_with (go_at_call 7; refine hw _ ?_; intro w1 hf)
    go_ret
    exact ⟨rfl, hf⟩
  by_cases k3 : at_ ≥ (l.length : Int)
  · go_enter Try.func6, Try.ntmps6
    go_wp2_with (go_at_call 7; refine hw _ ?_; intro w1 hf)
    go_ret
    exact ⟨rfl, hf⟩
  obtain ⟨i, rfl⟩ : ∃ i : Nat, at_ = i := ⟨at_.toNat, by omega⟩
  by_cases k4 : y = 0
  · subst k4
    go_enter Try.func6, Try.ntmps6
    go_wp2_with (go_at_call 7; refine hw _ ?_; intro w1 hf)
    go_ret
    exact ⟨rfl, hf⟩
  have hi : i < l.length := by omega
  have hx8 := HB.out _ (List.getElem_mem hi)
  have hne := sum_unlike l i (l[i] ^^^ y) hi hx8 (Nat.xor_lt_two_pow (n := 8) hx8 HY.out) (xor_ne _ _ k4)
  have hx : bits .xor .u8 (l[i] : Int) (y : Int) = ((l[i] ^^^ y : Nat) : Int) := u8_xor_nat _ _ hx8 HY.out
  have hset : u8s (l.set i (l[i] ^^^ y)) = (u8s l).set i (.int .u8 (l[i] ^^^ y : Nat)) := by unfold u8s; rw [List.map_set]
  have HLs : Hid (∀ x ∈ l.set i (l[i] ^^^ y), x < 256) := Lib.hid fun x hx => (List.mem_or_eq_of_mem_set hx).elim (HB.out x) (fun e => e ▸ Nat.xor_lt_two_pow (n := 8) hx8 HY.out)
  have hu : (u8s l)[i]? = some (.int .u8 (l[i] : Nat)) := by simp [u8s, hi]
  have hb4 : ((y : Int) == 0) = false := by rw [beq_eq_false_iff_ne]; omega
  obtain ⟨x, hxe⟩ : ∃ x, l[i] = x := ⟨_, rfl⟩
  rw [hxe] at hne hx hset HLs hu
  have HU := Lib.hid hu
  have HSET := Lib.hid hset
  have HNE : Hid (((adSum l : Int) != (adSum (l.set i (x ^^^ y)) : Int)) = true) := Lib.hid (by rw [bne_iff_ne]; omega)
  have hll : Hid ((l.set i (x ^^^ y)).length = l.length) := Lib.hid (by rw [List.length_set])
  obtain ⟨L, hL⟩ : ∃ L, l.set i (x ^^^ y) = L := ⟨_, rfl⟩
  rw [hL] at HSET HLs HNE hll
  have R1 : Hid (Room (0 + l.length)) := Lib.hid (Room.mk (by omega))
  clear hxe hx8 hne hset hu k4 hL
  go_enter Try.func6, Try.ntmps6
  go_wp2_with fail
  refine hw _ ?_
  intro w2 g2
  clear hw
  have s1 := SrcIs.ofSl ((hl.fr0 g2).fr0 (Fr.alloc S0 w2 (.cells #[] 5))) HP.out
  go_wp2_with ((with_reducible show wpList _ _ _ (Oper.mk (some 29) _ _ _ _ _ :: _) _ _); refine app_many el8 (.tmp 27) (.tmp 28) (own_none w2 _) s1 (Nat.zero_add _) rfl rfl rfl rfl (ones _) (by rw [Nat.zero_add] at R1; exact R1.out) ?_; intro p4 c4 w4 own4 g4 at4; have h4 := fr_made (Fr.refl S0 w2) g4; have v4 := fresh_many (fresh_made (n := 0) (c := 0) (Fr.refl S0 w2)) (size_le (Fr.refl S0 w2)) at4; rw [List.nil_append] at own4; obtain ⟨g, cap, hv, -, hg⟩ := own4.form (by omega); simp only [Value.slice.injEq] at hv; obtain ⟨rfl, -, rfl⟩ := hv; have hcell := own4.cellAt i (by omega); rw [show (List.map (fun (x : Nat) => Value.int IntKind.u8 (x : Int)) l)[i]? = some (.int .u8 (x : Nat)) from HU.out] at hcell; have hfro := own4.frozenAt i; clear g4 at4)
  obtain ⟨ho, hgr⟩ := own4.stored i (.int .u8 (x ^^^ y : Nat))
  have hfresh : w2.heap.size ≤ g := v4 g rfl
  have h5 := h4.append hgr (fun k hk => by simp only [Option.some.injEq] at hk; omega)
  have own5 : (w4.setCell ⟨g, i, none⟩ (.int .u8 (x ^^^ y : Nat))).ownsRow 0 5 1 (.slice (some ⟨g, 0, none⟩) l.length c4) l.length (u8s L) := by rw [HSET.out]; exact ho
  have g5 := g2.trans0 h5
  generalize w4.setCell ⟨g, i, none⟩ (.int .u8 (x ^^^ y : Nat)) = w5 at own5 g5 ⊢
  clear ho hgr h5 own4 hcell hfro h4 v4 s1 g2
  refine (C.sum_ p d l _ (hl.fr0 g5) HB.out HD.out).mono ?_
  rintro e w6 ⟨rfl, f6⟩
  have g6 := g5.trans0 f6
  have own6 := f6.owns own5 (fun _ _ h => h)
  have hs := C.sum_ (some ⟨g, 0, none⟩) c4 L w6 (SlI.ofOwns (by rw [← hll.out] at own6; exact own6)) HLs.out (by obtain ⟨_, _, hv, _, hcap, _⟩ := slForm own6; simp only [Value.slice.injEq] at hv; obtain ⟨_, _, rfl⟩ := hv; rw [hll.out]; exact hcap)
  rw [hll.out] at hs
  have HS := Lib.hid hs
  clear hs own6 own5 f6 g5
  go_wp2_with fail
  refine HS.out.mono ?_
  rintro e w7 ⟨rfl, f7⟩
  have g7 := g6.trans0 f7
  have hn := HNE.out
  clear f7 g6
  go_wp2
  go_ret
  exact ⟨rfl, g7⟩
end Go.Proofs.Ythkaikhkoaiipaa
