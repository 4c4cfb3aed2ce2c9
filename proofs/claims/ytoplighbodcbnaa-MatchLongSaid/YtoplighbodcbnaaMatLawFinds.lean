/- MatchFinds. -/
import Derived.Test.YtoplighbodcbnaaMatAlive
namespace Go.Proofs.Ytoplighbodcbnaa
open Go.RowKit Go.MapKept

theorem spread_n (p p' : Option Addr) (c c' n n' : Nat) (bs ts : List Nat) (w : World) (hn : bs.length = n) (hn' : ts.length = n') (h : SlI w .u8 p bs) (h' : SlI w .u8 p' ts) (hb8 : ∀ x ∈ bs, x < 256) (ht8 : ∀ x ∈ ts, x < 256) :
    Calls Try.prog 8 #[.slice p n c, .slice p' n' c'] w fun r w' => ∃ t q m d, t.length = m ∧ r = .returned (.slice q m d) ∧ w'.ownsRow 0 5 1 (.slice q m d) m (u8s t) ∧ (∀ x ∈ t, x < 256) ∧ m ≤ 1440 ∧ Fr S0 w w' := by
  subst hn hn'
  refine (spread_any p p' c c' bs ts w h h' hb8 ht8).mono ?_
  rintro _ w' ⟨t, q, d, h1, h2, h3, h4, h5, _⟩
  exact ⟨t, q, _, d, rfl, h1, h2, h3, h4, h5⟩
theorem find_n (p : Option Addr) (c n : Nat) (b : List Nat) (w : World) (hn : b.length = n) (h : SlI w .u8 p b) (hc : n ≤ c) (h8 : ∀ x ∈ b, x < 256) (hlen : n ≤ 1048576) :
    Calls Try.prog 9 #[.slice p n c] w fun r w' => ∃ q m d, (toks b 0).length = m ∧ r = .returned (.slice q m d) ∧ TkI w' q (toks b 0) ∧ m ≤ n ∧ Fr S0 w w' := by
  subst hn
  refine (find_any p c b w h hc h8 hlen).mono ?_
  rintro _ w' ⟨q, m, d, h1, h2, h3, h4, _⟩
  exact ⟨q, m, d, h2.symm, h1, TkI.ofOwns h3, h2 ▸ toks_le b, h4⟩
theorem rfind_n (p : Option Addr) (c n : Nat) (b : List Nat) (w : World) (hn : b.length = n) (h : SlI w .u8 p b) (hlen : n ≤ 1048576) :
    Calls Try.prog 12 #[.slice p n c] w fun r w' => ∃ q m d, (toks b 0).length = m ∧ r = .returned (.slice q m d) ∧ TkI w' q (toks b 0) ∧ m ≤ n ∧ Fr S0 w w' := by
  subst hn
  refine (rfind_any p c b w h hlen).mono ?_
  rintro _ w' ⟨q, m, d, h1, h2, h3, h4, _⟩
  exact ⟨q, m, d, h2.symm, h1, TkI.ofOwns h3, h2 ▸ toks_le b, h4⟩
theorem tell_n (q : Option Addr) (m d n : Nat) (b : List Nat) (w : World) (hn : b.length = n) (h : TkI w q (toks b 0)) (hm : (toks b 0).length = m) (hlen : n ≤ 1048576) :
    Calls Try.prog 10 #[.slice q m d] w fun r w' => ∃ p c, r = .returned (.tuple #[.slice p n c, .bool true]) ∧ w'.ownsRow 0 5 1 (.slice p n c) n (u8s b) ∧ Fr S0 w w' := by
  subst hn
  refine (tell_any q m d b w h hm hlen).mono ?_
  rintro _ w' ⟨p, c, h1, h2, h3, _⟩
  exact ⟨p, c, h1, h2, h3⟩
theorem conv_n {w : World} {p : Option Addr} {l : List Nat} (h : SlI w .u8 p l) (n c : Nat) (hn : l.length = n) : (convert 22 9 (.slice p n c)).run Try.prog w = .ok (.string (strB l)) w := by
  have := conv_sl h n c (by omega)
  rwa [List.take_of_length_le (by omega)] at this

/-- one text of those that are looked at -/
structure TxIs (w : World) (p : Option Addr) (n c : Nat) (b : List Nat) : Prop where
  len : b.length = n
  sl : SlI w .u8 p b
  cap : n ≤ c
  small : ∀ x ∈ b, x < 256
  few : n ≤ 1440
theorem TxIs.fr0 {w w' : World} {p : Option Addr} {n c : Nat} {b : List Nat} (h : TxIs w p n c b) (f : Fr S0 w w') : TxIs w' p n c b := ⟨h.len, h.sl.fr0 f, h.cap, h.small, h.few⟩

set_option maxRecDepth 100000 in
set_option maxHeartbeats 4000000 in
theorem finds_all (p : Option Addr) (c n : Nat) (bs : List Nat) (p' : Option Addr) (c' : Nat) (ts xs : List Nat) (w : World) (hn : bs.length = n) (hxs : if 400 < n then xs = bs.take 400 else xs = bs) (h : SlI w .u8 p bs) (hc : n ≤ c) (h' : SlI w .u8 p' ts) (hb8 : ∀ x ∈ bs, x < 256) (ht8 : ∀ x ∈ ts, x < 256) :
    Calls Try.prog 3 #[.slice p n c, .slice p' ts.length c'] w fun r w' => r = .returned (.bool true) ∧ Fr S0 w w' := by
  obtain ⟨X, hX⟩ : ∃ X, xs.length = X := ⟨_, rfl⟩
  have hXL : X = if 400 < n then 400 else n := by
    rw [← hX]
    split at hxs
    · rename_i h1; rw [hxs, List.length_take, hn, if_pos h1]; omega
    · rename_i h1; rw [hxs, hn, if_neg h1]
  have HX : Hid (TxIs w p X c xs) := Lib.hid ⟨hX, by split at hxs <;> subst hxs <;> first | exact h.take 400 | exact h, by rw [hXL]; split <;> omega, by split at hxs <;> subst hxs <;> first | exact fun x hx => hb8 x (List.mem_of_mem_take hx) | exact hb8, by rw [hXL]; split <;> omega⟩
  have HXL := Lib.hid hXL
  have H' := Lib.hid h'
  have HT8 := Lib.hid ht8
  clear h h' hb8 ht8 hxs hn hX hXL
  by_cases h4 : (400 : Int) < (n : Int)
  · have hX4 : X = 400 := by have := HXL.out; rw [if_pos (by omega)] at this; exact this
    subst hX4
    have hc4 : (400 : Int) ≤ (c : Int) := by omega
    go_enter Try.func3, Try.ntmps3
    go_wp2_with fail
    refine start _ _ ?_
    intro w1 f1
    have F1 := Lib.hid f1
    clear f1
    go_wp2_with fail
    refine (spread_n p p' _ c' _ _ xs ts _ HX.out.len rfl (HX.out.fr0 F1.out).sl (H'.out.fr0 F1.out) HX.out.small HT8.out).mono ?_
    rintro _ w2 ⟨t, q, m, d, hm, rfl, o2, t8, tl, f2⟩
    have HT : Hid (TxIs w2 q m d t) := Lib.hid ⟨hm, SlI.ofOwns o2, by obtain ⟨_, _, e, _, h, _⟩ := slForm o2; cases e; exact h, t8, tl⟩
    have F2 := Lib.hid (F1.out.trans0 f2)
    clear o2 t8 f2 hm tl
    go_wp2_with fail
    have hB0 := heap_alloc_new w2 (.cells #[.slice p 400 c, .slice q m d] 22)
    obtain ⟨W0, hW0⟩ : ∃ W0, w2.alloc (.cells #[.slice p 400 c, .slice q m d] 22) = W0 := ⟨_, rfl⟩
    have f3 : Fr S0 w2 W0 := by rw [← hW0]; exact Fr.alloc _ _ _
    rw [hW0] at hB0
    rw [hW0]
    obtain ⟨G, hG⟩ : ∃ G, w2.heap.size = G := ⟨_, rfl⟩
    rw [hG] at hB0
    rw [hG]
    have HB0 := Lib.hid hB0
    have HA := Lib.hid ((HX.out.fr0 F2.out).fr0 f3)
    have HT0 := Lib.hid (HT.out.fr0 f3)
    have F3 := Lib.hid (F2.out.trans0 f3)
    clear hB0 f3 hW0 hG
    go_loopw [6, 7, 8, 9, 23] (fun _ _ _ _ i wr => ∃ j : Nat, j ≤ 2 ∧ i = .int .i64 j ∧ Fr S0 W0 wr) (fun _ _ _ _ i _ => 2 - (intOf i).toNat)
    case atStart => exact ⟨0, by omega, rfl, Fr.refl _ _⟩
    case round =>
      obtain ⟨j, hj, rfl, hfr⟩ := hrel
      have HFR := Lib.hid hfr
      clear hfr
      by_cases hj2 : (j : Int) < 2
      · have hall : ∃ (pY : Option Addr) (nY cY : Nat) (Y : List Nat), wr.cell? ⟨G, j, none⟩ = some (.slice pY nY cY) ∧ TxIs wr pY nY cY Y := by
          have hB := HFR.out.row HB0.out (fun h => h)
          rcases (show j = 0 ∨ j = 1 by omega) with rfl | rfl
          · exact ⟨p, 400, c, xs, by simp [World.cell?, hB], HA.out.fr0 HFR.out⟩
          · exact ⟨q, m, d, t, by simp [World.cell?, hB], HT0.out.fr0 HFR.out⟩
        obtain ⟨pY, nY, cY, Y, hcY, hY⟩ := hall
        have HY := Lib.hid hY
        have hnY := hY.few
        clear hY
        go_wp2_with fail
        refine (find_n pY cY nY Y _ HY.out.len HY.out.sl HY.out.cap HY.out.small (by omega)).mono ?_
        rintro _ w4 ⟨q4, m4, d4, hm4, rfl, hk4, hle4, f4⟩
        have HM4 := Lib.hid hm4
        have HK4 := Lib.hid hk4
        have F4 := Lib.hid f4
        clear hm4 hk4 f4
        go_wp2_with fail
        refine (tell_n q4 m4 d4 nY Y _ HY.out.len HK4.out HM4.out (by omega)).mono ?_
        rintro _ w5 ⟨p5, c5, rfl, o5, f5⟩
        have HS5 := Lib.hid (SlI.ofOwns o5)
        have F5 := Lib.hid f5
        clear o5 f5
        go_wp2_with fail
        refine (rfind_n pY cY nY Y _ HY.out.len (HY.out.sl.fr0 (F4.out.trans0 F5.out)) (by omega)).mono ?_
        rintro _ w6 ⟨q6, m6, d6, hm6, rfl, hk6, -, f6⟩
        rw [HM4.out] at hm6
        subst hm6
        have HK6 := Lib.hid hk6
        have F6 := Lib.hid f6
        clear hk6 f6
        go_wp2_with fail
        refine (lists_same q4 q6 m4 d4 d6 (toks Y 0) _ (HK4.out.fr0 (F5.out.trans0 F6.out)) HK6.out HM4.out (by omega)).mono ?_
        rintro _ w7 ⟨rfl, f7⟩
        have F7 := Lib.hid (((F4.out.trans0 F5.out).trans0 F6.out).trans0 f7)
        have kc1 := conv_n (HS5.out.fr0 (F6.out.trans0 f7)) nY c5 HY.out.len
        have kc2 := conv_n (HY.out.sl.fr0 F7.out) nY cY HY.out.len
        clear f7
        go_wp2_with fail
        go_roundw
        case rel => exact ⟨j + 1, by omega, by simp, HFR.out.trans0 F7.out⟩
        case measure => simp [intOf]; omega
      · go_wp2
        go_ret
        exact ⟨rfl, F3.out.trans0 HFR.out⟩
  · have hX4 : X = n := by have := HXL.out; rw [if_neg (by omega)] at this; exact this
    subst hX4
    go_enter Try.func3, Try.ntmps3
    go_wp2_with fail
    refine start _ _ ?_
    intro w1 f1
    have F1 := Lib.hid f1
    clear f1
    go_wp2_with fail
    refine (spread_n p p' _ c' _ _ xs ts _ HX.out.len rfl (HX.out.fr0 F1.out).sl (H'.out.fr0 F1.out) HX.out.small HT8.out).mono ?_
    rintro _ w2 ⟨t, q, m, d, hm, rfl, o2, t8, tl, f2⟩
    have HT : Hid (TxIs w2 q m d t) := Lib.hid ⟨hm, SlI.ofOwns o2, by obtain ⟨_, _, e, _, h, _⟩ := slForm o2; cases e; exact h, t8, tl⟩
    have F2 := Lib.hid (F1.out.trans0 f2)
    clear o2 t8 f2 hm tl
    go_wp2_with fail
    have hB0 := heap_alloc_new w2 (.cells #[.slice p X c, .slice q m d] 22)
    obtain ⟨W0, hW0⟩ : ∃ W0, w2.alloc (.cells #[.slice p X c, .slice q m d] 22) = W0 := ⟨_, rfl⟩
    have f3 : Fr S0 w2 W0 := by rw [← hW0]; exact Fr.alloc _ _ _
    rw [hW0] at hB0
    rw [hW0]
    obtain ⟨G, hG⟩ : ∃ G, w2.heap.size = G := ⟨_, rfl⟩
    rw [hG] at hB0
    rw [hG]
    have HB0 := Lib.hid hB0
    have HA := Lib.hid ((HX.out.fr0 F2.out).fr0 f3)
    have HT0 := Lib.hid (HT.out.fr0 f3)
    have F3 := Lib.hid (F2.out.trans0 f3)
    clear hB0 f3 hW0 hG
    go_loopw [6, 7, 8, 9, 23] (fun _ _ _ _ i wr => ∃ j : Nat, j ≤ 2 ∧ i = .int .i64 j ∧ Fr S0 W0 wr) (fun _ _ _ _ i _ => 2 - (intOf i).toNat)
    case atStart => exact ⟨0, by omega, rfl, Fr.refl _ _⟩
    case round =>
      obtain ⟨j, hj, rfl, hfr⟩ := hrel
      have HFR := Lib.hid hfr
      clear hfr
      by_cases hj2 : (j : Int) < 2
      · have hall : ∃ (pY : Option Addr) (nY cY : Nat) (Y : List Nat), wr.cell? ⟨G, j, none⟩ = some (.slice pY nY cY) ∧ TxIs wr pY nY cY Y := by
          have hB := HFR.out.row HB0.out (fun h => h)
          rcases (show j = 0 ∨ j = 1 by omega) with rfl | rfl
          · exact ⟨p, X, c, xs, by simp [World.cell?, hB], HA.out.fr0 HFR.out⟩
          · exact ⟨q, m, d, t, by simp [World.cell?, hB], HT0.out.fr0 HFR.out⟩
        obtain ⟨pY, nY, cY, Y, hcY, hY⟩ := hall
        have HY := Lib.hid hY
        have hnY := hY.few
        clear hY
        go_wp2_with fail
        refine (find_n pY cY nY Y _ HY.out.len HY.out.sl HY.out.cap HY.out.small (by omega)).mono ?_
        rintro _ w4 ⟨q4, m4, d4, hm4, rfl, hk4, hle4, f4⟩
        have HM4 := Lib.hid hm4
        have HK4 := Lib.hid hk4
        have F4 := Lib.hid f4
        clear hm4 hk4 f4
        go_wp2_with fail
        refine (tell_n q4 m4 d4 nY Y _ HY.out.len HK4.out HM4.out (by omega)).mono ?_
        rintro _ w5 ⟨p5, c5, rfl, o5, f5⟩
        have HS5 := Lib.hid (SlI.ofOwns o5)
        have F5 := Lib.hid f5
        clear o5 f5
        go_wp2_with fail
        refine (rfind_n pY cY nY Y _ HY.out.len (HY.out.sl.fr0 (F4.out.trans0 F5.out)) (by omega)).mono ?_
        rintro _ w6 ⟨q6, m6, d6, hm6, rfl, hk6, -, f6⟩
        rw [HM4.out] at hm6
        subst hm6
        have HK6 := Lib.hid hk6
        have F6 := Lib.hid f6
        clear hk6 f6
        go_wp2_with fail
        refine (lists_same q4 q6 m4 d4 d6 (toks Y 0) _ (HK4.out.fr0 (F5.out.trans0 F6.out)) HK6.out HM4.out (by omega)).mono ?_
        rintro _ w7 ⟨rfl, f7⟩
        have F7 := Lib.hid (((F4.out.trans0 F5.out).trans0 F6.out).trans0 f7)
        have kc1 := conv_n (HS5.out.fr0 (F6.out.trans0 f7)) nY c5 HY.out.len
        have kc2 := conv_n (HY.out.sl.fr0 F7.out) nY cY HY.out.len
        clear f7
        go_wp2_with fail
        go_roundw
        case rel => exact ⟨j + 1, by omega, by simp, HFR.out.trans0 F7.out⟩
        case measure => simp [intOf]; omega
      · go_wp2
        go_ret
        exact ⟨rfl, F3.out.trans0 HFR.out⟩
theorem law_finds (p p' : Option Addr) (c c' : Nat) (bs ts : List Nat) (w : World) (h : SlI w .u8 p bs) (hc : bs.length ≤ c) (h' : SlI w .u8 p' ts) (hb8 : ∀ x ∈ bs, x < 256) (ht8 : ∀ x ∈ ts, x < 256) :
    Calls Try.prog 3 #[.slice p bs.length c, .slice p' ts.length c'] w fun r w' => r = .returned (.bool true) ∧ Fr S0 w w' :=
  finds_all p c bs.length bs p' c' ts (if 400 < bs.length then bs.take 400 else bs) w rfl (by split <;> rfl) h hc h' hb8 ht8
end Go.Proofs.Ytoplighbodcbnaa
