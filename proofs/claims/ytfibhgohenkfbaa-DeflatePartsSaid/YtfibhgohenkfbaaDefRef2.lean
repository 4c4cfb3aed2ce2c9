/- The document's stored blocks, and the shorter one. -/
import Derived.Test.YtfibhgohenkfbaaDefRef
namespace Go.Proofs.Ytfibhgohenkfbaa
open Go.RowKit

theorem own_row5 (w : World) (x y z a b : Value) (t : TypeId) : (w.alloc (.cells #[x, y, z, a, b] t)).ownsRow 0 t 1 (.slice (some ⟨w.heap.size, 0, none⟩) 5 5) 5 [x, y, z, a, b] :=
  ⟨rfl, .inr ⟨w.heap.size, 5, #[x, y, z, a, b], rfl, Nat.zero_le _, heap_alloc_new w _, Nat.le_refl _, by decide, rfl, rfl⟩⟩
/-- a row of the call's own that grows -/
structure RowG (w wr : World) (v : Value) (n : Nat) (L : List Nat) : Prop where
  own : wr.ownsRow 0 5 1 v n (u8s L)
  fr : Fr S0 w wr
  fresh : Fresh w v
theorem RowG.fr0 {w wr w' : World} {v : Value} {n : Nat} {L : List Nat} (h : RowG w wr v n L) (f : Fr S0 wr w') : RowG w w' v n L := ⟨f.owns h.own (fun _ _ h => h), h.fr.trans0 f, h.fresh⟩
theorem RowG.app {w wr w' : World} {v : Value} {n N : Nat} {L M : List Nat} {p : Option Addr} {c : Nat} (h : RowG w wr v n L) (own : w'.ownsRow 0 5 1 (.slice p N c) N (u8s L ++ u8s M)) (g : wr.grownBy w' v.ownBlock) (wh : Value.ownBlock (.slice p N c) = v.ownBlock ∨ Value.ownBlock (.slice p N c) = some wr.heap.size) : RowG w w' (.slice p N c) N (L ++ M) := by
  refine ⟨by rw [← u8s_append]; exact own, h.fr.append g h.fresh, fun k hk => ?_⟩
  rcases wh with q | q
  · exact h.fresh k (q ▸ hk)
  · rw [q] at hk; cases hk; exact h.fr.size

theorem SlI.add {w : World} {k : IntKind} {a : Addr} {l : List Nat} (h : SlI w k (some a) l) (n : Nat) : SlI w k (some (a.add n)) (l.drop n) := by
  by_cases hl : l = []
  · subst hl; rw [List.drop_nil]; exact SlI.nil _ _ _
  · obtain ⟨b, o, hp, -⟩ := h.2 hl
    obtain rfl := Option.some.inj hp
    have h2 := h.drop n
    unfold Addr.add
    split
    · rename_i h0; subst h0; simpa using h2
    · exact h2

set_option maxRecDepth 100000 in
set_option maxHeartbeats 2000000 in
theorem rstored_any (p : Option Addr) (d : Nat) (b : List Nat) (w : World) (hb : SlI w .u8 p b) (hp : p = none → d = 0) (hd : b.length ≤ d) (hL : b.length ≤ 1048576) :
    Calls Try.prog 12 #[.slice p b.length d] w fun e w' => ∃ v, e = .returned v ∧ Fr S0 w w' ∧ RowNew w w' v (sto b) := by
  have HB := Lib.hid hb
  have HP := Lib.hid hp
  have HSL := Lib.hid (sto_length b.length b (Nat.le_refl _))
  obtain ⟨m, hm⟩ : ∃ m, b.length = m := ⟨_, rfl⟩
  have HM := Lib.hid hm
  rw [hm] at hd hL ⊢
  clear hb hp hm
  go_enter Try.func12, Try.ntmps12
  go_wp2_with fail
  go_loopw [3, 4, 5, 6] (fun v i _ _ wr => ∃ (k N : Nat) (B : List Nat), k ≤ m ∧ i = .int .i64 k ∧ sto b = B ++ sto (b.drop k) ∧ B.length = N ∧ N ≤ 2 * k ∧ RowG w wr v N B) (fun _ i _ _ _ => m - (intOf i).toNat)
  case atStart => exact ⟨0, 0, [], by omega, rfl, rfl, rfl, by omega, ⟨World.ownsRow_nil _ _ _ _, Fr.refl _ _, fresh_nil _ _⟩⟩
  case round =>
    obtain ⟨k, N, B, hk, rfl, hsto, hBN, hNk, hG⟩ := hrel
    have HSTO := Lib.hid hsto
    have HBN := Lib.hid hBN
    have G := Lib.hid hG
    obtain ⟨pv, cv, rfl, -, -, -⟩ := slForm hG.own
    have HDL : Hid ((b.drop k).length = m - k) := Lib.hid (by rw [List.length_drop, HM.out])
    clear hsto hBN hG
    by_cases hgt : 65535 < m - k
    · have q2 : ((k : Int) + 65535 == (m : Int)) = false := by rw [beq_eq_false_iff_ne]; omega
      have htl : ((b.drop k).take 65535).length = 65535 := by rw [List.length_take, HDL.out]; omega
      obtain ⟨N2, hN2⟩ : ∃ N2, N + 5 + 65535 = N2 := ⟨_, rfl⟩
      obtain ⟨k2, hk2⟩ : ∃ k2, k + 65535 = k2 := ⟨_, rfl⟩
      have HN2 : Hid (N + 5 + (k2 - k) = N2) := Lib.hid (by omega)
      have HK2 := Lib.hid hk2
      have hN2k : N2 ≤ 2 * k2 := by omega
      have hk2m : k2 ≤ m ∧ k < k2 := by omega
      have e2 : (k : Int) + 65535 = (k2 : Int) := by omega
      have q2' : ((k2 : Int) == (m : Int)) = false := by rw [← e2]; exact q2
      have HSE0 : sto b = B ++ [0, 255, 255, 0, 0] ++ (b.drop k).take 65535 ++ sto (b.drop k2) := by
        rw [HSTO.out, sto_more (by rw [HDL.out]; omega), blk, htl, List.drop_drop, hk2]
        simp only [List.append_assoc]
      obtain ⟨T, hT⟩ : ∃ T, (b.drop k).take 65535 = T := ⟨_, rfl⟩
      rw [hT] at HSE0 htl
      have HSE := Lib.hid HSE0
      have HR : Hid (Room (N + 5) ∧ Room N2) := Lib.hid ⟨Room.mk (by omega), Room.mk (by omega)⟩
      have E5 : Hid (([.int .u8 0, .int .u8 255, .int .u8 255, .int .u8 0, .int .u8 0] : List Value) = u8s [0, 255, 255, 0, 0]) := Lib.hid rfl
      obtain ⟨a, rfl⟩ : ∃ a, p = some a := by
        cases p with
        | none => exact absurd (HP.out rfl) (by omega)
        | some a => exact ⟨a, rfl⟩
      have q3 : ¬ (d : Int) = (k : Int) := by omega
      have q4 : (k2 : Int) ≤ (d : Int) := by omega
      have HS : Hid (∀ w', Fr S0 w w' → SrcIs w' (.slice (some (a.add k)) (k2 - k) (d - k)) (k2 - k) (u8s T)) := Lib.hid fun w' f => by
        have := SrcIs.ofSl (c := d - k) (((HB.out.add k).take 65535).fr0 f) (fun h => by cases h)
        rw [hT, htl, show 65535 = k2 - k by omega] at this
        exact this
      have HEND : Hid ((B ++ [0, 255, 255, 0, 0] ++ T).length = N2) := Lib.hid (by rw [List.length_append, List.length_append, HBN.out, htl, ← hN2]; rfl)
      clear htl hT HSE0 hk2 hN2
      go_wp2_with (first
        | ((with_reducible show wpList _ _ _ (Oper.mk (some 35) _ _ _ _ _ :: _) _ _); refine app_many el8 (.tmp 18) (.tmp 34) (G.out.fr0 (Fr.alloc S0 wr _)).own (SrcIs.ofOwns (own_row5 wr _ _ _ _ _ _)) rfl rfl rfl rfl rfl (by rw [E5.out]; exact ones _) HR.out.1 ?_; intro p7 c7 w7 own7 g7 at7; rw [E5.out] at own7; have G5 := Lib.hid ((G.out.fr0 (Fr.alloc S0 wr _)).app own7 g7 at7); clear own7 g7 at7; have S5 := Lib.hid (HS.out w7 G5.out.fr))
        | ((with_reducible show wpList _ _ _ (Oper.mk (some 43) _ _ _ _ _ :: _) _ _); refine app_many el8 (.tmp 36) (.tmp 42) G5.out.own S5.out HN2.out rfl rfl rfl rfl (ones _) HR.out.2 ?_; intro p8 c8 w8 own8 g8 at8; have G6 := Lib.hid (G5.out.app own8 g8 at8); clear own8 g8 at8)
        | fail)
      go_roundw
      case rel => exact ⟨k2, N2, _, by omega, by go_num, HSE.out, HEND.out, by omega, G6.out⟩
      case measure => simp [intOf]; omega
    · obtain ⟨n, hn⟩ : ∃ n, m - k = n := ⟨_, rfl⟩
      have e1 : (m : Int) - (k : Int) = (n : Int) := by omega
      have q1 : (k : Int) + (n : Int) = (m : Int) := by omega
      have q2 : ((m : Int) == (m : Int)) = true := by rw [beq_iff_eq]
      have hn65 : n ≤ 65535 := by omega
      have HSE : Hid (sto b = B ++ [1, n % 256, n / 256, 255 - n % 256, 255 - n / 256] ++ b.drop k) := Lib.hid (by
        rw [HSTO.out, sto_last (by rw [HDL.out]; omega), blk, HDL.out, hn, List.append_assoc])
      have HR : Hid (Room (N + 5) ∧ Room (N + 5 + n)) := Lib.hid ⟨Room.mk (by omega), Room.mk (by omega)⟩
      have E5 : Hid (([.int .u8 1, .int .u8 ((n : Int) % 256), .int .u8 ((n : Int) / 256), .int .u8 (255 - (n : Int) % 256), .int .u8 (255 - (n : Int) / 256)] : List Value) = u8s [1, n % 256, n / 256, 255 - n % 256, 255 - n / 256]) := Lib.hid (by
        simp only [u8s, List.map_cons, List.map_nil]
        rw [show ((255 - n % 256 : Nat) : Int) = 255 - (n : Int) % 256 by omega, show ((255 - n / 256 : Nat) : Int) = 255 - (n : Int) / 256 by omega]
        simp)
      have HSRC : Hid (SlI w .u8 p b) := HB
      have HNN := Lib.hid hn
      by_cases hdk : d = k
      · have hn0 : n = 0 := by omega
        have HS : Hid (∀ w', SrcIs w' (.slice p n 0) n (u8s (b.drop k))) := Lib.hid fun w' => by
          have h0 : b.drop k = [] := List.eq_nil_of_length_eq_zero (by rw [HDL.out]; omega)
          rw [h0, hn0]
          exact SrcIs.ofSl (c := 0) (SlI.nil w' .u8 p) (fun _ => rfl)
        have HEND : Hid ((sto b).length = N + 5 + n) := Lib.hid (by rw [HSE.out, List.length_append, List.length_append, HBN.out, HDL.out]; simp; omega)
        clear hn0
        go_wp2_with (first
          | ((with_reducible show wpList _ _ _ (Oper.mk (some 35) _ _ _ _ _ :: _) _ _); refine app_many el8 (.tmp 18) (.tmp 34) (G.out.fr0 (Fr.alloc S0 wr _)).own (SrcIs.ofOwns (own_row5 wr _ _ _ _ _ _)) rfl rfl rfl rfl rfl (by rw [E5.out]; exact ones _) HR.out.1 ?_; intro p7 c7 w7 own7 g7 at7; rw [E5.out] at own7; have G5 := Lib.hid ((G.out.fr0 (Fr.alloc S0 wr _)).app own7 g7 at7); clear own7 g7 at7; have S5 := Lib.hid (HS.out w7))
          | ((with_reducible show wpList _ _ _ (Oper.mk (some 43) _ _ _ _ _ :: _) _ _); refine app_many el8 (.tmp 36) (.tmp 42) G5.out.own S5.out rfl rfl rfl rfl rfl (ones _) HR.out.2 ?_; intro p8 c8 w8 own8 g8 at8; have G6 := Lib.hid (G5.out.app own8 g8 at8); clear own8 g8 at8)
          | fail)
        rw [← HSE.out] at G6
        go_ret
        exact ⟨_, rfl, G6.out.fr, by rw [HEND.out]; exact G6.out.own, G6.out.fresh⟩
      · obtain ⟨a, rfl⟩ : ∃ a, p = some a := by
          cases p with
          | none => exact absurd (HP.out rfl) (by omega)
          | some a => exact ⟨a, rfl⟩
        have q3 : ¬ (d : Int) = (k : Int) := by omega
        have q4 : (m : Int) ≤ (d : Int) := by omega
        have q5 : (k : Int) ≤ (m : Int) := by omega
        have HS : Hid (∀ w', Fr S0 w w' → SrcIs w' (.slice (some (a.add k)) n (d - k)) n (u8s (b.drop k))) := Lib.hid fun w' f => by
          have := SrcIs.ofSl (c := d - k) ((HB.out.add k).fr0 f) (fun h => by cases h)
          rw [HDL.out, hn] at this
          exact this
        have HEND : Hid ((sto b).length = N + 5 + n) := Lib.hid (by rw [HSE.out, List.length_append, List.length_append, HBN.out, HDL.out]; simp; omega)
        go_wp2_with (first
          | ((with_reducible show wpList _ _ _ (Oper.mk (some 35) _ _ _ _ _ :: _) _ _); refine app_many el8 (.tmp 18) (.tmp 34) (G.out.fr0 (Fr.alloc S0 wr _)).own (SrcIs.ofOwns (own_row5 wr _ _ _ _ _ _)) rfl rfl rfl rfl rfl (by rw [E5.out]; exact ones _) HR.out.1 ?_; intro p7 c7 w7 own7 g7 at7; rw [E5.out] at own7; have G5 := Lib.hid ((G.out.fr0 (Fr.alloc S0 wr _)).app own7 g7 at7); clear own7 g7 at7; have S5 := Lib.hid (HS.out w7 G5.out.fr))
          | ((with_reducible show wpList _ _ _ (Oper.mk (some 43) _ _ _ _ _ :: _) _ _); refine app_many el8 (.tmp 36) (.tmp 42) G5.out.own S5.out rfl rfl rfl rfl rfl (ones _) HR.out.2 ?_; intro p8 c8 w8 own8 g8 at8; have G6 := Lib.hid (G5.out.app own8 g8 at8); clear own8 g8 at8)
          | fail)
        rw [← HSE.out] at G6
        go_ret
        exact ⟨_, rfl, G6.out.fr, by rw [HEND.out]; exact G6.out.own, G6.out.fresh⟩

set_option maxRecDepth 100000 in
set_option maxHeartbeats 2000000 in
theorem rbest_any (p : Option Addr) (d : Nat) (b : List Nat) (w : World) (hb : SlI w .u8 p b) (h8 : ∀ x ∈ b, x < 256) (hp : p = none → d = 0) (hd : b.length ≤ d) (hL : b.length ≤ 1048576) :
    Calls Try.prog 14 #[.slice p b.length d] w fun e w' => ∃ v, e = .returned v ∧ Fr S0 w w' ∧ RowNew w w' v (bst b) := by
  have HS := Lib.hid (fun w' (f : Fr S0 w w') => rstored_any p d b w' (hb.fr0 f) hp hd hL)
  have HF := Lib.hid (rfixed_text p d b w hb h8 hL)
  have h1 := fxd_length b h8
  have h2 := sto_length b.length b (Nat.le_refl _)
  obtain ⟨m, hm⟩ : ∃ m, b.length = m := ⟨_, rfl⟩
  rw [hm] at HS HF h1 h2 hL ⊢
  have HB : Hid (bst b = if (sto b).length < (fxd b).length then sto b else fxd b) := Lib.hid rfl
  obtain ⟨l1, hl1⟩ : ∃ l, sto b = l := ⟨_, rfl⟩
  obtain ⟨l2, hl2⟩ : ∃ l, fxd b = l := ⟨_, rfl⟩
  rw [hl1] at HS HB h2
  rw [hl2] at HF HB h1
  obtain ⟨n1, hn1⟩ : ∃ n, l1.length = n := ⟨_, rfl⟩
  obtain ⟨n2, hn2⟩ : ∃ n, l2.length = n := ⟨_, rfl⟩
  have HN1 := Lib.hid hn1
  have HN2 := Lib.hid hn2
  rw [hn1] at h2
  rw [hn2] at h1
  rw [hn1, hn2] at HB
  clear hb h8 hp hd hm hl1 hl2 hn1 hn2
  go_enter Try.func14, Try.ntmps14
  go_wp2_with fail
  refine HF.out.mono ?_
  rintro e w1 ⟨v1, rfl, f1, hv1⟩
  obtain ⟨p1, c1, rfl, -, -, -⟩ := slForm hv1.own
  have HV1 := Lib.hid hv1
  have HF1 := Lib.hid f1
  have K := Lib.hid (HS.out w1 f1)
  rw [HN2.out]
  clear hv1 f1 HS HF
  go_wp2_with fail
  refine K.out.mono ?_
  rintro e w2 ⟨v2, rfl, f2, hv2⟩
  obtain ⟨p2, c2, rfl, -, -, -⟩ := slForm hv2.own
  have HV2 := Lib.hid hv2
  have HF2 := Lib.hid f2
  rw [HN1.out]
  clear hv2 f2 K
  by_cases hlt : n1 < n2
  · have hlt' : (n1 : Int) < (n2 : Int) := by omega
    have HE : Hid (bst b = l1) := Lib.hid (by rw [HB.out, if_pos hlt])
    go_wp2_with fail
    go_ret
    refine ⟨.slice p2 n1 c2, rfl, HF1.out.trans0 HF2.out, ?_, ?_⟩
    · rw [HE.out, ← HN1.out]; exact HV2.out.own
    · rw [← HN1.out]; exact fun j hj => Nat.le_trans HF1.out.size (HV2.out.fresh j hj)
  · have hlt' : ¬ (n1 : Int) < (n2 : Int) := by omega
    have HE : Hid (bst b = l2) := Lib.hid (by rw [HB.out, if_neg hlt])
    go_wp2_with fail
    go_ret
    refine ⟨.slice p1 n2 c1, rfl, HF1.out.trans0 HF2.out, ?_, ?_⟩
    · rw [HE.out, ← HN2.out]; exact HF2.out.owns HV1.out.own (fun _ _ h => h)
    · rw [← HN2.out]; exact HV1.out.fresh
end Go.Proofs.Ytfibhgohenkfbaa
