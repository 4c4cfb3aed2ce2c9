/- The law on tables that have summed much. -/
import Derived.Test.YtbffdgeocacigaaCrcLawJoins
import Derived.Test.YtbffdgeocacigaaOpenRows
import Derived.Deep.RegionHeld3
namespace Go.Proofs.Ytbffdgeocacigaa
open Go.RowKit

set_option maxRecDepth 100000 in
set_option maxHeartbeats 1000000 in
theorem law_own (C : CrcCode) (p : Option Addr) (d : Nat) (rs : List (Option Addr × List Nat × Nat)) (w : World) (hl : SlRows w .u8 256 p rs) :
    Calls Try.prog 7 #[.slice p rs.length d] w fun e w' => e = .returned (.bool true) ∧ Fr S0 w w' := by
  have hlen := hl.1
  unfold maxLen at hlen
  have start : ∀ R, (∀ w1, Fr S0 w w1 → R (.returned (.bool true)) w1) → Calls Try.prog 8 #[] w R := fun R h => (alive_any C w).mono fun e w1 he => by rw [he.1]; exact h w1 he.2
  go_enter Try.func7, Try.ntmps7
  go_wp2_with fail
  refine start _ ?_
  intro w1 f1
  go_wp2_with fail
  refine (C.new_ _).mono ?_
  rintro e w2 ⟨b, rfl, f2, t2⟩
  have g2 := f1.trans0 f2
  clear f1 f2
  go_wp2_with fail
  go_loopw [4] (fun i wr => ∃ k : Nat, k ≤ rs.length ∧ i = .int .i64 k ∧ Fr S0 w wr ∧ TabIs wr b) (fun i _ => rs.length - (intOf i).toNat)
  case atStart => exact ⟨0, by omega, rfl, g2, t2⟩
  case round =>
    obtain ⟨k, hk, rfl, g3, t3⟩ := hrel
    by_cases h1 : (k : Int) < (rs.length : Int)
    · by_cases h2 : (k : Int) < 40
      · have hk1 : k < rs.length := by omega
        obtain ⟨bl, ol, rfl, hcell⟩ := (hl.fr0 g3).at k hk1
        obtain ⟨hs, hb, hp, -⟩ := (hl.fr0 g3).2.2 rs[k] (List.getElem_mem hk1)
        obtain ⟨⟨q, m, c⟩, hr⟩ : ∃ r, rs[k] = r := ⟨_, rfl⟩
        rw [hr] at hcell hs hb hp
        simp only at hcell hs hb hp
        have HB := Lib.hid hb
        have HP := Lib.hid hp
        clear hr hb hp
        by_cases h3 : (2000 : Int) < (m.length : Int)
        · go_wp2
          go_ret
          exact ⟨rfl, g3⟩
        · have R1 : Hid (Room m.length) := Lib.hid (Room.mk (by omega))
          have hcell2 : (wr.alloc (.cells #[] 5)).cell? ⟨bl, ol + k, none⟩ = some (.slice q m.length c) := (Fr.alloc S0 wr _).cell hcell (fun h => h)
          go_wp2_with ((with_reducible show wpList _ _ _ (Oper.mk (some 30) _ _ _ _ _ :: _) _ _); refine app_many el8 (.tmp 25) (.tmp 29) (own_none wr _) (SrcIs.ofSl (hs.fr0 (Fr.alloc S0 wr _)) HP.out) (Nat.zero_add _) rfl rfl rfl rfl (ones _) R1.out ?_; intro p4 c4 w4 own4 g4 at4; have f4 := fr_made (Fr.refl S0 wr) g4; clear g4 at4)
          rw [List.nil_append] at own4
          have hcell4 := f4.cell hcell (fun h => h)
          have hs4 := hs.fr0 f4
          have hold : ∀ w', Fr S0 w4 w' → w'.cell? ⟨bl, ol + k, none⟩ = some (.slice q m.length c) ∧ (convert 23 9 (.slice p4 m.length c4)).run Try.prog w' = .ok (.string (strB m)) w' ∧
              (convert 23 9 (.slice q m.length c)).run Try.prog w' = .ok (.string (strB m)) w' := fun w' h =>
            ⟨h.cell hcell4 (fun h => h), conv_own (h.owns own4 (fun _ _ h => h)), by have := conv_sl (hs4.fr0 h) m.length c (Nat.le_refl _); rwa [List.take_length] at this⟩
          have HOLD := Lib.hid hold
          have HSUM := Lib.hid (fun b w (h : TabIs w b) (hf : Fr S0 w4 w) => C.sum_ b q c m w h (hs4.fr0 hf) HB.out)
          have HSUX := Lib.hid (fun b w (h : TabIs w b) (hf : Fr S0 w4 w) => C.sum_ b p4 c4 m w h ((SlI.ofOwns own4).fr0 hf) HB.out)
          have hstart := hold _ (Fr.drew S0 w4)
          clear hold
          go_wp2
          refine wp_region_noPanic ?_
          refine wp_region_held_drew (S := fun w' => w'.cell? ⟨bl, ol + k, none⟩ = some (.slice q m.length c) ∧ (convert 23 9 (.slice p4 m.length c4)).run Try.prog w' = .ok (.string (strB m)) w' ∧
              (convert 23 9 (.slice q m.length c)).run Try.prog w' = .ok (.string (strB m)) w') (by kernel_rfl) hstart (fun hHeld => ?_)
          refine wpAnyH_take (i := 0) (oi := Oper.mk (some 31) _ _ _ _ _) (v := ?_) rfl (by kernel_rfl) (by kernel_rfl) (by kernel_rfl) (fun _ _ _ h => h) (Or.inl ⟨by rfl, ?_⟩) (by assumption) ?_
          rotate_left
          · (intro w hSw; (try dsimp only at hSw); go_simp <;> with_reducible rfl)
          simp only [Act.put, List.setIfInBounds_toArray, List.set_cons_zero, List.set_cons_succ]
          refine wpAnyH_take (i := 1) (oi := Oper.mk (some 32) _ _ _ _ _) (v := ?_) rfl (by kernel_rfl) (by kernel_rfl) (by kernel_rfl) (fun _ _ _ h => h) (Or.inl ⟨by rfl, ?_⟩) (by assumption) ?_
          rotate_left
          · (intro w hSw; (try dsimp only at hSw); go_simp <;> with_reducible rfl)
          simp only [Act.put, List.setIfInBounds_toArray, List.set_cons_zero, List.set_cons_succ]
          refine wpAnyH_take (i := 2) (oi := Oper.mk (some 33) _ _ _ _ _) (v := ?_) rfl (by kernel_rfl) (by kernel_rfl) (by kernel_rfl) (fun _ _ _ h => h) (Or.inl ⟨by rfl, ?_⟩) (by assumption) ?_
          rotate_left
          · (intro w hSw; (try dsimp only at hSw); go_simp <;> with_reducible rfl)
          simp only [Act.put, List.setIfInBounds_toArray, List.set_cons_zero, List.set_cons_succ]
          refine wpAnyH_take (i := 3) (oi := Oper.mk (some 34) _ _ _ _ _) (v := ?_) rfl (by kernel_rfl) (by kernel_rfl) (by kernel_rfl) (fun _ _ _ h => h) (Or.inl ⟨by rfl, ?_⟩) (by assumption) ?_
          rotate_left
          · (intro w hSw; (try dsimp only at hSw); go_simp <;> with_reducible rfl)
          simp only [Act.put, List.setIfInBounds_toArray, List.set_cons_zero, List.set_cons_succ]
          refine wpAnyH_take (i := 4) (oi := Oper.mk (some 35) _ _ _ _ _) (v := ?_) rfl (by kernel_rfl) (by kernel_rfl) (by kernel_rfl) (fun _ _ _ h => h) (Or.inl ⟨by rfl, ?_⟩) (by assumption) ?_
          rotate_left
          · (intro w hSw; (try dsimp only at hSw); go_simp <;> with_reducible rfl)
          simp only [Act.put, List.setIfInBounds_toArray, List.set_cons_zero, List.set_cons_succ]
          refine wpAnyH_take (i := 7) (oi := Oper.mk (some 38) _ _ _ _ _) (v := ?_) rfl (by kernel_rfl) (by kernel_rfl) (by kernel_rfl) (fun _ _ _ h => h) (Or.inl ⟨by rfl, ?_⟩) (by assumption) ?_
          rotate_left
          · (intro w hSw; (try dsimp only at hSw); go_simp <;> with_reducible rfl)
          simp only [Act.put, List.setIfInBounds_toArray, List.set_cons_zero, List.set_cons_succ]
          refine wpAnyH_ready (rs := [5]) (by kernel_rfl) (by simp) (AllReadyH.cons (o := Oper.mk (some 36) _ _ _ _ _) rfl (fun K hK => ?_) AllReadyH.nil)
          go_simp
          refine (HSUM.out _ _ ((t3.fr f4).fr (Fr.drew S0 w4)) (Fr.drew S0 w4)).mono ?_
          rintro e w5 ⟨rfl, f5⟩
          have k5 := (Fr.drew S0 w4).trans0 f5
          refine hK.out _ _ (HOLD.out _ k5) (fun _ => ?_)
          clear hK K
          try simp only [Act.put, List.setIfInBounds_toArray, List.set_cons_zero, List.set_cons_succ]
          refine wpAnyH_ready (rs := [6]) (by kernel_rfl) (by simp) (AllReadyH.cons (o := Oper.mk (some 37) _ _ _ _ _) rfl (fun K hK => ?_) AllReadyH.nil)
          go_simp
          refine (C.new_ _).mono ?_
          rintro e w6 ⟨b2, rfl, f6, t6⟩
          have k6 := k5.trans0 f6
          refine hK.out _ _ (HOLD.out _ k6) (fun _ => ?_)
          clear hK K
          try simp only [Act.put, List.setIfInBounds_toArray, List.set_cons_zero, List.set_cons_succ]
          refine wpAnyH_ready (rs := [8]) (by kernel_rfl) (by simp) (AllReadyH.cons (o := Oper.mk (some 39) _ _ _ _ _) rfl (fun K hK => ?_) AllReadyH.nil)
          go_simp
          refine (HSUX.out _ _ t6 k6).mono ?_
          rintro e w7 ⟨rfl, f7⟩
          have k7 := k6.trans0 f7
          refine hK.out _ _ (HOLD.out _ k7) (fun _ => ?_)
          clear hK K
          try simp only [Act.put, List.setIfInBounds_toArray, List.set_cons_zero, List.set_cons_succ]
          refine wpAnyH_take (i := 9) (oi := Oper.mk (some 40) _ _ _ _ _) (v := ?_) rfl (by kernel_rfl) (by kernel_rfl) (by kernel_rfl) (fun _ _ _ h => h) (Or.inl ⟨by rfl, ?_⟩) (by assumption) ?_
          rotate_left
          · (intro w hSw; (try dsimp only at hSw); go_simp <;> with_reducible rfl)
          simp only [Act.put, List.setIfInBounds_toArray, List.set_cons_zero, List.set_cons_succ]
          refine wpAnyH_take (i := 10) (oi := Oper.mk (some 41) _ _ _ _ _) (v := ?_) rfl (by kernel_rfl) (by kernel_rfl) (by kernel_rfl) (fun _ _ _ h => h) (Or.inl ⟨by rfl, ?_⟩) (by assumption) ?_
          rotate_left
          · (intro w hSw; (try dsimp only at hSw); go_simp <;> with_reducible rfl)
          simp only [Act.put, List.setIfInBounds_toArray, List.set_cons_zero, List.set_cons_succ]
          refine wpAnyH_take (i := 11) (oi := Oper.mk (some 42) _ _ _ _ _) (v := ?_) rfl (by kernel_rfl) (by kernel_rfl) (by kernel_rfl) (fun _ _ _ h => h) (Or.inl ⟨by rfl, ?_⟩) (by assumption) ?_
          rotate_left
          · (intro w hSw; (try dsimp only at hSw); go_simp <;> with_reducible rfl)
          simp only [Act.put, List.setIfInBounds_toArray, List.set_cons_zero, List.set_cons_succ]
          refine wpAnyH_take (i := 12) (oi := Oper.mk (some 43) _ _ _ _ _) (v := ?_) rfl (by kernel_rfl) (by kernel_rfl) (by kernel_rfl) (fun _ _ _ h => h) (Or.inl ⟨by rfl, ?_⟩) (by assumption) ?_
          rotate_left
          · (intro w hSw; (try dsimp only at hSw); go_simp <;> with_reducible rfl)
          simp only [Act.put, List.setIfInBounds_toArray, List.set_cons_zero, List.set_cons_succ]
          refine wpAnyH_take (i := 13) (oi := Oper.mk (some 44) _ _ _ _ _) (v := ?_) rfl (by kernel_rfl) (by kernel_rfl) (by kernel_rfl) (fun _ _ _ h => h) (Or.inl ⟨by rfl, ?_⟩) (by assumption) ?_
          rotate_left
          · (intro w hSw; (try dsimp only at hSw); go_simp <;> with_reducible rfl)
          simp only [Act.put, List.setIfInBounds_toArray, List.set_cons_zero, List.set_cons_succ]
          refine wpAnyH_take (i := 14) (oi := Oper.mk (some 45) _ _ _ _ _) (v := ?_) rfl (by kernel_rfl) (by kernel_rfl) (by kernel_rfl) (fun _ _ _ h => h) (Or.inl ⟨by rfl, ?_⟩) (by assumption) ?_
          rotate_left
          · (intro w hSw; (try dsimp only at hSw); go_simp <;> with_reducible rfl)
          simp only [Act.put, List.setIfInBounds_toArray, List.set_cons_zero, List.set_cons_succ]
          refine wpAnyH_take (i := 15) (oi := Oper.mk (some 46) _ _ _ _ _) (v := ?_) rfl (by kernel_rfl) (by kernel_rfl) (by kernel_rfl) (fun _ _ _ h => h) (Or.inl ⟨by rfl, ?_⟩) (by assumption) ?_
          rotate_left
          · (intro w hSw; (try dsimp only at hSw); go_simp <;> with_reducible rfl)
          simp only [Act.put, List.setIfInBounds_toArray, List.set_cons_zero, List.set_cons_succ]
          refine wpAnyH_take (i := 16) (oi := Oper.mk (some 47) _ _ _ _ _) (v := ?_) rfl (by kernel_rfl) (by kernel_rfl) (by kernel_rfl) (fun _ _ _ h => h) (Or.inl ⟨by rfl, ?_⟩) (by assumption) ?_
          rotate_left
          · (intro w hSw; (try dsimp only at hSw); go_simp <;> with_reducible rfl)
          simp only [Act.put, List.setIfInBounds_toArray, List.set_cons_zero, List.set_cons_succ]
          refine wpAnyH_take (i := 17) (oi := Oper.mk (some 48) _ _ _ _ _) (v := ?_) rfl (by kernel_rfl) (by kernel_rfl) (by kernel_rfl) (fun _ _ _ h => h) (Or.inl ⟨by rfl, ?_⟩) (by assumption) ?_
          rotate_left
          · (intro w hSw; (try dsimp only at hSw); go_simp <;> with_reducible rfl)
          simp only [Act.put, List.setIfInBounds_toArray, List.set_cons_zero, List.set_cons_succ]
          refine wpAnyH_take (i := 18) (oi := Oper.mk (some 49) _ _ _ _ _) (v := ?_) rfl (by kernel_rfl) (by kernel_rfl) (by kernel_rfl) (fun _ _ _ h => h) (Or.inl ⟨by rfl, ?_⟩) (by assumption) ?_
          rotate_left
          · (intro w hSw; (try dsimp only at hSw); go_simp <;> with_reducible rfl)
          simp only [Act.put, List.setIfInBounds_toArray, List.set_cons_zero, List.set_cons_succ]
          refine wpAnyH_take (i := 19) (oi := Oper.mk (some 50) _ _ _ _ _) (v := ?_) rfl (by kernel_rfl) (by kernel_rfl) (by kernel_rfl) (fun _ _ _ h => h) (Or.inl ⟨by rfl, ?_⟩) (by assumption) ?_
          rotate_left
          · (intro w hSw; (try dsimp only at hSw); go_simp <;> with_reducible rfl)
          simp only [Act.put, List.setIfInBounds_toArray, List.set_cons_zero, List.set_cons_succ]
          refine wpAnyH_done (by kernel_rfl) ?_ _
          refine NoPanic.normal ?_
          go_wp2
          go_roundw
          case rel => exact ⟨k + 1, by omega, by go_num, (g3.trans0 f4).trans0 k7, (t3.fr f4).fr k7⟩
          case measure => simp [intOf]; omega
      · go_wp2
        go_ret
        exact ⟨rfl, g3⟩
    · obtain rfl : k = rs.length := by omega
      go_wp2
      go_ret
      exact ⟨rfl, g3⟩
end Go.Proofs.Ytbffdgeocacigaa
