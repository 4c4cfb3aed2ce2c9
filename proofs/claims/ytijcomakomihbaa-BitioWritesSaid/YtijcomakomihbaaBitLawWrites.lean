/- The law of layer 4 on writing. -/
import Derived.Test.YtijcomakomihbaaBitKeep
namespace Go.Proofs.Ytijcomakomihbaa
open Go.RowKit

/-- a step that is written: kind, number, count, a text: where it lies, its bytes, its capacity -/
structure PutV where
  kind : Nat
  num : Nat
  cnt : Int
  at_ : Option Addr
  bytes : List Nat
  cap : Nat
/-- a slice of steps that is read -/
def SlPut (w : World) (p : Option Addr) (n : Nat) (it : Nat → PutV) : Prop :=
  n ≤ maxLen ∧ (0 < n → ∃ b off, p = some ⟨b, off, none⟩ ∧ ∀ i, i < n → w.cell? ⟨b, off + i * 4, none⟩ = some (.int .u8 ((it i).kind : Nat)) ∧ w.cell? ⟨b, off + i * 4 + 1, none⟩ = some (.int .u32 ((it i).num : Nat)) ∧
    w.cell? ⟨b, off + i * 4 + 2, none⟩ = some (.int .i64 (it i).cnt) ∧ w.cell? ⟨b, off + i * 4 + 3, none⟩ = some (.slice (it i).at_ (it i).bytes.length (it i).cap)) ∧
  ∀ i, i < n → (it i).kind < 256 ∧ (it i).num < 4294967296 ∧ SlI w .u8 (it i).at_ (it i).bytes ∧ (∀ x ∈ (it i).bytes, x < 256) ∧ ((it i).at_ = none → (it i).cap = 0) ∧ (it i).bytes.length ≤ (it i).cap
theorem SlPut.fr0 {w w' : World} {n : Nat} {p : Option Addr} {it : Nat → PutV} (h : SlPut w p n it) (hf : Fr S0 w w') : SlPut w' p n it :=
  ⟨h.1, fun hn => let ⟨b, off, hp, hc⟩ := h.2.1 hn; ⟨b, off, hp, fun i hi => let ⟨h0, h1, h2, h3⟩ := hc i hi; ⟨hf.cell h0 (fun h => h), hf.cell h1 (fun h => h), hf.cell h2 (fun h => h), hf.cell h3 (fun h => h)⟩⟩,
    fun i hi => let ⟨a, b, c, d, e, f⟩ := h.2.2 i hi; ⟨a, b, c.fr0 hf, d, e, f⟩⟩

theorem x_c0 {w : World} {g : Nat} {a b c d : Value} {t : TypeId} {fr : Nat × Nat} (h : w.heap[g]? = some (.cells #[a, b, c, d] t fr)) : w.cell? ⟨g, 0, none⟩ = some a := by simp [World.cell?, h]
theorem x_c1 {w : World} {g : Nat} {a b c d : Value} {t : TypeId} {fr : Nat × Nat} (h : w.heap[g]? = some (.cells #[a, b, c, d] t fr)) : w.cell? ⟨g, 1, none⟩ = some b := by simp [World.cell?, h]
theorem x_c2 {w : World} {g : Nat} {a b c d : Value} {t : TypeId} {fr : Nat × Nat} (h : w.heap[g]? = some (.cells #[a, b, c, d] t fr)) : w.cell? ⟨g, 2, none⟩ = some c := by simp [World.cell?, h]
theorem x_c3 {w : World} {g : Nat} {a b c d : Value} {t : TypeId} {fr : Nat × Nat} (h : w.heap[g]? = some (.cells #[a, b, c, d] t fr)) : w.cell? ⟨g, 3, none⟩ = some d := by simp [World.cell?, h]
theorem WrRow.bits {w0 w : World} {g : Nat} {L : List Nat} {v : Value} {xs : List Nat} (h : WrRow w0 w g L v xs) : Bit01 L := by
  obtain ⟨r, h1, -⟩ := h.ex
  exact h1.bits
theorem row_rbytes {w0 w : World} {g m c : Nat} {p : Option Addr} {L : List Nat} (hm : L.length = m) (h : WrRow w0 w g L (.slice p m c) L) (hL : L.length ≤ 1099511627776) :
    Calls Try.prog 19 #[.slice p m c] w fun e w' => ∃ u, e = .returned u ∧ Fr S0 w w' ∧ RowNew w w' u (byt L) := by
  subst hm
  exact rbytes_any p c L w (SlI.ofOwns h.own) h.bits hL (own_form h.own).2
theorem fresh_at {v v' : Value} {B : Nat} (h : v'.ownBlock = v.ownBlock ∨ v'.ownBlock = some B) : v'.ownBlock = v.ownBlock ∨ ∀ k, v'.ownBlock = some k → B ≤ k := by
  rcases h with h | h
  · exact .inl h
  · exact .inr fun k hk => by rw [h, Option.some.injEq] at hk; omega

theorem fit_zero : fitB 0 0 = true := by decide

set_option maxRecDepth 100000 in
set_option maxHeartbeats 4000000 in
theorem law_writes (p : Option Addr) (n d : Nat) (it : Nat → PutV) (w : World) (hl : SlPut w p n it) :
    Calls Try.prog 3 #[.slice p n d] w fun e w' => e = .returned (.bool true) ∧ Fr S0 w w' := by
  have hw := start w
  have hmax := hl.1
  unfold maxLen at hmax
  have HL := Lib.hid hl
  clear hl
  go_enter Try.func3, Try.ntmps3
  go_wp2_with fail
  refine hw _ ?_
  intro w1 g1
  clear hw
  have W2 := Lib.hid (WrNew.zero g1)
  clear g1
  go_wp2
  obtain ⟨g, hg⟩ : ∃ g, w1.heap.size = g := ⟨_, rfl⟩
  rw [hg] at W2 ⊢
  clear hg
  have R2 := Lib.hid (WrRow.ofNew (v := .slice none 0 0) (xs := []) W2.out (Fr.refl S0 _) ⟨World.ownsRow_nil _ _ _ _, fresh_nil _ _⟩)
  clear W2
  go_loopw [4, 5] (fun v i wr => ∃ (j : Nat) (L : List Nat), j ≤ n ∧ j ≤ 60 ∧ i = .int .i64 j ∧ L.length ≤ 5000 * j ∧ WrRow w wr g L v L) (fun _ i _ => 60 - (intOf i).toNat)
  case atStart => exact ⟨0, [], by omega, by omega, rfl, by simp, R2.out⟩
  case round =>
    clear R2
    obtain ⟨j, L, hj, hj60, rfl, hLl, hR⟩ := hrel
    have R := Lib.hid hR
    clear hR
    by_cases hjn : (j : Int) < (n : Int)
    · by_cases hj6 : (j : Int) < 60
      · obtain ⟨b0, o, rfl, hc⟩ := (HL.out.fr0 R.out.fr).2.1 (by omega)
        obtain ⟨c0, c1, c2, c3⟩ := hc j (by omega)
        obtain ⟨hK, hN, hs, hs8, hsn, hsc⟩ := HL.out.2.2 j (by omega)
        obtain ⟨⟨K, N, c, pB, lB, cB⟩, hx⟩ : ∃ x, it j = x := ⟨_, rfl⟩
        rw [hx] at c0 c1 c2 c3 hK hN hs hs8 hsn hsc
        simp only at c0 c1 c2 c3 hK hN hs hs8 hsn hsc
        have HS := Lib.hid hs
        have HS8 := Lib.hid hs8
        have HSN := Lib.hid hsn
        obtain ⟨pA, cA, rfl, hpA, -⟩ := slForm R.out.own
        have HPA := Lib.hid hpA
        clear hc hx hs hs8 hsn hpA
        by_cases hlong : (500 : Int) < (lB.length : Int)
        · have h5 := hlong
          clear hK hlong hsc
          go_wp2_with fail
          go_ret
          exact ⟨rfl, R.out.fr.trans0 (Fr.alloc _ _ _)⟩
        · by_cases hK0 : K % 4 = 0
          · have t0 : ((K : Int) % 4 == 0) = true := by simp; omega
            have t1 : ((K : Int) % 4 == 1) = false := by simp; omega
            clear hK0 hsc
            by_cases hf : fitB N c = true
            · obtain ⟨q, rfl⟩ : ∃ q : Nat, c = q := ⟨c.toNat, by have := of_decide_eq_true hf; omega⟩
              have hq : q ≤ 32 := by have := of_decide_eq_true hf; omega
              have HF := Lib.hid hf
              have HFI := Lib.hid (fun w => rfits_any N q w hN)
              rw [hf] at HFI
              clear hf
              have RK := Lib.hid (WrK.of R.out #[.int .u8 (K : Nat), .int .u32 (N : Nat), .int .i64 (q : Int), .slice pB lB.length cB] 30)
              go_wp2_with fail
              obtain ⟨gx, hgx⟩ : ∃ gx, wr.heap.size = gx := ⟨_, rfl⟩
              rw [hgx] at RK ⊢
              clear hgx R
              refine (k_code RK.out 0 0 (by decide) fit_zero (by omega)).mono ?_
              rintro e w5 ⟨rfl, h5⟩
              rw [show code 0 (0 : Int).toNat = [] from rfl, List.append_nil] at h5
              have R5 := Lib.hid h5
              clear h5 RK
              have x0 := x_c0 R5.out.blk
              have x1 := x_c1 R5.out.blk
              have x2 := x_c2 R5.out.blk
              have x3 := x_c3 R5.out.blk
              go_wp2_with fail
              refine (k_group R5.out N q hN HF.out (by omega)).mono ?_
              rintro e w6 ⟨rfl, h6⟩
              rw [Int.toNat_natCast] at h6
              have R6 := Lib.hid h6
              clear h6 R5 x0 x1 x2 x3
              have x0 := x_c0 R6.out.blk
              have x1 := x_c1 R6.out.blk
              have x2 := x_c2 R6.out.blk
              have x3 := x_c3 R6.out.blk
              go_wp2_with fail
              refine (HFI.out _).mono ?_
              rintro e w' ⟨rfl, rfl⟩
              go_wp2_with fail
              refine (rgrp_any N q w6 hN hq).mono ?_
              rintro e w7 ⟨v7, rfl, f7, hv7⟩
              have R7 := Lib.hid (R6.out.fr0 f7)
              clear f7 R6 x0 x1 x2 x3
              have x0 := x_c0 R7.out.blk
              have x1 := x_c1 R7.out.blk
              have x2 := x_c2 R7.out.blk
              have x3 := x_c3 R7.out.blk
              have hv7' := hv7.own
              rw [grp_length] at hv7'
              have src := SrcIs.ofOwns hv7'
              have R8 := R7
              clear R7 hv7 hv7'
              obtain ⟨m, hm⟩ : ∃ m, L.length + q = m := ⟨_, rfl⟩
              have HM := Lib.hid hm
              have HRM : Hid (Room m) := Lib.hid (Room.mk (by omega))
              have HME : Hid ((L ++ grp N q).length = m) := Lib.hid (by rw [List.length_append, grp_length]; exact hm)
              have HLE : Hid ((L ++ grp N q).length ≤ 5000 * (j + 1)) := Lib.hid (by rw [HME.out]; omega)
              clear hm
              go_wp2_with (first
                | ((with_reducible show wpList _ _ _ (Oper.mk (some 92) _ _ _ _ _ :: _) _ _); refine app_many el8 (.tmp 90) (.tmp 91) R8.out.own src HM.out rfl rfl rfl rfl (one8s _) HRM.out ?_; intro pE cE wE ownE gE atE; rw [u8s_append, ← HME.out] at ownE; have RE := Lib.hid (WrK.app (zs := L ++ grp N q) (v' := .slice pE m cE) R8.out (Fr.refl S0 w7) gE (by rw [← HME.out]; exact ownE) (fresh_at atE)); clear ownE gE atE)
                | fail)
              have RD := Lib.hid (RE.out.row.fr0 (Fr.drew S0 wE))
              have hL40 : (L ++ grp N q).length ≤ 400000 := by have := HLE.out; omega
              have HL40 := Lib.hid hL40
              clear hL40
              go_region_law (first
                | (go_simp; go_at_call 17; refine (row_len RD.out).mono ?_; rintro e w' ⟨rfl, rfl⟩; rw [HME.out]; dsimp only)
                | (go_simp; go_at_call 18; refine (row_bytes RD.out (by have := HL40.out; omega)).mono ?_; rintro e w10 ⟨u, rfl, f10, hu⟩; have R10 := Lib.hid (RD.out.fr0 f10); have ku := conv_own hu.own; have HU := Lib.hid hu; clear hu f10; dsimp only)
                | (go_simp; go_at_call 19; refine (row_rbytes HME.out R10.out (by have := HL40.out; omega)).mono ?_; rintro e w11 ⟨u2, rfl, f11, hu2⟩; have R11 := Lib.hid (R10.out.fr0 f11); have kw := conv_own hu2.own; have ku := conv_own (f11.owns HU.out.own (fun _ _ h => h)); clear hu2 f11; dsimp only))
              all_goals
                go_wp2
                go_roundw
                case rel => exact ⟨j + 1, L ++ grp N q, by omega, by omega, by go_num, HLE.out, R11.out⟩
                case measure => simp [intOf]; omega
            · rw [Bool.not_eq_true] at hf
              have HF := Lib.hid hf
              have HFI := Lib.hid (fun w => rfits_any N c w hN)
              rw [hf] at HFI
              clear hf
              have RK := Lib.hid (WrK.of R.out #[.int .u8 (K : Nat), .int .u32 (N : Nat), .int .i64 c, .slice pB lB.length cB] 30)
              go_wp2_with fail
              obtain ⟨gx, hgx⟩ : ∃ gx, wr.heap.size = gx := ⟨_, rfl⟩
              rw [hgx] at RK ⊢
              clear hgx R
              refine (k_code RK.out 0 0 (by decide) fit_zero (by omega)).mono ?_
              rintro e w5 ⟨rfl, h5⟩
              rw [show code 0 (0 : Int).toNat = [] from rfl, List.append_nil] at h5
              have R5 := Lib.hid h5
              clear h5 RK
              have x0 := x_c0 R5.out.blk
              have x1 := x_c1 R5.out.blk
              have x2 := x_c2 R5.out.blk
              have x3 := x_c3 R5.out.blk
              go_wp2_with fail
              refine (group_no g N c w5 HF.out).mono ?_
              rintro e w' ⟨rfl, rfl⟩
              go_wp2_with fail
              refine (HFI.out _).mono ?_
              rintro e w' ⟨rfl, rfl⟩
              go_wp2_with fail
              have RE := R5
              have HME : Hid (L.length = L.length) := Lib.hid rfl
              have HLE : Hid (L.length ≤ 5000 * (j + 1)) := Lib.hid (by omega)
              clear R5 x0 x1 x2 x3
              have RD := Lib.hid (RE.out.row.fr0 (Fr.drew S0 w5))
              have hL40 : (L).length ≤ 400000 := by have := HLE.out; omega
              have HL40 := Lib.hid hL40
              clear hL40
              go_region_law (first
                | (go_simp; go_at_call 17; refine (row_len RD.out).mono ?_; rintro e w' ⟨rfl, rfl⟩; rw [HME.out]; dsimp only)
                | (go_simp; go_at_call 18; refine (row_bytes RD.out (by have := HL40.out; omega)).mono ?_; rintro e w10 ⟨u, rfl, f10, hu⟩; have R10 := Lib.hid (RD.out.fr0 f10); have ku := conv_own hu.own; have HU := Lib.hid hu; clear hu f10; dsimp only)
                | (go_simp; go_at_call 19; refine (row_rbytes HME.out R10.out (by have := HL40.out; omega)).mono ?_; rintro e w11 ⟨u2, rfl, f11, hu2⟩; have R11 := Lib.hid (R10.out.fr0 f11); have kw := conv_own hu2.own; have ku := conv_own (f11.owns HU.out.own (fun _ _ h => h)); clear hu2 f11; dsimp only))
              all_goals
                go_wp2
                go_roundw
                case rel => exact ⟨j + 1, L, by omega, by omega, by go_num, HLE.out, R11.out⟩
                case measure => simp [intOf]; omega
          · by_cases hK1 : K % 4 = 1
            · have t0 : ((K : Int) % 4 == 0) = false := by simp; omega
              have t1 : ((K : Int) % 4 == 1) = true := by simp; omega
              clear hK1 hsc
              by_cases hf : fitB N c = true
              · obtain ⟨q, rfl⟩ : ∃ q : Nat, c = q := ⟨c.toNat, by have := of_decide_eq_true hf; omega⟩
                have hq : q ≤ 32 := by have := of_decide_eq_true hf; omega
                have HF := Lib.hid hf
                have HFI := Lib.hid (fun w => rfits_any N q w hN)
                rw [hf] at HFI
                clear hf
                have RK := Lib.hid (WrK.of R.out #[.int .u8 (K : Nat), .int .u32 (N : Nat), .int .i64 (q : Int), .slice pB lB.length cB] 30)
                go_wp2_with fail
                obtain ⟨gx, hgx⟩ : ∃ gx, wr.heap.size = gx := ⟨_, rfl⟩
                rw [hgx] at RK ⊢
                clear hgx R
                refine (k_code RK.out 0 0 (by decide) fit_zero (by omega)).mono ?_
                rintro e w5 ⟨rfl, h5⟩
                rw [show code 0 (0 : Int).toNat = [] from rfl, List.append_nil] at h5
                have R5 := Lib.hid h5
                clear h5 RK
                have x0 := x_c0 R5.out.blk
                have x1 := x_c1 R5.out.blk
                have x2 := x_c2 R5.out.blk
                have x3 := x_c3 R5.out.blk
                go_wp2_with fail
                refine (k_code R5.out N q hN HF.out (by omega)).mono ?_
                rintro e w6 ⟨rfl, h6⟩
                rw [Int.toNat_natCast] at h6
                have R6 := Lib.hid h6
                clear h6 R5 x0 x1 x2 x3
                have x0 := x_c0 R6.out.blk
                have x1 := x_c1 R6.out.blk
                have x2 := x_c2 R6.out.blk
                have x3 := x_c3 R6.out.blk
                go_wp2_with fail
                refine (HFI.out _).mono ?_
                rintro e w' ⟨rfl, rfl⟩
                go_wp2_with fail
                refine (rgrp_any N q w6 hN hq).mono ?_
                rintro e w7 ⟨v7, rfl, f7, hv7⟩
                have R7 := Lib.hid (R6.out.fr0 f7)
                clear f7 R6 x0 x1 x2 x3
                have x0 := x_c0 R7.out.blk
                have x1 := x_c1 R7.out.blk
                have x2 := x_c2 R7.out.blk
                have x3 := x_c3 R7.out.blk
                obtain ⟨p7, c7, rfl, -⟩ := slForm hv7.own
                have hT := rturned_any p7 c7 (grp N q) w7 (SlI.ofOwns hv7.own) (by rw [grp_length]; omega)
                rw [grp_length] at hT
                have HT := Lib.hid hT
                rw [grp_length]
                clear hT hv7
                go_wp2_with fail
                refine HT.out.mono ?_
                rintro e w8 ⟨v8, rfl, f8, hv8⟩
                have R8 := Lib.hid (R7.out.fr0 f8)
                have hv8' := hv8.own
                rw [show (grp N q).reverse = code N q from rfl, code_length] at hv8'
                have src := SrcIs.ofOwns hv8'
                clear f8 R7 hv8 hv8' HT x0 x1 x2 x3
                obtain ⟨m, hm⟩ : ∃ m, L.length + q = m := ⟨_, rfl⟩
                have HM := Lib.hid hm
                have HRM : Hid (Room m) := Lib.hid (Room.mk (by omega))
                have HME : Hid ((L ++ code N q).length = m) := Lib.hid (by rw [List.length_append, code_length]; exact hm)
                have HLE : Hid ((L ++ code N q).length ≤ 5000 * (j + 1)) := Lib.hid (by rw [HME.out]; omega)
                clear hm
                go_wp2_with (first
                  | ((with_reducible show wpList _ _ _ (Oper.mk (some 92) _ _ _ _ _ :: _) _ _); refine app_many el8 (.tmp 90) (.tmp 91) R8.out.own src HM.out rfl rfl rfl rfl (one8s _) HRM.out ?_; intro pE cE wE ownE gE atE; rw [u8s_append, ← HME.out] at ownE; have RE := Lib.hid (WrK.app (zs := L ++ code N q) (v' := .slice pE m cE) R8.out (Fr.refl S0 w8) gE (by rw [← HME.out]; exact ownE) (fresh_at atE)); clear ownE gE atE)
                  | fail)
                have RD := Lib.hid (RE.out.row.fr0 (Fr.drew S0 wE))
                have hL40 : (L ++ code N q).length ≤ 400000 := by have := HLE.out; omega
                have HL40 := Lib.hid hL40
                clear hL40
                go_region_law (first
                  | (go_simp; go_at_call 17; refine (row_len RD.out).mono ?_; rintro e w' ⟨rfl, rfl⟩; rw [HME.out]; dsimp only)
                  | (go_simp; go_at_call 18; refine (row_bytes RD.out (by have := HL40.out; omega)).mono ?_; rintro e w10 ⟨u, rfl, f10, hu⟩; have R10 := Lib.hid (RD.out.fr0 f10); have ku := conv_own hu.own; have HU := Lib.hid hu; clear hu f10; dsimp only)
                  | (go_simp; go_at_call 19; refine (row_rbytes HME.out R10.out (by have := HL40.out; omega)).mono ?_; rintro e w11 ⟨u2, rfl, f11, hu2⟩; have R11 := Lib.hid (R10.out.fr0 f11); have kw := conv_own hu2.own; have ku := conv_own (f11.owns HU.out.own (fun _ _ h => h)); clear hu2 f11; dsimp only))
                all_goals
                  go_wp2
                  go_roundw
                  case rel => exact ⟨j + 1, L ++ code N q, by omega, by omega, by go_num, HLE.out, R11.out⟩
                  case measure => simp [intOf]; omega
              · rw [Bool.not_eq_true] at hf
                have HF := Lib.hid hf
                have HFI := Lib.hid (fun w => rfits_any N c w hN)
                rw [hf] at HFI
                clear hf
                have RK := Lib.hid (WrK.of R.out #[.int .u8 (K : Nat), .int .u32 (N : Nat), .int .i64 c, .slice pB lB.length cB] 30)
                go_wp2_with fail
                obtain ⟨gx, hgx⟩ : ∃ gx, wr.heap.size = gx := ⟨_, rfl⟩
                rw [hgx] at RK ⊢
                clear hgx R
                refine (k_code RK.out 0 0 (by decide) fit_zero (by omega)).mono ?_
                rintro e w5 ⟨rfl, h5⟩
                rw [show code 0 (0 : Int).toNat = [] from rfl, List.append_nil] at h5
                have R5 := Lib.hid h5
                clear h5 RK
                have x0 := x_c0 R5.out.blk
                have x1 := x_c1 R5.out.blk
                have x2 := x_c2 R5.out.blk
                have x3 := x_c3 R5.out.blk
                go_wp2_with fail
                refine (code_no g N c w5 HF.out).mono ?_
                rintro e w' ⟨rfl, rfl⟩
                go_wp2_with fail
                refine (HFI.out _).mono ?_
                rintro e w' ⟨rfl, rfl⟩
                go_wp2_with fail
                have RE := R5
                have HME : Hid (L.length = L.length) := Lib.hid rfl
                have HLE : Hid (L.length ≤ 5000 * (j + 1)) := Lib.hid (by omega)
                clear R5 x0 x1 x2 x3
                have RD := Lib.hid (RE.out.row.fr0 (Fr.drew S0 w5))
                have hL40 : (L).length ≤ 400000 := by have := HLE.out; omega
                have HL40 := Lib.hid hL40
                clear hL40
                go_region_law (first
                  | (go_simp; go_at_call 17; refine (row_len RD.out).mono ?_; rintro e w' ⟨rfl, rfl⟩; rw [HME.out]; dsimp only)
                  | (go_simp; go_at_call 18; refine (row_bytes RD.out (by have := HL40.out; omega)).mono ?_; rintro e w10 ⟨u, rfl, f10, hu⟩; have R10 := Lib.hid (RD.out.fr0 f10); have ku := conv_own hu.own; have HU := Lib.hid hu; clear hu f10; dsimp only)
                  | (go_simp; go_at_call 19; refine (row_rbytes HME.out R10.out (by have := HL40.out; omega)).mono ?_; rintro e w11 ⟨u2, rfl, f11, hu2⟩; have R11 := Lib.hid (R10.out.fr0 f11); have kw := conv_own hu2.own; have ku := conv_own (f11.owns HU.out.own (fun _ _ h => h)); clear hu2 f11; dsimp only))
                all_goals
                  go_wp2
                  go_roundw
                  case rel => exact ⟨j + 1, L, by omega, by omega, by go_num, HLE.out, R11.out⟩
                  case measure => simp [intOf]; omega
            · by_cases hK2 : K % 4 = 2
              · have t0 : ((K : Int) % 4 == 0) = false := by simp; omega
                have t1 : ((K : Int) % 4 == 1) = false := by simp; omega
                have t2 : ((K : Int) % 4 == 2) = true := by simp; omega
                clear hK0 hK1 hK2 hsc
                have RK := Lib.hid (WrK.of R.out #[.int .u8 (K : Nat), .int .u32 (N : Nat), .int .i64 c, .slice pB lB.length cB] 30)
                go_wp2_with fail
                obtain ⟨gx, hgx⟩ : ∃ gx, wr.heap.size = gx := ⟨_, rfl⟩
                rw [hgx] at RK ⊢
                clear hgx R
                refine (k_align RK.out (by omega)).mono ?_
                rintro e w5 ⟨rfl, h5⟩
                have R5 := Lib.hid h5
                clear h5 RK
                go_wp2
                obtain ⟨UP, hUP⟩ : ∃ UP, (L.length + 7) / 8 * 8 = UP := ⟨_, rfl⟩
                have HUP := Lib.hid hUP
                have HALG : Hid (alg L = L ++ List.replicate (UP - L.length) 0) := Lib.hid (by unfold alg; rw [hUP])
                have hUPs : UP ≤ 300010 := by omega
                clear hUP
                go_loopw [4] (fun v wr => ∃ (m : Nat) (pz : Option Addr) (cz : Nat), v = .slice pz m cz ∧ L.length ≤ m ∧ m ≤ UP ∧ WrK w wr g (alg L) (.slice pz m cz) (L ++ List.replicate (m - L.length) 0) gx (.cells #[.int .u8 (K : Nat), .int .u32 (N : Nat), .int .i64 c, .slice pB lB.length cB] 30)) (fun v _ => match v with | .slice _ m _ => UP - m | _ => 0)
                case atStart => exact ⟨L.length, pA, cA, rfl, by omega, by have := HUP.out; omega, by rw [Nat.sub_self, List.replicate_zero, List.append_nil]; exact R5.out⟩
                case round =>
                  obtain ⟨m, pz, cz, rfl, hm1, hm2, hR6⟩ := hrel
                  have R6 := Lib.hid hR6
                  have HMZ : Hid ((L ++ List.replicate (m - L.length) 0).length = m) := Lib.hid (by rw [List.length_append, List.length_replicate]; omega)
                  have own6 := hR6.own
                  rw [HMZ.out] at own6
                  clear hR6
                  by_cases hz : m % 8 = 0
                  · have hzz : ((m : Int) % 8 != 0) = false := by rw [bne_eq_false_iff_eq]; omega
                    have hmU : m = UP := by have := HUP.out; omega
                    have HMU := Lib.hid hmU
                    have HRE : Hid (L ++ List.replicate (m - L.length) 0 = alg L) := Lib.hid (by rw [HALG.out, hmU])
                    clear hz hmU
                    have RE : Hid (WrK w wr g (alg L) (.slice pz m cz) (alg L) gx (.cells #[.int .u8 (K : Nat), .int .u32 (N : Nat), .int .i64 c, .slice pB lB.length cB] 30)) := Lib.hid (by have h := R6.out; rw [HRE.out] at h; exact h)
                    have HME : Hid ((alg L).length = m) := Lib.hid (by rw [← HRE.out]; exact HMZ.out)
                    have HLE : Hid ((alg L).length ≤ 5000 * (j + 1)) := Lib.hid (by rw [HME.out]; have := HUP.out; omega)
                    clear own6 R6 R5
                    go_wp2_with fail
                    have RD := Lib.hid (RE.out.row.fr0 (Fr.drew S0 wr))
                    have hL40 : (alg L).length ≤ 400000 := by have := HLE.out; omega
                    have HL40 := Lib.hid hL40
                    clear hL40
                    go_region_law (first
                      | (go_simp; go_at_call 17; refine (row_len RD.out).mono ?_; rintro e w' ⟨rfl, rfl⟩; rw [HME.out]; dsimp only)
                      | (go_simp; go_at_call 18; refine (row_bytes RD.out (by have := HL40.out; omega)).mono ?_; rintro e w10 ⟨u, rfl, f10, hu⟩; have R10 := Lib.hid (RD.out.fr0 f10); have ku := conv_own hu.own; have HU := Lib.hid hu; clear hu f10; dsimp only)
                      | (go_simp; go_at_call 19; refine (row_rbytes HME.out R10.out (by have := HL40.out; omega)).mono ?_; rintro e w11 ⟨u2, rfl, f11, hu2⟩; have R11 := Lib.hid (R10.out.fr0 f11); have kw := conv_own hu2.own; have ku := conv_own (f11.owns HU.out.own (fun _ _ h => h)); clear hu2 f11; dsimp only))
                    all_goals
                      go_wp2
                      go_roundw
                      case rel => exact ⟨j + 1, alg L, by omega, by omega, by go_num, HLE.out, R11.out⟩
                      case measure => simp [intOf]; omega
                  · have hzz : ((m : Int) % 8 != 0) = true := by rw [bne_iff_ne]; omega
                    have hlt : m + 1 ≤ UP := by have := HUP.out; omega
                    have HRM : Hid (Room (m + 1)) := Lib.hid (Room.mk (by omega))
                    have HREP : Hid (L ++ List.replicate (m + 1 - L.length) 0 = (L ++ List.replicate (m - L.length) 0) ++ [0]) := Lib.hid (by rw [show m + 1 - L.length = (m - L.length) + 1 by omega, List.replicate_succ', List.append_assoc])
                    clear hz
                    rename_i wq
                    go_wp2_with (first
                      | ((with_reducible show wpList _ _ _ (Oper.mk (some 105) _ _ _ _ _ :: _) _ _); refine app_one el8 (.tmp 103) (.tmp 104) rfl own6 rfl rfl rfl rfl rfl one8 HRM.out ?_; intro qE cE wE ownE gE atE ltE; have RE := Lib.hid (WrK.app (zs := L ++ List.replicate (m + 1 - L.length) 0) (v' := .slice (some ⟨qE, 0, none⟩) (m + 1) cE) R6.out (Fr.alloc S0 _ _) gE (by rw [HREP.out, List.length_append, HMZ.out, ← u8s_append]; exact ownE) (by rcases atE with h | h; exact .inl h.symm; exact .inr (fun k hk => by simp only [Value.ownBlock, Option.some.injEq] at hk; omega))); clear ownE gE atE ltE)
                      | fail)
                    go_roundw
                    case rel => exact ⟨m + 1, some ⟨qE, 0, none⟩, cE, rfl, by omega, by omega, RE.out⟩
                    case measure => simp; omega
              · have hK3 : K % 4 = 3 := by omega
                have t0 : ((K : Int) % 4 == 0) = false := by simp; omega
                have t1 : ((K : Int) % 4 == 1) = false := by simp; omega
                have t2 : ((K : Int) % 4 == 2) = false := by simp; omega
                clear hK0 hK1 hK2 hK3 hsc
                have RK := Lib.hid (WrK.of R.out #[.int .u8 (K : Nat), .int .u32 (N : Nat), .int .i64 c, .slice pB lB.length cB] 30)
                go_wp2_with fail
                obtain ⟨gx, hgx⟩ : ∃ gx, wr.heap.size = gx := ⟨_, rfl⟩
                rw [hgx] at RK ⊢
                clear hgx R
                have x0 := x_c0 RK.out.blk
                have x1 := x_c1 RK.out.blk
                have x2 := x_c2 RK.out.blk
                have x3 := x_c3 RK.out.blk
                refine (k_text RK.out pB cB lB (HS.out.fr0 RK.out.fr) HS8.out HSN.out (by omega)).mono ?_
                rintro e w5 ⟨rfl, h5⟩
                have R5 := Lib.hid h5
                clear h5 RK x0 x1 x2 x3
                go_wp2
                obtain ⟨UP, hUP⟩ : ∃ UP, (L.length + 7) / 8 * 8 = UP := ⟨_, rfl⟩
                have HUP := Lib.hid hUP
                have HALG : Hid (alg L = L ++ List.replicate (UP - L.length) 0) := Lib.hid (by unfold alg; rw [hUP])
                have hUPs : UP ≤ 300010 := by omega
                clear hUP
                go_loopw [4] (fun v wr => ∃ (m : Nat) (pz : Option Addr) (cz : Nat), v = .slice pz m cz ∧ L.length ≤ m ∧ m ≤ UP ∧ WrK w wr g (alg L ++ bts lB) (.slice pz m cz) (L ++ List.replicate (m - L.length) 0) gx (.cells #[.int .u8 (K : Nat), .int .u32 (N : Nat), .int .i64 c, .slice pB lB.length cB] 30)) (fun v _ => match v with | .slice _ m _ => UP - m | _ => 0)
                case atStart => exact ⟨L.length, pA, cA, rfl, by omega, by have := HUP.out; omega, by rw [Nat.sub_self, List.replicate_zero, List.append_nil]; exact R5.out⟩
                case round =>
                  obtain ⟨m, pz, cz, rfl, hm1, hm2, hR6⟩ := hrel
                  have R6 := Lib.hid hR6
                  have HMZ : Hid ((L ++ List.replicate (m - L.length) 0).length = m) := Lib.hid (by rw [List.length_append, List.length_replicate]; omega)
                  have own6 := hR6.own
                  rw [HMZ.out] at own6
                  clear hR6
                  by_cases hz : m % 8 = 0
                  · have hzz : ((m : Int) % 8 != 0) = false := by rw [bne_eq_false_iff_eq]; omega
                    have hmU : m = UP := by have := HUP.out; omega
                    have HMU := Lib.hid hmU
                    have HRE : Hid (L ++ List.replicate (m - L.length) 0 = alg L) := Lib.hid (by rw [HALG.out, hmU])
                    clear hz hmU
                    have x3 := x_c3 R6.out.blk
                    go_wp2_with fail
                    refine (rbits_any pB cB lB wr (HS.out.fr0 R6.out.fr) HS8.out (by omega)).mono ?_
                    rintro e w7 ⟨v7, rfl, f7, hv7⟩
                    have R7 := Lib.hid (R6.out.fr0 f7)
                    have own7 := f7.owns own6 (fun _ _ h => h)
                    have hv7' := hv7.own
                    rw [bts_length] at hv7'
                    have src := SrcIs.ofOwns hv7'
                    obtain ⟨M, hM⟩ : ∃ M, m + 8 * lB.length = M := ⟨_, rfl⟩
                    have HMM := Lib.hid hM
                    have HRM : Hid (Room M) := Lib.hid (Room.mk (by omega))
                    have HME : Hid ((alg L ++ bts lB).length = M) := Lib.hid (by rw [List.length_append, bts_length, ← HRE.out, HMZ.out]; exact hM)
                    have HLE : Hid ((alg L ++ bts lB).length ≤ 5000 * (j + 1)) := Lib.hid (by rw [HME.out]; have := HUP.out; omega)
                    clear hM f7 R6 own6 hv7 hv7' x3
                    go_wp2_with (first
                      | ((with_reducible show wpList _ _ _ (Oper.mk (some 49) _ _ _ _ _ :: _) _ _); refine app_many el8 (.tmp 45) (.tmp 48) own7 src HMM.out rfl rfl rfl rfl (one8s _) HRM.out ?_; intro pE cE wE ownE gE atE; rw [u8s_append, HRE.out] at ownE; have RE := Lib.hid (WrK.app (zs := alg L ++ bts lB) (v' := .slice pE M cE) R7.out (Fr.refl S0 w7) gE (by rw [HME.out]; exact ownE) (fresh_at atE)); clear ownE gE atE)
                      | fail)
                    have RD := Lib.hid (RE.out.row.fr0 (Fr.drew S0 wE))
                    have hL40 : (alg L ++ bts lB).length ≤ 400000 := by have := HLE.out; omega
                    have HL40 := Lib.hid hL40
                    clear hL40
                    go_region_law (first
                      | (go_simp; go_at_call 17; refine (row_len RD.out).mono ?_; rintro e w' ⟨rfl, rfl⟩; rw [HME.out]; dsimp only)
                      | (go_simp; go_at_call 18; refine (row_bytes RD.out (by have := HL40.out; omega)).mono ?_; rintro e w10 ⟨u, rfl, f10, hu⟩; have R10 := Lib.hid (RD.out.fr0 f10); have ku := conv_own hu.own; have HU := Lib.hid hu; clear hu f10; dsimp only)
                      | (go_simp; go_at_call 19; refine (row_rbytes HME.out R10.out (by have := HL40.out; omega)).mono ?_; rintro e w11 ⟨u2, rfl, f11, hu2⟩; have R11 := Lib.hid (R10.out.fr0 f11); have kw := conv_own hu2.own; have ku := conv_own (f11.owns HU.out.own (fun _ _ h => h)); clear hu2 f11; dsimp only))
                    all_goals
                      go_wp2
                      go_roundw
                      case rel => exact ⟨j + 1, alg L ++ bts lB, by omega, by omega, by go_num, HLE.out, R11.out⟩
                      case measure => simp [intOf]; omega
                  · have hzz : ((m : Int) % 8 != 0) = true := by rw [bne_iff_ne]; omega
                    have hlt : m + 1 ≤ UP := by have := HUP.out; omega
                    have HRM : Hid (Room (m + 1)) := Lib.hid (Room.mk (by omega))
                    have HREP : Hid (L ++ List.replicate (m + 1 - L.length) 0 = (L ++ List.replicate (m - L.length) 0) ++ [0]) := Lib.hid (by rw [show m + 1 - L.length = (m - L.length) + 1 by omega, List.replicate_succ', List.append_assoc])
                    clear hz
                    rename_i wq
                    go_wp2_with (first
                      | ((with_reducible show wpList _ _ _ (Oper.mk (some 44) _ _ _ _ _ :: _) _ _); refine app_one el8 (.tmp 42) (.tmp 43) rfl own6 rfl rfl rfl rfl rfl one8 HRM.out ?_; intro qE cE wE ownE gE atE ltE; have RE := Lib.hid (WrK.app (zs := L ++ List.replicate (m + 1 - L.length) 0) (v' := .slice (some ⟨qE, 0, none⟩) (m + 1) cE) R6.out (Fr.alloc S0 _ _) gE (by rw [HREP.out, List.length_append, HMZ.out, ← u8s_append]; exact ownE) (by rcases atE with h | h; exact .inl h.symm; exact .inr (fun k hk => by simp only [Value.ownBlock, Option.some.injEq] at hk; omega))); clear ownE gE atE ltE)
                      | fail)
                    go_roundw
                    case rel => exact ⟨m + 1, some ⟨qE, 0, none⟩, cE, rfl, by omega, by omega, RE.out⟩
                    case measure => simp; omega
      · go_wp2
        go_ret
        exact ⟨rfl, R.out.fr⟩
    · go_wp2
      go_ret
      exact ⟨rfl, R.out.fr⟩
end Go.Proofs.Ytijcomakomihbaa
