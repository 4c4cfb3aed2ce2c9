/- The law of layer 4 on reading. -/
import Derived.Test.YtijcomakomihbaaBitRow
namespace Go.Proofs.Ytijcomakomihbaa
open Go.RowKit

/-- a reader and a row of bytes, both younger than w0 -/
structure RdRow (w0 w : World) (g : Nat) (r : Option Nat) (b : List Nat) (k : Nat) (v : Value) (xs : List Nat) : Prop where
  rd : RdIs w g r b k
  fr : Fr S0 w0 w
  new : w0.heap.size ≤ g
  newr : ∀ j, r = some j → w0.heap.size ≤ j
  own : w.ownsRow 0 5 1 v xs.length (u8s xs)
  fresh : Fresh w0 v
  sep : ∀ j, v.ownBlock = some j → j ≠ g ∧ r ≠ some j
theorem RdRow.of {w0 w1 w2 : World} {g : Nat} {r : Option Nat} {b : List Nat} {k : Nat} {v : Value} {xs : List Nat} (hf : Fr S0 w0 w1) (hv : w1.ownsRow 0 5 1 v xs.length (u8s xs)) (hfv : Fresh w0 v) (hr : RdNew w1 w2 g r b k) : RdRow w0 w2 g r b k v xs := by
  obtain ⟨h1, f, hg, hrn⟩ := hr
  have hs := hf.size
  refine ⟨h1, hf.trans0 f, by omega, fun j hj => by have := hrn j hj; omega, f.owns hv (fun _ _ h => h), hfv, fun j hj => ?_⟩
  have := (hv.lt j hj).2
  exact ⟨by omega, fun e => by have := hrn j e; omega⟩
theorem RdRow.fr0 {w0 w w' : World} {g : Nat} {r : Option Nat} {b : List Nat} {k : Nat} {v : Value} {xs : List Nat} (h : RdRow w0 w g r b k v xs) (hf : Fr S0 w w') : RdRow w0 w' g r b k v xs :=
  ⟨h.rd.fr0 hf, h.fr.trans0 hf, h.new, h.newr, hf.owns h.own (fun _ _ h => h), h.fresh, h.sep⟩
theorem RdRow.to {w0 w w' : World} {g : Nat} {r : Option Nat} {b : List Nat} {k k' : Nat} {v : Value} {xs : List Nat} (h : RdRow w0 w g r b k v xs) (ht : RdTo w w' g r b k') : RdRow w0 w' g r b k' v xs :=
  ⟨ht.1, h.fr.trans ht.2 (fun j hj e => by have := h.new; omega), h.new, h.newr, ht.2.owns h.own (fun j hj e => (h.sep j hj).1 e), h.fresh, h.sep⟩
theorem RdRow.set {w0 w : World} {g q c : Nat} {r : Option Nat} {b : List Nat} {k : Nat} {xs : List Nat} {N : Nat} (hN : xs.length = N) (h : RdRow w0 w g r b k (.slice (some ⟨q, 0, none⟩) N c) xs) (i x : Nat) :
    RdRow w0 (w.setCell ⟨q, i, none⟩ (.int .u8 (x : Nat))) g r b k (.slice (some ⟨q, 0, none⟩) N c) (xs.set i x) := by
  subst hN
  have hq := h.sep q rfl
  have hqn := h.fresh q rfl
  have f : Fr (· = q) w (w.setCell ⟨q, i, none⟩ (.int .u8 (x : Nat))) := Fr.setCell _ _ _ _ rfl
  have ho := (h.own.stored i (.int .u8 (x : Nat))).1
  have he : u8s (xs.set i x) = (u8s xs).set i (.int .u8 (x : Nat)) := by unfold u8s; rw [List.map_set]
  refine ⟨h.rd.fr f (fun e => hq.1 e.symm) (fun j hj e => hq.2 (by rw [hj, e])), h.fr.trans f (fun j hj e => by omega), h.new, h.newr, ?_, h.fresh, h.sep⟩
  rw [he, List.length_set]
  exact ho
/-- another row in its place -/
theorem RdRow.other {w0 w w' : World} {g : Nat} {r : Option Nat} {b : List Nat} {k : Nat} {v u : Value} {xs ys : List Nat} (h : RdRow w0 w g r b k v xs) (hf : Fr S0 w w') (hu : RowNew w w' u ys) : RdRow w0 w' g r b k u ys := by
  have hs := h.fr.size
  refine ⟨h.rd.fr0 hf, h.fr.trans0 hf, h.new, h.newr, hu.own, fun j hj => Nat.le_trans hs (hu.fresh j hj), fun j hj => ?_⟩
  have := hu.fresh j hj
  have := h.rd.lt
  exact ⟨by omega, fun e => by have := h.rd.rlt j e; omega⟩

def SlS2 (w : World) (k : Nat) (p : Option Addr) (n : Nat) (C : Nat → Nat → Value) : Prop :=
  n ≤ maxLen ∧ (0 < n → ∃ b off, p = some ⟨b, off, none⟩ ∧ ∀ i j, i < n → j < k → w.cell? ⟨b, off + i * k + j, none⟩ = some (C i j))
theorem SlS2.fr0 {w w' : World} {k n : Nat} {p : Option Addr} {C : Nat → Nat → Value} (h : SlS2 w k p n C) (hf : Fr S0 w w') : SlS2 w' k p n C :=
  ⟨h.1, fun hn => let ⟨b, off, hp, hc⟩ := h.2 hn; ⟨b, off, hp, fun i j hi hj => hf.cell (hc i j hi hj) (fun h => h)⟩⟩
/-- the cells of a step -/
def tkC (it : Nat → Nat × Int) (i j : Nat) : Value := match j with | 0 => .int .u8 ((it i).1 : Nat) | _ => .int .i64 (it i).2

theorem text_at (b : List Nat) (F n : Nat) : ((b.drop F).take n).length = min n (b.length - F) := by rw [List.length_take, List.length_drop]

set_option maxRecDepth 100000 in
set_option maxHeartbeats 4000000 in
theorem law_reads (p : Option Addr) (d : Nat) (b : List Nat) (p2 : Option Addr) (n d2 : Nat) (it : Nat → Nat × Int) (w : World) (hb : SlI w .u8 p b) (h8 : ∀ x ∈ b, x < 256) (hp : p = none → d = 0) (hd : b.length ≤ d)
    (hl : SlS2 w 2 p2 n (tkC it)) (hN : ∀ i, i < n → (it i).1 < 256) :
    Calls Try.prog 4 #[.slice p b.length d, .slice p2 n d2] w fun e w' => e = .returned (.bool true) ∧ Fr S0 w w' := by
  have hw := start w
  have hmax := hl.1
  unfold maxLen at hmax
  have HL := Lib.hid hl
  have HN := Lib.hid hN
  have HB := Lib.hid hb
  have H8 := Lib.hid h8
  have HP := Lib.hid hp
  have HD := Lib.hid hd
  clear hl hN hb h8 hp hd
  by_cases k1 : (2000 : Int) < (b.length : Int)
  · go_enter Try.func4, Try.ntmps4
    go_wp2_with (go_at_call 8; refine hw _ ?_; intro w1 hf)
    go_ret
    exact ⟨rfl, hf⟩
  have HR1 : Hid (Room b.length) := Lib.hid (Room.mk (by omega))
  go_enter Try.func4, Try.ntmps4
  go_wp2_with fail
  refine hw _ ?_
  intro w1 g1
  clear hw
  have s1 := SrcIs.ofSl ((HB.out.fr0 g1).fr0 (Fr.alloc S0 _ (.cells #[] 5))) HP.out
  go_wp2_with (first
    | ((with_reducible show wpList _ _ _ (Oper.mk (some 23) _ _ _ _ _ :: _) _ _); refine app_many el8 (.tmp 21) (.tmp 22) (own_none w1 _) s1 (Nat.zero_add _) rfl rfl rfl rfl (ones _) HR1.out ?_; intro p3 c3 w3 own3 g3 at3; rw [List.nil_append] at own3; have f3 := fr_made (Fr.refl S0 _) g3; have v3 := fresh_many (fresh_made (n := 0) (c := 0) (Fr.refl S0 _)) (size_le (Fr.refl S0 _)) at3; clear g3 at3)
    | fail)
  obtain ⟨p3', c3', hv3, hn3, -⟩ := slForm own3
  simp only [Value.slice.injEq] at hv3
  obtain ⟨rfl, -, rfl⟩ := hv3
  refine (new_any p3 c3 b w3 (SlI.ofOwns own3) H8.out hn3 (by omega)).mono ?_
  rintro e w4 ⟨g, r, rfl, hr4⟩
  have R4 := Lib.hid (RdRow.of (g1.trans0 f3) own3 (fresh_fr g1 v3) hr4)
  clear own3 f3 v3 s1 hr4 hn3 g1
  go_wp2
  go_loopw [7] (fun i wr => ∃ (k : Nat) (xs : List Nat), k ≤ b.length ∧ i = .int .i64 k ∧ xs.length = b.length ∧ (∀ x ∈ xs, x < 256) ∧ RdRow w wr g r b 0 (.slice p3 b.length c3) xs) (fun i _ => b.length - (intOf i).toNat)
  case atStart => exact ⟨0, b, by omega, rfl, rfl, H8.out, R4.out⟩
  case round =>
    obtain ⟨k, xs, hk, rfl, hxl, hx8, hR⟩ := hrel
    have R := Lib.hid hR
    have HX := Lib.hid hx8
    by_cases hkl : (k : Int) < (b.length : Int)
    · have ho := hR.own
      rw [hxl] at ho
      obtain ⟨q, cap, hv, -, -⟩ := ho.form (by omega)
      simp only [Value.slice.injEq] at hv
      obtain ⟨rfl, -, rfl⟩ := hv
      have cc := ho.cellAt k (by omega)
      have hkx : k < xs.length := by omega
      rw [show (u8s xs)[k]? = some (.int .u8 (xs[k] : Nat)) by simp [u8s, hkx]] at cc
      have cf := ho.frozenAt k
      have hxk := hx8 _ (List.getElem_mem hkx)
      obtain ⟨x, hx⟩ : ∃ x, xs[k] = x := ⟨_, rfl⟩
      rw [hx] at cc hxk
      have hs := hR.set hxl k ((x + 1) % 256)
      have HS := Lib.hid hs
      have HXL := Lib.hid hxl
      clear hs hx ho hR hx8 hkx hxl
      go_wp2
      go_roundw
      case rel => exact ⟨k + 1, xs.set k ((x + 1) % 256), by omega, by go_num, by rw [List.length_set]; exact HXL.out, fun y hy => (List.mem_or_eq_of_mem_set hy).elim (HX.out y) (fun e => by omega), HS.out⟩
      case measure => simp [intOf]; omega
    · clear hR hx8
      go_wp2_with fail
      refine (rbits_any p d b wr (HB.out.fr0 R.out.fr) H8.out (by omega)).mono ?_
      rintro e w5 ⟨v5, rfl, f5, hv5⟩
      have HBL := Lib.hid (bts_length b)
      obtain ⟨A, hA⟩ : ∃ A, bts b = A := ⟨_, rfl⟩
      obtain ⟨m, hm⟩ : ∃ m, A.length = m := ⟨_, rfl⟩
      have HBI : Hid (∀ k c, (A.drop k).take c = bitsAt b k c) := Lib.hid (fun k c => by rw [← hA]; rfl)
      rw [hA, hm] at HBL
      have hm8 : m = 8 * b.length := HBL.out
      have hms : m ≤ 16000 := by omega
      have HM := Lib.hid hm
      rw [hA] at hv5
      obtain ⟨pA, cA, hvA, hnA, hcA, -⟩ := slForm hv5.own
      rw [hm] at hvA hcA
      subst hvA
      have R5 := Lib.hid (R.out.other f5 hv5)
      have HM8 := Lib.hid hm8
      have HCA := Lib.hid hcA
      have HNA := Lib.hid hnA
      clear f5 hv5 R hA hm hm8 hnA hcA
      go_wp2
      go_loopw [9, 10] (fun a i wr => ∃ j k : Nat, j ≤ n ∧ j ≤ 80 ∧ i = .int .i64 j ∧ a = .int .i64 k ∧ RdRow w wr g r b k (.slice pA m cA) A) (fun _ i _ => 80 - (intOf i).toNat)
      case atStart => exact ⟨0, 0, by omega, by omega, rfl, rfl, R5.out⟩
      case round =>
        clear R5 R4
        obtain ⟨j, k, hj, hj80, rfl, rfl, hR⟩ := hrel
        have R := Lib.hid hR
        have hin := hR.rd.inside
        have HIN := Lib.hid hin
        have hks : k ≤ 16000 := by have := HM8.out; omega
        clear hR hin
        by_cases hjn : (j : Int) < (n : Int)
        · by_cases hj8 : (j : Int) < 80
          · obtain ⟨b0, o, rfl, hc⟩ := (HL.out.fr0 R.out.fr).2 (by omega)
            have c0 := hc j 0 (by omega) (by omega)
            have c1 := hc j 1 (by omega) (by omega)
            simp only [tkC] at c0 c1
            rw [Nat.add_zero] at c0
            have hK := HN.out j (by omega)
            obtain ⟨⟨K, c⟩, hx⟩ : ∃ x, it j = x := ⟨_, rfl⟩
            rw [hx] at c0 c1 hK
            simp only at c0 c1 hK
            have HAT := Lib.hid (fun w k h => at_any g r b k w h)
            have HLT := Lib.hid (fun w k h => left_any g r b k w h (by omega))
            rw [show 8 * (b.length : Int) = (m : Int) by have := HM8.out; omega] at HLT
            clear hc hx
            by_cases hK0 : K % 4 = 0
            · have t0 : ((K : Int) % 4 == 0) = true := by simp; omega
              have t1 : ((K : Int) % 4 == 1) = false := by simp; omega
              clear hK0
              by_cases hr : 0 ≤ c ∧ c ≤ 32
              · obtain ⟨q, rfl⟩ : ∃ q : Nat, c = q := ⟨c.toNat, by omega⟩
                have hq : q ≤ 32 := by omega
                have hq0 : ¬ (q : Int) < 0 := by omega
                have hq1 : ¬ (q : Int) > 32 := by omega
                clear hr
                by_cases hk : k + q ≤ 8 * b.length
                · have HKQ : Hid (k + q ≤ 8 * b.length) := Lib.hid hk
                  have HG := Lib.hid (rgroup_ok g r b k q wr R.out.rd (by omega) hk (by omega))
                  have hle : ¬ ((q : Int) > (m : Int) - (k : Int)) := by have := HM8.out; omega
                  have HV := Lib.hid (bitsAt_length b k q hk)
                  have HBB := Lib.hid (bitsAt_bit b k q)
                  obtain ⟨X, hX⟩ : ∃ X, bitsAt b k q = X := ⟨_, rfl⟩
                  have HBIX : Hid ((A.drop k).take q = X) := Lib.hid ((HBI.out k q).trans hX)
                  rw [hX] at HG HV HBB
                  have hcap : (k : Int) + (q : Int) ≤ (cA : Int) := by have := HCA.out; have := HM8.out; omega
                  clear hk hX
                  by_cases hcA : k = cA
                  · have HCK := Lib.hid hcA
                    have HQ0 : Hid (q = 0) := Lib.hid (by have := HCA.out; have := HKQ.out; have := HM8.out; omega)
                    have HX0 : Hid (X = []) := Lib.hid (List.eq_nil_of_length_eq_zero (by rw [HV.out, HQ0.out]))
                    go_wp2_with fail
                    refine HG.out.mono ?_
                    rintro e w6 ⟨rfl, t6⟩
                    have R6 := Lib.hid (R.out.to t6)
                    clear t6 HG
                    go_wp2_with fail
                    rw [show Value.slice pA q 0 = Value.slice pA ([] : List Nat).length 0 by rw [HQ0.out]; rfl]
                    refine (rnumber_any pA 0 [] w6 (SlI.nil _ _ _) Bit01.nil (by decide)).mono ?_
                    rintro e w' ⟨rfl, rfl⟩
                    rw [HX0.out]
                    rw [HCK.out] at R6
                    clear hcA
                    go_wp2_with fail
                    refine (HAT.out _ _ R6.out.rd).mono ?_
                    rintro e w' ⟨rfl, rfl⟩
                    go_wp2_with fail
                    refine (HLT.out _ _ R6.out.rd).mono ?_
                    rintro e w7 ⟨rfl, f7⟩
                    have R7 := Lib.hid (R6.out.fr0 f7)
                    clear f7 R6
                    go_wp2
                    go_roundw
                    case rel => exact ⟨j + 1, cA + q, by omega, by omega, by go_num, by go_num, R7.out⟩
                    case measure => simp [intOf]; omega
                  · have hcA : ¬ cA = k := fun e => hcA e.symm
                    obtain ⟨qa, rfl⟩ : ∃ qa, pA = some ⟨qa, 0, none⟩ := by
                      have own6 := R.out.own
                      rw [HM.out] at own6
                      rcases (own_form own6).1 with ⟨-, h⟩ | h
                      · exact absurd h (by have := HKQ.out; have := HM8.out; have := HCA.out; omega)
                      · exact h
                    go_wp2_with fail
                    refine HG.out.mono ?_
                    rintro e w6 ⟨rfl, t6⟩
                    have R6 := Lib.hid (R.out.to t6)
                    clear t6 HG
                    have own6 := R6.out.own
                    rw [HM.out] at own6
                    have hs6 := (SlI.drop (SlI.ofOwns own6) k).take q
                    rw [Nat.zero_add, HBIX.out] at hs6
                    have hN := rnumber_any (some ⟨qa, k, none⟩) (cA - k) X w6 hs6 HBB.out (by rw [HV.out]; omega)
                    rw [HV.out] at hN
                    have HNUM := Lib.hid hN
                    clear hN hs6 own6
                    go_wp2_with fail
                    refine HNUM.out.mono ?_
                    rintro e w' ⟨rfl, rfl⟩
                    go_wp2_with fail
                    refine (HAT.out _ _ R6.out.rd).mono ?_
                    rintro e w' ⟨rfl, rfl⟩
                    go_wp2_with fail
                    refine (HLT.out _ _ R6.out.rd).mono ?_
                    rintro e w7 ⟨rfl, f7⟩
                    have R7 := Lib.hid (R6.out.fr0 f7)
                    clear f7 R6
                    go_wp2
                    go_roundw
                    case rel => exact ⟨j + 1, k + q, by omega, by omega, by go_num, by go_num, R7.out⟩
                    case measure => simp [intOf]; omega
                · have HG := Lib.hid (rgroup_end g r b k q wr R.out.rd (by omega) (by omega) (by omega))
                  have hgt : (q : Int) > (m : Int) - (k : Int) := by have := HM8.out; omega
                  clear hk
                  go_wp2_with fail
                  refine HG.out.mono ?_
                  rintro e w6 ⟨rfl, f6⟩
                  have R6 := Lib.hid (R.out.fr0 f6)
                  clear f6 HG
                  go_wp2_with fail
                  refine (HAT.out _ _ R6.out.rd).mono ?_
                  rintro e w' ⟨rfl, rfl⟩
                  go_wp2_with fail
                  refine (HLT.out _ _ R6.out.rd).mono ?_
                  rintro e w7 ⟨rfl, f7⟩
                  have R7 := Lib.hid (R6.out.fr0 f7)
                  clear f7 R6
                  go_wp2
                  go_roundw
                  case rel => exact ⟨j + 1, k, by omega, by omega, by go_num, by go_num, R7.out⟩
                  case measure => simp [intOf]; omega
              · have HG := Lib.hid (fun w => rgroup_no g c w hr)
                by_cases hneg : c < 0
                · clear hr
                  go_wp2_with fail
                  refine (HG.out _).mono ?_
                  rintro e w' ⟨rfl, rfl⟩
                  have R6 := R
                  go_wp2_with fail
                  refine (HAT.out _ _ R6.out.rd).mono ?_
                  rintro e w' ⟨rfl, rfl⟩
                  go_wp2_with fail
                  refine (HLT.out _ _ R6.out.rd).mono ?_
                  rintro e w7 ⟨rfl, f7⟩
                  have R7 := Lib.hid (R6.out.fr0 f7)
                  clear f7 R6
                  go_wp2
                  go_roundw
                  case rel => exact ⟨j + 1, k, by omega, by omega, by go_num, by go_num, R7.out⟩
                  case measure => simp [intOf]; omega
                · have hbig : c > 32 := by omega
                  clear hr
                  go_wp2_with fail
                  refine (HG.out _).mono ?_
                  rintro e w' ⟨rfl, rfl⟩
                  have R6 := R
                  go_wp2_with fail
                  refine (HAT.out _ _ R6.out.rd).mono ?_
                  rintro e w' ⟨rfl, rfl⟩
                  go_wp2_with fail
                  refine (HLT.out _ _ R6.out.rd).mono ?_
                  rintro e w7 ⟨rfl, f7⟩
                  have R7 := Lib.hid (R6.out.fr0 f7)
                  clear f7 R6
                  go_wp2
                  go_roundw
                  case rel => exact ⟨j + 1, k, by omega, by omega, by go_num, by go_num, R7.out⟩
                  case measure => simp [intOf]; omega
            · by_cases hK1 : K % 4 = 1
              · have t0 : ((K : Int) % 4 == 0) = false := by simp; omega
                have t1 : ((K : Int) % 4 == 1) = true := by simp; omega
                clear hK1
                by_cases hk : k + 1 ≤ 8 * b.length
                · have HKQ : Hid (k + 1 ≤ 8 * b.length) := Lib.hid hk
                  have HG := Lib.hid (rgroup_ok g r b k 1 wr R.out.rd (by omega) hk (by omega))
                  have HG := Lib.hid (rbit_of g wr _ _ _ HG.out)
                  have hle : ¬ ((1 : Int) > (m : Int) - (k : Int)) := by have := HM8.out; omega
                  have HV := Lib.hid (bitsAt_length b k 1 hk)
                  have HBB := Lib.hid (bitsAt_bit b k 1)
                  obtain ⟨X, hX⟩ : ∃ X, bitsAt b k 1 = X := ⟨_, rfl⟩
                  have HBIX : Hid ((A.drop k).take 1 = X) := Lib.hid ((HBI.out k 1).trans hX)
                  rw [hX] at HG HV HBB
                  have hcap : (k : Int) + 1 ≤ (cA : Int) := by have := HCA.out; have := HM8.out; omega
                  clear hk hX
                  have hcA : ¬ cA = k := by have := HCA.out; have := HKQ.out; have := HM8.out; omega
                  obtain ⟨qa, rfl⟩ : ∃ qa, pA = some ⟨qa, 0, none⟩ := by
                    have own6 := R.out.own
                    rw [HM.out] at own6
                    rcases (own_form own6).1 with ⟨h, -⟩ | h
                    · exact absurd (HNA.out h) (by have := HCA.out; have := HKQ.out; have := HM8.out; omega)
                    · exact h
                  go_wp2_with fail
                  refine HG.out.mono ?_
                  rintro e w6 ⟨rfl, t6⟩
                  have R6 := Lib.hid (R.out.to t6)
                  clear t6 HG
                  have own6 := R6.out.own
                  rw [HM.out] at own6
                  have hs6 := (SlI.drop (SlI.ofOwns own6) k).take 1
                  rw [Nat.zero_add, HBIX.out] at hs6
                  have hN := rnumber_any (some ⟨qa, k, none⟩) (cA - k) X w6 hs6 HBB.out (by rw [HV.out]; omega)
                  rw [HV.out] at hN
                  have HNUM := Lib.hid hN
                  clear hN hs6 own6
                  go_wp2_with fail
                  refine HNUM.out.mono ?_
                  rintro e w' ⟨rfl, rfl⟩
                  go_wp2_with fail
                  refine (HAT.out _ _ R6.out.rd).mono ?_
                  rintro e w' ⟨rfl, rfl⟩
                  go_wp2_with fail
                  refine (HLT.out _ _ R6.out.rd).mono ?_
                  rintro e w7 ⟨rfl, f7⟩
                  have R7 := Lib.hid (R6.out.fr0 f7)
                  clear f7 R6
                  go_wp2
                  go_roundw
                  case rel => exact ⟨j + 1, k + 1, by omega, by omega, by go_num, by go_num, R7.out⟩
                  case measure => simp [intOf]; omega
                · have HG := Lib.hid (rgroup_end g r b k 1 wr R.out.rd (by omega) (by omega) (by omega))
                  have HG := Lib.hid (rbit_of g wr _ _ _ HG.out)
                  have hgt : (1 : Int) > (m : Int) - (k : Int) := by have := HM8.out; omega
                  clear hk
                  go_wp2_with fail
                  refine HG.out.mono ?_
                  rintro e w6 ⟨rfl, f6⟩
                  have R6 := Lib.hid (R.out.fr0 f6)
                  clear f6 HG
                  go_wp2_with fail
                  refine (HAT.out _ _ R6.out.rd).mono ?_
                  rintro e w' ⟨rfl, rfl⟩
                  go_wp2_with fail
                  refine (HLT.out _ _ R6.out.rd).mono ?_
                  rintro e w7 ⟨rfl, f7⟩
                  have R7 := Lib.hid (R6.out.fr0 f7)
                  clear f7 R6
                  go_wp2
                  go_roundw
                  case rel => exact ⟨j + 1, k, by omega, by omega, by go_num, by go_num, R7.out⟩
                  case measure => simp [intOf]; omega
              · by_cases hK2 : K % 4 = 2
                · have t0 : ((K : Int) % 4 == 0) = false := by simp; omega
                  have t1 : ((K : Int) % 4 == 1) = false := by simp; omega
                  have t2 : ((K : Int) % 4 == 2) = true := by simp; omega
                  clear hK2
                  have HA := Lib.hid (ralign_any g r b k wr R.out.rd (by omega))
                  have HU := Lib.hid (fun w => rup_any k w (by omega))
                  have hUs : upN k ≤ 16000 := by have := upN_le HIN.out; have := HM8.out; omega
                  obtain ⟨U, hU⟩ : ∃ U, upN k = U := ⟨_, rfl⟩
                  rw [hU] at HA HU hUs
                  clear hU
                  go_wp2_with fail
                  refine HA.out.mono ?_
                  rintro e w6 ⟨rfl, t6⟩
                  have R6 := Lib.hid (R.out.to t6)
                  clear t6 HA
                  go_wp2_with fail
                  refine (HU.out _).mono ?_
                  rintro e w' ⟨rfl, rfl⟩
                  go_wp2_with fail
                  refine (HAT.out _ _ R6.out.rd).mono ?_
                  rintro e w' ⟨rfl, rfl⟩
                  go_wp2_with fail
                  refine (HLT.out _ _ R6.out.rd).mono ?_
                  rintro e w7 ⟨rfl, f7⟩
                  have R7 := Lib.hid (R6.out.fr0 f7)
                  clear f7 R6
                  go_wp2
                  go_roundw
                  case rel => exact ⟨j + 1, U, by omega, by omega, by go_num, by go_num, R7.out⟩
                  case measure => simp [intOf]; omega
                · have hK3 : K % 4 = 3 := by omega
                  have t0 : ((K : Int) % 4 == 0) = false := by simp; omega
                  have t1 : ((K : Int) % 4 == 1) = false := by simp; omega
                  have t2 : ((K : Int) % 4 == 2) = false := by simp; omega
                  clear hK0 hK1 hK2 hK3
                  have HU := Lib.hid (fun w => rup_any k w (by omega))
                  have hU2 := upN_le HIN.out
                  by_cases hy : 0 ≤ c ∧ (upN k : Int) + 8 * c ≤ 8 * (b.length : Int)
                  · obtain ⟨q, rfl⟩ : ∃ q : Nat, c = q := ⟨c.toNat, by omega⟩
                    have hq0 : ¬ (q : Int) < 0 := by omega
                    have HT := rtext_yes g r b k q wr R.out.rd (by omega) (by omega)
                    obtain ⟨F, hF⟩ : ∃ F, upN k = 8 * F := ⟨(k + 7) / 8, by unfold upN; omega⟩
                    rw [hF] at HT HU hU2 hy
                    rw [show 8 * F / 8 = F by omega] at HT
                    obtain ⟨U, hU⟩ : ∃ U, 8 * F = U := ⟨_, rfl⟩
                    rw [hU] at HT HU hU2 hy
                    have HT := Lib.hid HT
                    have HUF := Lib.hid hU
                    have hUm : (U : Int) ≤ (m : Int) := by have := HM8.out; omega
                    have hle : ¬ (q : Int) > ((m : Int) - (U : Int)) / 8 := by have := HM8.out; omega
                    have hFQ : F + q ≤ b.length := by omega
                    have HFQ := Lib.hid hFQ
                    have hUs : U ≤ 16000 := by omega
                    have hqs : q ≤ 2000 := by omega
                    have hFs : F ≤ 2000 := by omega
                    have eF : (U : Int) / 8 = (F : Int) := by omega
                    have hFd : (F : Int) + (q : Int) ≤ (d : Int) := by have := HD.out; omega
                    have hXl := text_at b F q
                    obtain ⟨X, hX⟩ : ∃ X, (b.drop F).take q = X := ⟨_, rfl⟩
                    rw [hX] at HT hXl
                    have HX := Lib.hid hX
                    have HXL := Lib.hid hXl
                    clear hF hU hX hXl hy hU2
                    by_cases hz : q = 0
                    · have HQ0 := Lib.hid hz
                      have HX0 : Hid (X = []) := Lib.hid (List.eq_nil_of_length_eq_zero (by rw [HXL.out, hz, Nat.zero_min]))
                      clear hz hFQ
                      by_cases hdF : F = d
                      · go_wp2_with fail
                        refine HT.out.mono ?_
                        rintro e w6 ⟨v, rfl, t6, hv⟩
                        have R6 := Lib.hid (R.out.to t6)
                        have kv : ∀ i, (convert 25 9 v).run Try.prog (w6.drewN i) = .ok (.string (strB X)) (w6.drewN i) := fun i => conv_own ((Fr.drewN S0 w6 i).owns hv.own (fun _ _ h => h))
                        have kz : ∀ i p' c', (convert 25 9 (.slice p' q c')).run Try.prog (w6.drewN i) = .ok (.string (strB X)) (w6.drewN i) := fun i p' c' => by rw [HQ0.out, HX0.out]; exact conv_sl (SlI.nil (w6.drewN i) .u8 p') 0 c' (Nat.le_refl _)
                        clear t6 hv HT
                        go_wp2_with fail
                        refine (HU.out _).mono ?_
                        rintro e w' ⟨rfl, rfl⟩
                        go_wp2_with fail
                        go_quiet (fail)
                        go_wp2_with fail
                        have R8 := Lib.hid (R6.out.fr0 (Fr.drewN S0 w6 nq))
                        clear R6
                        have R6 := R8
                        clear R8
                        refine (HAT.out _ _ R6.out.rd).mono ?_
                        rintro e w' ⟨rfl, rfl⟩
                        go_wp2_with fail
                        refine (HLT.out _ _ R6.out.rd).mono ?_
                        rintro e w7 ⟨rfl, f7⟩
                        have R7 := Lib.hid (R6.out.fr0 f7)
                        clear f7 R6
                        go_wp2
                        go_roundw
                        case rel => exact ⟨j + 1, U + 8 * q, by omega, by omega, by go_num, by go_num, R7.out⟩
                        case measure => simp [intOf]; omega
                      · have hdF : ¬ d = F := fun e => hdF e.symm
                        go_wp2_with fail
                        refine HT.out.mono ?_
                        rintro e w6 ⟨v, rfl, t6, hv⟩
                        have R6 := Lib.hid (R.out.to t6)
                        have kv : ∀ i, (convert 25 9 v).run Try.prog (w6.drewN i) = .ok (.string (strB X)) (w6.drewN i) := fun i => conv_own ((Fr.drewN S0 w6 i).owns hv.own (fun _ _ h => h))
                        have kz : ∀ i p' c', (convert 25 9 (.slice p' q c')).run Try.prog (w6.drewN i) = .ok (.string (strB X)) (w6.drewN i) := fun i p' c' => by rw [HQ0.out, HX0.out]; exact conv_sl (SlI.nil (w6.drewN i) .u8 p') 0 c' (Nat.le_refl _)
                        clear t6 hv HT
                        go_wp2_with fail
                        refine (HU.out _).mono ?_
                        rintro e w' ⟨rfl, rfl⟩
                        go_wp2_with fail
                        go_quiet (fail)
                        go_wp2_with fail
                        have R8 := Lib.hid (R6.out.fr0 (Fr.drewN S0 w6 nq))
                        clear R6
                        have R6 := R8
                        clear R8
                        refine (HAT.out _ _ R6.out.rd).mono ?_
                        rintro e w' ⟨rfl, rfl⟩
                        go_wp2_with fail
                        refine (HLT.out _ _ R6.out.rd).mono ?_
                        rintro e w7 ⟨rfl, f7⟩
                        have R7 := Lib.hid (R6.out.fr0 f7)
                        clear f7 R6
                        go_wp2
                        go_roundw
                        case rel => exact ⟨j + 1, U + 8 * q, by omega, by omega, by go_num, by go_num, R7.out⟩
                        case measure => simp [intOf]; omega
                    · have hdF : ¬ d = F := by have := HD.out; omega
                      obtain ⟨b1, o1, rfl, -⟩ := HB.out.2 (by intro e; rw [e] at hFQ; simp at hFQ; omega)
                      clear hFQ
                      go_wp2_with fail
                      refine HT.out.mono ?_
                      rintro e w6 ⟨v, rfl, t6, hv⟩
                      have R6 := Lib.hid (R.out.to t6)
                      have kv : ∀ i, (convert 25 9 v).run Try.prog (w6.drewN i) = .ok (.string (strB X)) (w6.drewN i) := fun i => conv_own ((Fr.drewN S0 w6 i).owns hv.own (fun _ _ h => h))
                      have kz : ∀ i, (convert 25 9 (.slice (some ⟨b1, o1 + F, none⟩) q (d - F))).run Try.prog (w6.drewN i) = .ok (.string (strB X)) (w6.drewN i) := fun i => by
                        have h := conv_sl (((HB.out.fr0 R6.out.fr).fr0 (Fr.drewN S0 w6 i)).drop F) q (d - F) (by rw [List.length_drop]; have := HFQ.out; omega)
                        rw [HX.out] at h
                        exact h
                      clear t6 hv HT
                      go_wp2_with fail
                      refine (HU.out _).mono ?_
                      rintro e w' ⟨rfl, rfl⟩
                      go_wp2_with fail
                      go_quiet (fail)
                      go_wp2_with fail
                      have R8 := Lib.hid (R6.out.fr0 (Fr.drewN S0 w6 nq))
                      clear R6
                      have R6 := R8
                      clear R8
                      refine (HAT.out _ _ R6.out.rd).mono ?_
                      rintro e w' ⟨rfl, rfl⟩
                      go_wp2_with fail
                      refine (HLT.out _ _ R6.out.rd).mono ?_
                      rintro e w7 ⟨rfl, f7⟩
                      have R7 := Lib.hid (R6.out.fr0 f7)
                      clear f7 R6
                      go_wp2
                      go_roundw
                      case rel => exact ⟨j + 1, U + 8 * q, by omega, by omega, by go_num, by go_num, R7.out⟩
                      case measure => simp [intOf]; omega
                  · have HT := Lib.hid (rtext_no g r b k c wr R.out.rd hy (by omega))
                    have hU8 : upN k % 8 = 0 := by unfold upN; omega
                    obtain ⟨U, hU⟩ : ∃ U, upN k = U := ⟨_, rfl⟩
                    rw [hU] at HT HU hU2 hy hU8
                    have hUs : U ≤ 16000 := by omega
                    clear hU
                    by_cases hneg : c < 0
                    · clear hy hU2 hU8
                      go_wp2_with fail
                      refine HT.out.mono ?_
                      rintro e w6 ⟨rfl, t6⟩
                      have R6 := Lib.hid (R.out.to t6)
                      clear t6 HT
                      go_wp2_with fail
                      refine (HU.out _).mono ?_
                      rintro e w' ⟨rfl, rfl⟩
                      go_wp2_with fail
                      refine (HAT.out _ _ R6.out.rd).mono ?_
                      rintro e w' ⟨rfl, rfl⟩
                      go_wp2_with fail
                      refine (HLT.out _ _ R6.out.rd).mono ?_
                      rintro e w7 ⟨rfl, f7⟩
                      have R7 := Lib.hid (R6.out.fr0 f7)
                      clear f7 R6
                      go_wp2
                      go_roundw
                      case rel => exact ⟨j + 1, U, by omega, by omega, by go_num, by go_num, R7.out⟩
                      case measure => simp [intOf]; omega
                    · have hUm : (U : Int) ≤ (m : Int) := by have := HM8.out; omega
                      have hgt : c > ((m : Int) - (U : Int)) / 8 := by have := HM8.out; omega
                      clear hy hU2 hU8
                      go_wp2_with fail
                      refine HT.out.mono ?_
                      rintro e w6 ⟨rfl, t6⟩
                      have R6 := Lib.hid (R.out.to t6)
                      clear t6 HT
                      go_wp2_with fail
                      refine (HU.out _).mono ?_
                      rintro e w' ⟨rfl, rfl⟩
                      go_wp2_with fail
                      refine (HAT.out _ _ R6.out.rd).mono ?_
                      rintro e w' ⟨rfl, rfl⟩
                      go_wp2_with fail
                      refine (HLT.out _ _ R6.out.rd).mono ?_
                      rintro e w7 ⟨rfl, f7⟩
                      have R7 := Lib.hid (R6.out.fr0 f7)
                      clear f7 R6
                      go_wp2
                      go_roundw
                      case rel => exact ⟨j + 1, U, by omega, by omega, by go_num, by go_num, R7.out⟩
                      case measure => simp [intOf]; omega
          · go_wp2
            go_ret
            exact ⟨rfl, R.out.fr⟩
        · go_wp2
          go_ret
          exact ⟨rfl, R.out.fr⟩
end Go.Proofs.Ytijcomakomihbaa
