/- The law of layer 4: what was written is read. -/
import Derived.Test.YtijcomakomihbaaBitRow
namespace Go.Proofs.Ytijcomakomihbaa
open Go.RowKit

/-- a slice of n structs of k one-cell fields that is read -/
def SlS (w : World) (k : Nat) (p : Option Addr) (n : Nat) (C : Nat → Nat → Value) : Prop :=
  n ≤ maxLen ∧ (0 < n → ∃ b off, p = some ⟨b, off, none⟩ ∧ ∀ i j, i < n → j < k → w.cell? ⟨b, off + i * k + j, none⟩ = some (C i j))
theorem SlS.fr0 {w w' : World} {k n : Nat} {p : Option Addr} {C : Nat → Nat → Value} (h : SlS w k p n C) (hf : Fr S0 w w') : SlS w' k p n C :=
  ⟨h.1, fun hn => let ⟨b, off, hp, hc⟩ := h.2 hn; ⟨b, off, hp, fun i j hi hj => hf.cell (hc i j hi hj) (fun h => h)⟩⟩

/-- an item's bits -/
def itB (x : Nat × Int × Bool) : List Nat := if fitB x.1 x.2.1 = true then (if x.2.2 then code x.1 x.2.1.toNat else grp x.1 x.2.1.toNat) else []
def allB (it : Nat → Nat × Int × Bool) (k : Nat) : List Nat := (List.range k).flatMap fun i => itB (it i)
theorem allB_succ (it : Nat → Nat × Int × Bool) (k : Nat) : allB it (k + 1) = allB it k ++ itB (it k) := by
  unfold allB
  rw [List.range_succ, List.flatMap_append]
  simp
theorem allB_add (it : Nat → Nat × Int × Bool) (k : Nat) : ∀ m, ∃ R, allB it (k + m) = allB it k ++ R
  | 0 => ⟨[], by simp⟩
  | m + 1 => by
    obtain ⟨R, h⟩ := allB_add it k m
    exact ⟨R ++ itB (it (k + m)), by rw [← Nat.add_assoc, allB_succ, h, List.append_assoc]⟩
theorem itB_le (x : Nat × Int × Bool) : (itB x).length ≤ 32 := by
  unfold itB
  split
  · next h =>
    have := of_decide_eq_true h
    split
    · rw [code_length]; omega
    · rw [grp_length]; omega
  · simp
theorem itB_bit (x : Nat × Int × Bool) : Bit01 (itB x) := by
  unfold itB
  split
  · split
    · exact code_bit _ _
    · exact grp_bit _ _
  · exact Bit01.nil
theorem allB_le (it : Nat → Nat × Int × Bool) : ∀ k, (allB it k).length ≤ 32 * k
  | 0 => by simp [allB]
  | k + 1 => by
    rw [allB_succ, List.length_append]
    have := allB_le it k
    have := itB_le (it k)
    omega
theorem allB_bit (it : Nat → Nat × Int × Bool) : ∀ k, Bit01 (allB it k)
  | 0 => Bit01.nil
  | k + 1 => by rw [allB_succ]; exact (allB_bit it k).app (itB_bit _)
theorem itB_length {x : Nat × Int × Bool} (h : fitB x.1 x.2.1 = true) : (itB x).length = x.2.1.toNat := by
  unfold itB
  rw [if_pos h]
  split
  · rw [code_length]
  · rw [grp_length]
/-- what is read where the item k was written -/
theorem read_item (it : Nat → Nat × Int × Bool) (k m : Nat) (h : fitB (it k).1 (it k).2.1 = true) (hk : k < m) : bitsAt (byt (allB it m)) (allB it k).length (it k).2.1.toNat = itB (it k) ∧ (allB it k).length + (it k).2.1.toNat ≤ (allB it m).length := by
  obtain ⟨j, rfl⟩ : ∃ j, m = (k + 1) + j := ⟨m - (k + 1), by omega⟩
  obtain ⟨R, hR⟩ := allB_add it (k + 1) j
  rw [allB_succ] at hR
  have hl : (allB it k).length + (it k).2.1.toNat ≤ (allB it (k + 1 + j)).length := by
    rw [hR, List.length_append, List.length_append, itB_length h]; omega
  refine ⟨?_, hl⟩
  unfold bitsAt
  rw [slice_byt _ (allB_bit it _) _ _ hl, hR, List.append_assoc, List.drop_append_of_le_length (Nat.le_refl _), List.drop_length, List.nil_append, List.take_append_of_le_length (by rw [itB_length h]; exact Nat.le_refl _), ← itB_length h, List.take_length]

/-- a writer and a reader, both younger than w0 -/
structure WrRd (w0 w : World) (g : Nat) (L : List Nat) (g2 : Nat) (r2 : Option Nat) (b : List Nat) (k : Nat) : Prop where
  ex : ∃ r, WrIs w g r L ∧ (∀ j, r = some j → w0.heap.size ≤ j) ∧ r ≠ some g2 ∧ g ≠ g2
  rd : RdIs w g2 r2 b k
  fr : Fr S0 w0 w
  new : w0.heap.size ≤ g
  new2 : w0.heap.size ≤ g2
theorem WrRd.of {w0 w1 w2 w3 : World} {g : Nat} {L : List Nat} {g2 : Nat} {r2 : Option Nat} {b : List Nat} {k : Nat} (h : WrNew w0 w1 g L) (hf : Fr S0 w1 w2) (hr : RdNew w2 w3 g2 r2 b k) : WrRd w0 w3 g L g2 r2 b k := by
  obtain ⟨r, h1, f, hg, hrn⟩ := h
  obtain ⟨h2, f2, hg2, -⟩ := hr
  have hlt := h1.lt
  have hrl := h1.rlt
  have hs := hf.size
  have hs0 := f.size
  exact ⟨⟨r, (h1.fr0 hf).fr0 f2, hrn, fun e => by have := hrl g2 e; omega, by omega⟩, h2, (f.trans0 hf).trans0 f2, hg, by omega⟩
theorem WrRd.fr0 {w0 w w' : World} {g : Nat} {L : List Nat} {g2 : Nat} {r2 : Option Nat} {b : List Nat} {k : Nat} (h : WrRd w0 w g L g2 r2 b k) (hf : Fr S0 w w') : WrRd w0 w' g L g2 r2 b k := by
  obtain ⟨r, h1, h2, h3⟩ := h.ex
  exact ⟨⟨r, h1.fr0 hf, h2, h3⟩, h.rd.fr0 hf, h.fr.trans0 hf, h.new, h.new2⟩
theorem WrRd.to {w0 w w' : World} {g : Nat} {L : List Nat} {g2 : Nat} {r2 : Option Nat} {b : List Nat} {k k' : Nat} (h : WrRd w0 w g L g2 r2 b k) (ht : RdTo w w' g2 r2 b k') : WrRd w0 w' g L g2 r2 b k' := by
  obtain ⟨r, h1, h2, h3, h4⟩ := h.ex
  have h5 := h.new2
  exact ⟨⟨r, h1.fr ht.2 h4 (fun j hj e => h3 (by rw [hj, e])), h2, h3, h4⟩, ht.1, h.fr.trans ht.2 (fun j hj e => by omega), h.new, h.new2⟩
theorem WrRd.nw {w0 w : World} {g : Nat} {L : List Nat} {g2 : Nat} {r2 : Option Nat} {b : List Nat} {k : Nat} (h : WrRd w0 w g L g2 r2 b k) : WrNew w0 w g L := by
  obtain ⟨r, h1, h2, -⟩ := h.ex
  exact ⟨r, h1, h.fr, h.new, h2⟩

/-- the cells of an item -/
def itC (it : Nat → Nat × Int × Bool) (i j : Nat) : Value := match j with | 0 => .int .u32 ((it i).1 : Nat) | 1 => .int .i64 (it i).2.1 | _ => .bool (it i).2.2

set_option maxRecDepth 100000 in
set_option maxHeartbeats 2000000 in
theorem law_back (p : Option Addr) (n d : Nat) (it : Nat → Nat × Int × Bool) (w : World) (hl : SlS w 3 p n (itC it)) (hN : ∀ i, i < n → (it i).1 < 4294967296) :
    Calls Try.prog 5 #[.slice p n d] w fun e w' => e = .returned (.bool true) ∧ Fr S0 w w' := by
  have hw := start w
  have hmax := hl.1
  unfold maxLen at hmax
  have HL := Lib.hid hl
  have HN := Lib.hid hN
  clear hl hN
  go_enter Try.func5, Try.ntmps5
  go_wp2_with fail
  refine hw _ ?_
  intro w1 g1
  clear hw
  have W2 := Lib.hid (WrNew.zero g1)
  clear g1
  go_wp2
  obtain ⟨g, hg⟩ : ∃ g, w1.heap.size = g := ⟨_, rfl⟩
  rw [hg] at W2 ⊢
  clear hg
  go_loopw [4, 5] (fun v i wr => ∃ k : Nat, k ≤ n ∧ k ≤ 100 ∧ i = .int .i64 k ∧ v = .int .i64 ((allB it k).length : Nat) ∧ WrNew w wr g (allB it k)) (fun _ i _ => 100 - (intOf i).toNat)
  case atStart => exact ⟨0, by omega, by omega, rfl, rfl, W2.out⟩
  case round =>
    obtain ⟨k, hk, hk100, rfl, rfl, hR⟩ := hrel
    have R := Lib.hid hR
    clear hR
    by_cases hkn : (k : Int) < (n : Int)
    · by_cases hk1 : (k : Int) < 100
      · obtain ⟨b, o, rfl, hc⟩ := (HL.out.fr0 R.out.fr).2 (by omega)
        have c0 := hc k 0 (by omega) (by omega)
        have c1 := hc k 1 (by omega) (by omega)
        have c2 := hc k 2 (by omega) (by omega)
        simp only [itC] at c0 c1 c2
        rw [Nat.add_zero] at c0
        have hN32 := HN.out k (by omega)
        obtain ⟨⟨N, c, cd⟩, hx⟩ : ∃ x, it k = x := ⟨_, rfl⟩
        have HS : Hid (allB it (k + 1) = allB it k ++ itB (N, c, cd)) := Lib.hid (by rw [allB_succ, hx])
        rw [hx] at c0 c1 c2 hN32
        simp only at c0 c1 c2 hN32
        have hle := allB_le it k
        have HLE := Lib.hid hle
        obtain ⟨b0, hb0⟩ : ∃ L, allB it k = L := ⟨_, rfl⟩
        rw [hb0] at R HS hle HLE ⊢
        clear hc hx hb0
        have HFIT := Lib.hid (fun w => rfits_any N c w hN32)
        by_cases hf : fitB N c = true
        · have HB : Hid (itB (N, c, cd) = if cd then code N c.toNat else grp N c.toNat) := Lib.hid (if_pos hf)
          have hcc := of_decide_eq_true hf
          have HF := Lib.hid hf
          rw [hf] at HFIT
          have hbl : b0.length ≤ 3200 := by omega
          clear hf hle
          have hc0 : 0 ≤ c := hcc.1
          have hc32 : c ≤ 32 := hcc.2.1
          clear hcc
          cases cd with
          | true =>
            have HI : Hid (allB it (k + 1) = b0 ++ code N c.toNat) := Lib.hid (HS.out.trans (by rw [HB.out]; rfl))
            have HIL : Hid (((allB it (k + 1)).length : Int) = (b0.length : Int) + c) := Lib.hid (by rw [HI.out, List.length_append, code_length]; omega)
            clear HS HB
            go_wp2_with fail
            go_quiet (first | (go_at_call 11; exact Calls.quiet_of_same ((HFIT.out _).mono fun _ _ h => ⟨h.1, h.2.symm⟩)))
            go_wp2_with fail
            rename_i nq
            have R1 := Lib.hid ((R.out.fr0 (Fr.drewN S0 wr nq)).fr0 (Fr.drew S0 _))
            go_region_law (go_simp; go_at_call 9; refine (new_code R1.out N c hN32 HF.out (by omega)).mono ?_; rintro e w5 ⟨rfl, h5⟩; have R5 := Lib.hid h5; clear h5; dsimp only)
            all_goals
              go_wp2
              go_roundw
              case rel => exact ⟨k + 1, by omega, by omega, by go_num, by rw [HIL.out], by rw [HI.out]; exact R5.out⟩
              case measure => simp [intOf]; omega
          | false =>
            have HI : Hid (allB it (k + 1) = b0 ++ grp N c.toNat) := Lib.hid (HS.out.trans (by rw [HB.out]; rfl))
            have HIL : Hid (((allB it (k + 1)).length : Int) = (b0.length : Int) + c) := Lib.hid (by rw [HI.out, List.length_append, grp_length]; omega)
            clear HS HB
            go_wp2_with fail
            go_quiet (first | (go_at_call 11; exact Calls.quiet_of_same ((HFIT.out _).mono fun _ _ h => ⟨h.1, h.2.symm⟩)))
            go_wp2_with fail
            rename_i nq
            have R1 := Lib.hid ((R.out.fr0 (Fr.drewN S0 wr nq)).fr0 (Fr.drew S0 _))
            go_region_law (go_simp; go_at_call 10; refine (new_group R1.out N c hN32 HF.out (by omega)).mono ?_; rintro e w5 ⟨rfl, h5⟩; have R5 := Lib.hid h5; clear h5; dsimp only)
            all_goals
              go_wp2
              go_roundw
              case rel => exact ⟨k + 1, by omega, by omega, by go_num, by rw [HIL.out], by rw [HI.out]; exact R5.out⟩
              case measure => simp [intOf]; omega
        · have HB : Hid (itB (N, c, cd) = []) := Lib.hid (if_neg hf)
          rw [Bool.not_eq_true] at hf
          rw [hf] at HFIT
          clear hf
          go_wp2_with fail
          go_quiet (first | (go_at_call 11; exact Calls.quiet_of_same ((HFIT.out _).mono fun _ _ h => ⟨h.1, h.2.symm⟩)))
          go_wp2
          go_roundw
          case rel => exact ⟨k + 1, by omega, by omega, by go_num, by rw [HS.out, HB.out, List.append_nil], by rw [HS.out, HB.out, List.append_nil]; exact R.out.fr0 (Fr.drewN _ _ _)⟩
          case measure => simp [intOf]; omega
      · have HM : Hid (k = 100) := Lib.hid (by omega)
        obtain ⟨m, hm⟩ : ∃ m, k = m := ⟨_, rfl⟩
        rw [hm] at R ⊢
        have hmn : m ≤ n := by omega
        have hm100 : m ≤ 100 := by omega
        have hLl := allB_le it m
        have HLB := Lib.hid (allB_bit it m)
        have HRI := Lib.hid (fun k h hk => read_item it k m h hk)
        obtain ⟨L, hL⟩ : ∃ L, allB it m = L := ⟨_, rfl⟩
        have HLK := Lib.hid hL
        rw [hL] at R hLl HLB HRI ⊢
        have hLs : L.length ≤ 3200 := by omega
        clear hL hLl
        obtain ⟨rr, hb0, -⟩ := R.out
        go_wp2_with fail
        refine (bytes_any g rr L wr hb0 (by omega)).mono ?_
        rintro e w2 ⟨v, rfl, f2, hv⟩
        clear hb0
        obtain ⟨p3, c3, rfl, hn3, -⟩ := slForm hv.own
        have HLB2 := Lib.hid (byt_length L)
        obtain ⟨B, hB⟩ : ∃ B, byt L = B := ⟨_, rfl⟩
        have HB8 : Hid (∀ x ∈ B, x < 256) := Lib.hid (by rw [← hB]; exact byt_lt L HLB.out)
        rw [hB] at hv HLB2 HRI ⊢
        have HBE := Lib.hid hB
        clear hB
        go_wp2_with fail
        refine (new_any p3 c3 B w2 (SlI.ofOwns hv.own) HB8.out hn3 (by have := HLB2.out; omega)).mono ?_
        rintro e w3 ⟨g2, r2, rfl, hr3⟩
        have R3 := Lib.hid (WrRd.of R.out f2 hr3)
        clear f2 hv hr3 hn3 R
        go_wp2
        go_loopw [7] (fun i wr => ∃ k : Nat, k ≤ m ∧ i = .int .i64 k ∧ WrRd w wr g L g2 r2 B (allB it k).length) (fun i _ => 100 - (intOf i).toNat)
        case atStart => exact ⟨0, by omega, rfl, R3.out⟩
        case round =>
          obtain ⟨k2, hk2, rfl, hR⟩ := hrel
          have R := Lib.hid hR
          clear hR
          by_cases hkm : k2 < m
          · have hkn2 : (k2 : Int) < (n : Int) := by omega
            have hk12 : (k2 : Int) < 100 := by omega
            obtain ⟨b, o, rfl, hc⟩ := (HL.out.fr0 R.out.fr).2 (by omega)
            have c0 := hc k2 0 (by omega) (by omega)
            have c1 := hc k2 1 (by omega) (by omega)
            have c2 := hc k2 2 (by omega) (by omega)
            simp only [itC] at c0 c1 c2
            rw [Nat.add_zero] at c0
            have hN32 := HN.out k2 (by omega)
            have HRK := Lib.hid (fun h => HRI.out k2 h hkm)
            obtain ⟨⟨N, c, cd⟩, hx⟩ : ∃ x, it k2 = x := ⟨_, rfl⟩
            have HX := Lib.hid hx
            have HS : Hid (allB it (k2 + 1) = allB it k2 ++ itB (N, c, cd)) := Lib.hid (by rw [allB_succ, hx])
            rw [hx] at c0 c1 c2 hN32 HRK
            simp only at c0 c1 c2 hN32 HRK
            obtain ⟨K, hK⟩ : ∃ K, (allB it k2).length = K := ⟨_, rfl⟩
            have HSL : Hid ((allB it (k2 + 1)).length = K + (itB (N, c, cd)).length) := Lib.hid (by rw [HS.out, List.length_append, hK])
            rw [hK] at R HRK
            clear hc hx hK HS
            have HFI := Lib.hid (fun w => rfits_any N c w hN32)
            by_cases hf : fitB N c = true
            · have hcc := of_decide_eq_true hf
              have HRR := Lib.hid (HRK.out hf)
              have HIL := Lib.hid (itB_length (x := (N, c, cd)) hf)
              have HN2 : Hid (N % 2 ^ c.toNat = N) := Lib.hid (Nat.mod_eq_of_lt hcc.2.2)
              have HB : Hid (itB (N, c, cd) = if cd then code N c.toNat else grp N c.toNat) := Lib.hid (if_pos hf)
              rw [hf] at HFI
              obtain ⟨q, rfl⟩ : ∃ q : Nat, c = q := ⟨c.toNat, by omega⟩
              have hq : q ≤ 32 := by omega
              rw [Int.toNat_natCast] at HRR HN2 HB
              simp only [Int.toNat_natCast] at HIL
              have HKB : Hid (K + q ≤ 8 * B.length) := Lib.hid (by have h1 := HRR.out.2; have h2 := HLB2.out; omega)
              have HG := Lib.hid (fun w h => rgroup_ok g2 r2 B K q w h hq HKB.out (by have := HLB2.out; omega))
              rw [HRR.out.1] at HG
              clear hf hcc HRK HRR
              have HCC : Hid (∀ w', Fr S0 w w' → w'.cell? ⟨b, o + k2 * 3, none⟩ = some (.int .u32 (N : Nat)) ∧ w'.cell? ⟨b, o + k2 * 3 + 1, none⟩ = some (.int .i64 (q : Int)) ∧ w'.cell? ⟨b, o + k2 * 3 + 2, none⟩ = some (.bool cd)) := Lib.hid (by
                intro w' f
                obtain ⟨b', o', hbo, hc'⟩ := (HL.out.fr0 f).2 (by omega)
                simp only [Option.some.injEq, Addr.mk.injEq] at hbo
                obtain ⟨rfl, rfl, -⟩ := hbo
                have d0 := hc' k2 0 (by omega) (by omega)
                have d1 := hc' k2 1 (by omega) (by omega)
                have d2 := hc' k2 2 (by omega) (by omega)
                simp only [itC, HX.out] at d0 d1 d2
                exact ⟨d0, d1, d2⟩)
              cases cd with
              | true =>
                have HV : Hid (num (itB (N, (q : Int), true)) = turn N q) := Lib.hid (by rw [HB.out]; rfl)
                have HT := Lib.hid (fun w => turn_any (turn N q) q w (turn_32 N q hq) (by omega) (by omega))
                rw [Int.toNat_natCast, turn_turn, HN2.out] at HT
                rw [HV.out] at HG
                obtain ⟨T, hT⟩ : ∃ T, turn N q = T := ⟨_, rfl⟩
                rw [hT] at HG HT
                clear hT HV HB
                go_wp2_with fail
                go_quiet (first | (go_at_call 11; exact Calls.quiet_of_same ((HFI.out _).mono fun _ _ h => ⟨h.1, h.2.symm⟩)))
                go_wp2_with fail
                have R1 := Lib.hid (R.out.fr0 (Fr.drewN S0 wr nq))
                refine (HG.out _ R1.out.rd).mono ?_
                rintro e w5 ⟨rfl, t5⟩
                have R5 := Lib.hid (R1.out.to t5)
                obtain ⟨d0, d1, d2⟩ := HCC.out w5 R5.out.fr
                clear t5 c0 c1 c2 R1 R
                go_wp2_with fail
                refine (HT.out _).mono ?_
                rintro e w' ⟨rfl, rfl⟩
                go_wp2
                go_roundw
                case rel => exact ⟨k2 + 1, by omega, by go_num, by rw [HSL.out, HIL.out]; exact R5.out⟩
                case measure => simp [intOf]; omega
              | false =>
                have HV : Hid (num (itB (N, (q : Int), false)) = N) := Lib.hid (by rw [HB.out]; exact (num_grp N q).trans HN2.out)
                rw [HV.out] at HG
                clear HV HB
                go_wp2_with fail
                go_quiet (first | (go_at_call 11; exact Calls.quiet_of_same ((HFI.out _).mono fun _ _ h => ⟨h.1, h.2.symm⟩)))
                go_wp2_with fail
                have R1 := Lib.hid (R.out.fr0 (Fr.drewN S0 wr nq))
                refine (HG.out _ R1.out.rd).mono ?_
                rintro e w5 ⟨rfl, t5⟩
                have R5 := Lib.hid (R1.out.to t5)
                obtain ⟨d0, d1, d2⟩ := HCC.out w5 R5.out.fr
                clear t5 c0 c1 c2 R1 R
                go_wp2
                go_roundw
                case rel => exact ⟨k2 + 1, by omega, by go_num, by rw [HSL.out, HIL.out]; exact R5.out⟩
                case measure => simp [intOf]; omega
            · have HB : Hid (itB (N, c, cd) = []) := Lib.hid (if_neg hf)
              rw [Bool.not_eq_true] at hf
              rw [hf] at HFI
              clear hf
              go_wp2_with fail
              go_quiet (first | (go_at_call 11; exact Calls.quiet_of_same ((HFI.out _).mono fun _ _ h => ⟨h.1, h.2.symm⟩)))
              go_wp2
              go_roundw
              case rel => exact ⟨k2 + 1, by omega, by go_num, by rw [HSL.out, HB.out]; exact R.out.fr0 (Fr.drewN _ _ _)⟩
              case measure => simp [intOf]; omega
          · obtain rfl : k2 = m := by omega
            have hex : ¬ (k2 : Int) < 100 := by have := HM.out; omega
            rw [HLK.out] at R
            go_wp2_with fail
            obtain ⟨r3, hb3, -⟩ := R.out.ex
            refine (len_any g r3 L wr hb3).mono ?_
            rintro e w' ⟨rfl, rfl⟩
            go_wp2_with fail
            refine (bytes_any g r3 L wr hb3 (by omega)).mono ?_
            rintro e w6 ⟨v6, rfl, f6, hv6⟩
            rw [HBE.out] at hv6
            obtain ⟨p6, c6, rfl, -⟩ := slForm hv6.own
            have R6 := Lib.hid (R.out.fr0 f6)
            have e1 : (B.length : Int) = ((L.length : Int) + 7) / 8 := by have := HLB2.out; omega
            have HLT := Lib.hid (left_any g2 r2 B L.length w6 R6.out.rd (by have := HLB2.out; omega))
            clear hb3 hv6 f6 R
            go_wp2_with fail
            refine HLT.out.mono ?_
            rintro e w7 ⟨rfl, f7⟩
            have F7 := Lib.hid (R6.out.fr.trans0 f7)
            clear f7 HLT R6
            go_wp2
            go_ret
            exact ⟨congrArg (fun b => Ending.returned (.bool b)) (decide_eq_true (by omega)), F7.out⟩
    · have HM : Hid (k = n) := Lib.hid (by omega)
      obtain ⟨m, hm⟩ : ∃ m, k = m := ⟨_, rfl⟩
      rw [hm] at R ⊢
      have hmn : m ≤ n := by omega
      have hm100 : m ≤ 100 := by omega
      have hLl := allB_le it m
      have HLB := Lib.hid (allB_bit it m)
      have HRI := Lib.hid (fun k h hk => read_item it k m h hk)
      obtain ⟨L, hL⟩ : ∃ L, allB it m = L := ⟨_, rfl⟩
      have HLK := Lib.hid hL
      rw [hL] at R hLl HLB HRI ⊢
      have hLs : L.length ≤ 3200 := by omega
      clear hL hLl
      obtain ⟨rr, hb0, -⟩ := R.out
      go_wp2_with fail
      refine (bytes_any g rr L wr hb0 (by omega)).mono ?_
      rintro e w2 ⟨v, rfl, f2, hv⟩
      clear hb0
      obtain ⟨p3, c3, rfl, hn3, -⟩ := slForm hv.own
      have HLB2 := Lib.hid (byt_length L)
      obtain ⟨B, hB⟩ : ∃ B, byt L = B := ⟨_, rfl⟩
      have HB8 : Hid (∀ x ∈ B, x < 256) := Lib.hid (by rw [← hB]; exact byt_lt L HLB.out)
      rw [hB] at hv HLB2 HRI ⊢
      have HBE := Lib.hid hB
      clear hB
      go_wp2_with fail
      refine (new_any p3 c3 B w2 (SlI.ofOwns hv.own) HB8.out hn3 (by have := HLB2.out; omega)).mono ?_
      rintro e w3 ⟨g2, r2, rfl, hr3⟩
      have R3 := Lib.hid (WrRd.of R.out f2 hr3)
      clear f2 hv hr3 hn3 R
      go_wp2
      go_loopw [7] (fun i wr => ∃ k : Nat, k ≤ m ∧ i = .int .i64 k ∧ WrRd w wr g L g2 r2 B (allB it k).length) (fun i _ => 100 - (intOf i).toNat)
      case atStart => exact ⟨0, by omega, rfl, R3.out⟩
      case round =>
        obtain ⟨k2, hk2, rfl, hR⟩ := hrel
        have R := Lib.hid hR
        clear hR
        by_cases hkm : k2 < m
        · have hkn2 : (k2 : Int) < (n : Int) := by omega
          have hk12 : (k2 : Int) < 100 := by omega
          obtain ⟨b, o, rfl, hc⟩ := (HL.out.fr0 R.out.fr).2 (by omega)
          have c0 := hc k2 0 (by omega) (by omega)
          have c1 := hc k2 1 (by omega) (by omega)
          have c2 := hc k2 2 (by omega) (by omega)
          simp only [itC] at c0 c1 c2
          rw [Nat.add_zero] at c0
          have hN32 := HN.out k2 (by omega)
          have HRK := Lib.hid (fun h => HRI.out k2 h hkm)
          obtain ⟨⟨N, c, cd⟩, hx⟩ : ∃ x, it k2 = x := ⟨_, rfl⟩
          have HX := Lib.hid hx
          have HS : Hid (allB it (k2 + 1) = allB it k2 ++ itB (N, c, cd)) := Lib.hid (by rw [allB_succ, hx])
          rw [hx] at c0 c1 c2 hN32 HRK
          simp only at c0 c1 c2 hN32 HRK
          obtain ⟨K, hK⟩ : ∃ K, (allB it k2).length = K := ⟨_, rfl⟩
          have HSL : Hid ((allB it (k2 + 1)).length = K + (itB (N, c, cd)).length) := Lib.hid (by rw [HS.out, List.length_append, hK])
          rw [hK] at R HRK
          clear hc hx hK HS
          have HFI := Lib.hid (fun w => rfits_any N c w hN32)
          by_cases hf : fitB N c = true
          · have hcc := of_decide_eq_true hf
            have HRR := Lib.hid (HRK.out hf)
            have HIL := Lib.hid (itB_length (x := (N, c, cd)) hf)
            have HN2 : Hid (N % 2 ^ c.toNat = N) := Lib.hid (Nat.mod_eq_of_lt hcc.2.2)
            have HB : Hid (itB (N, c, cd) = if cd then code N c.toNat else grp N c.toNat) := Lib.hid (if_pos hf)
            rw [hf] at HFI
            obtain ⟨q, rfl⟩ : ∃ q : Nat, c = q := ⟨c.toNat, by omega⟩
            have hq : q ≤ 32 := by omega
            rw [Int.toNat_natCast] at HRR HN2 HB
            simp only [Int.toNat_natCast] at HIL
            have HKB : Hid (K + q ≤ 8 * B.length) := Lib.hid (by have h1 := HRR.out.2; have h2 := HLB2.out; omega)
            have HG := Lib.hid (fun w h => rgroup_ok g2 r2 B K q w h hq HKB.out (by have := HLB2.out; omega))
            rw [HRR.out.1] at HG
            clear hf hcc HRK HRR
            have HCC : Hid (∀ w', Fr S0 w w' → w'.cell? ⟨b, o + k2 * 3, none⟩ = some (.int .u32 (N : Nat)) ∧ w'.cell? ⟨b, o + k2 * 3 + 1, none⟩ = some (.int .i64 (q : Int)) ∧ w'.cell? ⟨b, o + k2 * 3 + 2, none⟩ = some (.bool cd)) := Lib.hid (by
              intro w' f
              obtain ⟨b', o', hbo, hc'⟩ := (HL.out.fr0 f).2 (by omega)
              simp only [Option.some.injEq, Addr.mk.injEq] at hbo
              obtain ⟨rfl, rfl, -⟩ := hbo
              have d0 := hc' k2 0 (by omega) (by omega)
              have d1 := hc' k2 1 (by omega) (by omega)
              have d2 := hc' k2 2 (by omega) (by omega)
              simp only [itC, HX.out] at d0 d1 d2
              exact ⟨d0, d1, d2⟩)
            cases cd with
            | true =>
              have HV : Hid (num (itB (N, (q : Int), true)) = turn N q) := Lib.hid (by rw [HB.out]; rfl)
              have HT := Lib.hid (fun w => turn_any (turn N q) q w (turn_32 N q hq) (by omega) (by omega))
              rw [Int.toNat_natCast, turn_turn, HN2.out] at HT
              rw [HV.out] at HG
              obtain ⟨T, hT⟩ : ∃ T, turn N q = T := ⟨_, rfl⟩
              rw [hT] at HG HT
              clear hT HV HB
              go_wp2_with fail
              go_quiet (first | (go_at_call 11; exact Calls.quiet_of_same ((HFI.out _).mono fun _ _ h => ⟨h.1, h.2.symm⟩)))
              go_wp2_with fail
              have R1 := Lib.hid (R.out.fr0 (Fr.drewN S0 wr nq))
              refine (HG.out _ R1.out.rd).mono ?_
              rintro e w5 ⟨rfl, t5⟩
              have R5 := Lib.hid (R1.out.to t5)
              obtain ⟨d0, d1, d2⟩ := HCC.out w5 R5.out.fr
              clear t5 c0 c1 c2 R1 R
              go_wp2_with fail
              refine (HT.out _).mono ?_
              rintro e w' ⟨rfl, rfl⟩
              go_wp2
              go_roundw
              case rel => exact ⟨k2 + 1, by omega, by go_num, by rw [HSL.out, HIL.out]; exact R5.out⟩
              case measure => simp [intOf]; omega
            | false =>
              have HV : Hid (num (itB (N, (q : Int), false)) = N) := Lib.hid (by rw [HB.out]; exact (num_grp N q).trans HN2.out)
              rw [HV.out] at HG
              clear HV HB
              go_wp2_with fail
              go_quiet (first | (go_at_call 11; exact Calls.quiet_of_same ((HFI.out _).mono fun _ _ h => ⟨h.1, h.2.symm⟩)))
              go_wp2_with fail
              have R1 := Lib.hid (R.out.fr0 (Fr.drewN S0 wr nq))
              refine (HG.out _ R1.out.rd).mono ?_
              rintro e w5 ⟨rfl, t5⟩
              have R5 := Lib.hid (R1.out.to t5)
              obtain ⟨d0, d1, d2⟩ := HCC.out w5 R5.out.fr
              clear t5 c0 c1 c2 R1 R
              go_wp2
              go_roundw
              case rel => exact ⟨k2 + 1, by omega, by go_num, by rw [HSL.out, HIL.out]; exact R5.out⟩
              case measure => simp [intOf]; omega
          · have HB : Hid (itB (N, c, cd) = []) := Lib.hid (if_neg hf)
            rw [Bool.not_eq_true] at hf
            rw [hf] at HFI
            clear hf
            go_wp2_with fail
            go_quiet (first | (go_at_call 11; exact Calls.quiet_of_same ((HFI.out _).mono fun _ _ h => ⟨h.1, h.2.symm⟩)))
            go_wp2
            go_roundw
            case rel => exact ⟨k2 + 1, by omega, by go_num, by rw [HSL.out, HB.out]; exact R.out.fr0 (Fr.drewN _ _ _)⟩
            case measure => simp [intOf]; omega
        · obtain rfl : k2 = m := by omega
          have hex : ¬ (k2 : Int) < (n : Int) := by have := HM.out; omega
          rw [HLK.out] at R
          go_wp2_with fail
          obtain ⟨r3, hb3, -⟩ := R.out.ex
          refine (len_any g r3 L wr hb3).mono ?_
          rintro e w' ⟨rfl, rfl⟩
          go_wp2_with fail
          refine (bytes_any g r3 L wr hb3 (by omega)).mono ?_
          rintro e w6 ⟨v6, rfl, f6, hv6⟩
          rw [HBE.out] at hv6
          obtain ⟨p6, c6, rfl, -⟩ := slForm hv6.own
          have R6 := Lib.hid (R.out.fr0 f6)
          have e1 : (B.length : Int) = ((L.length : Int) + 7) / 8 := by have := HLB2.out; omega
          have HLT := Lib.hid (left_any g2 r2 B L.length w6 R6.out.rd (by have := HLB2.out; omega))
          clear hb3 hv6 f6 R
          go_wp2_with fail
          refine HLT.out.mono ?_
          rintro e w7 ⟨rfl, f7⟩
          have F7 := Lib.hid (R6.out.fr.trans0 f7)
          clear f7 HLT R6
          go_wp2
          go_ret
          exact ⟨congrArg (fun b => Ending.returned (.bool b)) (decide_eq_true (by omega)), F7.out⟩
end Go.Proofs.Ytijcomakomihbaa
