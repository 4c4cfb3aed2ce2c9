/- HufRefs -/
import Derived.Test.YtnndgpggjlhhpaaGreatPr1
import Derived.Test.YtnndgpggjlhhpaaGreatPr2
import Derived.Test.YtnndgpggjlhhpaaGreatPr15
import Derived.Test.YtnndgpggjlhhpaaGreatPr20
import Derived.Deep.RegionHeld3
import Derived.StillTailTactics
import Derived.WalkKit
import Derived.WalkSpells
import Derived.WalkLawsBesides
import Derived.Deep.QuietTactic
import Derived.BigQuiet
import Derived.RegionTactic
import Derived.Deep.AppendLies
import Derived.Deep.RegionLaw
import Derived.Laws.ResultCell
import Derived.Laws.EntriesVeiled
import Derived.Lib.Hide
import Derived.Test.YtnndgpggjlhhpaaGreatRows
import Derived.Laws.BytesArg
import Derived.Lib.SlBytesConst
import Derived.Maps.AppendAt
import Derived.Laws.AppendOwnNone
import Derived.Laws.MakeOwn
import Derived.BigRegion
import Derived.Laws.OwnMore
import Derived.IntWalk
import Derived.Lib.MakeNoZero
import Derived.Laws.CopyOwn
set_option maxRecDepth 100000
set_option maxHeartbeats 8000000
namespace Go.Proofs.YtnndgpggjlhhpaaGreat
open Go.RowKit
theorem rgrp_any (n c : Nat) (w : World) (hn : n < 4294967296) (hc : c ≤ 32) :
    Calls Tryz.prog 136 #[.int .u32 n, .int .i64 c] w fun e w' => ∃ v, e = .returned v ∧ Fr S0 w w' ∧ RowNew w w' v (grp n c) := by
  have HR : Hid (∀ j : Nat, j < c → Room (j + 1)) := Lib.hid fun j h => Room.mk (by omega)
  go_enter Tryz.func136, Tryz.ntmps136
  go_wp2
  go_loopw [0, 5, 6] (fun m v i wr => ∃ j : Nat, j ≤ c ∧ i = .int .i64 j ∧ m = .int .u32 (n / 2 ^ j : Nat) ∧ Fr S0 w wr ∧ wr.ownsRow 0 5 1 v j (u8s (grp n j)) ∧ Fresh w v) (fun _ _ i _ => c - (intOf i).toNat)
  case atStart => exact ⟨0, by omega, rfl, by rw [Nat.pow_zero, Nat.div_one], Fr.refl _ _, World.ownsRow_nil _ _ _ _, fresh_nil _ _⟩
  case round =>
    obtain ⟨j, hj, rfl, rfl, hfr, own, hfv⟩ := hrel
    have HD : Hid (n / 2 ^ (j + 1) = n / 2 ^ j / 2) := Lib.hid (by rw [Nat.div_div_eq_div_mul, Nat.pow_succ])
    have HG : Hid (grp n (j + 1) = grp n j ++ [n / 2 ^ j % 2]) := Lib.hid (grp_succ n j)
    obtain ⟨m, hm⟩ : ∃ m, n / 2 ^ j = m := ⟨_, rfl⟩
    have hms : m < 4294967296 := by rw [← hm]; exact Nat.lt_of_le_of_lt (Nat.div_le_self _ _) hn
    have em : (m : Int) % 2 = ((m % 2 : Nat) : Int) := by omega
    have EM := Lib.hid em
    rw [hm] at HD HG ⊢
    clear hm em
    by_cases hjc : (j : Int) < (c : Int)
    · have HRJ := Lib.hid (HR.out j (by omega))
      obtain ⟨p, cp, rfl, -, -, -⟩ := slForm own
      go_wp2_with (first
        | ((with_reducible show wpList _ _ _ (Oper.mk (some 17) _ _ _ _ _ :: _) _ _); refine app_one el8 (.tmp 12) (.tmp 16) rfl own rfl rfl rfl rfl rfl one8 HRJ.out ?_; intro q cap w1 hown hgrow hat hlt1; have f1 := (hfr.trans0 (Fr.alloc S0 wr _)).append hgrow hfv; have v1 := fresh_app (n := j + 1) (c := cap) hfr hfv hat; clear hgrow hat hlt1)
        | fail)
      go_roundw
      case rel =>
        refine ⟨j + 1, by omega, by go_num, by rw [HD.out]; go_num, f1, ?_, v1⟩
        rw [HG.out, ← u8s_append, u8s_one, ← EM.out]
        exact hown
      case measure => simp [intOf]; omega
    · obtain rfl : j = c := by omega
      go_wp2
      go_ret
      exact ⟨_, rfl, hfr, by rw [grp_length]; exact own, hfv⟩
theorem num_drop (l : List Nat) (i : Nat) (h : i < l.length) : num (l.drop i) = 2 * num (l.drop (i + 1)) + l[i] := by
  rw [List.drop_eq_getElem_cons h, num]; omega
theorem num_32 {l : List Nat} (h : Bit01 l) (hl : l.length ≤ 32) : num l < 4294967296 :=
  Nat.lt_of_lt_of_le (num_lt l h) (Nat.pow_le_pow_right (n := 2) (by decide) hl)
theorem rnumber_any (q : Option Addr) (d : Nat) (l : List Nat) (w : World) (hl : SlI w .u8 q l) (hb : Bit01 l) (hL : l.length ≤ 32) :
    Calls Tryz.prog 162 #[.slice q l.length d] w fun e w' => e = .returned (.int .u32 (num l : Nat)) ∧ w = w' := by
  have HL := Lib.hid hl
  have HB := Lib.hid hb
  clear hl hb
  go_enter Tryz.func162, Tryz.ntmps162
  go_wp2
  go_loopw [3, 4] (fun v i wr => ∃ j : Nat, j ≤ l.length ∧ i = .int .i64 ((j : Int) - 1) ∧ v = .int .u32 (num (l.drop j) : Nat) ∧ w = wr) (fun _ i _ => (intOf i + 1).toNat)
  case atStart => exact ⟨l.length, by omega, rfl, by rw [List.drop_length]; rfl, rfl⟩
  case round =>
    obtain ⟨j, hj, rfl, rfl, rfl⟩ := hrel
    by_cases hjc : 0 < j
    · obtain ⟨i, rfl⟩ : ∃ i, j = i + 1 := ⟨j - 1, by omega⟩
      have HN := Lib.hid (num_drop l i (by omega))
      have h32 := num_32 (l := l.drop i) (HB.out.sub fun _ hx => List.mem_of_mem_drop hx) (by rw [List.length_drop]; omega)
      rw [HN.out] at h32
      obtain ⟨b, o, rfl, hc⟩ := HL.out.at i (by omega)
      obtain ⟨x, hx⟩ : ∃ x, l[i] = x := ⟨_, rfl⟩
      obtain ⟨m, hm⟩ : ∃ m, num (l.drop (i + 1)) = m := ⟨_, rfl⟩
      rw [hx] at hc HN h32
      rw [hm] at HN h32 ⊢
      have hil : i < l.length := by omega
      have ei : ((i + 1 : Nat) : Int) - 1 = (i : Int) := by omega
      rw [ei]
      clear hx hm ei
      go_wp2
      go_roundw
      case rel => exact ⟨i, by omega, rfl, by rw [HN.out]; go_num, by trivial⟩
      case measure => simp [intOf]
    · obtain rfl : j = 0 := by omega
      rw [List.drop_zero]
      obtain ⟨m, hm⟩ : ∃ m, num l = m := ⟨_, rfl⟩
      rw [hm]
      have HM := Lib.hid hm
      clear hm
      go_wp2
      go_ret
      exact ⟨by rw [HM.out]; rfl, rfl⟩
theorem u8_wrap (x : Nat) (h : x < 256) : (x : Int) % 256 = (x : Int) := by omega
theorem rbytes_any (q : Option Addr) (d : Nat) (l : List Nat) (w : World) (hl : SlI w .u8 q l) (hb : Bit01 l) (hL : l.length ≤ 1099511627776) (hd : l.length ≤ d) :
    Calls Tryz.prog 138 #[.slice q l.length d] w fun e w' => ∃ v, e = .returned v ∧ Fr S0 w w' ∧ RowNew w w' v (byt l) := by
  have HR : Hid (∀ j : Nat, 8 * j < l.length → Room (j + 1)) := Lib.hid fun j h => Room.mk (by omega)
  have HL := Lib.hid hl
  have HB := Lib.hid hb
  have HLEN := Lib.hid (byt_length l)
  clear hl hb
  go_enter Tryz.func138, Tryz.ntmps138
  go_wp2
  go_loopw [3, 4] (fun v i wr => ∃ j : Nat, j ≤ (byt l).length ∧ i = .int .i64 (8 * j : Nat) ∧ Fr S0 w wr ∧ wr.ownsRow 0 5 1 v j (u8s ((byt l).take j)) ∧ Fresh w v) (fun _ i _ => l.length + 8 - (intOf i).toNat)
  case atStart => exact ⟨0, by omega, rfl, Fr.refl _ _, World.ownsRow_nil _ _ _ _, fresh_nil _ _⟩
  case round =>
    obtain ⟨j, hj, rfl, hfr, own, hfv⟩ := hrel
    obtain ⟨J, hJ⟩ : ∃ J, 8 * j = J := ⟨_, rfl⟩
    have HJ := Lib.hid hJ
    rw [hJ]
    by_cases hjc : (J : Int) < (l.length : Int)
    · have HRJ := Lib.hid (HR.out j (by omega))
      have hjl : j < (byt l).length := by rw [HLEN.out]; omega
      have hG : (byt l).take (j + 1) = (byt l).take j ++ [num ((l.drop J).take 8)] := by rw [List.take_succ_eq_append_getElem hjl, byt_get]; unfold oct; rw [hJ]
      have hx8 := oct_lt l HB.out j
      unfold oct at hx8
      rw [hJ] at hx8
      obtain ⟨b, o, rfl, -⟩ := (HL.out.fr0 hfr).at J (by omega)
      have hs := ((HL.out.fr0 hfr).drop J).take 8
      obtain ⟨m, hm⟩ : ∃ m, ((l.drop J).take 8).length = m := ⟨_, rfl⟩
      have hN := rnumber_any (some ⟨b, o + J, none⟩) (d - J) ((l.drop J).take 8) wr hs (HB.out.sub fun _ hx => List.mem_of_mem_drop (List.mem_of_mem_take hx)) (by rw [List.length_take]; omega)
      have hmm : m = min 8 (l.length - J) := by rw [← hm, List.length_take, List.length_drop]
      rw [hm] at hN
      obtain ⟨x, hx⟩ : ∃ x, num ((l.drop J).take 8) = x := ⟨_, rfl⟩
      rw [hx] at hG hx8 hN
      have HG := Lib.hid hG
      have HN := Lib.hid hN
      have ex := u8_wrap x hx8
      have HMM := Lib.hid hmm
      obtain ⟨p, cp, rfl, -, -, -⟩ := slForm own
      clear hG hN hs hx hm hmm hJ
      have hcd : ¬ d = J := by omega
      by_cases h8 : (l.length : Int) ≤ (J : Int) + 8
      · have HE : Hid (l.length - J = m) := Lib.hid (by have := HMM.out; omega)
        go_wp2_with fail
        rw [HE.out]
        refine HN.out.mono ?_
        rintro e w1 ⟨rfl, rfl⟩
        go_wp2_with (first
          | ((with_reducible show wpList _ _ _ (Oper.mk (some 23) _ _ _ _ _ :: _) _ _); refine app_one el8 (.tmp 11) (.tmp 22) rfl own rfl rfl rfl rfl rfl one8 HRJ.out ?_; intro g cap w1 hown hgrow hat hlt1; have f1 := (hfr.trans0 (Fr.alloc S0 wr _)).append hgrow hfv; have v1 := fresh_app (n := j + 1) (c := cap) hfr hfv hat; clear hgrow hat hlt1)
          | fail)
        go_roundw
        case rel =>
          refine ⟨j + 1, by omega, ?_, f1, ?_, v1⟩
          · have := HJ.out
            congr 1
            omega
          · rw [HG.out, ← u8s_append, u8s_one]
            exact hown
        case measure => simp [intOf]; omega
      · obtain rfl : m = 8 := by have := HMM.out; omega
        go_wp2_with fail
        refine HN.out.mono ?_
        rintro e w1 ⟨rfl, rfl⟩
        go_wp2_with (first
          | ((with_reducible show wpList _ _ _ (Oper.mk (some 23) _ _ _ _ _ :: _) _ _); refine app_one el8 (.tmp 11) (.tmp 22) rfl own rfl rfl rfl rfl rfl one8 HRJ.out ?_; intro g cap w1 hown hgrow hat hlt1; have f1 := (hfr.trans0 (Fr.alloc S0 wr _)).append hgrow hfv; have v1 := fresh_app (n := j + 1) (c := cap) hfr hfv hat; clear hgrow hat hlt1)
          | fail)
        go_roundw
        case rel =>
          refine ⟨j + 1, by omega, ?_, f1, ?_, v1⟩
          · have := HJ.out
            congr 1
            omega
          · rw [HG.out, ← u8s_append, u8s_one]
            exact hown
        case measure => simp [intOf]; omega
    · obtain rfl : j = (byt l).length := by have := HLEN.out; have := HJ.out; omega
      rw [List.take_length] at own
      go_wp2
      go_ret
      exact ⟨_, rfl, hfr, own, hfv⟩
end Go.Proofs.YtnndgpggjlhhpaaGreat
namespace Go.Proofs.YtnndgpggjlhhpaaGreat
open Go.RowKit
def outTo (l : List Nat) (n j : Nat) : List Nat := (List.range l.length).map fun i => if 0 < len l i ∧ (len l i < n ∨ (len l i = n ∧ i < j)) then cod l i else 0
theorem outTo_length (l : List Nat) (n j : Nat) : (outTo l n j).length = l.length := by simp [outTo]
theorem outTo_get (l : List Nat) (n j i : Nat) (h : i < (outTo l n j).length) : (outTo l n j)[i] = if 0 < len l i ∧ (len l i < n ∨ (len l i = n ∧ i < j)) then cod l i else 0 := by simp [outTo]
theorem outTo_zero (l : List Nat) : outTo l 1 0 = List.replicate l.length 0 := by
  apply List.ext_getElem
  · simp [outTo]
  · intro i h1 h2
    rw [outTo_get, if_neg (by omega)]
    simp
theorem outTo_turn (l : List Nat) (n : Nat) : outTo l n l.length = outTo l (n + 1) 0 := by
  apply List.ext_getElem
  · simp [outTo]
  · intro i h1 h2
    rw [outTo_get, outTo_get]
    have hi : i < l.length := by rw [outTo_length] at h1; exact h1
    by_cases h : 0 < len l i ∧ len l i ≤ n
    · rw [if_pos (by omega), if_pos (by omega)]
    · rw [if_neg (by omega), if_neg (by omega)]
theorem outTo_end (l : List Nat) (h : ∀ x ∈ l, x ≤ 15) : outTo l 16 0 = cods l := by
  apply List.ext_getElem
  · simp [outTo, cods]
  · intro i h1 h2
    rw [outTo_get, cods_get]
    have h3 := Nat.le_trans (mx_len l i) (mx_le h)
    by_cases h0 : 0 < len l i
    · rw [if_pos (by omega)]
    · rw [if_neg (by omega)]
      unfold cod; rw [if_pos (by omega)]
theorem outTo_no (l : List Nat) (n j : Nat) (h : len l j ≠ n) : outTo l n (j + 1) = outTo l n j := by
  apply List.ext_getElem
  · simp [outTo]
  · intro i h1 h2
    rw [outTo_get, outTo_get]
    by_cases e : i = j
    · subst e
      by_cases k : 0 < len l i ∧ len l i < n
      · rw [if_pos (by omega), if_pos (by omega)]
      · rw [if_neg (by omega), if_neg (by omega)]
    · by_cases k : 0 < len l i ∧ (len l i < n ∨ (len l i = n ∧ i < j))
      · rw [if_pos (by omega), if_pos k]
      · rw [if_neg (by omega), if_neg k]
theorem outTo_yes (l : List Nat) (n j : Nat) (h : len l j = n) (hn : 0 < n) : outTo l n (j + 1) = (outTo l n j).set j (cod l j) := by
  apply List.ext_getElem
  · simp [outTo]
  · intro i h1 h2
    rw [List.getElem_set, outTo_get]
    by_cases e : j = i
    · subst e; rw [if_pos (by omega), if_pos rfl]
    · rw [if_neg e, outTo_get]
      by_cases k : 0 < len l i ∧ (len l i < n ∨ (len l i = n ∧ i < j))
      · rw [if_pos (by omega), if_pos k]
      · rw [if_neg (by omega), if_neg k]
theorem cod_next (l : List Nat) (n j : Nat) (hj : j < l.length) (hn : 0 < n) (h : len l j = n) : cod l j = fst l n + mny (l.take j) n ∧ fst l n + mny (l.take (j + 1)) n = cod l j + 1 := by
  have hc : cod l j = fst l n + mny (l.take j) n := by rw [cod_pos (by omega), h, mny_pos _ hn]; unfold zrnk; rw [h]
  refine ⟨hc, ?_⟩
  rw [mny_take l j hj, if_pos ⟨h, hn⟩, hc]; omega
theorem rcodes_any (p : Option Addr) (d : Nat) (l : List Nat) (w : World) (hl : SlI w .u8 p l) (h15 : ∀ x ∈ l, x ≤ 15) (hL : l.length ≤ 320) :
    Calls Tryz.prog 132 #[.slice p l.length d] w fun e w' => ∃ v, e = .returned v ∧ Fr S0 w w' ∧ Row32 w w' v (cods l) := by
  have HL := Lib.hid hl
  have H15 := Lib.hid h15
  have HM := fun w => make_u32 w l.length (by omega)
  clear hl h15
  go_enter Tryz.func132, Tryz.ntmps132
  go_wp2_with fail
  have f0 : Fr S0 w (w.alloc (.cells (zzers .u32 l.length) 54)) := Fr.alloc _ _ _
  have o0 := zers_own w .u32 54 l.length (by omega)
  obtain ⟨g, hg⟩ : ∃ g, w.heap.size = g := ⟨_, rfl⟩
  rw [hg] at o0 ⊢
  have HG : Hid (w.heap.size ≤ g) := Lib.hid (by omega)
  generalize w.alloc (.cells (zzers .u32 l.length) 54) = W at f0 o0 ⊢
  have HO := Lib.hid o0
  clear o0 hg HM
  go_loopw [4, 5, 6] (fun c n _ wr => ∃ (k C : Nat), 1 ≤ k ∧ k ≤ 16 ∧ n = .int .u8 k ∧ c = .int .u32 C ∧ C = ztop l (k - 1) ∧ Fr S0 w wr ∧ wr.ownsRow 0 54 1 (.slice (some ⟨g, 0, none⟩) l.length l.length) l.length (u32s (outTo l k 0))) (fun _ n _ _ => 16 - (intOf n).toNat)
  case atStart => exact ⟨1, 0, by omega, by omega, rfl, rfl, rfl, f0, by rw [outTo_zero]; exact HO.out⟩
  case round =>
    obtain ⟨k, C, hk1, hk, rfl, rfl, hC, hfr, own⟩ := hrel
    by_cases hkc : (k : Int) ≤ 15
    · have bC : C ≤ 65535000 := by rw [hC]; exact top_small l (k - 1) (by omega) (by omega)
      have HC : Hid (2 * C = fst l k) := Lib.hid (by rw [hC]; obtain ⟨q, rfl⟩ : ∃ q, k = q + 1 := ⟨k - 1, by omega⟩; rw [fst_succ]; rfl)
      have HO2 := Lib.hid own
      clear hC own
      go_wp2_with fail
      go_loopw [4, 6] (fun c i wr => ∃ (j D : Nat), j ≤ l.length ∧ i = .int .i64 j ∧ c = .int .u32 D ∧ D = fst l k + mny (l.take j) k ∧ Fr S0 w wr ∧ wr.ownsRow 0 54 1 (.slice (some ⟨g, 0, none⟩) l.length l.length) l.length (u32s (outTo l k j))) (fun _ i _ => l.length - (intOf i).toNat)
      case atStart => exact ⟨0, 2 * C, by omega, rfl, by go_num, by rw [HC.out, cnt_zero]; rfl, hfr, HO2.out⟩
      case round =>
        obtain ⟨j, D, hj, rfl, rfl, hD, hfr2, own⟩ := hrel
        by_cases hjc : (j : Int) < (l.length : Int)
        · have hjl : j < l.length := by omega
          obtain ⟨b, o, hpe, hcl⟩ := (HL.out.fr0 hfr2).at j hjl
          have hx15 := H15.out _ (List.getElem_mem hjl)
          have HLEN := Lib.hid (len_get l j hjl)
          have bD : D ≤ 65535000 + 320 := by
            rw [hD]
            have := fst_small l k (by omega) (by omega)
            have := mny_le (l.take j) k
            rw [List.length_take] at this
            omega
          have HD := Lib.hid hD
          obtain ⟨x, hx⟩ : ∃ x, l[j] = x := ⟨_, rfl⟩
          rw [hx] at hcl hx15 HLEN
          subst hpe
          clear hx hD
          by_cases hxk : x = k
          · subst hxk
            have HN := Lib.hid (cod_next l x j hjl (by omega) HLEN.out)
            have HY := Lib.hid (outTo_yes l x j HLEN.out (by omega))
            have k7 := own.cellAt j (by omega)
            have k8 := own.frozenAt j
            have hu : j < (u32s (outTo l x j)).length := by unfold u32s; rw [List.length_map, outTo_length]; exact hjl
            rw [List.getElem?_eq_getElem hu] at k7
            obtain ⟨u, hu'⟩ : ∃ u, (u32s (outTo l x j))[j] = u := ⟨_, rfl⟩
            rw [hu'] at k7
            have HS := Lib.hid (own.stored j (.int .u32 (D : Nat))).1
            clear hu hu' own
            go_wp2_with fail
            go_roundw
            case rel =>
              refine ⟨j + 1, D + 1, by omega, by go_num, by go_num, by rw [HN.out.2, HN.out.1, ← HD.out], hfr2.trans (Fr.setCell (· = g) _ ⟨g, j, none⟩ _ rfl) (fun q hq e => by have := HG.out; omega), ?_⟩
              rw [HY.out, HN.out.1, ← HD.out]
              unfold u32s
              rw [List.map_set]
              exact HS.out
            case measure => simp [intOf]; omega
          · have hne : ((x : Int) == (k : Int)) = false := by rw [beq_eq_false_iff_ne]; omega
            have HN := Lib.hid (outTo_no l k j (by rw [HLEN.out]; exact hxk))
            have HMT : Hid (mny (l.take (j + 1)) k = mny (l.take j) k) := Lib.hid (by rw [mny_take l j hjl, if_neg (by rw [HLEN.out]; omega)])
            have HO3 := Lib.hid own
            clear hxk own
            go_wp2_with fail
            go_roundw
            case rel => exact ⟨j + 1, D, by omega, by go_num, rfl, by rw [HMT.out]; exact HD.out, hfr2, by rw [HN.out]; exact HO3.out⟩
            case measure => simp [intOf]; omega
        · obtain rfl : j = l.length := by omega
          rw [List.take_length] at hD
          have HD : Hid (D = ztop l k) := Lib.hid (by rw [hD, top_eq])
          have HO3 := Lib.hid own
          clear hD own
          go_wp2_with fail
          go_roundw
          case rel => exact ⟨k + 1, D, by omega, by omega, by go_num, rfl, by rw [HD.out]; rfl, hfr2, by rw [← outTo_turn]; exact HO3.out⟩
          case measure => simp [intOf]; omega
    · obtain rfl : k = 16 := by omega
      have HO2 := Lib.hid own
      clear own hC
      go_wp2_with fail
      go_ret
      refine ⟨.slice (some ⟨g, 0, none⟩) l.length l.length, rfl, hfr, ?_, fun q hq => by simp only [Value.ownBlock, Option.some.injEq] at hq; have := HG.out; omega⟩
      rw [cods_length, ← outTo_end l H15.out]
      exact HO2.out
end Go.Proofs.YtnndgpggjlhhpaaGreat
namespace Go.Proofs.YtnndgpggjlhhpaaGreat
open Go.RowKit
theorem code_succ (c j : Nat) : code c (j + 1) = [c / 2 ^ j % 2] ++ code c j := by
  unfold code
  rw [grp_succ, List.reverse_append]
  rfl
theorem rbits5_any (c n : Nat) (w : World) (hc : c < 4294967296) (hn : n ≤ 15) :
    Calls Tryz.prog 134 #[.int .u32 c, .int .u8 n] w fun e w' => ∃ v, e = .returned v ∧ Fr S0 w w' ∧ RowNew w w' v (code c n) := by
  have HR : Hid (∀ j : Nat, j < n → Room (1 + j)) := Lib.hid fun j h => Room.mk (by omega)
  go_enter Tryz.func134, Tryz.ntmps134
  go_wp2_with fail
  go_loopw [0, 5, 6] (fun m v i wr => ∃ j : Nat, j ≤ n ∧ i = .int .u8 j ∧ m = .int .u32 (c / 2 ^ j : Nat) ∧ Fr S0 w wr ∧ wr.ownsRow 0 5 1 v j (u8s (code c j)) ∧ Fresh w v) (fun _ _ i _ => n - (intOf i).toNat)
  case atStart => exact ⟨0, by omega, rfl, by rw [Nat.pow_zero, Nat.div_one], Fr.refl _ _, World.ownsRow_nil _ _ _ _, fresh_nil _ _⟩
  case round =>
    obtain ⟨j, hj, rfl, rfl, hfr, own, hfv⟩ := hrel
    have HD : Hid (c / 2 ^ (j + 1) = c / 2 ^ j / 2) := Lib.hid (by rw [Nat.div_div_eq_div_mul, Nat.pow_succ])
    have HG := Lib.hid (code_succ c j)
    obtain ⟨m, hm⟩ : ∃ m, c / 2 ^ j = m := ⟨_, rfl⟩
    have hms : m < 4294967296 := by rw [← hm]; exact Nat.lt_of_le_of_lt (Nat.div_le_self _ _) hc
    have em : (m : Int) % 2 = ((m % 2 : Nat) : Int) := by omega
    have EM := Lib.hid em
    rw [hm] at HD HG ⊢
    clear hm em
    by_cases hjc : (j : Int) < (n : Int)
    · have HRJ := Lib.hid (HR.out j (by omega))
      obtain ⟨p, cp, rfl, -, -, -⟩ := slForm own
      have HSZ := Lib.hid hfr.size
      go_wp2_with (first
        | ((with_reducible show wpList _ _ _ (Oper.mk (some 17) _ _ _ _ _ :: _) _ _); refine app_many el8 (.tmp 15) (.tmp 16) (own_one wr _ 5) (SrcIs.ofOwns (own.alloc _)) rfl rfl rfl rfl rfl (one8s _) HRJ.out ?_; intro q1 c1 w1 own1 g1 at1; have f1 := fr_made hfr g1; have v1 := fresh_many (fresh_made (n := 1) (c := 1) hfr) (size_le hfr) at1; clear g1 at1)
        | fail)
      go_roundw
      case rel =>
        refine ⟨j + 1, by omega, by go_num, by rw [HD.out]; go_num, f1, ?_, v1⟩
        rw [HG.out, ← u8s_append, u8s_one, ← EM.out, Nat.add_comm j 1]
        exact own1
      case measure => simp [intOf]; omega
    · obtain rfl : j = n := by omega
      go_wp2
      go_ret
      exact ⟨_, rfl, hfr, by rw [code_length]; exact own, hfv⟩
end Go.Proofs.YtnndgpggjlhhpaaGreat
