/- The document's answers of layer 14: Below, Key, Cut. -/
import Derived.Test.YtegdhggilaehdaaSpList
import Derived.Deep.CutBlock
import Derived.Deep.DeepCutAuto
import Derived.Deep.CutRange
namespace Go.Proofs.Ytegdhggilaehdaa
open Go.RowKit

/-- what is below a key, or up to it -/
def belB (l : List Pr) (k : Int) (too : Bool) : Nat := if too then upt l k else bel l k
theorem belB_take {l : List Pr} {k : Int} {too : Bool} {j : Nat} (h : j < l.length) : belB (l.take (j + 1)) k too = belB (l.take j) k too + if l[j].1 < k ∨ (too = true ∧ l[j].1 = k) then l[j].2 else 0 := by
  rw [List.take_succ_eq_append_getElem h]
  have e1 : ∀ d : List Pr, bel (d ++ [l[j]]) k = bel d k + if l[j].1 < k then l[j].2 else 0 := fun d => by
    induction d with
    | nil => simp [bel]
    | cons x d ih => rw [List.cons_append, bel, bel, ih]; omega
  have e2 : ∀ d : List Pr, upt (d ++ [l[j]]) k = upt d k + if l[j].1 ≤ k then l[j].2 else 0 := fun d => by
    induction d with
    | nil => simp [upt]
    | cons x d ih => rw [List.cons_append, upt, upt, ih]; omega
  unfold belB
  cases too with
  | true =>
    rw [if_pos rfl, if_pos rfl, e2]
    by_cases h1 : l[j].1 ≤ k
    · rw [if_pos h1, if_pos (by
        rcases (by omega : l[j].1 < k ∨ l[j].1 = k) with h | h
        · exact .inl h
        · exact .inr ⟨rfl, h⟩)]
    · rw [if_neg h1, if_neg (by rintro (h | ⟨-, h⟩) <;> omega)]
  | false =>
    rw [if_neg (by decide), if_neg (by decide), e1]
    by_cases h1 : l[j].1 < k
    · rw [if_pos h1, if_pos (.inl h1)]
    · rw [if_neg h1, if_neg (by rintro (h | ⟨h, -⟩); exact h1 h; cases h)]
theorem belB_le (l : List Pr) (k : Int) (too : Bool) : belB l k too ≤ ltot l := by
  unfold belB
  split
  · exact upt_le _ _
  · exact bel_le _ _

section
variable (p : Option Addr) (n c : Nat) (k : Int) (l : List Pr) (w : World)
set_option maxRecDepth 100000 in
set_option maxHeartbeats 2000000 in
theorem rbelow_any (too : Bool) (h : PrI w p l) (hn : l.length = n) (ht : ltot l < 18446744073709551616) :
    Calls Try.prog 21 #[.slice p n c, .int .i64 k, .bool too] w fun e w' => e = .returned (.int .u64 (belB l k too : Nat)) ∧ Fr S0 w w' := by
  have H := Lib.hid h
  have HN := Lib.hid hn
  have HT := Lib.hid ht
  have hlen := h.len
  rw [hn] at hlen
  unfold maxLen at hlen
  clear h hn ht
  go_enter Try.func21, Try.ntmps21
  go_wp2_with fail
  go_loopw [7, 8] (fun s i wr => ∃ j T : Nat, j ≤ n ∧ i = .int .i64 j ∧ s = .int .u64 T ∧ Hid (belB (l.take j) k too = T) ∧ Hid (Fr S0 w wr)) (fun _ i _ => n - (intOf i).toNat)
  case atStart => exact ⟨0, 0, by omega, rfl, rfl, Lib.hid (by cases too <;> rfl), Lib.hid (Fr.refl _ _)⟩
  case round =>
    obtain ⟨j, T, hj, rfl, rfl, hT, hfr⟩ := hrel
    by_cases hjn : (j : Int) < (n : Int)
    · have hjl : j < l.length := by rw [HN.out]; omega
      obtain ⟨b, o, rfl, c0, c1⟩ := (H.out.fr0 hfr.out).at j hjl
      have HD := Lib.hid (belB_take (k := k) (too := too) hjl)
      have hle := belB_le (l.take (j + 1)) k too
      have hle2 := tot_take_le l (j + 1)
      obtain ⟨⟨tk, tn⟩, ht⟩ : ∃ t, l[j] = t := ⟨_, rfl⟩
      rw [ht] at c0 c1 HD
      simp only at c0 c1 HD
      rw [hT.out] at HD
      have HTT := HT.out
      by_cases hlt : tk < k
      · have HDD : Hid (belB (l.take (j + 1)) k too = T + tn) := Lib.hid (by rw [HD.out, if_pos (.inl hlt)])
        have hb : T + tn < 18446744073709551616 := by rw [← HDD.out]; omega
        clear hT HD ht hle hle2 HTT
        go_wp2_with fail
        go_roundw
        case rel => exact ⟨j + 1, T + tn, by omega, by go_num, by go_num, HDD, hfr⟩
        case measure => simp [intOf]; omega
      · by_cases heq : too = true ∧ tk = k
        · obtain ⟨rfl, rfl⟩ := heq
          have HDD : Hid (belB (l.take (j + 1)) tk true = T + tn) := Lib.hid (by rw [HD.out, if_pos (.inr ⟨rfl, rfl⟩)])
          have hb : T + tn < 18446744073709551616 := by rw [← HDD.out]; omega
          clear hT HD ht hle hle2 HTT hlt
          go_wp2_with fail
          go_roundw
          case rel => exact ⟨j + 1, T + tn, by omega, by go_num, by go_num, HDD, hfr⟩
          case measure => simp [intOf]; omega
        · have HDD : Hid (belB (l.take (j + 1)) k too = T) := Lib.hid (by rw [HD.out, if_neg (by rintro (h | h); exact hlt h; exact heq h)]; rfl)
          have hd : decide (tk < k) = false := decide_eq_false hlt
          cases too with
          | false =>
            clear hT HD ht hle hle2 HTT hlt heq
            go_wp2_with fail
            go_roundw
            case rel => exact ⟨j + 1, T, by omega, by go_num, rfl, HDD, hfr⟩
            case measure => simp [intOf]; omega
          | true =>
            have hne : (tk == k) = false := by rw [beq_eq_false_iff_ne]; intro e; exact heq ⟨rfl, e⟩
            clear hT HD ht hle hle2 HTT hlt heq
            go_wp2_with fail
            go_roundw
            case rel => exact ⟨j + 1, T, by omega, by go_num, rfl, HDD, hfr⟩
            case measure => simp [intOf]; omega
    · obtain rfl : j = n := by omega
      have HV : Hid (belB l k too = T) := Lib.hid (by rw [← hT.out, ← HN.out, List.take_length])
      clear hT
      go_wp2_with fail
      go_ret
      exact ⟨by first | (rw [HV.out]; done) | (rw [HV.out]; rfl), hfr.out⟩
set_option maxRecDepth 100000 in
set_option maxHeartbeats 2000000 in
theorem rkey_any (r : Nat) (h : PrI w p l) (hn : l.length = n) (hs : Srt l) (h1 : 1 ≤ r) (h2 : r ≤ ltot l) (ht : ltot l < 18446744073709551616) :
    Calls Try.prog 16 #[.slice p n c, .int .u64 (r : Nat)] w fun e w' => e = .returned (.int .i64 (keyW l r)) ∧ Fr S0 w w' := by
  have H := Lib.hid h
  have HN := Lib.hid hn
  have HT := Lib.hid ht
  have HS := Lib.hid hs
  have HK := Lib.hid (keyW_rank hs h1 h2)
  have HR := Lib.hid (And.intro h1 h2)
  have hlen := h.len
  rw [hn] at hlen
  unfold maxLen at hlen
  clear h hn ht hs h1 h2
  go_enter Try.func16, Try.ntmps16
  go_wp2_with fail
  go_loopw [5] (fun i wr => ∃ j : Nat, j ≤ n ∧ i = .int .i64 j ∧ Hid (∀ x, (hx : x < l.length) → x < j → upt l l[x].1 < r) ∧ Hid (Fr S0 w wr)) (fun i _ => n - (intOf i).toNat)
  case atStart => exact ⟨0, by omega, rfl, Lib.hid (fun _ _ h => by omega), Lib.hid (Fr.refl _ _)⟩
  case round =>
    obtain ⟨j, hj, rfl, hU, hfr⟩ := hrel
    by_cases hjn : (j : Int) < (n : Int)
    · have hjl : j < l.length := by rw [HN.out]; omega
      have hpr := H.out.fr0 hfr.out
      obtain ⟨b, o, rfl, c0, -⟩ := hpr.at j hjl
      have HB := Lib.hid (rbelow_any (some ⟨b, o, none⟩) n c l[j].1 l wr true hpr HN.out HT.out)
      have HC : Hid (∀ W, Fr S0 wr W → W.cell? ⟨b, o + j * 2, none⟩ = some (.int .i64 l[j].1)) := Lib.hid fun W f => f.cell c0 (fun h => h)
      have hu : belB l l[j].1 true = upt l l[j].1 := if_pos rfl
      rw [hu] at HB
      have HLE : Hid (r ≤ upt l l[j].1 → keyW l r = l[j].1) := Lib.hid fun hle => by
        obtain ⟨⟨x, hx, ex⟩, k1, k2⟩ := HK.out
        obtain ⟨i, hi, rfl⟩ := List.mem_iff_getElem.1 hx
        rcases (by omega : i < j ∨ i = j ∨ j < i) with h | rfl | h
        · have := hU.out i hi h
          rw [ex] at this
          omega
        · exact ex.symm
        · have h3 := srt_lt HS.out hjl hi h
          have h4 := bel_upt l h3
          rw [ex] at h4
          omega
      obtain ⟨tk, ht⟩ : ∃ t, l[j].1 = t := ⟨_, rfl⟩
      obtain ⟨V, hV⟩ : ∃ V, upt l tk = V := ⟨_, rfl⟩
      rw [ht] at c0 HB HLE HC
      rw [hV] at HB HLE
      by_cases hle : r ≤ V
      · have HV := Lib.hid (HLE.out hle)
        clear hpr hu ht hV HLE hU
        go_wp2_with fail
        refine HB.out.mono ?_
        rintro e w1 ⟨rfl, f1⟩
        have c0 := HC.out w1 f1
        have HF := Lib.hid (hfr.out.trans0 f1)
        clear f1 HB HC
        go_wp2_with fail
        go_ret
        exact ⟨by rw [HV.out]; rfl, HF.out⟩
      · have HU2 : Hid (∀ x, (hx : x < l.length) → x < j + 1 → upt l l[x].1 < r) := Lib.hid fun x hx hxj => by
          rcases (by omega : x < j ∨ x = j) with h | rfl
          · exact hU.out x hx h
          · rw [ht, hV]; omega
        have hd : decide (r ≤ V) = false := decide_eq_false hle
        clear hpr hu ht hV HLE hU hle
        go_wp2_with fail
        refine HB.out.mono ?_
        rintro e w1 ⟨rfl, f1⟩
        have HF := Lib.hid (hfr.out.trans0 f1)
        clear f1 HB HC
        go_wp2_with fail
        go_roundw
        case rel => exact ⟨j + 1, by omega, by go_num, HU2, HF⟩
        case measure => simp [intOf]; omega
    · exfalso
      obtain ⟨⟨x, hx, ex⟩, k1, k2⟩ := HK.out
      obtain ⟨i, hi, rfl⟩ := List.mem_iff_getElem.1 hx
      have := hU.out i hi (by have := HN.out; omega)
      rw [ex] at this
      omega
end
end Go.Proofs.Ytegdhggilaehdaa
