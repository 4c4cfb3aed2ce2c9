/- The document's answers of layer 5: which lengths may be, and the codes. -/
import Derived.Test.YtfibhgohenkfbaaHufFind
namespace Go.Proofs.Ytfibhgohenkfbaa
open Go.RowKit

/-- the number of the error -/
def ckN (l : List Nat) : Nat := if 320 < l.length ∨ long l = true then 1 else if okl l then 0 else 62
/-- whether they are full -/
def ckF (l : List Nat) : Bool := if 320 < l.length ∨ long l = true then false else decide (ful l)
theorem ck_long {l : List Nat} (h : 320 < l.length ∨ long l = true) : ckN l = 1 ∧ ckF l = false := by unfold ckN ckF; rw [if_pos h, if_pos h]; exact ⟨rfl, rfl⟩
theorem ck_ok {l : List Nat} (h : ¬ (320 < l.length ∨ long l = true)) (ok : okl l) : ckN l = 0 ∧ ckF l = decide (ful l) := by unfold ckN ckF; rw [if_neg h, if_neg h, if_pos ok]; exact ⟨rfl, rfl⟩
theorem ck_no {l : List Nat} (h : ¬ (320 < l.length ∨ long l = true)) (ok : ¬ okl l) : ckN l = 62 ∧ ckF l = false := by
  unfold ckN ckF
  rw [if_neg h, if_neg h, if_neg ok, decide_eq_false (fun q => ok (.inl q))]; exact ⟨rfl, rfl⟩
theorem long_of {l : List Nat} {j : Nat} (hj : j < l.length) (h : 15 < l[j]) : long l = true := by
  unfold long
  rw [List.any_eq_true]
  exact ⟨l[j], List.getElem_mem hj, decide_eq_true h⟩
theorem long_none {l : List Nat} (h : ∀ x ∈ l, x ≤ 15) : long l = false := by
  unfold long
  rw [List.any_eq_false]
  intro x hx
  have := h x hx
  simpa using this
theorem all_take {l : List Nat} {j : Nat} (hj : j < l.length) (h : ∀ x ∈ l.take j, x ≤ 15) (hx : l[j] ≤ 15) : ∀ x ∈ l.take (j + 1), x ≤ 15 := by
  rw [take_snoc l j hj]
  intro x hxm
  rcases List.mem_append.1 hxm with h' | h'
  · exact h x h'
  · rw [List.mem_singleton.1 h']; exact hx
/-- the last test, by numbers -/
def ckB (t s e : Nat) : Bool := decide (t = 32768 ∨ s = 0 ∨ (s = 1 ∧ e = 1))
theorem ckB_iff {l : List Nat} (h : ∀ x ∈ l, x ≤ 15) : ckB (tooks l) (some' l) (lst l) = decide (okl l) := by
  have h1 := some_zero l
  have h2 := lone_iff l
  have h3 : ful l ↔ tooks l = 32768 := by unfold ful; rw [top_tooks l h]
  unfold ckB
  rw [decide_eq_decide, h1, h2, ← h3]
  show ful l ∨ mx l = 0 ∨ lon l ↔ ful l ∨ lon l ∨ mx l = 0
  constructor
  · rintro (h | h | h)
    · exact .inl h
    · exact .inr (.inr h)
    · exact .inr (.inl h)
  · rintro (h | h | h)
    · exact .inl h
    · exact .inr (.inr h)
    · exact .inr (.inl h)

theorem pow_half (k : Nat) (h : k < 15) : (2 : Nat) ^ (15 - k) / 2 = 2 ^ (15 - (k + 1)) := by
  rw [show 15 - k = 15 - (k + 1) + 1 by omega, Nat.pow_succ]
  omega
theorem pow_small (k : Nat) : (2 : Nat) ^ (15 - k) ≤ 32768 := Nat.le_trans (Nat.pow_le_pow_right (n := 2) (by decide) (show 15 - k ≤ 15 by omega)) (by decide)

/-- the codes of less than n bits, and those of n bits below the symbol j -/
def outTo (l : List Nat) (n j : Nat) : List Nat := (List.range l.length).map fun i => if 0 < len l i ∧ (len l i < n ∨ (len l i = n ∧ i < j)) then cod l i else 0
theorem outTo_length (l : List Nat) (n j : Nat) : (outTo l n j).length = l.length := by simp [outTo]
theorem outTo_get (l : List Nat) (n j i : Nat) (h : i < (outTo l n j).length) : (outTo l n j)[i] = if 0 < len l i ∧ (len l i < n ∨ (len l i = n ∧ i < j)) then cod l i else 0 := by simp [outTo]
theorem outTo_zero (l : List Nat) : outTo l 1 0 = List.replicate l.length 0 := by
  apply List.ext_getElem
  · simp [outTo]
  · intro i h1 h2
    rw [outTo_get, if_neg (by omega)]
    simp
theorem outTo_turn (l : List Nat) (n : Nat) : outTo l n l.length = outTo l (n + 1) 0 := by
  apply List.ext_getElem
  · simp [outTo]
  · intro i h1 h2
    rw [outTo_get, outTo_get]
    have hi : i < l.length := by rw [outTo_length] at h1; exact h1
    by_cases h : 0 < len l i ∧ len l i ≤ n
    · rw [if_pos (by omega), if_pos (by omega)]
    · rw [if_neg (by omega), if_neg (by omega)]
theorem outTo_end (l : List Nat) (h : ∀ x ∈ l, x ≤ 15) : outTo l 16 0 = cods l := by
  apply List.ext_getElem
  · simp [outTo, cods]
  · intro i h1 h2
    rw [outTo_get, cods_get]
    have h3 := Nat.le_trans (mx_len l i) (mx_le h)
    by_cases h0 : 0 < len l i
    · rw [if_pos (by omega)]
    · rw [if_neg (by omega)]
      unfold cod; rw [if_pos (by omega)]
theorem outTo_no (l : List Nat) (n j : Nat) (h : len l j ≠ n) : outTo l n (j + 1) = outTo l n j := by
  apply List.ext_getElem
  · simp [outTo]
  · intro i h1 h2
    rw [outTo_get, outTo_get]
    by_cases e : i = j
    · subst e
      by_cases k : 0 < len l i ∧ len l i < n
      · rw [if_pos (by omega), if_pos (by omega)]
      · rw [if_neg (by omega), if_neg (by omega)]
    · by_cases k : 0 < len l i ∧ (len l i < n ∨ (len l i = n ∧ i < j))
      · rw [if_pos (by omega), if_pos k]
      · rw [if_neg (by omega), if_neg k]
theorem outTo_yes (l : List Nat) (n j : Nat) (h : len l j = n) (hn : 0 < n) : outTo l n (j + 1) = (outTo l n j).set j (cod l j) := by
  apply List.ext_getElem
  · simp [outTo]
  · intro i h1 h2
    rw [List.getElem_set, outTo_get]
    by_cases e : j = i
    · subst e; rw [if_pos (by omega), if_pos rfl]
    · rw [if_neg e, outTo_get]
      by_cases k : 0 < len l i ∧ (len l i < n ∨ (len l i = n ∧ i < j))
      · rw [if_pos (by omega), if_pos k]
      · rw [if_neg (by omega), if_neg k]
theorem cod_next (l : List Nat) (n j : Nat) (hj : j < l.length) (hn : 0 < n) (h : len l j = n) : cod l j = fst l n + mny (l.take j) n ∧ fst l n + mny (l.take (j + 1)) n = cod l j + 1 := by
  have hc : cod l j = fst l n + mny (l.take j) n := by rw [cod_pos (by omega), h, mny_pos _ hn]; unfold rnk; rw [h]
  refine ⟨hc, ?_⟩
  rw [mny_take l j hj, if_pos ⟨h, hn⟩, hc]; omega
theorem row_len {w : World} {t : TypeId} {v : Value} {n : Nat} {k : IntKind} {xs : List Nat} (h : w.ownsRow 0 t 1 v n (xs.map fun (x : Nat) => Value.int k (x : Int))) : xs.length = n := by
  have := h.1
  simpa using this

set_option maxRecDepth 100000 in
set_option maxHeartbeats 2000000 in
theorem rcodes_any (p : Option Addr) (d : Nat) (l : List Nat) (w : World) (hl : SlI w .u8 p l) (h15 : ∀ x ∈ l, x ≤ 15) (hL : l.length ≤ 320) :
    Calls Try.prog 27 #[.slice p l.length d] w fun e w' => ∃ v, e = .returned v ∧ Fr S0 w w' ∧ Row32 w w' v (cods l) := by
  have HL := Lib.hid hl
  have H15 := Lib.hid h15
  have HM := fun w => make_u32 w l.length (by omega)
  clear hl h15
  go_enter Try.func27, Try.ntmps27
  go_wp2_with fail
  have f0 : Fr S0 w (w.alloc (.cells (zers .u32 l.length) 29)) := Fr.alloc _ _ _
  have o0 := zers_own w .u32 29 l.length (by omega)
  obtain ⟨g, hg⟩ : ∃ g, w.heap.size = g := ⟨_, rfl⟩
  rw [hg] at o0 ⊢
  have HG : Hid (w.heap.size ≤ g) := Lib.hid (by omega)
  generalize w.alloc (.cells (zers .u32 l.length) 29) = W at f0 o0 ⊢
  have HO := Lib.hid o0
  clear o0 hg HM
  go_loopw [4, 5, 6] (fun c n _ wr => ∃ (k C : Nat), 1 ≤ k ∧ k ≤ 16 ∧ n = .int .u8 k ∧ c = .int .u32 C ∧ C = top l (k - 1) ∧ Fr S0 w wr ∧ wr.ownsRow 0 29 1 (.slice (some ⟨g, 0, none⟩) l.length l.length) l.length (u32s (outTo l k 0))) (fun _ n _ _ => 16 - (intOf n).toNat)
  case atStart => exact ⟨1, 0, by omega, by omega, rfl, rfl, rfl, f0, by rw [outTo_zero]; exact HO.out⟩
  case round =>
    obtain ⟨k, C, hk1, hk, rfl, rfl, hC, hfr, own⟩ := hrel
    by_cases hkc : (k : Int) ≤ 15
    · have bC : C ≤ 65535000 := by rw [hC]; exact top_small l (k - 1) (by omega) (by omega)
      have HC : Hid (2 * C = fst l k) := Lib.hid (by rw [hC]; obtain ⟨q, rfl⟩ : ∃ q, k = q + 1 := ⟨k - 1, by omega⟩; rw [fst_succ]; rfl)
      have HO2 := Lib.hid own
      clear hC own
      go_wp2_with fail
      go_loopw [4, 6] (fun c i wr => ∃ (j D : Nat), j ≤ l.length ∧ i = .int .i64 j ∧ c = .int .u32 D ∧ D = fst l k + mny (l.take j) k ∧ Fr S0 w wr ∧ wr.ownsRow 0 29 1 (.slice (some ⟨g, 0, none⟩) l.length l.length) l.length (u32s (outTo l k j))) (fun _ i _ => l.length - (intOf i).toNat)
      case atStart => exact ⟨0, 2 * C, by omega, rfl, by go_num, by rw [HC.out, cnt_zero]; rfl, hfr, HO2.out⟩
      case round =>
        obtain ⟨j, D, hj, rfl, rfl, hD, hfr2, own⟩ := hrel
        by_cases hjc : (j : Int) < (l.length : Int)
        · have hjl : j < l.length := by omega
          obtain ⟨b, o, hpe, hcl⟩ := (HL.out.fr0 hfr2).at j hjl
          have hx15 := H15.out _ (List.getElem_mem hjl)
          have HLEN := Lib.hid (len_get l j hjl)
          have bD : D ≤ 65535000 + 320 := by
            rw [hD]
            have := fst_small l k (by omega) (by omega)
            have := mny_le (l.take j) k
            rw [List.length_take] at this
            omega
          have HD := Lib.hid hD
          obtain ⟨x, hx⟩ : ∃ x, l[j] = x := ⟨_, rfl⟩
          rw [hx] at hcl hx15 HLEN
          subst hpe
          clear hx hD
          by_cases hxk : x = k
          · subst hxk
            have HN := Lib.hid (cod_next l x j hjl (by omega) HLEN.out)
            have HY := Lib.hid (outTo_yes l x j HLEN.out (by omega))
            have k7 := own.cellAt j (by omega)
            have k8 := own.frozenAt j
            have hu : j < (u32s (outTo l x j)).length := by unfold u32s; rw [List.length_map, outTo_length]; exact hjl
            rw [List.getElem?_eq_getElem hu] at k7
            obtain ⟨u, hu'⟩ : ∃ u, (u32s (outTo l x j))[j] = u := ⟨_, rfl⟩
            rw [hu'] at k7
            have HS := Lib.hid (own.stored j (.int .u32 (D : Nat))).1
            clear hu hu' own
            go_wp2_with fail
            go_roundw
            case rel =>
              refine ⟨j + 1, D + 1, by omega, by go_num, by go_num, by rw [HN.out.2, HN.out.1, ← HD.out], hfr2.trans (Fr.setCell (· = g) _ ⟨g, j, none⟩ _ rfl) (fun q hq e => by have := HG.out; omega), ?_⟩
              rw [HY.out, HN.out.1, ← HD.out]
              unfold u32s
              rw [List.map_set]
              exact HS.out
            case measure => simp [intOf]; omega
          · have hne : ((x : Int) == (k : Int)) = false := by rw [beq_eq_false_iff_ne]; omega
            have HN := Lib.hid (outTo_no l k j (by rw [HLEN.out]; exact hxk))
            have HMT : Hid (mny (l.take (j + 1)) k = mny (l.take j) k) := Lib.hid (by rw [mny_take l j hjl, if_neg (by rw [HLEN.out]; omega)])
            have HO3 := Lib.hid own
            clear hxk own
            go_wp2_with fail
            go_roundw
            case rel => exact ⟨j + 1, D, by omega, by go_num, rfl, by rw [HMT.out]; exact HD.out, hfr2, by rw [HN.out]; exact HO3.out⟩
            case measure => simp [intOf]; omega
        · obtain rfl : j = l.length := by omega
          rw [List.take_length] at hD
          have HD : Hid (D = top l k) := Lib.hid (by rw [hD, top_eq])
          have HO3 := Lib.hid own
          clear hD own
          go_wp2_with fail
          go_roundw
          case rel => exact ⟨k + 1, D, by omega, by omega, by go_num, rfl, by rw [HD.out]; rfl, hfr2, by rw [← outTo_turn]; exact HO3.out⟩
          case measure => simp [intOf]; omega
    · obtain rfl : k = 16 := by omega
      have HO2 := Lib.hid own
      clear own hC
      go_wp2_with fail
      go_ret
      refine ⟨.slice (some ⟨g, 0, none⟩) l.length l.length, rfl, hfr, ?_, fun q hq => by simp only [Value.ownBlock, Option.some.injEq] at hq; have := HG.out; omega⟩
      rw [cods_length, ← outTo_end l H15.out]
      exact HO2.out
end Go.Proofs.Ytfibhgohenkfbaa
