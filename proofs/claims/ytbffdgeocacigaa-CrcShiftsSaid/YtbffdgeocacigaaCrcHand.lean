/- What the landed functions of layer 2 do. -/
import Derived.Test.YtbffdgeocacigaaCrcTimes
import Derived.Test.YtbffdgeocacigaaCrcTable
namespace Go.Proofs.Ytbffdgeocacigaa
open Go.RowKit

/-- block b holds a table whose first n numbers are made -/
structure TabTo (w : World) (b n : Nat) : Prop where
  row : ∃ cs, w.heap[b]? = some (.cells cs 42 (0, 0)) ∧ cs.size = 256 ∧ ∀ i, i < n → cs[i]? = some (.int .u32 (TN 8 i : Nat))
theorem TabTo.fr {S : Nat → Prop} {w w' : World} {b n : Nat} (h : TabTo w b n) (hf : Fr S w w') (hs : ¬ S b) : TabTo w' b n := by
  obtain ⟨cs, h1, h2, h3⟩ := h.row
  exact ⟨cs, hf.row h1 hs, h2, h3⟩
theorem TabTo.tab {w : World} {b : Nat} (h : TabTo w b 256) : TabIs w b := by
  obtain ⟨cs, h1, h2, h3⟩ := h.row
  intro i hi
  simp only [World.cell?, h1]
  exact h3 i hi
theorem TabTo.old {w : World} {b n : Nat} (h : TabTo w b n) (i : Nat) (hi : i < 256) : ∃ v, w.cell? ⟨b, i, none⟩ = some v ∧ w.frozen? ⟨b, i, none⟩ = false := by
  obtain ⟨cs, h1, h2, h3⟩ := h.row
  have hc : cs[i]? = some (cs[i]'(by omega)) := Array.getElem?_eq_getElem (by omega)
  exact ⟨cs[i]'(by omega), by simp only [World.cell?, h1]; exact hc, by simp [World.frozen?, h1]⟩
theorem TabTo.next {w : World} {b n : Nat} (h : TabTo w b n) (hn : n < 256) : TabTo (w.setCell ⟨b, n, none⟩ (.int .u32 (TN 8 n : Nat))) b (n + 1) := by
  obtain ⟨cs, h1, h2, h3⟩ := h.row
  refine ⟨_, heap_setCell_same w b n _ _ _ h1, by simp [h2], fun i hi => ?_⟩
  rw [Array.getElem?_setIfInBounds]
  by_cases e : n = i
  · subst e; rw [if_pos rfl, if_pos (by omega)]
  · rw [if_neg e]; exact h3 i (by omega)

set_option maxRecDepth 100000 in
set_option maxHeartbeats 400000 in
theorem fill_any (b : Nat) (w : World) (hb : TabTo w b 0) :
    Calls Try.prog 20 #[.pointer (some ⟨b, 0, none⟩)] w fun e w' => e = .returned (.tuple #[]) ∧ Fr (fun k => k = b) w w' ∧ TabTo w' b 256 := by
  go_enter Try.func20, Try.ntmps20
  go_wp2
  go_loopw [2, 3, 4, 9] (fun _ _ vi _ wr => ∃ i : Nat, i ≤ 256 ∧ vi = .int .i64 i ∧ Fr (fun k => k = b) w wr ∧ TabTo wr b i) (fun _ _ vi _ _ => 256 - (intOf vi).toNat)
  case atStart => exact ⟨0, by omega, rfl, Fr.refl _ _, hb⟩
  case round =>
    obtain ⟨i, hi, rfl, hfr, ht⟩ := hrel
    by_cases h : (i : Int) < 256
    · have hi2 : i < 256 := by omega
      have hwi : IntKind.u32.wrap (i : Int) = (i : Int) := wrap32_nat i (by omega)
      obtain ⟨u, hc0, hf0⟩ := ht.old i hi2
      have HT := Lib.hid ht
      clear ht
      go_wp2
      go_loopw [3, 9] (fun va vk wx => ∃ (k a : Nat), k ≤ 8 ∧ vk = .int .i64 k ∧ va = .int .u32 a ∧ a = TN k i ∧ wx = wr) (fun _ vk _ => 8 - (intOf vk).toNat)
      case atStart => exact ⟨0, i, by omega, rfl, rfl, rfl, rfl⟩
      case round =>
        obtain ⟨k, a, hk, rfl, rfl, ha, rfl⟩ := hrel
        have HA := Lib.hid ha
        have HA32 : Hid (a < 4294967296) := Lib.hid (by rw [ha]; exact TN_lt _ _ (by omega))
        clear ha
        by_cases h8 : (k : Int) < 8
        · have HN : Hid (T a = TN (k + 1) i) := Lib.hid (by rw [TN_snoc, ← HA.out])
          go_wp2_with (go_at_call 24; refine (step_any a _ HA32.out).mono ?_; rintro e w' ⟨rfl, rfl⟩)
          go_roundw
          case rel => exact ⟨k + 1, T a, by omega, by go_num, rfl, HN.out, by trivial⟩
          case measure => simp [intOf]; omega
        · obtain rfl : k = 8 := by omega
          go_wp2
          go_roundw
          case rel =>
            refine ⟨i + 1, by omega, by go_num, ?_, ?_⟩
            · exact hfr.trans (Fr.setCell (fun k => k = b) _ ⟨b, i, none⟩ _ rfl) fun _ _ h => h
            · rw [HA.out]; exact HT.out.next hi2
          case measure => simp [intOf]; omega
    · obtain rfl : i = 256 := by omega
      go_wp2
      go_end0
      exact ⟨rfl, hfr, ht⟩

theorem tab_info : (Try.prog.info? 42).map (·.zero) = some (some (.agg (Array.replicate 256 (.int .u32 0)))) := by kernel_rfl
theorem tab_zero (w : World) : ∃ cs, (zeroValue 42).run Try.prog w = .ok (.agg cs) w ∧ cs.size = 256 := by
  obtain ⟨cs, hcs, hs⟩ : ∃ cs, (Try.prog.info? 42).map (·.zero) = some (some (.agg cs)) ∧ cs.size = 256 := ⟨_, tab_info, Array.size_replicate⟩
  obtain ⟨i, hi, hz⟩ := Option.map_eq_some_iff.1 hcs
  exact ⟨cs, by simp [zeroValue, typeInfo, hi, hz], hs⟩

set_option maxRecDepth 100000 in
set_option maxHeartbeats 400000 in
theorem new_any (w : World) : Calls Try.prog 9 #[] w fun e w' => NewPost w e w' := by
  obtain ⟨cs, hz, hs⟩ := tab_zero w
  have HF := Lib.hid (fill_any w.heap.size (w.alloc (.cells cs 42)) ⟨cs, heap_alloc_new w _, hs, fun i h => absurd h (by omega)⟩)
  clear hs
  go_enter Try.func9, Try.ntmps9
  go_wp2_with (go_at_call 20; refine HF.out.mono ?_; rintro e w' ⟨rfl, hf, ht⟩)
  go_ret
  exact ⟨w.heap.size, rfl, (Fr.alloc S0 w _).trans hf (fun k hk e => by omega), ht.tab⟩

theorem u32_turn (c : Nat) (hc : c < 4294967296) : bits .xor .u32 IntKind.u32.max (c : Int) = ((4294967295 - c : Nat) : Int) := by
  have h := u32_xor_nat 4294967295 c (by decide) hc
  rw [Nat.xor_comm, ← turn_all c hc] at h
  exact h
theorem idx_lt (a x : Nat) (hx : x < 256) : a % 256 ^^^ x < 256 := Nat.xor_lt_two_pow (n := 8) (by omega) hx

set_option maxRecDepth 100000 in
set_option maxHeartbeats 400000 in
theorem more_any (b c0 : Nat) (p : Option Addr) (d : Nat) (l : List Nat) (w : World) (ht : TabIs w b) (hc : c0 < 4294967296) (hl : SlI w .u8 p l) (hb : ∀ x ∈ l, x < 256) :
    Calls Try.prog 12 #[.pointer (some ⟨b, 0, none⟩), .int .u32 c0, .slice p l.length d] w fun e w' => e = .returned (.int .u32 (more c0 l : Nat)) ∧ w = w' := by
  have hlen := hl.1
  unfold maxLen at hlen
  have HB := Lib.hid hb
  have HC := Lib.hid hc
  have HT := Lib.hid ht
  clear hb ht
  have hsg : IntKind.u32.signed = false := rfl
  have HI := Lib.hid (u32_turn c0 hc)
  go_enter Try.func12, Try.ntmps12
  go_wp2
  rw [HI.out]
  go_loopw [1, 8, 13] (fun v _ i wr => ∃ (k a : Nat), k ≤ l.length ∧ i = .int .i64 k ∧ v = .int .u32 a ∧ a = feeds (4294967295 - c0) (l.take k) ∧ w = wr) (fun _ _ i _ => l.length - (intOf i).toNat)
  case atStart => exact ⟨0, 4294967295 - c0, by omega, rfl, rfl, rfl, rfl⟩
  case round =>
    obtain ⟨k, a, hk, rfl, rfl, ha, rfl⟩ := hrel
    have HA := Lib.hid ha
    have ha32 : a < 4294967296 := by rw [ha]; exact feeds_take_lt _ _ _ HB.out
    clear ha
    by_cases h8 : (k : Int) < (l.length : Int)
    · have hkl : k < l.length := by omega
      obtain ⟨bl, ol, rfl, hcl⟩ := hl.at k hkl
      have HA32 := Lib.hid ha32
      have HN := Lib.hid (more_step c0 l k hkl)
      have HX : Hid (l[k] < 256) := Lib.hid (HB.out _ (List.getElem_mem hkl))
      obtain ⟨x, hx⟩ : ∃ x, l[k] = x := ⟨_, rfl⟩
      rw [hx] at hcl HN HX
      have hix := idx_lt a x HX.out
      have hct := HT.out _ hix
      have hxx : bits .xor .u8 ((a : Int) % 256) (x : Int) = ((a % 256 ^^^ x : Nat) : Int) := by
        have := u8_xor_nat (a % 256) x (by omega) HX.out
        rw [← this]; rfl
      have hxx2 : bits .xor .u32 ((TN 8 (a % 256 ^^^ x) : Nat) : Int) ((a : Int) / 256) = ((feed a x : Nat) : Int) := by
        rw [feed_table a x HX.out]
        exact u32_xor_nat (TN 8 (a % 256 ^^^ x)) (a / 256) (TN_lt _ _ (by omega)) (by omega)
      obtain ⟨y, hy⟩ : ∃ y, a % 256 ^^^ x = y := ⟨_, rfl⟩
      rw [hy] at hix hct hxx hxx2
      clear hx ha32 hy
      go_wp2
      go_roundw
      case rel => exact ⟨k + 1, feed a x, by omega, by go_num, rfl, by rw [HN.out, ← HA.out], by trivial⟩
      case measure => simp [intOf]; omega
    · obtain rfl : k = l.length := by omega
      have HM : Hid ((more c0 l : Nat) = 4294967295 - a) := Lib.hid (by rw [HA.out, List.take_length]; rfl)
      have HF := Lib.hid (u32_turn a ha32)
      clear ha32
      go_wp2
      go_ret
      exact ⟨by rw [HM.out, ← HF.out]; rfl, rfl⟩

set_option maxRecDepth 100000 in
set_option maxHeartbeats 400000 in
theorem sum_any (b : Nat) (p : Option Addr) (d : Nat) (l : List Nat) (w : World) (ht : TabIs w b) (hl : SlI w .u8 p l) (hb : ∀ x ∈ l, x < 256) :
    Calls Try.prog 10 #[.pointer (some ⟨b, 0, none⟩), .slice p l.length d] w fun e w' => e = .returned (.int .u32 (sum l : Nat)) ∧ w = w' := by
  have HM := Lib.hid (more_any b 0 p d l w ht (by decide) hl hb)
  clear ht hl hb
  go_enter Try.func10, Try.ntmps10
  go_wp2_with (go_at_call 12; refine HM.out.mono ?_; rintro e w' ⟨rfl, rfl⟩)
  go_ret
  exact ⟨rfl, rfl⟩

theorem or_add (t x k : Nat) (ht : t < 256 ^ k) (hk : k < 4) (hx : x < 256) : bits .or .u32 (t : Int) ((x * 256 ^ k : Nat) : Int) = ((t + 256 ^ k * x : Nat) : Int) := by
  have e : (256 : Nat) ^ k = 2 ^ (8 * k) := by rw [Nat.pow_mul]
  have hp : 256 ^ k ≤ 16777216 := Nat.le_trans (Nat.pow_le_pow_right (by decide) (show k ≤ 3 by omega)) (by decide)
  have h1 : x * 256 ^ k ≤ 255 * 16777216 := Nat.mul_le_mul (by omega) hp
  rw [u32_or_nat _ _ (by omega) (by omega), Nat.or_comm, Nat.mul_comm x]
  rw [e] at ht ⊢
  rw [← Nat.two_pow_add_eq_or_of_lt ht, Nat.add_comm]

theorem or_go (t x k : Nat) (ht : t < 256 ^ k) (hk : k < 4) (hx : x < 256) : bits .or .u32 (t : Int) ((x : Int) * 2 ^ (8 * k) % 4294967296) = ((t + 256 ^ k * x : Nat) : Int) := by
  have hp : 256 ^ k ≤ 16777216 := Nat.le_trans (Nat.pow_le_pow_right (by decide) (show k ≤ 3 by omega)) (by decide)
  have h1 : x * 256 ^ k ≤ 255 * 16777216 := Nat.mul_le_mul (by omega) hp
  have e : (x : Int) * 2 ^ (8 * k) = ((x * 256 ^ k : Nat) : Int) := by rw [show (256 : Nat) ^ k = 2 ^ (8 * k) by rw [Nat.pow_mul]]; push_cast; rfl
  rw [e, ← or_add t x k ht hk hx]
  congr 1
  omega

set_option maxRecDepth 100000 in
set_option maxHeartbeats 400000 in
theorem fits_any (b : Nat) (p : Option Addr) (d : Nat) (l : List Nat) (w : World) (ht : TabIs w b) (hl : SlI w .u8 p l) (hb : ∀ x ∈ l, x < 256) (hd : l.length ≤ d) (_ : d ≤ maxLen) :
    Calls Try.prog 14 #[.pointer (some ⟨b, 0, none⟩), .slice p l.length d] w fun e w' => e = .returned (.bool (fitsB l)) ∧ Fr S0 w w' := by
  have hlen := hl.1
  unfold maxLen at hlen
  have HB := Lib.hid hb
  have HT := Lib.hid ht
  clear hb ht
  by_cases h4 : (l.length : Int) < 4
  · have hz : fitsB l = false := by unfold fitsB; rw [decide_eq_false (by omega), Bool.false_and]
    go_enter Try.func14, Try.ntmps14
    go_wp2
    go_ret
    exact ⟨by rw [hz]; rfl, Fr.refl _ _⟩
  · obtain ⟨bl, off, hp, hcells⟩ := hl.2 (by intro h; rw [h] at h4; exact h4 (by decide))
    subst hp
    obtain ⟨m, hm⟩ : ∃ m, l.length = m + 4 := ⟨l.length - 4, by omega⟩
    have HL := Lib.hid hl
    have HM := Lib.hid hm
    rw [hm] at hlen hd h4 ⊢
    clear hcells hl hm
    have h0 : (0 : Int) ≤ (m : Int) := by omega
    go_enter Try.func14, Try.ntmps14
    go_wp2
    go_loopw [7, 8, 9, 24] (fun v _ _ i wr => ∃ (k t : Nat), k ≤ 4 ∧ i = .int .i64 k ∧ v = .int .u32 t ∧ t = val ((l.drop m).take k) ∧ w = wr) (fun _ _ _ i _ => 4 - (intOf i).toNat)
    case atStart => exact ⟨0, 0, by omega, rfl, rfl, rfl, rfl⟩
    case round =>
      obtain ⟨k, t, hk, rfl, rfl, ht, rfl⟩ := hrel
      have hml : (l.drop m).length = 4 := by rw [List.length_drop, HM.out]; omega
      by_cases h8 : (k : Int) < 4
      · have hkl : m + k < l.length := by rw [HM.out]; omega
        obtain ⟨bl', ol', hbl, hcl⟩ := HL.out.at (m + k) hkl
        simp only [Option.some.injEq, Addr.mk.injEq] at hbl
        obtain ⟨rfl, rfl, -⟩ := hbl
        have hx8 := HB.out _ (List.getElem_mem hkl)
        have hmin : ((l.drop m).take k).length = k := by rw [List.length_take, hml]; omega
        have ht2 : t < 256 ^ k := by
          have := val_lt ((l.drop m).take k) fun x hx => HB.out x (List.mem_of_mem_drop (List.mem_of_mem_take hx))
          rwa [← ht, hmin] at this
        have hn : val ((l.drop m).take (k + 1)) = t + 256 ^ k * l[m + k] := by
          rw [List.take_succ_eq_append_getElem (by omega), val_append, ← ht, hmin, List.getElem_drop, val, val, Nat.mul_zero, Nat.add_zero]
        have HO := Lib.hid (or_go t l[m + k] k ht2 (by omega) hx8)
        obtain ⟨x, hx⟩ : ∃ x, l[m + k] = x := ⟨_, rfl⟩
        rw [hx] at hcl hx8 hn HO
        have HN := Lib.hid hn
        rw [← Nat.add_assoc] at hcl
        have hw8 : IntKind.i64.wrap (8 * (k : Int)) = 8 * (k : Int) := IntWalk.i64_in _ (by omega)
        clear hn hx ht ht2 hmin
        go_wp2
        go_roundw
        case rel => exact ⟨k + 1, t + 256 ^ k * x, by omega, by go_num, congrArg (Value.int IntKind.u32) HO.out, HN.out.symm, by trivial⟩
        case measure => simp [intOf]; omega
      · obtain rfl : k = 4 := by omega
        have hv : t = val (l.drop m) := by rw [ht, ← hml, List.take_length]
        have hsum := sum_any b (some ⟨bl, off, none⟩) m (l.take m) w HT.out (HL.out.take m) fun x hx => HB.out x (List.mem_of_mem_take hx)
        rw [List.length_take, HM.out, show min m (m + 4) = m by omega] at hsum
        have HF : Hid ((((sum (l.take m) : Nat) : Int) == (t : Int)) = fitsB l) := Lib.hid (by
          unfold fitsB
          rw [HM.out, decide_eq_true (by omega), Bool.true_and, show m + 4 - 4 = m by omega, hv]
          rw [Bool.eq_iff_iff, beq_iff_eq, beq_iff_eq]; omega)
        have HS := Lib.hid hsum
        clear hv hsum ht
        go_wp2_with (go_at_call 10; refine HS.out.mono ?_; rintro e w' ⟨rfl, rfl⟩)
        go_ret
        exact ⟨by rw [← HF.out]; rfl, Fr.refl _ _⟩

theorem crcCode : CrcCode where
  new_ := new_any
  sum_ b p d l w ht hl hb := (sum_any b p d l w ht hl hb).mono fun e w' h => by obtain ⟨rfl, rfl⟩ := h; exact ⟨rfl, Fr.refl _ _⟩
  more_ b c p d l w ht hc hl hb := (more_any b c p d l w ht hc hl hb).mono fun e w' h => by obtain ⟨rfl, rfl⟩ := h; exact ⟨rfl, Fr.refl _ _⟩
  fits_ b p d l w ht hl hb hd hd2 := fits_any b p d l w ht hl hb hd hd2
  shift_ c n w hc hn hn0 := (shift_any c n w hc hn hn0).mono fun e w' h => by obtain ⟨rfl, rfl⟩ := h; exact ⟨rfl, Fr.refl _ _⟩
  join_ a c n w ha hc hn hn0 := (join_any a c n w ha hc hn hn0).mono fun e w' h => by obtain ⟨rfl, rfl⟩ := h; exact ⟨rfl, Fr.refl _ _⟩
end Go.Proofs.Ytbffdgeocacigaa
