/- Sets tell their codes and lengths, and symbols are written. -/
import Derived.Test.YtfibhgohenkfbaaHufMake
namespace Go.Proofs.Ytfibhgohenkfbaa
open Go.RowKit
variable {X : Wx}

theorem el32 : ElemOk Try.prog 48 29 (.int .u32 0) 1 4 := ⟨Try.underlying48, info_u32, rfl, by decide, by decide⟩
/-- a row of numbers that is new to w -/
structure Row32 (w w' : World) (v : Value) (l : List Nat) : Prop where
  own : w'.ownsRow 0 29 1 v l.length (u32s l)
  fresh : Fresh w v

/-- the length of what may be no symbol -/
def lenI (l : List Nat) (s : Int) : Nat := if 0 ≤ s then len l s.toNat else 0
theorem lenI_nat (l : List Nat) (s : Nat) : lenI l s = len l s := by unfold lenI; rw [if_pos (by omega), Int.toNat_natCast]
theorem lenI_pos {l : List Nat} {s : Int} (h : 0 < lenI l s) : ∃ i : Nat, s = i ∧ 0 < len l i := by
  unfold lenI at h
  by_cases h0 : 0 ≤ s
  · rw [if_pos h0] at h
    exact ⟨s.toNat, by omega, h⟩
  · rw [if_neg h0] at h; omega
theorem lenI_no {l : List Nat} {s : Int} (h : ¬ (0 ≤ s ∧ s < l.length)) : lenI l s = 0 := by
  unfold lenI
  by_cases h0 : 0 ≤ s
  · rw [if_pos h0]; exact len_no _ _ (by omega)
  · rw [if_neg h0]

set_option maxRecDepth 100000 in
set_option maxHeartbeats 400000 in
theorem length_any (A B g : Nat) (l : List Nat) (s : Int) (w : World) (h : SetIs w A B g l) :
    Calls Try.prog 64 #[.pointer (some ⟨g, 0, none⟩), .int .i64 s] w fun e w' => e = .returned (.int .i64 (lenI l s : Nat)) ∧ w = w' := by
  obtain ⟨pl, cl, cb, cc, ob, oc, h1, h2, h3, h4, h5, h6, h7, h8⟩ := h.ex
  have hs := h.small
  have k1 := h1.c0
  by_cases h0 : s < 0
  · have E := Lib.hid (lenI_no (l := l) (s := s) (by omega))
    clear h h1 h2 h3 h4 h5 h6 h7 h8 k1
    go_enter Try.func64, Try.ntmps64
    go_wp2_with fail
    go_ret
    exact ⟨by rw [E.out]; rfl, rfl⟩
  · by_cases hlt : s < (l.length : Int)
    · obtain ⟨i, rfl⟩ : ∃ i : Nat, s = i := ⟨s.toNat, by omega⟩
      obtain ⟨b, o, hpe, hcl⟩ := h2.at i (by omega)
      have E := Lib.hid ((lenI_nat l i).trans (len_get l i (by omega)))
      obtain ⟨x, hx⟩ : ∃ x, l[i] = x := ⟨_, rfl⟩
      have hx15 := h.short _ (List.getElem_mem (show i < l.length by omega))
      rw [hx] at hcl E hx15
      subst hpe
      clear h h1 h2 h3 h4 h5 h6 h7 h8 hx
      go_enter Try.func64, Try.ntmps64
      go_wp2_with fail
      go_ret
      exact ⟨by rw [E.out]; rfl, rfl⟩
    · have hge : s ≥ (l.length : Int) := by omega
      have E := Lib.hid (lenI_no (l := l) (s := s) (by omega))
      clear h h1 h2 h3 h4 h5 h6 h7 h8
      go_enter Try.func64, Try.ntmps64
      go_wp2_with fail
      go_ret
      exact ⟨by rw [E.out]; rfl, rfl⟩

set_option maxRecDepth 100000 in
set_option maxHeartbeats 400000 in
theorem write_no (A B g : Nat) (l : List Nat) (s : Int) (p : Option Addr) (w : World) (h : SetIs w A B g l) (hp : p = none ∨ lenI l s = 0) :
    Calls Try.prog 48 #[.pointer (some ⟨g, 0, none⟩), .pointer p, .int .i64 s] w fun e w' => e = .returned (.int .i64 1) ∧ w = w' := by
  have HN := Lib.hid (length_any A B g l s w h)
  obtain ⟨x, hx⟩ : ∃ x, lenI l s = x := ⟨_, rfl⟩
  rw [hx] at HN hp
  clear h hx
  cases p with
  | none =>
    clear hp
    go_enter Try.func48, Try.ntmps48
    go_wp2_with fail
    refine HN.out.mono ?_
    rintro e w' ⟨rfl, rfl⟩
    go_wp2_with fail
    go_ret
    exact ⟨rfl, rfl⟩
  | some a =>
    obtain rfl : x = 0 := hp.elim (fun h => by cases h) id
    clear hp
    go_enter Try.func48, Try.ntmps48
    go_wp2_with fail
    refine HN.out.mono ?_
    rintro e w' ⟨rfl, rfl⟩
    go_wp2_with fail
    go_ret
    exact ⟨rfl, rfl⟩
set_option maxRecDepth 100000 in
set_option maxHeartbeats 400000 in
theorem write_yes (A B g : Nat) (l : List Nat) (i gw : Nat) (r : Option Nat) (L : List Nat) (w : World) (h : SetIs w A B g l) (hi : 0 < len l i) (hw : WrIs X w gw r L) (hL : L.length + 32 ≤ 1099511627776) :
    Calls Try.prog 48 #[.pointer (some ⟨g, 0, none⟩), .pointer (some ⟨gw, 0, none⟩), .int .i64 i] w fun e w' => e = .returned (.int .i64 0) ∧ WrTo X w w' gw r (L ++ code (cod l i) (len l i)) := by
  have hN := length_any A B g l i w h
  rw [lenI_nat] at hN
  have HN := Lib.hid hN
  obtain ⟨pl, cl, cb, cc, ob, oc, h1, h2, h3, h4, h5, h6, h7, h8⟩ := h.ex
  have hs := h.small
  have k1 := h1.c1
  have hil := len_in hi
  have hm := h.mx15
  have hlen := Nat.le_trans (mx_len l i) hm
  have hcod := cod_two h.ok hi hm
  have h15 : 2 ^ len l i ≤ 32768 := Nat.le_trans (Nat.pow_le_pow_right (n := 2) (by decide) hlen) (by decide)
  obtain ⟨b, o, hpe, hcl⟩ := h5.at i (by rw [cods_length]; exact hil)
  rw [cods_get] at hcl
  have hfit : fitB (cod l i) (len l i : Int) = true := decide_eq_true ⟨by omega, by omega, by rw [Int.toNat_natCast]; exact hcod⟩
  have hC := code_yes gw r L (cod l i) (len l i : Int) w hw (by omega) hfit hL
  rw [Int.toNat_natCast] at hC
  have HC := Lib.hid hC
  have hc32 : cod l i < 32768 := by omega
  obtain ⟨x, hx⟩ : ∃ x, len l i = x := ⟨_, rfl⟩
  obtain ⟨c, hc⟩ : ∃ c, cod l i = c := ⟨_, rfl⟩
  rw [hx] at HN HC hi hlen ⊢
  rw [hc] at hcl HC hc32 ⊢
  simp only [Option.some.injEq, Addr.mk.injEq] at hpe
  obtain ⟨rfl, rfl, -⟩ := hpe
  rw [Nat.zero_add] at hcl
  have hil' : (i : Int) < (l.length : Int) := by omega
  clear h h1 h2 h3 h4 h5 h6 h7 h8 hN hm hcod h15 hfit hC hx hc hw hL
  go_enter Try.func48, Try.ntmps48
  go_wp2_with fail
  refine HN.out.mono ?_
  rintro e w' ⟨rfl, rfl⟩
  go_wp2_with fail
  refine HC.out.mono ?_
  rintro e w' ⟨rfl, hto⟩
  have K := Lib.hid hto
  clear hto HC HN
  go_wp2_with fail
  go_ret
  exact ⟨rfl, K.out⟩
end Go.Proofs.Ytfibhgohenkfbaa
