/- A writer goes on, step by step. -/
import Derived.Test.YtfibhgohenkfbaaDefModel
import Derived.Test.YtfibhgohenkfbaaHufUse
namespace Go.Proofs.Ytfibhgohenkfbaa
open Go.RowKit
variable {X : Wx} {w0 : World} {g : Nat} {r0 : Option Nat} {L : List Nat}

theorem WrTo.step {w w' : World} {M : List Nat} {r : Option Nat} (hf : Fr (WrB g r0) w0 w) (hr : r = r0 ∨ ∀ j, r = some j → w0.heap.size ≤ j) (h : WrTo X w w' g r M) : WrTo X w0 w' g r0 M := WrTo.trans hf hr h
theorem WrTo.fr0 {w w' : World} (h : WrTo X w0 w g r0 L) (f : Fr S0 w w') : WrTo X w0 w' g r0 L := by
  obtain ⟨r, h1, h2, h3⟩ := h
  exact ⟨r, h1.fr0 f, h2.trans0 f, h3⟩
theorem group_to {w : World} (h : WrTo X w0 w g r0 L) (n c : Nat) (hn : n < 2 ^ c) (hc : c ≤ 32) (hL : L.length + 32 ≤ 1099511627776) :
    Calls Try.prog 53 #[.pointer (some ⟨g, 0, none⟩), .int .u32 n, .int .i64 c] w fun e w' => e = .returned (.int .i64 0) ∧ WrTo X w0 w' g r0 (L ++ grp n c) := by
  obtain ⟨r, h1, h2, h3⟩ := h
  have hp : 2 ^ c ≤ 2 ^ 32 := Nat.pow_le_pow_right (by decide) hc
  refine (group_yes g r L n c w h1 (by omega) (decide_eq_true ⟨by omega, by omega, by rw [Int.toNat_natCast]; exact hn⟩) hL).mono ?_
  rintro e w' ⟨he, h4⟩
  rw [Int.toNat_natCast] at h4
  exact ⟨he, WrTo.step h2 h3 h4⟩
theorem align_to {w : World} (h : WrTo X w0 w g r0 L) (hL : L.length ≤ 1099511627776) :
    Calls Try.prog 52 #[.pointer (some ⟨g, 0, none⟩)] w fun e w' => e = .returned (.tuple #[]) ∧ WrTo X w0 w' g r0 (alg L) := by
  obtain ⟨r, h1, h2, h3⟩ := h
  refine (align_any g r L w h1 hL).mono ?_
  rintro e w' ⟨he, h4⟩
  exact ⟨he, WrTo.step h2 h3 h4⟩
theorem text_to {w : World} (h : WrTo X w0 w g r0 L) (q : Option Addr) (d : Nat) (l : List Nat) (hl : SlI w .u8 q l) (h8 : ∀ x ∈ l, x < 256) (hq : q = none → d = 0) (hL : L.length + 8 * l.length + 8 ≤ 1099511627776) :
    Calls Try.prog 54 #[.pointer (some ⟨g, 0, none⟩), .slice q l.length d] w fun e w' => e = .returned (.tuple #[]) ∧ WrTo X w0 w' g r0 (alg L ++ bts l) := by
  obtain ⟨r, h1, h2, h3⟩ := h
  refine (text_any g r L q d l w h1 hl h8 hq hL).mono ?_
  rintro e w' ⟨he, h4⟩
  exact ⟨he, WrTo.step h2 h3 h4⟩
theorem bytes_to {w : World} (h : WrTo X w0 w g r0 L) (hL : L.length ≤ 1099511627776) :
    Calls Try.prog 33 #[.pointer (some ⟨g, 0, none⟩)] w fun e w' => ∃ v, e = .returned v ∧ Fr S0 w w' ∧ RowNew w w' v (byt L) := by
  obtain ⟨r, h1, h2, h3⟩ := h
  exact bytes_any g r L w h1 hL
theorem write_to {w : World} (h : WrTo X w0 w g r0 L) (A B gs : Nat) (l : List Nat) (i : Nat) (hs : SetIs w A B gs l) (hi : 0 < len l i) (hL : L.length + 32 ≤ 1099511627776) :
    Calls Try.prog 48 #[.pointer (some ⟨gs, 0, none⟩), .pointer (some ⟨g, 0, none⟩), .int .i64 i] w fun e w' => e = .returned (.int .i64 0) ∧ WrTo X w0 w' g r0 (L ++ code (cod l i) (len l i)) := by
  obtain ⟨r, h1, h2, h3⟩ := h
  refine (write_yes A B gs l i g r L w hs hi h1 hL).mono ?_
  rintro e w' ⟨he, h4⟩
  exact ⟨he, WrTo.step h2 h3 h4⟩

set_option maxRecDepth 100000 in
set_option maxHeartbeats 1000000 in
theorem head_to {w : World} (h : WrTo X w0 w g r0 L) (k : Nat) (last : Bool) (hk : k < 4) (hL : L.length + 100 ≤ 1099511627776) :
    Calls Try.prog 44 #[.pointer (some ⟨g, 0, none⟩), .int .u32 k, .bool last] w fun e w' => e = .returned (.tuple #[]) ∧ WrTo X w0 w' g r0 (L ++ grp last.toNat 1 ++ grp k 2) := by
  have H := Lib.hid h
  have HL := Lib.hid hL
  have HG : Hid (∀ n : Nat, n < 2 → Calls Try.prog 53 #[.pointer (some ⟨g, 0, none⟩), .int .u32 n, .int .i64 1] w fun e w' => e = .returned (.int .i64 0) ∧ WrTo X w0 w' g r0 (L ++ grp n 1)) := Lib.hid fun n hn => group_to h n 1 hn (by decide) (by omega)
  have HG2 : Hid (∀ (n : Nat) (w : World), WrTo X w0 w g r0 (L ++ grp n 1) → Calls Try.prog 53 #[.pointer (some ⟨g, 0, none⟩), .int .u32 k, .int .i64 2] w fun e w' => e = .returned (.int .i64 0) ∧ WrTo X w0 w' g r0 (L ++ grp n 1 ++ grp k 2)) :=
    Lib.hid fun n w hw => group_to hw k 2 hk (by decide) (by rw [List.length_append, grp_length]; omega)
  clear h hL
  cases last with
  | false =>
    have HA : Hid (Calls Try.prog 53 #[.pointer (some ⟨g, 0, none⟩), .int .u32 0, .int .i64 1] w fun e w' => e = .returned (.int .i64 0) ∧ WrTo X w0 w' g r0 (L ++ grp 0 1)) := Lib.hid (HG.out 0 (by decide))
    go_enter Try.func44, Try.ntmps44
    go_wp2_with fail
    refine HA.out.mono ?_
    rintro e w' ⟨rfl, h1⟩
    have HB := Lib.hid (HG2.out 0 w' h1)
    clear HG HG2 HA h1
    go_wp2_with fail
    refine HB.out.mono ?_
    rintro e w' ⟨rfl, h1⟩
    have K := Lib.hid h1
    clear HB h1
    go_wp2_with fail
    go_end0
    exact ⟨rfl, K.out⟩
  | true =>
    have HA : Hid (Calls Try.prog 53 #[.pointer (some ⟨g, 0, none⟩), .int .u32 1, .int .i64 1] w fun e w' => e = .returned (.int .i64 0) ∧ WrTo X w0 w' g r0 (L ++ grp 1 1)) := Lib.hid (HG.out 1 (by decide))
    go_enter Try.func44, Try.ntmps44
    go_wp2_with fail
    refine HA.out.mono ?_
    rintro e w' ⟨rfl, h1⟩
    have HB := Lib.hid (HG2.out 1 w' h1)
    clear HG HG2 HA h1
    go_wp2_with fail
    refine HB.out.mono ?_
    rintro e w' ⟨rfl, h1⟩
    have K := Lib.hid h1
    clear HB h1
    go_wp2_with fail
    go_end0
    exact ⟨rfl, K.out⟩
end Go.Proofs.Ytfibhgohenkfbaa
