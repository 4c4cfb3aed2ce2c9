/- What wire.Put writes: plain functions; and the ten ways to write a number. -/
import Derived.Test.YtgjiepbaagmmiaaWriter
import Derived.Test.YtgjiepbaagmmiaaFormsOf
namespace Go.Proofs.Ytgjiepbaagmmiaa
open Go.RowKit

/-- the bytes of n by row k of the table -/
def encZ (k n z : Nat) : List Nat := match k with
  | 0 => lEnc 1 n | 1 => lEnc 2 n | 2 => (lEnc 2 n).reverse | 3 => lEnc 4 n | 4 => (lEnc 4 n).reverse
  | 5 => lEnc 8 n | 6 => (lEnc 8 n).reverse | 7 => vEnc 9 n | 8 => vEnc 9 z | _ => vEnc 8 z
def enc (k n : Nat) : List Nat := encZ k n (zz n)
def most (k : Nat) : Nat := (fRow k).2.1
def fits (k n : Nat) : Bool := n / 2 ^ min (8 * most k) 64 == 0
def putRows : List Nat → List Nat → Except Nat (List Nat)
  | k :: ks, n :: ns => if fits k n then (match putRows ks ns with | .ok bs => .ok (enc k n ++ bs) | .error e => .error e) else .error 5
  | _, _ => .ok []
def putS (s l : List Nat) : Except Nat (List Nat) := match formsS s with
  | none => .error 22
  | some ks => if ks.length = l.length then putRows ks l else .error 22
def pre (bs : List Nat) : Except Nat (List Nat) → Except Nat (List Nat)
  | .ok r => .ok (bs ++ r)
  | .error e => .error e

theorem lEnc_length : ∀ m n, (lEnc m n).length = m
  | 0, _ => rfl
  | m + 1, n => by rw [lEnc, List.length_cons, lEnc_length m]
theorem vEnc_length : ∀ m n, (vEnc m n).length ≤ m + 1
  | 0, _ => by simp [vEnc]
  | m + 1, n => by
    rw [vEnc]; split
    · simp
    · have := vEnc_length m (n / 128); simp; omega
theorem encZ_0 (n z : Nat) : encZ 0 n z = lEnc 1 n := rfl
theorem enc_0 (n : Nat) : enc 0 n = lEnc 1 n := encZ_0 n (zz n)
theorem encZ_1 (n z : Nat) : encZ 1 n z = lEnc 2 n := rfl
theorem enc_1 (n : Nat) : enc 1 n = lEnc 2 n := encZ_1 n (zz n)
theorem encZ_2 (n z : Nat) : encZ 2 n z = (lEnc 2 n).reverse := rfl
theorem enc_2 (n : Nat) : enc 2 n = (lEnc 2 n).reverse := encZ_2 n (zz n)
theorem encZ_3 (n z : Nat) : encZ 3 n z = lEnc 4 n := rfl
theorem enc_3 (n : Nat) : enc 3 n = lEnc 4 n := encZ_3 n (zz n)
theorem encZ_4 (n z : Nat) : encZ 4 n z = (lEnc 4 n).reverse := rfl
theorem enc_4 (n : Nat) : enc 4 n = (lEnc 4 n).reverse := encZ_4 n (zz n)
theorem encZ_5 (n z : Nat) : encZ 5 n z = lEnc 8 n := rfl
theorem enc_5 (n : Nat) : enc 5 n = lEnc 8 n := encZ_5 n (zz n)
theorem encZ_6 (n z : Nat) : encZ 6 n z = (lEnc 8 n).reverse := rfl
theorem enc_6 (n : Nat) : enc 6 n = (lEnc 8 n).reverse := encZ_6 n (zz n)
theorem encZ_7 (n z : Nat) : encZ 7 n z = vEnc 9 n := rfl
theorem enc_7 (n : Nat) : enc 7 n = vEnc 9 n := encZ_7 n (zz n)
theorem encZ_8 (n z : Nat) : encZ 8 n z = vEnc 9 z := rfl
theorem enc_8 (n : Nat) : enc 8 n = vEnc 9 (zz n) := encZ_8 n (zz n)
theorem encZ_9 (n z : Nat) : encZ 9 n z = vEnc 8 z := rfl
theorem enc_9 (n : Nat) : enc 9 n = vEnc 8 (zz n) := encZ_9 n (zz n)
theorem most_0 : most 0 = 1 := rfl
theorem fput_0 : (fRow 0).2.2.1 = 23 := rfl
theorem most_1 : most 1 = 2 := rfl
theorem fput_1 : (fRow 1).2.2.1 = 23 := rfl
theorem most_2 : most 2 = 2 := rfl
theorem fput_2 : (fRow 2).2.2.1 = 25 := rfl
theorem most_3 : most 3 = 4 := rfl
theorem fput_3 : (fRow 3).2.2.1 = 23 := rfl
theorem most_4 : most 4 = 4 := rfl
theorem fput_4 : (fRow 4).2.2.1 = 25 := rfl
theorem most_5 : most 5 = 8 := rfl
theorem fput_5 : (fRow 5).2.2.1 = 23 := rfl
theorem most_6 : most 6 = 8 := rfl
theorem fput_6 : (fRow 6).2.2.1 = 25 := rfl
theorem most_7 : most 7 = 10 := rfl
theorem fput_7 : (fRow 7).2.2.1 = 27 := rfl
theorem most_8 : most 8 = 10 := rfl
theorem fput_8 : (fRow 8).2.2.1 = 29 := rfl
theorem most_9 : most 9 = 9 := rfl
theorem fput_9 : (fRow 9).2.2.1 = 29 := rfl
theorem ten (P : Nat → Prop) (k : Nat) (hk : k < 10) (h0 : P 0) (h1 : P 1) (h2 : P 2) (h3 : P 3) (h4 : P 4) (h5 : P 5) (h6 : P 6) (h7 : P 7) (h8 : P 8) (h9 : P 9) : P k := by
  match k, hk with
  | 0, _ => exact h0
  | 1, _ => exact h1
  | 2, _ => exact h2
  | 3, _ => exact h3
  | 4, _ => exact h4
  | 5, _ => exact h5
  | 6, _ => exact h6
  | 7, _ => exact h7
  | 8, _ => exact h8
  | 9, _ => exact h9
theorem enc_length (k n : Nat) (hk : k < 10) : (enc k n).length ≤ 10 := by
  refine ten (fun k => (enc k n).length ≤ 10) k hk ?_ ?_ ?_ ?_ ?_ ?_ ?_ ?_ ?_ ?_
  · show (enc 0 n).length ≤ 10; rw [enc_0]; simp only [lEnc_length]; decide
  · show (enc 1 n).length ≤ 10; rw [enc_1]; simp only [lEnc_length]; decide
  · show (enc 2 n).length ≤ 10; rw [enc_2]; simp only [List.length_reverse, lEnc_length]; decide
  · show (enc 3 n).length ≤ 10; rw [enc_3]; simp only [lEnc_length]; decide
  · show (enc 4 n).length ≤ 10; rw [enc_4]; simp only [List.length_reverse, lEnc_length]; decide
  · show (enc 5 n).length ≤ 10; rw [enc_5]; simp only [lEnc_length]; decide
  · show (enc 6 n).length ≤ 10; rw [enc_6]; simp only [List.length_reverse, lEnc_length]; decide
  · show (enc 7 n).length ≤ 10; rw [enc_7]; exact vEnc_length 9 _
  · show (enc 8 n).length ≤ 10; rw [enc_8]; exact vEnc_length 9 _
  · show (enc 9 n).length ≤ 10; rw [enc_9]; exact Nat.le_trans (vEnc_length 8 _) (by decide)
def PutRow (gw n : Nat) (v : Value) (bs : List Nat) (w : World) (k : Nat) : Prop :=
    Calls Try.prog (fRow k).2.2.1 #[.pointer (some ⟨gw, 0, none⟩), .int .u64 n, .int .i64 (most k : Nat)] w fun e w' => e = .returned (.tuple #[]) ∧ WrTo w w' gw v (bs ++ enc k n)
section
variable (gw n : Nat) (v : Value) (bs : List Nat) (w : World) (h : WrAt w gw v bs) (hn : n < 18446744073709551616) (hb : bs.length ≤ 1000000)
include h hn hb
theorem put_0 : PutRow gw n v bs w 0 := by
  have _ := hn
  unfold PutRow; rw [fput_0, most_0, enc_0]; exact low_any gw 1 n v bs w h (by decide) hb
theorem put_1 : PutRow gw n v bs w 1 := by
  have _ := hn
  unfold PutRow; rw [fput_1, most_1, enc_1]; exact low_any gw 2 n v bs w h (by decide) hb
theorem put_2 : PutRow gw n v bs w 2 := by
  unfold PutRow; rw [fput_2, most_2, enc_2]; exact high_any gw 2 n v bs w h hn (by decide) hb
theorem put_3 : PutRow gw n v bs w 3 := by
  have _ := hn
  unfold PutRow; rw [fput_3, most_3, enc_3]; exact low_any gw 4 n v bs w h (by decide) hb
theorem put_4 : PutRow gw n v bs w 4 := by
  unfold PutRow; rw [fput_4, most_4, enc_4]; exact high_any gw 4 n v bs w h hn (by decide) hb
theorem put_5 : PutRow gw n v bs w 5 := by
  have _ := hn
  unfold PutRow; rw [fput_5, most_5, enc_5]; exact low_any gw 8 n v bs w h (by decide) hb
theorem put_6 : PutRow gw n v bs w 6 := by
  unfold PutRow; rw [fput_6, most_6, enc_6]; exact high_any gw 8 n v bs w h hn (by decide) hb
theorem put_7 : PutRow gw n v bs w 7 := by
  have _ := hn
  unfold PutRow; rw [fput_7, most_7, enc_7]; exact few_any gw 10 n v bs w h (by decide) (by decide) hb
theorem put_8 : PutRow gw n v bs w 8 := by
  unfold PutRow; rw [fput_8, most_8, enc_8]; exact signed_any gw 10 n v bs w h hn (by decide) (by decide) hb
theorem put_9 : PutRow gw n v bs w 9 := by
  unfold PutRow; rw [fput_9, most_9, enc_9]; exact signed_any gw 9 n v bs w h hn (by decide) (by decide) hb
theorem put_row (k : Nat) (hk : k < 10) : PutRow gw n v bs w k :=
  ten _ k hk (put_0 gw n v bs w h hn hb) (put_1 gw n v bs w h hn hb) (put_2 gw n v bs w h hn hb) (put_3 gw n v bs w h hn hb) (put_4 gw n v bs w h hn hb) (put_5 gw n v bs w h hn hb) (put_6 gw n v bs w h hn hb) (put_7 gw n v bs w h hn hb) (put_8 gw n v bs w h hn hb) (put_9 gw n v bs w h hn hb)
end

/-- the cells of the k-th form of a row of forms -/
theorem form_cells {w : World} {g c : Nat} {ks : List Nat} (h : w.ownsRow 0 50 4 (.slice (some ⟨g, 0, none⟩) ks.length c) ks.length (rowCells ks)) (i : Nat) (hi : i < ks.length) :
    w.cell? ⟨g, i * 4, none⟩ = some (.int .u8 ((fRow ks[i]).1 : Nat)) ∧ w.cell? ⟨g, i * 4 + 1, none⟩ = some (.int .i64 (most ks[i] : Nat)) ∧
    w.cell? ⟨g, i * 4 + 2, none⟩ = some (.func (.func (fRow ks[i]).2.2.1) #[] #[]) ∧ w.cell? ⟨g, i * 4 + 3, none⟩ = some (.func (.func (fRow ks[i]).2.2.2) #[] #[]) := by
  have key : ∀ (ks : List Nat) (i : Nat) (hi : i < ks.length) (j : Nat), j < 4 → (rowCells ks)[i * 4 + j]? = (fCells (fRow ks[i])).toList[j]? := by
    intro ks
    induction ks with
    | nil => intro i hi; simp at hi
    | cons k ks ih =>
      intro i hi j hj
      have hl : (fCells (fRow k)).toList.length = 4 := rfl
      show ((fCells (fRow k)).toList ++ rowCells ks)[i * 4 + j]? = _
      cases i with
      | zero => rw [List.getElem?_append_left (by omega)]; simp
      | succ i =>
        rw [List.getElem?_append_right (by omega), hl, show (i + 1) * 4 + j - 4 = i * 4 + j by omega, ih i (by simpa using hi) j hj]
        simp
  have hc := fun j (hj : j < 4) => (h.cellAt (g := g) (cap := c) (i * 4 + j) (by omega)).trans (key ks i hi j hj)
  exact ⟨hc 0 (by decide), hc 1 (by decide), hc 2 (by decide), hc 3 (by decide)⟩

/-- a call of a function of the table enters it -/
theorem enter_w_low (args : Array Value) (w : World) : (callFunc 23 args).run Try.prog w = .ok (.enter 23 args) w := by kernel_rfl
theorem enter_r_low (args : Array Value) (w : World) : (callFunc 24 args).run Try.prog w = .ok (.enter 24 args) w := by kernel_rfl
theorem enter_w_high (args : Array Value) (w : World) : (callFunc 25 args).run Try.prog w = .ok (.enter 25 args) w := by kernel_rfl
theorem enter_r_high (args : Array Value) (w : World) : (callFunc 26 args).run Try.prog w = .ok (.enter 26 args) w := by kernel_rfl
theorem enter_w_few (args : Array Value) (w : World) : (callFunc 27 args).run Try.prog w = .ok (.enter 27 args) w := by kernel_rfl
theorem enter_r_few (args : Array Value) (w : World) : (callFunc 28 args).run Try.prog w = .ok (.enter 28 args) w := by kernel_rfl
theorem enter_w_signed (args : Array Value) (w : World) : (callFunc 29 args).run Try.prog w = .ok (.enter 29 args) w := by kernel_rfl
theorem enter_r_signed (args : Array Value) (w : World) : (callFunc 30 args).run Try.prog w = .ok (.enter 30 args) w := by kernel_rfl
theorem enter_put (k : Nat) (hk : k < 10) (args : Array Value) (w : World) : (callFunc (fRow k).2.2.1 args).run Try.prog w = .ok (.enter (fRow k).2.2.1 args) w :=
  ten (fun k => (callFunc (fRow k).2.2.1 args).run Try.prog w = .ok (.enter (fRow k).2.2.1 args) w) k hk (enter_w_low args w) (enter_w_low args w) (enter_w_high args w) (enter_w_low args w) (enter_w_high args w) (enter_w_low args w) (enter_w_high args w) (enter_w_few args w) (enter_w_signed args w) (enter_w_signed args w)
theorem enter_get (k : Nat) (hk : k < 10) (args : Array Value) (w : World) : (callFunc (fRow k).2.2.2 args).run Try.prog w = .ok (.enter (fRow k).2.2.2 args) w :=
  ten (fun k => (callFunc (fRow k).2.2.2 args).run Try.prog w = .ok (.enter (fRow k).2.2.2 args) w) k hk (enter_r_low args w) (enter_r_low args w) (enter_r_high args w) (enter_r_low args w) (enter_r_high args w) (enter_r_low args w) (enter_r_high args w) (enter_r_few args w) (enter_r_signed args w) (enter_r_signed args w)
end Go.Proofs.Ytgjiepbaagmmiaa
