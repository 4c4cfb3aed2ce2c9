/- WrTwo, WrThree, WrRefs -/
import Derived.Test.YtmieeoceckcnkaaPn1
import Derived.Test.YtmieeoceckcnkaaPn2
import Derived.StillTailTactics
import Derived.WalkKit
import Derived.Laws.BitsAllLaws
import Derived.Laws.BytesArg
import Derived.Lib.SlBytesConst
import Derived.Maps.AppendAt
import Derived.Laws.AppendOwnNone
import Derived.WalkSpells
import Derived.WalkLawsBesides
import Derived.Deep.QuietTactic
import Derived.BigQuiet
import Derived.RegionTactic
import Derived.Deep.AppendLies
import Derived.Deep.RegionLaw
import Derived.Laws.ResultCell
import Derived.Laws.EntriesVeiled
import Derived.Lib.Hide
import Derived.Test.YtmieeoceckcnkaaRows
set_option maxRecDepth 100000
set_option maxHeartbeats 8000000
namespace Go.Proofs.Ytmieeoceckcnkaa
open Go.RowKit
def encZ (k n z : Nat) : List Nat := match k with
  | 0 => lEnc 1 n | 1 => lEnc 2 n | 2 => (lEnc 2 n).reverse | 3 => lEnc 4 n | 4 => (lEnc 4 n).reverse
  | 5 => lEnc 8 n | 6 => (lEnc 8 n).reverse | 7 => vEnc 9 n | 8 => vEnc 9 z | _ => vEnc 8 z
def enc (k n : Nat) : List Nat := encZ k n (zz n)
def wmost (k : Nat) : Nat := (fRow k).2.1
def fits (k n : Nat) : Bool := n / 2 ^ min (8 * wmost k) 64 == 0
def putRows : List Nat → List Nat → Except Nat (List Nat)
  | k :: ks, n :: ns => if fits k n then (match putRows ks ns with | .ok bs => .ok (enc k n ++ bs) | .error e => .error e) else .error 5
  | _, _ => .ok []
def putS (s l : List Nat) : Except Nat (List Nat) := match formsS s with
  | none => .error 22
  | some ks => if ks.length = l.length then putRows ks l else .error 22
def wpre (bs : List Nat) : Except Nat (List Nat) → Except Nat (List Nat)
  | .ok r => .ok (bs ++ r)
  | .error e => .error e
theorem lEnc_length : ∀ m n, (lEnc m n).length = m
  | 0, _ => rfl
  | m + 1, n => by rw [lEnc, List.length_cons, lEnc_length m]
theorem vEnc_length : ∀ m n, (vEnc m n).length ≤ m + 1
  | 0, _ => by simp [vEnc]
  | m + 1, n => by
    rw [vEnc]; split
    · simp
    · have := vEnc_length m (n / 128); simp; omega
theorem encZ_0 (n z : Nat) : encZ 0 n z = lEnc 1 n := rfl
theorem enc_0 (n : Nat) : enc 0 n = lEnc 1 n := encZ_0 n (zz n)
theorem encZ_1 (n z : Nat) : encZ 1 n z = lEnc 2 n := rfl
theorem enc_1 (n : Nat) : enc 1 n = lEnc 2 n := encZ_1 n (zz n)
theorem encZ_2 (n z : Nat) : encZ 2 n z = (lEnc 2 n).reverse := rfl
theorem enc_2 (n : Nat) : enc 2 n = (lEnc 2 n).reverse := encZ_2 n (zz n)
theorem encZ_3 (n z : Nat) : encZ 3 n z = lEnc 4 n := rfl
theorem enc_3 (n : Nat) : enc 3 n = lEnc 4 n := encZ_3 n (zz n)
theorem encZ_4 (n z : Nat) : encZ 4 n z = (lEnc 4 n).reverse := rfl
theorem enc_4 (n : Nat) : enc 4 n = (lEnc 4 n).reverse := encZ_4 n (zz n)
theorem encZ_5 (n z : Nat) : encZ 5 n z = lEnc 8 n := rfl
theorem enc_5 (n : Nat) : enc 5 n = lEnc 8 n := encZ_5 n (zz n)
theorem encZ_6 (n z : Nat) : encZ 6 n z = (lEnc 8 n).reverse := rfl
theorem enc_6 (n : Nat) : enc 6 n = (lEnc 8 n).reverse := encZ_6 n (zz n)
theorem encZ_7 (n z : Nat) : encZ 7 n z = vEnc 9 n := rfl
theorem enc_7 (n : Nat) : enc 7 n = vEnc 9 n := encZ_7 n (zz n)
theorem encZ_8 (n z : Nat) : encZ 8 n z = vEnc 9 z := rfl
theorem enc_8 (n : Nat) : enc 8 n = vEnc 9 (zz n) := encZ_8 n (zz n)
theorem encZ_9 (n z : Nat) : encZ 9 n z = vEnc 8 z := rfl
theorem enc_9 (n : Nat) : enc 9 n = vEnc 8 (zz n) := encZ_9 n (zz n)
theorem most_0 : wmost 0 = 1 := rfl
theorem fput_0 : (fRow 0).2.2.1 = 70 := rfl
theorem most_1 : wmost 1 = 2 := rfl
theorem fput_1 : (fRow 1).2.2.1 = 70 := rfl
theorem most_2 : wmost 2 = 2 := rfl
theorem fput_2 : (fRow 2).2.2.1 = 72 := rfl
theorem most_3 : wmost 3 = 4 := rfl
theorem fput_3 : (fRow 3).2.2.1 = 70 := rfl
theorem most_4 : wmost 4 = 4 := rfl
theorem fput_4 : (fRow 4).2.2.1 = 72 := rfl
theorem most_5 : wmost 5 = 8 := rfl
theorem fput_5 : (fRow 5).2.2.1 = 70 := rfl
theorem most_6 : wmost 6 = 8 := rfl
theorem fput_6 : (fRow 6).2.2.1 = 72 := rfl
theorem most_7 : wmost 7 = 10 := rfl
theorem fput_7 : (fRow 7).2.2.1 = 74 := rfl
theorem most_8 : wmost 8 = 10 := rfl
theorem fput_8 : (fRow 8).2.2.1 = 76 := rfl
theorem most_9 : wmost 9 = 9 := rfl
theorem fput_9 : (fRow 9).2.2.1 = 76 := rfl
theorem ten (P : Nat → Prop) (k : Nat) (hk : k < 10) (h0 : P 0) (h1 : P 1) (h2 : P 2) (h3 : P 3) (h4 : P 4) (h5 : P 5) (h6 : P 6) (h7 : P 7) (h8 : P 8) (h9 : P 9) : P k := by
  match k, hk with
  | 0, _ => exact h0
  | 1, _ => exact h1
  | 2, _ => exact h2
  | 3, _ => exact h3
  | 4, _ => exact h4
  | 5, _ => exact h5
  | 6, _ => exact h6
  | 7, _ => exact h7
  | 8, _ => exact h8
  | 9, _ => exact h9
theorem enc_length (k n : Nat) (hk : k < 10) : (enc k n).length ≤ 10 := by
  refine ten (fun k => (enc k n).length ≤ 10) k hk ?_ ?_ ?_ ?_ ?_ ?_ ?_ ?_ ?_ ?_
  · show (enc 0 n).length ≤ 10; rw [enc_0]; simp only [lEnc_length]; decide
  · show (enc 1 n).length ≤ 10; rw [enc_1]; simp only [lEnc_length]; decide
  · show (enc 2 n).length ≤ 10; rw [enc_2]; simp only [List.length_reverse, lEnc_length]; decide
  · show (enc 3 n).length ≤ 10; rw [enc_3]; simp only [lEnc_length]; decide
  · show (enc 4 n).length ≤ 10; rw [enc_4]; simp only [List.length_reverse, lEnc_length]; decide
  · show (enc 5 n).length ≤ 10; rw [enc_5]; simp only [lEnc_length]; decide
  · show (enc 6 n).length ≤ 10; rw [enc_6]; simp only [List.length_reverse, lEnc_length]; decide
  · show (enc 7 n).length ≤ 10; rw [enc_7]; exact vEnc_length 9 _
  · show (enc 8 n).length ≤ 10; rw [enc_8]; exact vEnc_length 9 _
  · show (enc 9 n).length ≤ 10; rw [enc_9]; exact Nat.le_trans (vEnc_length 8 _) (by decide)
def PutRow (gw n : Nat) (v : Value) (bs : List Nat) (w : World) (k : Nat) : Prop :=
    Calls Try.prog (fRow k).2.2.1 #[.pointer (some ⟨gw, 0, none⟩), .int .u64 n, .int .i64 (wmost k : Nat)] w fun e w' => e = .returned (.tuple #[]) ∧ wWrTo w w' gw v (bs ++ enc k n)
section
variable (gw n : Nat) (v : Value) (bs : List Nat) (w : World) (h : wWrAt w gw v bs) (hn : n < 18446744073709551616) (hb : bs.length ≤ 1000000)
include h hn hb
theorem put_0 : PutRow gw n v bs w 0 := by
  have _ := hn
  unfold PutRow; rw [fput_0, most_0, enc_0]; exact wlow_any gw 1 n v bs w h (by decide) hb
theorem put_1 : PutRow gw n v bs w 1 := by
  have _ := hn
  unfold PutRow; rw [fput_1, most_1, enc_1]; exact wlow_any gw 2 n v bs w h (by decide) hb
theorem put_2 : PutRow gw n v bs w 2 := by
  unfold PutRow; rw [fput_2, most_2, enc_2]; exact whigh_any gw 2 n v bs w h hn (by decide) hb
theorem put_3 : PutRow gw n v bs w 3 := by
  have _ := hn
  unfold PutRow; rw [fput_3, most_3, enc_3]; exact wlow_any gw 4 n v bs w h (by decide) hb
theorem put_4 : PutRow gw n v bs w 4 := by
  unfold PutRow; rw [fput_4, most_4, enc_4]; exact whigh_any gw 4 n v bs w h hn (by decide) hb
theorem put_5 : PutRow gw n v bs w 5 := by
  have _ := hn
  unfold PutRow; rw [fput_5, most_5, enc_5]; exact wlow_any gw 8 n v bs w h (by decide) hb
theorem put_6 : PutRow gw n v bs w 6 := by
  unfold PutRow; rw [fput_6, most_6, enc_6]; exact whigh_any gw 8 n v bs w h hn (by decide) hb
theorem put_7 : PutRow gw n v bs w 7 := by
  have _ := hn
  unfold PutRow; rw [fput_7, most_7, enc_7]; exact few_any gw 10 n v bs w h (by decide) (by decide) hb
theorem put_8 : PutRow gw n v bs w 8 := by
  unfold PutRow; rw [fput_8, most_8, enc_8]; exact signed_any gw 10 n v bs w h hn (by decide) (by decide) hb
theorem put_9 : PutRow gw n v bs w 9 := by
  unfold PutRow; rw [fput_9, most_9, enc_9]; exact signed_any gw 9 n v bs w h hn (by decide) (by decide) hb
theorem put_row (k : Nat) (hk : k < 10) : PutRow gw n v bs w k :=
  ten _ k hk (put_0 gw n v bs w h hn hb) (put_1 gw n v bs w h hn hb) (put_2 gw n v bs w h hn hb) (put_3 gw n v bs w h hn hb) (put_4 gw n v bs w h hn hb) (put_5 gw n v bs w h hn hb) (put_6 gw n v bs w h hn hb) (put_7 gw n v bs w h hn hb) (put_8 gw n v bs w h hn hb) (put_9 gw n v bs w h hn hb)
end
theorem form_cells {w : World} {g c : Nat} {ks : List Nat} (h : w.ownsRow 0 99 4 (.slice (some ⟨g, 0, none⟩) ks.length c) ks.length (rowCells ks)) (i : Nat) (hi : i < ks.length) :
    w.cell? ⟨g, i * 4, none⟩ = some (.int .u8 ((fRow ks[i]).1 : Nat)) ∧ w.cell? ⟨g, i * 4 + 1, none⟩ = some (.int .i64 (wmost ks[i] : Nat)) ∧
    w.cell? ⟨g, i * 4 + 2, none⟩ = some (.func (.func (fRow ks[i]).2.2.1) #[] #[]) ∧ w.cell? ⟨g, i * 4 + 3, none⟩ = some (.func (.func (fRow ks[i]).2.2.2) #[] #[]) := by
  have key : ∀ (ks : List Nat) (i : Nat) (hi : i < ks.length) (j : Nat), j < 4 → (rowCells ks)[i * 4 + j]? = (fCells (fRow ks[i])).toList[j]? := by
    intro ks
    induction ks with
    | nil => intro i hi; simp at hi
    | cons k ks ih =>
      intro i hi j hj
      have hl : (fCells (fRow k)).toList.length = 4 := rfl
      show ((fCells (fRow k)).toList ++ rowCells ks)[i * 4 + j]? = _
      cases i with
      | zero => rw [List.getElem?_append_left (by omega)]; simp
      | succ i =>
        rw [List.getElem?_append_right (by omega), hl, show (i + 1) * 4 + j - 4 = i * 4 + j by omega, ih i (by simpa using hi) j hj]
        simp
  have hc := fun j (hj : j < 4) => (h.cellAt (g := g) (cap := c) (i * 4 + j) (by omega)).trans (key ks i hi j hj)
  exact ⟨hc 0 (by decide), hc 1 (by decide), hc 2 (by decide), hc 3 (by decide)⟩
theorem enter_w_low (args : Array Value) (w : World) : (callFunc 70 args).run Try.prog w = .ok (.enter 70 args) w := by kernel_rfl
theorem enter_r_low (args : Array Value) (w : World) : (callFunc 71 args).run Try.prog w = .ok (.enter 71 args) w := by kernel_rfl
theorem enter_w_high (args : Array Value) (w : World) : (callFunc 72 args).run Try.prog w = .ok (.enter 72 args) w := by kernel_rfl
theorem enter_r_high (args : Array Value) (w : World) : (callFunc 73 args).run Try.prog w = .ok (.enter 73 args) w := by kernel_rfl
theorem enter_w_few (args : Array Value) (w : World) : (callFunc 74 args).run Try.prog w = .ok (.enter 74 args) w := by kernel_rfl
theorem enter_r_few (args : Array Value) (w : World) : (callFunc 75 args).run Try.prog w = .ok (.enter 75 args) w := by kernel_rfl
theorem enter_w_signed (args : Array Value) (w : World) : (callFunc 76 args).run Try.prog w = .ok (.enter 76 args) w := by kernel_rfl
theorem enter_r_signed (args : Array Value) (w : World) : (callFunc 77 args).run Try.prog w = .ok (.enter 77 args) w := by kernel_rfl
theorem enter_put (k : Nat) (hk : k < 10) (args : Array Value) (w : World) : (callFunc (fRow k).2.2.1 args).run Try.prog w = .ok (.enter (fRow k).2.2.1 args) w :=
  ten (fun k => (callFunc (fRow k).2.2.1 args).run Try.prog w = .ok (.enter (fRow k).2.2.1 args) w) k hk (enter_w_low args w) (enter_w_low args w) (enter_w_high args w) (enter_w_low args w) (enter_w_high args w) (enter_w_low args w) (enter_w_high args w) (enter_w_few args w) (enter_w_signed args w) (enter_w_signed args w)
theorem enter_get (k : Nat) (hk : k < 10) (args : Array Value) (w : World) : (callFunc (fRow k).2.2.2 args).run Try.prog w = .ok (.enter (fRow k).2.2.2 args) w :=
  ten (fun k => (callFunc (fRow k).2.2.2 args).run Try.prog w = .ok (.enter (fRow k).2.2.2 args) w) k hk (enter_r_low args w) (enter_r_low args w) (enter_r_high args w) (enter_r_low args w) (enter_r_high args w) (enter_r_low args w) (enter_r_high args w) (enter_r_few args w) (enter_r_signed args w) (enter_r_signed args w)
end Go.Proofs.Ytmieeoceckcnkaa
namespace Go.Proofs.Ytmieeoceckcnkaa
open Go.RowKit
def PutPost (w : World) (e : Ending) (w' : World) (r : Except Nat (List Nat)) : Prop :=
  Fr S0 w w' ∧ match r with
  | .error x => e = .returned (.tuple #[.slice none 0 0, .int .i64 x])
  | .ok bs => ∃ v, e = .returned (.tuple #[v, .int .i64 0]) ∧ w'.ownsRow 0 5 1 v bs.length (u8s bs) ∧ Fresh w v
theorem rows_lt : ∀ (l ks : List Nat), rowsOf l = some ks → ∀ k ∈ ks, k < 10
  | [], ks, h => by simp [rowsOf] at h; subst h; simp
  | c :: r, ks, h => by
    simp only [rowsOf] at h
    cases hc : fIdx c <;> cases hr : rowsOf r <;> simp [hc, hr] at h
    subst h
    intro k hk
    simp at hk
    rcases hk with rfl | hk
    · exact (fIdx_some c _ hc).1
    · exact rows_lt r _ hr k hk
theorem forms_lt (l ks : List Nat) (h : formsS l = some ks) : ∀ k ∈ ks, k < 10 := by
  unfold formsS at h
  split at h
  · cases h
  · exact rows_lt l ks h
theorem pre_cons (bs e : List Nat) (r : Except Nat (List Nat)) : wpre bs (wpre e r) = wpre (bs ++ e) r := by
  cases r <;> simp [wpre]
theorem putRows_cons (k n : Nat) (ks ns : List Nat) : putRows (k :: ks) (n :: ns) = if fits k n then wpre (enc k n) (putRows ks ns) else .error 5 := by
  rw [putRows]
  cases putRows ks ns <;> rfl
theorem pre_nil (r : Except Nat (List Nat)) : wpre [] r = r := by cases r <;> simp [wpre]
theorem putRows_step (ks l : List Nat) (i : Nat) (h1 : i < ks.length) (h2 : i < l.length) (bs : List Nat) (hf : fits ks[i] l[i] = true) :
    wpre bs (putRows (ks.drop i) (l.drop i)) = wpre (bs ++ enc ks[i] l[i]) (putRows (ks.drop (i + 1)) (l.drop (i + 1))) := by
  rw [List.drop_eq_getElem_cons h1, List.drop_eq_getElem_cons h2, putRows_cons, hf, if_pos rfl, pre_cons]
theorem putRows_bad (ks l : List Nat) (i : Nat) (h1 : i < ks.length) (h2 : i < l.length) (bs : List Nat) (hf : fits ks[i] l[i] = false) :
    wpre bs (putRows (ks.drop i) (l.drop i)) = .error 5 := by
  rw [List.drop_eq_getElem_cons h1, List.drop_eq_getElem_cons h2, putRows_cons, hf]; rfl
theorem wWrAt.fr {w w' : World} {S : Nat → Prop} {g : Nat} {v : Value} {bs : List Nat} (h : wWrAt w g v bs) (hf : Fr S w w') (hg : ¬ S g) (hv : ∀ k, v.ownBlock = some k → ¬ S k) : wWrAt w' g v bs :=
  ⟨hf.row h.1 hg, hf.owns h.2.1 hv, h.2.2⟩
theorem wWrAt.alloc {w : World} {g : Nat} {v : Value} {bs : List Nat} (h : wWrAt w g v bs) (o : Obj) : wWrAt (w.alloc o) g v bs := h.fr (Fr.alloc S0 w o) (fun h => h) (fun _ _ h => h)
theorem wWrAt.drewN {w : World} {g : Nat} {v : Value} {bs : List Nat} (h : wWrAt w g v bs) (k : Nat) : wWrAt (w.drewN k) g v bs := h
theorem fits_int {k n : Nat} (h : fits k n = true) : ((n : Int) / 2 ^ min (8 * wmost k) 64 != 0) = false := by
  unfold fits at h
  rw [beq_iff_eq] at h
  have : (n : Int) / 2 ^ min (8 * wmost k) 64 = ((n / 2 ^ min (8 * wmost k) 64 : Nat) : Int) := by rw [Int.natCast_ediv, Int.natCast_pow]; rfl
  rw [this, h]; rfl
theorem fits_int' {k n : Nat} (h : fits k n = false) : ((n : Int) / 2 ^ min (8 * wmost k) 64 != 0) = true := by
  unfold fits at h
  rw [beq_eq_false_iff_ne] at h
  have : (n : Int) / 2 ^ min (8 * wmost k) 64 = ((n / 2 ^ min (8 * wmost k) 64 : Nat) : Int) := by rw [Int.natCast_ediv, Int.natCast_pow]; rfl
  rw [this, bne_iff_ne]; omega
theorem putRows_nil : putRows [] [] = .ok [] := by simp [putRows]
theorem most_le (k : Nat) (hk : k < 10) : 1 ≤ wmost k ∧ wmost k ≤ 10 := by
  refine ten (fun k => 1 ≤ wmost k ∧ wmost k ≤ 10) k hk ?_ ?_ ?_ ?_ ?_ ?_ ?_ ?_ ?_ ?_ <;> decide
theorem put_close {w w1 wr X w' : World} {v u : Value} {bs : List Nat} {n : Nat} {xs : List Value} (hf1 : Fr S0 w w1) (own : w1.ownsRow 0 99 4 u n xs) (hfr : Fr S0 w wr) (hX : Fr S0 wr X) (hfv : Fresh w v)
    (own' : wr.ownsRow 0 99 4 u n xs) (hap : ∀ g, v.ownBlock = some g → u.ownBlock ≠ some g) (hto : wWrTo X w' w1.heap.size v bs) :
    ∃ v', wWrAt w' w1.heap.size v' bs ∧ Fr S0 w w' ∧ Fresh w v' ∧ w'.ownsRow 0 99 4 u n xs ∧ (∀ g, v'.ownBlock = some g → u.ownBlock ≠ some g) := by
  obtain ⟨v', hw', hf', hm'⟩ := hto
  have hX0 : Fr S0 w X := hfr.trans0 hX
  have hlt : ∀ g, u.ownBlock = some g → g < w1.heap.size := fun g hg => (own.lt g hg).2
  have hltX : ∀ g, u.ownBlock = some g → g < X.heap.size := fun g hg => Nat.lt_of_lt_of_le (own'.lt g hg).2 hX.size
  refine ⟨v', hw', hX0.trans hf' ?_, ?_, ?_, ?_⟩
  · rintro j hj (e | e)
    · have := hf1.size; omega
    · have := hfv j e; omega
  · intro g hg
    rcases hm' with hm | hm
    · exact hfv g (hm ▸ hg)
    · exact Nat.le_trans hX0.size (hm g hg)
  · refine hf'.owns (hX.owns own' (fun _ _ h => h)) ?_
    rintro g hg (e | e)
    · have := hlt g hg; omega
    · exact hap g e hg
  · intro g hg hu
    rcases hm' with hm | hm
    · exact hap g (hm ▸ hg) hu
    · have := hm g hg
      have := hltX g hu
      omega
theorem wput_any (s : ByteArray) (p : Option Addr) (c : Nat) (l : List Nat) (w : World) (hs : s.size ≤ maxLen) (hl : SlI w .u64 p l) (hb : ∀ x ∈ l, x < 18446744073709551616) :
    Calls Try.prog 43 #[.string s, .slice p l.length c] w fun e w' => PutPost w e w' (putS (pat s) l) := by
  have hlen := hl.1
  unfold maxLen at hlen
  have HB := Lib.hid hb
  clear hb
  go_enter Try.func43, Try.ntmps43
  go_wp2_with fail
  refine (formsOf_any s w hs).mono ?_
  rintro e w1 ⟨hf1, hr⟩
  cases hfs : formsS (pat s) with
  | none =>
    rw [hfs] at hr
    subst hr
    have HE : Hid (putS (pat s) l = .error 22) := Lib.hid (by unfold putS; rw [hfs])
    clear hfs
    go_wp2
    go_ret2
    rw [HE.out]
    exact ⟨hf1, rfl⟩
  | some ks =>
    rw [hfs] at hr
    obtain ⟨vf, rfl, own, hfresh⟩ := hr
    have hk64 : ks.length ≤ 64 := by
      unfold formsS at hfs
      split at hfs
      · cases hfs
      · have := rowsOf_length _ _ hfs
        omega
    obtain ⟨pf, cf, rfl⟩ : ∃ pf cf, vf = .slice pf ks.length cf := by
      rcases own.2 with ⟨h, h0⟩ | ⟨g, cap, cur, h, _⟩
      · exact ⟨none, 0, by rw [h, h0]⟩
      · exact ⟨_, _, h⟩
    by_cases hne : (ks.length : Int) = (l.length : Int)
    · have HE : Hid (putS (pat s) l = putRows ks l) := Lib.hid (by unfold putS; rw [hfs]; simp only; rw [if_pos (by omega)])
      have hb : ((ks.length : Int) != (l.length : Int)) = false := by simp; omega
      have HN := Lib.hid hne
      have HF := Lib.hid hfs
      clear hfs hne
      go_wp2
      go_loopw [9, 10, 27] (fun _ _ i wr => ∃ (k : Nat) (bs : List Nat) (v : Value), k ≤ ks.length ∧ i = .int .i64 k ∧ bs.length ≤ 10 * k ∧ wWrAt wr w1.heap.size v bs ∧ Fr S0 w wr ∧ Fresh w v ∧
        wr.ownsRow 0 99 4 (.slice pf ks.length cf) ks.length (rowCells ks) ∧ (∀ g, v.ownBlock = some g → Value.ownBlock (.slice pf ks.length cf) ≠ some g) ∧
        putRows ks l = wpre bs (putRows (ks.drop k) (l.drop k))) (fun _ _ i _ => ks.length - (intOf i).toNat)
      case atStart =>
        refine ⟨0, [], .slice none 0 0, by omega, rfl, by decide, ⟨heap_alloc_new w1 _, World.ownsRow_nil _ _ _ _, by simp [Value.ownBlock]⟩, hf1.trans0 (Fr.alloc S0 w1 _), (fun g h => by simp [Value.ownBlock] at h), own.alloc _, (fun g h => by simp [Value.ownBlock] at h), ?_⟩
        rw [List.drop_zero, List.drop_zero, pre_nil]
      case round =>
        obtain ⟨k, bs, v, hk, rfl, hbl, hw, hfr, hfv, own', hap, hpr⟩ := hrel
        have HP := Lib.hid hpr
        clear hpr
        by_cases hlt : (k : Int) < (ks.length : Int)
        · have hkl : k < l.length := by have := HN.out; omega
          have hks : k < ks.length := by omega
          obtain ⟨gf, cf', hv, -, hgf⟩ := own'.form (by omega)
          simp only [Value.slice.injEq] at hv
          obtain ⟨rfl, -, rfl⟩ := hv
          obtain ⟨q0, q1, q2, q3⟩ := form_cells own' k hks
          obtain ⟨bl, ol, rfl, hcl⟩ := (hl.fr0 hfr).at k hkl
          obtain ⟨m, hm⟩ : ∃ m, ks[k] = m := ⟨_, rfl⟩
          obtain ⟨n, hn⟩ : ∃ n, l[k] = n := ⟨_, rfl⟩
          rw [hm] at q0 q1 q2 q3
          rw [hn] at hcl
          have HM := Lib.hid hm
          have HNN := Lib.hid hn
          have HN64 : Hid (n < 18446744073709551616) := Lib.hid (by rw [← hn]; exact HB.out l[k] (List.getElem_mem hkl))
          clear hm hn
          have hm10 := Lib.hid (forms_lt _ _ HF.out m (by rw [← HM.out]; exact List.getElem_mem hks))
          have hmo := most_le m hm10.out
          have hw8 : IntKind.i64.wrap (8 * (wmost m : Int)) = 8 * (wmost m : Int) := IntWalk.i64_in _ (by omega)
          have hp8 : 0 ≤ 8 * (wmost m : Int) := by omega
          have hbl : bl < wr.heap.size := World.block_lt_of_cell? _ _ hcl
          have hkI : (k : Int) < (l.length : Int) := by omega
          by_cases hfit : fits m n = true
          · have hq : ((n : Int) / 2 ^ min (8 * wmost m) 64 != 0) = false := fits_int hfit
            have HS := Lib.hid hfit
            clear hfit
            have hent := enter_put m hm10.out
            go_wp2
            go_quiet (fail)
            go_wp2
            go_region_law (go_simp; refine (put_row w1.heap.size n v bs _ ((hw.alloc _).drewN _) HN64.out (by omega) m hm10.out).mono ?_; rintro e w' ⟨rfl, hto⟩; dsimp only)
            all_goals
              obtain ⟨v', hw', hfr', hfv', own2, hap'⟩ := put_close hf1 own hfr ((Fr.alloc S0 wr _).trans0 (Fr.drewN S0 _ _)) hfv own' hap hto
              clear hto
              go_wp2
              go_roundw
              case rel =>
                refine ⟨k + 1, bs ++ enc m n, v', by omega, by go_num, ?_, hw', hfr', hfv', own2, hap', ?_⟩
                · have := enc_length m n hm10.out
                  rw [List.length_append]; omega
                · rw [HP.out, putRows_step ks l k hks hkl bs (by rw [HM.out, HNN.out]; exact HS.out), HM.out, HNN.out]
              case measure => simp [intOf]; omega
          · have hfit' : fits m n = false := by simpa using hfit
            have hq : ((n : Int) / 2 ^ min (8 * wmost m) 64 != 0) = true := fits_int' hfit'
            have HS : Hid (putS (pat s) l = .error 5) := Lib.hid (by rw [HE.out, HP.out]; exact putRows_bad ks l k hks hkl bs (by rw [HM.out, HNN.out]; exact hfit'))
            clear hfit hfit'
            go_wp2
            go_quiet (fail)
            go_wp2
            go_ret2
            rw [HS.out]
            exact ⟨(hfr.trans0 (Fr.alloc S0 _ _)).trans0 (Fr.drewN S0 _ _), rfl⟩
        · have HQ : Hid (putS (pat s) l = .ok bs) := Lib.hid (by
            have := HN.out
            rw [HE.out, HP.out, List.drop_eq_nil_of_le (by omega), List.drop_eq_nil_of_le (by omega), putRows_nil, wpre, List.append_nil])
          have c0 := hw.c0
          go_wp2
          go_ret2
          rw [HQ.out]
          exact ⟨hfr, v, rfl, hw.2.1, hfv⟩
    · have HE : Hid (putS (pat s) l = .error 22) := Lib.hid (by unfold putS; rw [hfs]; simp only; rw [if_neg (by omega)])
      have hb : ((ks.length : Int) != (l.length : Int)) = true := by rw [bne_iff_ne]; exact hne
      clear hfs hne
      go_wp2
      go_ret2
      rw [HE.out]
      exact ⟨hf1, rfl⟩
end Go.Proofs.Ytmieeoceckcnkaa
namespace Go.Proofs.Ytmieeoceckcnkaa
open Go.RowKit
def dec (k : Nat) (l : List Nat) : Except Nat (Nat × Nat) := match k with
  | 0 => fDec 1 l | 1 => fDec 2 l | 2 => rmap (fun n => wturn n 2) (fDec 2 l) | 3 => fDec 4 l | 4 => rmap (fun n => wturn n 4) (fDec 4 l)
  | 5 => fDec 8 l | 6 => rmap (fun n => wturn n 8) (fDec 8 l) | 7 => vDec 1 9 true l | 8 => rmap unzz (vDec 1 9 true l) | _ => rmap unzz (vDec 8 8 true l)
def GetRow (g at_ c : Nat) (p : Option Addr) (l : List Nat) (w : World) (k : Nat) : Prop :=
  Calls Try.prog (fRow k).2.2.2 #[.pointer (some ⟨g, 0, none⟩), .int .i64 (wmost k : Nat)] w fun e w' => RdPost w w' g p c l at_ e (dec k (l.drop at_))
theorem dec_0 (l : List Nat) : dec 0 l = fDec 1 l := rfl
theorem dec_1 (l : List Nat) : dec 1 l = fDec 2 l := rfl
theorem dec_2 (l : List Nat) : dec 2 l = rmap (fun n => wturn n 2) (fDec 2 l) := rfl
theorem dec_3 (l : List Nat) : dec 3 l = fDec 4 l := rfl
theorem dec_4 (l : List Nat) : dec 4 l = rmap (fun n => wturn n 4) (fDec 4 l) := rfl
theorem dec_5 (l : List Nat) : dec 5 l = fDec 8 l := rfl
theorem dec_6 (l : List Nat) : dec 6 l = rmap (fun n => wturn n 8) (fDec 8 l) := rfl
theorem dec_7 (l : List Nat) : dec 7 l = vDec 1 9 true l := rfl
theorem dec_8 (l : List Nat) : dec 8 l = rmap unzz (vDec 1 9 true l) := rfl
theorem dec_9 (l : List Nat) : dec 9 l = rmap unzz (vDec 8 8 true l) := rfl
theorem fget_0 : (fRow 0).2.2.2 = 71 := rfl
theorem fget_1 : (fRow 1).2.2.2 = 71 := rfl
theorem fget_2 : (fRow 2).2.2.2 = 73 := rfl
theorem fget_3 : (fRow 3).2.2.2 = 71 := rfl
theorem fget_4 : (fRow 4).2.2.2 = 73 := rfl
theorem fget_5 : (fRow 5).2.2.2 = 71 := rfl
theorem fget_6 : (fRow 6).2.2.2 = 73 := rfl
theorem fget_7 : (fRow 7).2.2.2 = 75 := rfl
theorem fget_8 : (fRow 8).2.2.2 = 77 := rfl
theorem fget_9 : (fRow 9).2.2.2 = 77 := rfl
section
variable (g at_ c : Nat) (p : Option Addr) (l : List Nat) (w : World) (h : wRdIs w g p c l at_)
include h
theorem get_0 : GetRow g at_ c p l w 0 := by
  unfold GetRow; rw [fget_0, most_0, dec_0]; exact rlow_any g at_ c 1 p l w h (by decide)
theorem get_1 : GetRow g at_ c p l w 1 := by
  unfold GetRow; rw [fget_1, most_1, dec_1]; exact rlow_any g at_ c 2 p l w h (by decide)
theorem get_2 : GetRow g at_ c p l w 2 := by
  unfold GetRow; rw [fget_2, most_2, dec_2]; exact rhigh_any g at_ c 2 p l w h (by decide)
theorem get_3 : GetRow g at_ c p l w 3 := by
  unfold GetRow; rw [fget_3, most_3, dec_3]; exact rlow_any g at_ c 4 p l w h (by decide)
theorem get_4 : GetRow g at_ c p l w 4 := by
  unfold GetRow; rw [fget_4, most_4, dec_4]; exact rhigh_any g at_ c 4 p l w h (by decide)
theorem get_5 : GetRow g at_ c p l w 5 := by
  unfold GetRow; rw [fget_5, most_5, dec_5]; exact rlow_any g at_ c 8 p l w h (by decide)
theorem get_6 : GetRow g at_ c p l w 6 := by
  unfold GetRow; rw [fget_6, most_6, dec_6]; exact rhigh_any g at_ c 8 p l w h (by decide)
theorem get_7 : GetRow g at_ c p l w 7 := by
  unfold GetRow; rw [fget_7, most_7, dec_7]; exact rfew_any g at_ c 10 p l w h (by decide)
theorem get_8 : GetRow g at_ c p l w 8 := by
  unfold GetRow; rw [fget_8, most_8, dec_8]; exact rsigned_any g at_ c 10 p l w h (by decide)
theorem get_9 : GetRow g at_ c p l w 9 := by
  unfold GetRow; rw [fget_9, most_9, dec_9]; exact rsigned_any g at_ c 9 p l w h (by decide)
theorem get_row (k : Nat) (hk : k < 10) : GetRow g at_ c p l w k :=
  ten _ k hk (get_0 g at_ c p l w h) (get_1 g at_ c p l w h) (get_2 g at_ c p l w h) (get_3 g at_ c p l w h) (get_4 g at_ c p l w h) (get_5 g at_ c p l w h) (get_6 g at_ c p l w h) (get_7 g at_ c p l w h) (get_8 g at_ c p l w h) (get_9 g at_ c p l w h)
end
end Go.Proofs.Ytmieeoceckcnkaa
namespace Go.Proofs.Ytmieeoceckcnkaa
open Go.RowKit
end Go.Proofs.Ytmieeoceckcnkaa

namespace Go.Proofs.Ytmieeoceckcnkaa
open Go.RowKit
theorem lDec_lEnc : ∀ (m n : Nat), lDec (lEnc m n) = n % 256 ^ m
  | 0, n => by simp [lEnc, lDec, Nat.mod_one]
  | m + 1, n => by
    rw [lEnc, lDec, lDec_lEnc m, Nat.pow_succ, Nat.mul_comm (256 ^ m) 256, Nat.mod_mul]
theorem lEnc_lDec : ∀ (l : List Nat), (∀ x ∈ l, x < 256) → lEnc l.length (lDec l) = l
  | [], _ => rfl
  | b :: r, h => by
    have hb := h b (by simp)
    rw [List.length_cons, lDec, show b + 256 * lDec r = 256 * lDec r + b by omega, lEnc_step _ _ _ hb, lEnc_lDec r fun x hx => h x (by simp [hx])]
theorem lEnc_lt : ∀ (m n : Nat), ∀ x ∈ lEnc m n, x < 256
  | 0, _ => by simp [lEnc]
  | m + 1, n => by
    intro x hx
    rw [lEnc, List.mem_cons] at hx
    rcases hx with rfl | hx
    · omega
    · exact lEnc_lt m _ x hx
theorem wturn_lt (n m : Nat) (hn : n < 18446744073709551616) (hm : m ≤ 8) : wturn n m < 256 ^ m := by
  obtain ⟨r, hr, hlt⟩ := rev_nat n hn
  unfold wturn
  rw [hr, Int.toNat_natCast]
  have e : 256 ^ m = 2 ^ (8 * m) := by rw [Nat.pow_mul]
  have f : 2 ^ (8 * m) * 2 ^ (64 - 8 * m) = 18446744073709551616 := by
    rw [← Nat.pow_add, show 8 * m + (64 - 8 * m) = 64 by omega]
  rw [e]
  refine Nat.div_lt_of_lt_mul ?_
  rw [Nat.mul_comm, f]
  exact hlt
theorem turn_rev (l : List Nat) (h : ∀ x ∈ l, x < 256) (hm : l.length = 2 ∨ l.length = 4 ∨ l.length = 8) : lEnc l.length (wturn (lDec l) l.length) = l.reverse := by
  rw [(turn_enc _ _ (lDec_lt8 l h (by omega)) hm).1, lEnc_lDec l h]
theorem pow256_le (m : Nat) (h : m ≤ 8) : 256 ^ m ≤ 18446744073709551616 := by
  have : 256 ^ m ≤ 256 ^ 8 := Nat.pow_le_pow_right (by decide) h
  rwa [show (256 : Nat) ^ 8 = 18446744073709551616 by decide] at this
theorem fDec_back (m n : Nat) (r : List Nat) (hn : n < 256 ^ m) : fDec m (lEnc m n ++ r) = .ok (n, m) := by
  unfold fDec
  have hl := lEnc_length m n
  rw [if_pos (by rw [List.length_append]; omega), List.take_append_of_le_length (by omega), List.take_of_length_le (by omega), lDec_lEnc, Nat.mod_eq_of_lt hn]
theorem fDec_back_rev (m n : Nat) (r : List Nat) (hn : n < 256 ^ m) (hm : m = 2 ∨ m = 4 ∨ m = 8) : rmap (fun n => wturn n m) (fDec m ((lEnc m n).reverse ++ r)) = .ok (n, m) := by
  have hl : (lEnc m n).reverse.length = m := by rw [List.length_reverse, lEnc_length]
  have hb : ∀ x ∈ (lEnc m n).reverse, x < 256 := fun x hx => lEnc_lt m n x (List.mem_reverse.1 hx)
  unfold fDec
  rw [if_pos (by rw [List.length_append]; omega), List.take_append_of_le_length (by omega), List.take_of_length_le (by omega), rmap]
  have ht := turn_rev _ hb (by rw [hl]; exact hm)
  rw [hl, List.reverse_reverse] at ht
  have hlt := wturn_lt (lDec (lEnc m n).reverse) m (lDec_lt8 _ hb (by omega)) (by omega)
  have := congrArg lDec ht
  rw [lDec_lEnc, lDec_lEnc, Nat.mod_eq_of_lt hn, Nat.mod_eq_of_lt hlt] at this
  rw [this]
theorem vDec_back (room : Nat) (hroom : room ≤ 8) : ∀ (f n : Nat) (first : Bool) (r : List Nat), n < 128 ^ f * 2 ^ room → (n ≠ 0 ∨ (first = true ∧ f ≠ 0)) → vDec room f first (vEnc f n ++ r) = .ok (n, (vEnc f n).length)
  | 0, n, first, r, hn, h0 => by
    have h256 : 2 ^ room ≤ 2 ^ 8 := Nat.pow_le_pow_right (by decide) hroom
    rw [show (2 : Nat) ^ 8 = 256 by decide] at h256
    rw [Nat.pow_zero, Nat.one_mul] at hn
    have hn0 : n ≠ 0 := by rcases h0 with h | h; exact h; exact absurd rfl h.2
    rw [vEnc, Nat.mod_eq_of_lt (by omega), List.singleton_append, vDec, if_neg (by omega)]
    rfl
  | f + 1, n, first, r, hn, h0 => by
    rw [vEnc]
    by_cases h : n < 128
    · rw [if_pos h, List.singleton_append, vDec, if_neg (by rintro ⟨a, b⟩; rcases h0 with h0 | h0; exact h0 a; rw [b] at h0; cases h0.1), if_pos h]
      rfl
    · rw [if_neg h, List.cons_append, vDec, if_neg (by omega), if_neg (by omega), vDec_back room hroom f (n / 128) false r ?_ (Or.inl (by omega))]
      · simp only [List.length_cons, Except.ok.injEq, Prod.mk.injEq, and_true]; omega
      · rw [Nat.pow_succ] at hn
        refine Nat.div_lt_of_lt_mul ?_
        rw [← Nat.mul_assoc, Nat.mul_comm 128]
        exact hn
theorem fits_lt {k n : Nat} (h : fits k n = true) (hm : wmost k ≤ 8) : n < 256 ^ wmost k := by
  unfold fits at h
  rw [beq_iff_eq, Nat.min_eq_left (by omega), Nat.pow_mul] at h
  rcases Nat.lt_or_ge n (256 ^ wmost k) with h1 | h1
  · exact h1
  · have := Nat.div_pos h1 (Nat.pow_pos (n := wmost k) (show 0 < 256 by decide))
    have h' : n / 256 ^ wmost k = 0 := h
    omega
theorem fits_of {k n : Nat} (h : n < 256 ^ wmost k) (hm : wmost k ≤ 8) : fits k n = true := by
  unfold fits
  rw [beq_iff_eq, Nat.min_eq_left (by omega), Nat.pow_mul]
  exact Nat.div_eq_of_lt h
theorem fits_big {k n : Nat} (hn : n < 18446744073709551616) (hm : 8 ≤ wmost k) : fits k n = true := by
  unfold fits
  rw [beq_iff_eq, Nat.min_eq_right (by omega), show (2 : Nat) ^ 64 = 18446744073709551616 by decide]
  exact Nat.div_eq_of_lt hn
theorem p64a : 128 ^ 9 * 2 ^ 1 = 18446744073709551616 := by decide
theorem p64b : 128 ^ 8 * 2 ^ 8 = 18446744073709551616 := by decide
theorem dec_enc (k n : Nat) (r : List Nat) (hk : k < 10) (hn : n < 18446744073709551616) (hf : fits k n = true) : dec k (enc k n ++ r) = .ok (n, (enc k n).length) := by
  revert hf
  refine ten (fun k => fits k n = true → dec k (enc k n ++ r) = .ok (n, (enc k n).length)) k hk ?_ ?_ ?_ ?_ ?_ ?_ ?_ ?_ ?_ ?_ <;> intro hf
  · rw [enc_0, dec_0, lEnc_length]; exact fDec_back 1 n r (fits_lt hf (by decide))
  · rw [enc_1, dec_1, lEnc_length]; exact fDec_back 2 n r (fits_lt hf (by decide))
  · rw [enc_2, dec_2, List.length_reverse, lEnc_length]; exact fDec_back_rev 2 n r (fits_lt hf (by decide)) (by decide)
  · rw [enc_3, dec_3, lEnc_length]; exact fDec_back 4 n r (fits_lt hf (by decide))
  · rw [enc_4, dec_4, List.length_reverse, lEnc_length]; exact fDec_back_rev 4 n r (fits_lt hf (by decide)) (by decide)
  · rw [enc_5, dec_5, lEnc_length]; exact fDec_back 8 n r (fits_lt hf (by decide))
  · rw [enc_6, dec_6, List.length_reverse, lEnc_length]; exact fDec_back_rev 8 n r (fits_lt hf (by decide)) (by decide)
  · rw [enc_7, dec_7]; exact vDec_back 1 (by decide) 9 n true r (by rw [p64a]; exact hn) (Or.inr ⟨rfl, by decide⟩)
  · rw [enc_8, dec_8, vDec_back 1 (by decide) 9 (zz n) true r (by rw [p64a]; exact zz_lt n hn) (Or.inr ⟨rfl, by decide⟩), rmap, unzz_zz n hn]
  · rw [enc_9, dec_9, vDec_back 8 (by decide) 8 (zz n) true r (by rw [p64b]; exact zz_lt n hn) (Or.inr ⟨rfl, by decide⟩), rmap, unzz_zz n hn]
theorem fDec_one (m n u : Nat) (l : List Nat) (hb : ∀ x ∈ l, x < 256) (h : fDec m l = .ok (n, u)) : u = m ∧ u ≤ l.length ∧ lEnc m n = l.take u ∧ n < 256 ^ m := by
  unfold fDec at h
  by_cases hm : m ≤ l.length
  · rw [if_pos hm] at h
    simp only [Except.ok.injEq, Prod.mk.injEq] at h
    obtain ⟨rfl, rfl⟩ := h
    have hl : (l.take m).length = m := by rw [List.length_take]; omega
    have hb' : ∀ x ∈ l.take m, x < 256 := fun x hx => hb x (List.mem_of_mem_take hx)
    have h1 := lEnc_lDec (l.take m) hb'
    have h2 := lDec_lt (l.take m) hb'
    rw [hl] at h1 h2
    exact ⟨rfl, hm, h1, h2⟩
  · rw [if_neg hm] at h; cases h
theorem fDec_one_rev (m n u : Nat) (l : List Nat) (hb : ∀ x ∈ l, x < 256) (hm : m = 2 ∨ m = 4 ∨ m = 8) (h : rmap (fun n => wturn n m) (fDec m l) = .ok (n, u)) : u = m ∧ u ≤ l.length ∧ (lEnc m n).reverse = l.take u ∧ n < 256 ^ m := by
  cases hd : fDec m l with
  | error x => rw [hd] at h; cases h
  | ok a =>
    obtain ⟨n', u'⟩ := a
    rw [hd, rmap] at h
    simp only [Except.ok.injEq, Prod.mk.injEq] at h
    obtain ⟨rfl, rfl⟩ := h
    obtain ⟨rfl, hle, he, hlt⟩ := fDec_one m n' u' l hb hd
    have h64 := pow256_le u' (by omega)
    refine ⟨rfl, hle, ?_, wturn_lt n' u' (by omega) (by omega)⟩
    rw [(turn_enc n' u' (by omega) hm).1, List.reverse_reverse, he]
theorem vDec_one (room : Nat) (hroom : room ≤ 8) : ∀ (f n u : Nat) (first : Bool) (l : List Nat), (∀ x ∈ l, x < 256) → vDec room f first l = .ok (n, u) →
    u ≤ l.length ∧ vEnc f n = l.take u ∧ n < 128 ^ f * 2 ^ room ∧ (first = false → n ≠ 0)
  | f, n, u, first, [], _, h => by
    cases f <;> cases h
  | 0, n, u, first, c :: l, hb, h => by
    have hc := hb c (by simp)
    rw [vDec] at h
    by_cases h1 : c = 0 ∨ 2 ^ room ≤ c
    · rw [if_pos h1] at h; cases h
    · rw [if_neg h1] at h
      simp only [Except.ok.injEq, Prod.mk.injEq] at h
      obtain ⟨rfl, rfl⟩ := h
      refine ⟨by simp, ?_, by omega, fun _ => by omega⟩
      rw [vEnc, Nat.mod_eq_of_lt hc]; rfl
  | f + 1, n, u, first, c :: l, hb, h => by
    have hc := hb c (by simp)
    have hp : 0 < 128 ^ f * 2 ^ room := Nat.mul_pos (Nat.pow_pos (by decide)) (Nat.pow_pos (by decide))
    rw [vDec] at h
    by_cases h1 : c = 0 ∧ first = false
    · rw [if_pos h1] at h; cases h
    · rw [if_neg h1] at h
      by_cases h2 : c < 128
      · rw [if_pos h2] at h
        simp only [Except.ok.injEq, Prod.mk.injEq] at h
        obtain ⟨rfl, rfl⟩ := h
        refine ⟨by simp, ?_, ?_, fun hf hz => h1 ⟨hz, hf⟩⟩
        · rw [vEnc, if_pos h2]; rfl
        · rw [Nat.pow_succ, Nat.mul_right_comm]; omega
      · rw [if_neg h2] at h
        cases hd : vDec room f false l with
        | error x => rw [hd] at h; cases h
        | ok a =>
          obtain ⟨n', u'⟩ := a
          rw [hd] at h
          simp only [Except.ok.injEq, Prod.mk.injEq] at h
          obtain ⟨rfl, rfl⟩ := h
          obtain ⟨i1, i2, i3, i4⟩ := vDec_one room hroom f n' u' false l (fun x hx => hb x (by simp [hx])) hd
          have hn0 := i4 rfl
          refine ⟨by simpa using i1, ?_, ?_, fun _ => by omega⟩
          · rw [vEnc, if_neg (by omega), show (c % 128 + 128 * n') / 128 = n' by omega, show (c % 128 + 128 * n') % 128 + 128 = c by omega, i2, List.take_succ_cons]
          · rw [Nat.pow_succ, Nat.mul_right_comm]; omega
theorem enc_dec (k n u : Nat) (l : List Nat) (hk : k < 10) (hb : ∀ x ∈ l, x < 256) (h : dec k l = .ok (n, u)) : u ≤ l.length ∧ enc k n = l.take u ∧ fits k n = true ∧ n < 18446744073709551616 := by
  revert h
  refine ten (fun k => dec k l = .ok (n, u) → u ≤ l.length ∧ enc k n = l.take u ∧ fits k n = true ∧ n < 18446744073709551616) k hk ?_ ?_ ?_ ?_ ?_ ?_ ?_ ?_ ?_ ?_ <;> intro h
  · rw [dec_0] at h; obtain ⟨rfl, a, b, c⟩ := fDec_one _ _ _ _ hb h; rw [enc_0]; exact ⟨a, b, fits_of c (by decide), Nat.lt_of_lt_of_le c (pow256_le 1 (by decide))⟩
  · rw [dec_1] at h; obtain ⟨rfl, a, b, c⟩ := fDec_one _ _ _ _ hb h; rw [enc_1]; exact ⟨a, b, fits_of c (by decide), Nat.lt_of_lt_of_le c (pow256_le 2 (by decide))⟩
  · rw [dec_2] at h; obtain ⟨rfl, a, b, c⟩ := fDec_one_rev _ _ _ _ hb (by decide) h; rw [enc_2]; exact ⟨a, b, fits_of c (by decide), Nat.lt_of_lt_of_le c (pow256_le 2 (by decide))⟩
  · rw [dec_3] at h; obtain ⟨rfl, a, b, c⟩ := fDec_one _ _ _ _ hb h; rw [enc_3]; exact ⟨a, b, fits_of c (by decide), Nat.lt_of_lt_of_le c (pow256_le 4 (by decide))⟩
  · rw [dec_4] at h; obtain ⟨rfl, a, b, c⟩ := fDec_one_rev _ _ _ _ hb (by decide) h; rw [enc_4]; exact ⟨a, b, fits_of c (by decide), Nat.lt_of_lt_of_le c (pow256_le 4 (by decide))⟩
  · rw [dec_5] at h; obtain ⟨rfl, a, b, c⟩ := fDec_one _ _ _ _ hb h; rw [enc_5]; exact ⟨a, b, fits_of c (by decide), Nat.lt_of_lt_of_le c (pow256_le 8 (by decide))⟩
  · rw [dec_6] at h; obtain ⟨rfl, a, b, c⟩ := fDec_one_rev _ _ _ _ hb (by decide) h; rw [enc_6]; exact ⟨a, b, fits_of c (by decide), Nat.lt_of_lt_of_le c (pow256_le 8 (by decide))⟩
  · rw [dec_7] at h; obtain ⟨a, b, c, -⟩ := vDec_one 1 (by decide) _ _ _ _ _ hb h; rw [p64a] at c; rw [enc_7]; exact ⟨a, b, fits_big c (by decide), c⟩
  · rw [dec_8] at h
    cases hd : vDec 1 9 true l with
    | error x => rw [hd] at h; cases h
    | ok a =>
      obtain ⟨n', u'⟩ := a
      rw [hd, rmap] at h
      simp only [Except.ok.injEq, Prod.mk.injEq] at h
      obtain ⟨rfl, rfl⟩ := h
      obtain ⟨a, b, c, -⟩ := vDec_one 1 (by decide) _ _ _ _ _ hb hd
      rw [p64a] at c
      rw [enc_8, zz_unzz n' c]
      exact ⟨a, b, fits_big (unzz_lt n') (by decide), unzz_lt n'⟩
  · rw [dec_9] at h
    cases hd : vDec 8 8 true l with
    | error x => rw [hd] at h; cases h
    | ok a =>
      obtain ⟨n', u'⟩ := a
      rw [hd, rmap] at h
      simp only [Except.ok.injEq, Prod.mk.injEq] at h
      obtain ⟨rfl, rfl⟩ := h
      obtain ⟨a, b, c, -⟩ := vDec_one 8 (by decide) _ _ _ _ _ hb hd
      rw [p64b] at c
      rw [enc_9, zz_unzz n' c]
      exact ⟨a, b, fits_big (unzz_lt n') (by decide), unzz_lt n'⟩
theorem vEnc_lt : ∀ (f n : Nat), ∀ x ∈ vEnc f n, x < 256
  | 0, n => by intro x hx; rw [vEnc, List.mem_singleton] at hx; omega
  | f + 1, n => by
    intro x hx
    rw [vEnc] at hx
    split at hx
    · rw [List.mem_singleton] at hx; omega
    · rw [List.mem_cons] at hx
      rcases hx with rfl | hx
      · omega
      · exact vEnc_lt f _ x hx
theorem enc_lt (k n : Nat) (hk : k < 10) : ∀ x ∈ enc k n, x < 256 := by
  refine ten (fun k => ∀ x ∈ enc k n, x < 256) k hk ?_ ?_ ?_ ?_ ?_ ?_ ?_ ?_ ?_ ?_ <;> intro x hx
  · rw [enc_0] at hx; exact lEnc_lt _ _ x hx
  · rw [enc_1] at hx; exact lEnc_lt _ _ x hx
  · rw [enc_2] at hx; exact lEnc_lt _ _ x (List.mem_reverse.1 hx)
  · rw [enc_3] at hx; exact lEnc_lt _ _ x hx
  · rw [enc_4] at hx; exact lEnc_lt _ _ x (List.mem_reverse.1 hx)
  · rw [enc_5] at hx; exact lEnc_lt _ _ x hx
  · rw [enc_6] at hx; exact lEnc_lt _ _ x (List.mem_reverse.1 hx)
  · rw [enc_7] at hx; exact vEnc_lt _ _ x hx
  · rw [enc_8] at hx; exact vEnc_lt _ _ x hx
  · rw [enc_9] at hx; exact vEnc_lt _ _ x hx
end Go.Proofs.Ytmieeoceckcnkaa
namespace Go.Proofs.Ytmieeoceckcnkaa
open Go.RowKit
end Go.Proofs.Ytmieeoceckcnkaa
namespace Go.Proofs.Ytmieeoceckcnkaa
open Go.RowKit
end Go.Proofs.Ytmieeoceckcnkaa

namespace Go.Proofs.Ytmieeoceckcnkaa
open Go.RowKit
def fixS : Option Nat → Int × Bool
  | none => (-1, false)
  | some k => if k < 7 then ((wmost k : Nat), k == 2 || k == 4 || k == 6) else (0, false)
def FixedIs (c : Nat) (w : World) : Prop := Calls Try.prog 52 #[.int .u8 c] w fun e w' => e = .returned (.tuple #[.int .i64 (fixS (fIdx c)).1, .bool (fixS (fIdx c)).2]) ∧ w = w'
theorem fixed_0 (w : World) : FixedIs 98 w := by
  unfold FixedIs
  have E : Hid (fixS (fIdx 98) = fixS (some 0)) := Lib.hid (by rw [show fIdx 98 = some 0 from by decide])
  rw [E.out]
  go_enter Try.func52, Try.ntmps52
  go_wp2
  go_ret2
  exact ⟨rfl, rfl⟩
theorem fixed_1 (w : World) : FixedIs 104 w := by
  unfold FixedIs
  have E : Hid (fixS (fIdx 104) = fixS (some 1)) := Lib.hid (by rw [show fIdx 104 = some 1 from by decide])
  rw [E.out]
  go_enter Try.func52, Try.ntmps52
  go_wp2
  go_ret2
  exact ⟨rfl, rfl⟩
theorem fixed_2 (w : World) : FixedIs 72 w := by
  unfold FixedIs
  have E : Hid (fixS (fIdx 72) = fixS (some 2)) := Lib.hid (by rw [show fIdx 72 = some 2 from by decide])
  rw [E.out]
  go_enter Try.func52, Try.ntmps52
  go_wp2
  go_ret2
  exact ⟨rfl, rfl⟩
theorem fixed_3 (w : World) : FixedIs 119 w := by
  unfold FixedIs
  have E : Hid (fixS (fIdx 119) = fixS (some 3)) := Lib.hid (by rw [show fIdx 119 = some 3 from by decide])
  rw [E.out]
  go_enter Try.func52, Try.ntmps52
  go_wp2
  go_ret2
  exact ⟨rfl, rfl⟩
theorem fixed_4 (w : World) : FixedIs 87 w := by
  unfold FixedIs
  have E : Hid (fixS (fIdx 87) = fixS (some 4)) := Lib.hid (by rw [show fIdx 87 = some 4 from by decide])
  rw [E.out]
  go_enter Try.func52, Try.ntmps52
  go_wp2
  go_ret2
  exact ⟨rfl, rfl⟩
theorem fixed_5 (w : World) : FixedIs 113 w := by
  unfold FixedIs
  have E : Hid (fixS (fIdx 113) = fixS (some 5)) := Lib.hid (by rw [show fIdx 113 = some 5 from by decide])
  rw [E.out]
  go_enter Try.func52, Try.ntmps52
  go_wp2
  go_ret2
  exact ⟨rfl, rfl⟩
theorem fixed_6 (w : World) : FixedIs 81 w := by
  unfold FixedIs
  have E : Hid (fixS (fIdx 81) = fixS (some 6)) := Lib.hid (by rw [show fIdx 81 = some 6 from by decide])
  rw [E.out]
  go_enter Try.func52, Try.ntmps52
  go_wp2
  go_ret2
  exact ⟨rfl, rfl⟩
theorem fixed_7 (w : World) : FixedIs 118 w := by
  unfold FixedIs
  have E : Hid (fixS (fIdx 118) = fixS (some 7)) := Lib.hid (by rw [show fIdx 118 = some 7 from by decide])
  rw [E.out]
  go_enter Try.func52, Try.ntmps52
  go_wp2
  go_ret2
  exact ⟨rfl, rfl⟩
theorem fixed_8 (w : World) : FixedIs 122 w := by
  unfold FixedIs
  have E : Hid (fixS (fIdx 122) = fixS (some 8)) := Lib.hid (by rw [show fIdx 122 = some 8 from by decide])
  rw [E.out]
  go_enter Try.func52, Try.ntmps52
  go_wp2
  go_ret2
  exact ⟨rfl, rfl⟩
theorem fixed_9 (w : World) : FixedIs 110 w := by
  unfold FixedIs
  have E : Hid (fixS (fIdx 110) = fixS (some 9)) := Lib.hid (by rw [show fIdx 110 = some 9 from by decide])
  rw [E.out]
  go_enter Try.func52, Try.ntmps52
  go_wp2
  go_ret2
  exact ⟨rfl, rfl⟩
theorem fixed_none (c : Nat) (w : World) (h : fIdx c = none) : FixedIs c w := by
  unfold FixedIs
  rw [h]
  have hn := fIdx_none c h
  have t0 : ((c : Int) == 98) = false := by have := hn 0 (by decide); rw [show (fRow 0).1 = 98 from rfl] at this; rw [beq_eq_false_iff_ne]; omega
  have t1 : ((c : Int) == 104) = false := by have := hn 1 (by decide); rw [show (fRow 1).1 = 104 from rfl] at this; rw [beq_eq_false_iff_ne]; omega
  have t2 : ((c : Int) == 72) = false := by have := hn 2 (by decide); rw [show (fRow 2).1 = 72 from rfl] at this; rw [beq_eq_false_iff_ne]; omega
  have t3 : ((c : Int) == 119) = false := by have := hn 3 (by decide); rw [show (fRow 3).1 = 119 from rfl] at this; rw [beq_eq_false_iff_ne]; omega
  have t4 : ((c : Int) == 87) = false := by have := hn 4 (by decide); rw [show (fRow 4).1 = 87 from rfl] at this; rw [beq_eq_false_iff_ne]; omega
  have t5 : ((c : Int) == 113) = false := by have := hn 5 (by decide); rw [show (fRow 5).1 = 113 from rfl] at this; rw [beq_eq_false_iff_ne]; omega
  have t6 : ((c : Int) == 81) = false := by have := hn 6 (by decide); rw [show (fRow 6).1 = 81 from rfl] at this; rw [beq_eq_false_iff_ne]; omega
  have t7 : ((c : Int) == 118) = false := by have := hn 7 (by decide); rw [show (fRow 7).1 = 118 from rfl] at this; rw [beq_eq_false_iff_ne]; omega
  have t8 : ((c : Int) == 122) = false := by have := hn 8 (by decide); rw [show (fRow 8).1 = 122 from rfl] at this; rw [beq_eq_false_iff_ne]; omega
  have t9 : ((c : Int) == 110) = false := by have := hn 9 (by decide); rw [show (fRow 9).1 = 110 from rfl] at this; rw [beq_eq_false_iff_ne]; omega
  clear hn h
  go_enter Try.func52, Try.ntmps52
  go_wp2
  go_ret2
  exact ⟨rfl, rfl⟩
theorem wrfixed_any (c : Nat) (w : World) : FixedIs c w := by
  cases h : fIdx c with
  | none => exact fixed_none c w h
  | some k =>
    obtain ⟨hk, hc⟩ := fIdx_some c k h
    subst hc
    exact ten (fun k => FixedIs (fRow k).1 w) k hk (fixed_0 w) (fixed_1 w) (fixed_2 w) (fixed_3 w) (fixed_4 w) (fixed_5 w) (fixed_6 w) (fixed_7 w) (fixed_8 w) (fixed_9 w)
end Go.Proofs.Ytmieeoceckcnkaa
namespace Go.Proofs.Ytmieeoceckcnkaa
open Go.RowKit
theorem fixed_row (k : Nat) (hk : k < 10) (w : World) : Calls Try.prog 52 #[.int .u8 ((fRow k).1 : Nat)] w fun e w' => e = .returned (.tuple #[.int .i64 (fixS (some k)).1, .bool (fixS (some k)).2]) ∧ w = w' := by
  have e : fIdx (fRow k).1 = some k := ten (fun k => fIdx (fRow k).1 = some k) k hk rfl rfl rfl rfl rfl rfl rfl rfl rfl rfl
  have := wrfixed_any (fRow k).1 w
  unfold FixedIs at this
  rw [e] at this
  exact this
end Go.Proofs.Ytmieeoceckcnkaa
namespace Go.Proofs.Ytmieeoceckcnkaa
open Go.RowKit
def OnePost (w : World) (e : Ending) (w' : World) (k n : Nat) : Prop :=
  ∃ v, e = .returned (.tuple #[v, .bool (fits k n)]) ∧ Fr S0 w w' ∧ w'.ownsRow 0 5 1 v (enc k n).length (u8s (enc k n)) ∧ Fresh w v
theorem lEnc_snoc : ∀ (j n : Nat), lEnc (j + 1) n = lEnc j n ++ [n / 256 ^ j % 256]
  | 0, n => by simp [lEnc]
  | j + 1, n => by
    rw [lEnc, lEnc_snoc j (n / 256), lEnc, Nat.div_div_eq_div_mul, Nat.pow_succ, Nat.mul_comm]
    rfl
theorem low_enc (k n : Nat) (hk : k < 7) (h : (k == 2 || k == 4 || k == 6) = false) : enc k n = lEnc (wmost k) n := by
  have : k = 0 ∨ k = 1 ∨ k = 3 ∨ k = 5 := by simp at h; omega
  rcases this with rfl | rfl | rfl | rfl
  · exact enc_0 n
  · exact enc_1 n
  · exact enc_3 n
  · exact enc_5 n
theorem high_enc (k n : Nat) (hk : k < 7) (h : (k == 2 || k == 4 || k == 6) = true) : enc k n = (lEnc (wmost k) n).reverse := by
  have : k = 2 ∨ k = 4 ∨ k = 6 := by simp at h; omega
  rcases this with rfl | rfl | rfl
  · exact enc_2 n
  · exact enc_4 n
  · exact enc_6 n
theorem most8 (k : Nat) (hk : k < 7) : 1 ≤ wmost k ∧ wmost k ≤ 8 := by
  have : k = 0 ∨ k = 1 ∨ k = 2 ∨ k = 3 ∨ k = 4 ∨ k = 5 ∨ k = 6 := by omega
  rcases this with rfl | rfl | rfl | rfl | rfl | rfl | rfl <;> decide
theorem fits_div (k n : Nat) (hk : k < 7) : fits k n = ((n / 256 ^ wmost k : Nat) == 0) := by
  have := most8 k hk
  unfold fits
  rw [Nat.min_eq_left (by omega), Nat.pow_mul]
theorem wwrap256 (a : Nat) (h : a < 18446744073709551616) : IntKind.u64.wrap ((a : Int) / 256) = ((a / 256 : Nat) : Int) := by
  rw [IntKind.wrap_u64]; omega
theorem wwrap128 (a : Nat) (h : a < 18446744073709551616) : IntKind.u64.wrap ((a : Int) / 128) = ((a / 128 : Nat) : Int) := by
  rw [IntKind.wrap_u64]; omega
theorem one_low (k n : Nat) (w : World) (hk : k < 7) (hn : n < 18446744073709551616) (hh : (k == 2 || k == 4 || k == 6) = false) :
    Calls Try.prog 42 #[.int .u8 ((fRow k).1 : Nat), .int .u64 n] w fun e w' => OnePost w e w' k n := by
  have hm := most8 k hk
  have hfix := fixed_row k (by omega) w
  rw [show fixS (some k) = (((wmost k : Nat) : Int), (k == 2 || k == 4 || k == 6)) by unfold fixS; dsimp only; rw [if_pos hk], hh] at hfix
  have HFIX := Lib.hid hfix
  have HE := Lib.hid (low_enc k n hk hh)
  have HT := Lib.hid (fits_div k n hk)
  have HN := Lib.hid hn
  clear hfix hh hn
  obtain ⟨m, hmm⟩ : ∃ m, wmost k = m := ⟨_, rfl⟩
  rw [hmm] at hm
  have HM := Lib.hid hmm
  have hpos : decide (0 < m) = true := by simp; omega
  clear hmm
  go_enter Try.func42, Try.ntmps42
  go_wp2_with (go_at_call 52; refine HFIX.out.mono ?_; rw [HM.out]; rintro e w' ⟨rfl, rfl⟩)
  go_loopw [8, 9, 10] (fun b a i wr => ∃ (j : Nat) (p : Option Addr) (c : Nat), j ≤ m ∧ i = .int .i64 j ∧ a = .int .u64 (n / 256 ^ j : Nat) ∧ b = .slice p j c ∧ wr.ownsRow 0 5 1 (.slice p j c) j (u8s (lEnc j n)) ∧ Fresh w (.slice p j c) ∧ Fr S0 w wr) (fun _ _ i _ => m - (intOf i).toNat)
  case atStart => exact ⟨0, none, 0, by omega, rfl, by simp, rfl, World.ownsRow_nil _ _ _ _, (fun g h => by simp [Value.ownBlock] at h), Fr.refl _ _⟩
  case round =>
    obtain ⟨j, p, c, hj, rfl, rfl, rfl, own, hfv, hfr⟩ := hrel
    obtain ⟨a, ha⟩ : ∃ a, n / 256 ^ j = a := ⟨_, rfl⟩
    have HA := Lib.hid ha
    have HA256 : Hid (a < 18446744073709551616) := Lib.hid (by rw [← ha]; exact Nat.lt_of_le_of_lt (Nat.div_le_self _ _) HN.out)
    rw [ha]
    clear ha
    by_cases hlt : (j : Int) < (m : Int)
    · have HR : Hid (Room (j + 1)) := Lib.hid (Room.mk (by omega))
      go_wp2_with ((with_reducible show wpList _ _ _ (Oper.mk (some 37) _ _ _ _ _ :: _) _ _); refine app_one el5 (.tmp 32) (.tmp 36) rfl own rfl rfl rfl rfl rfl one8 HR.out ?_; intro g cap w1 hown hgrow hat hlt1)
      go_roundw
      case rel =>
        refine ⟨j + 1, some ⟨g, 0, none⟩, cap, by omega, by go_num, ?_, rfl, ?_, ?_, ?_⟩
        · rw [wwrap256 _ HA256.out]
          exact congrArg _ (by rw [Nat.pow_succ, ← Nat.div_div_eq_div_mul, HA.out])
        · rw [lEnc_snoc, ← u8s_append, HA.out]
          exact hown
        · exact fresh_many hfv (by have := hfr.size; simp; omega) (show _ = _ ∨ _ = some ((wr.alloc (.cells #[.int .u8 ((a : Int) % 256)] 5)).heap.size) by rw [size_alloc]; rcases hat with h | h; exact Or.inl h.symm; exact Or.inr (by rw [h]; rfl))
        · exact (hfr.trans0 (Fr.alloc S0 wr _)).append hgrow hfv
      case measure => simp [intOf]; omega
    · obtain rfl : j = m := by omega
      have hb : ((a : Int) == 0) = fits k n := by
        rw [HT.out, HM.out, HA.out]
        cases h : (a == 0)
        · rw [beq_eq_false_iff_ne] at h ⊢; omega
        · rw [beq_iff_eq] at h ⊢; omega
      have HB := Lib.hid hb
      clear hb
      go_wp2
      go_ret2
      refine ⟨.slice p j c, by rw [← HB.out]; rfl, hfr, ?_, hfv⟩
      rw [HE.out, HM.out, lEnc_length]
      exact own
theorem own_lit1 (w : World) (x : Int) : (w.alloc (.cells #[.int .u8 x] 5)).ownsRow 0 5 1 (.slice (some ⟨w.heap.size, 0, none⟩) 1 1) 1 [.int .u8 x] :=
  ⟨rfl, .inr ⟨w.heap.size, 1, #[.int .u8 x], rfl, Nat.zero_le _, heap_alloc_new w _, Nat.le_refl _, by decide, rfl, rfl⟩⟩
theorem one_high (k n : Nat) (w : World) (hk : k < 7) (hn : n < 18446744073709551616) (hh : (k == 2 || k == 4 || k == 6) = true) :
    Calls Try.prog 42 #[.int .u8 ((fRow k).1 : Nat), .int .u64 n] w fun e w' => OnePost w e w' k n := by
  have hm := most8 k hk
  have hfix := fixed_row k (by omega) w
  rw [show fixS (some k) = (((wmost k : Nat) : Int), (k == 2 || k == 4 || k == 6)) by unfold fixS; dsimp only; rw [if_pos hk], hh] at hfix
  have HFIX := Lib.hid hfix
  have HE := Lib.hid (high_enc k n hk hh)
  have HT := Lib.hid (fits_div k n hk)
  have HN := Lib.hid hn
  clear hfix hh hn
  obtain ⟨m, hmm⟩ : ∃ m, wmost k = m := ⟨_, rfl⟩
  rw [hmm] at hm
  have HM := Lib.hid hmm
  have hpos : decide (0 < m) = true := by simp; omega
  clear hmm
  go_enter Try.func42, Try.ntmps42
  go_wp2_with (go_at_call 52; refine HFIX.out.mono ?_; rw [HM.out]; rintro e w' ⟨rfl, rfl⟩)
  go_loopw [8, 9, 10] (fun b a i wr => ∃ (j : Nat) (p : Option Addr) (c : Nat), j ≤ m ∧ i = .int .i64 j ∧ a = .int .u64 (n / 256 ^ j : Nat) ∧ b = .slice p j c ∧ wr.ownsRow 0 5 1 (.slice p j c) j (u8s (lEnc j n).reverse) ∧ Fresh w (.slice p j c) ∧ Fr S0 w wr) (fun _ _ i _ => m - (intOf i).toNat)
  case atStart => exact ⟨0, none, 0, by omega, rfl, by simp, rfl, World.ownsRow_nil _ _ _ _, (fun g h => by simp [Value.ownBlock] at h), Fr.refl _ _⟩
  case round =>
    obtain ⟨j, p, c, hj, rfl, rfl, rfl, own, hfv, hfr⟩ := hrel
    obtain ⟨a, ha⟩ : ∃ a, n / 256 ^ j = a := ⟨_, rfl⟩
    have HA := Lib.hid ha
    have HA256 : Hid (a < 18446744073709551616) := Lib.hid (by rw [← ha]; exact Nat.lt_of_le_of_lt (Nat.div_le_self _ _) HN.out)
    rw [ha]
    clear ha
    by_cases hlt : (j : Int) < (m : Int)
    · have HJ : Hid (1 + j = j + 1) := Lib.hid (Nat.add_comm 1 j)
      have HR : Hid (Room (j + 1)) := Lib.hid (Room.mk (by omega))
      go_wp2_with ((with_reducible show wpList _ _ _ (Oper.mk (some 31) _ _ _ _ _ :: _) _ _); refine app_many el5 (.tmp 29) (.tmp 30) (own_lit1 wr _) (SrcIs.ofOwns (own.alloc _)) HJ.out rfl rfl rfl rfl (one8s _) HR.out ?_; intro pn cn w1 hown hgrow hat)
      go_roundw
      case rel =>
        refine ⟨j + 1, pn, cn, by omega, by go_num, ?_, rfl, ?_, ?_, ?_⟩
        · rw [wwrap256 _ HA256.out]
          exact congrArg _ (by rw [Nat.pow_succ, ← Nat.div_div_eq_div_mul, HA.out])
        · rw [lEnc_snoc, List.reverse_append, List.reverse_singleton, ← u8s_append, HA.out]
          exact hown
        · exact fresh_many (fresh_made hfr (n := 1) (c := 1)) (size_le hfr) hat
        · exact fr_made hfr hgrow
      case measure => simp [intOf]; omega
    · obtain rfl : j = m := by omega
      have hb : ((a : Int) == 0) = fits k n := by
        rw [HT.out, HM.out, HA.out]
        cases h : (a == 0)
        · rw [beq_eq_false_iff_ne] at h ⊢; omega
        · rw [beq_iff_eq] at h ⊢; omega
      have HB := Lib.hid hb
      clear hb
      go_wp2
      go_ret2
      refine ⟨.slice p j c, by rw [← HB.out]; rfl, hfr, ?_, hfv⟩
      rw [HE.out, HM.out, List.length_reverse, lEnc_length]
      exact own
end Go.Proofs.Ytmieeoceckcnkaa
namespace Go.Proofs.Ytmieeoceckcnkaa
open Go.RowKit
theorem onePost_mk {w w' : World} {k n m : Nat} {v : Value} {xs : List Value} (hf : fits k n = true) (h : Fr S0 w w') (hm : (enc k n).length = m) (ho : w'.ownsRow 0 5 1 v m xs) (hx : xs = u8s (enc k n)) (hv : Fresh w v) :
    OnePost w (.returned (.tuple #[v, .bool true])) w' k n := ⟨v, by rw [hf], h, by rw [hm, ← hx]; exact ho, hv⟩
theorem one_var7 (n : Nat) (w : World) (hn : n < 18446744073709551616) :
    Calls Try.prog 42 #[.int .u8 ((fRow 7).1 : Nat), .int .u64 n] w fun e w' => OnePost w e w' 7 n := by
  have hfix := fixed_row 7 (by decide) w
  rw [show fixS (some 7) = (0, false) from rfl] at hfix
  rw [show (fRow 7).1 = 118 from rfl] at hfix ⊢
  have HFIX := Lib.hid hfix
  have HF : Hid (fits 7 n = true) := Lib.hid (fits_big hn (by decide))
  have HE := Lib.hid (enc_7 n)
  have HZ := Lib.hid hn
  clear hfix hn
  go_enter Try.func42, Try.ntmps42
  go_wp2_with (go_at_call 52; refine HFIX.out.mono ?_; rintro e w' ⟨rfl, rfl⟩)
  go_loopw [8, 11] (fun b a wr => ∃ (j x : Nat) (ps : List Nat) (p : Option Addr) (c : Nat), j ≤ 9 ∧ x = n / 128 ^ j ∧ ps.length = j ∧ ps ++ vEnc (9 - j) x = vEnc 9 n ∧ a = .int .u64 x ∧ b = .slice p j c ∧ wr.ownsRow 0 5 1 (.slice p j c) j (u8s ps) ∧ Fresh w (.slice p j c) ∧ Fr S0 w wr) (fun _ a _ => (intOf a).toNat)
  case atStart => exact ⟨0, n, [], none, 0, by omega, by simp, rfl, rfl, rfl, rfl, World.ownsRow_nil _ _ _ _, (fun g h => by simp [Value.ownBlock] at h), Fr.refl _ _⟩
  case round =>
    obtain ⟨j, x, ps, p, c, hj, hx, hpl, hv, rfl, rfl, own, hfv, hfr⟩ := hrel
    have HR : Hid (Room (j + 1)) := Lib.hid (Room.mk (by omega))
    have HX := Lib.hid hx
    have HPL := Lib.hid hpl
    have HV := Lib.hid hv
    have HX64 : Hid (x < 18446744073709551616) := Lib.hid (by rw [hx]; exact Nat.lt_of_le_of_lt (Nat.div_le_self _ _) HZ.out)
    clear hx hpl hv
    by_cases h127 : (127 : Int) < (x : Int)
    · have hjF : j < 9 := by
        rcases Nat.lt_or_ge j 9 with h | h
        · exact h
        · exfalso
          have : j = 9 := by omega
          have h1 := HX.out
          have h2 := HZ.out
          rw [this, show (128 : Nat) ^ 9 = 9223372036854775808 by decide] at h1
          omega
      have HNEW : Hid (ps ++ [x % 128 + 128] ++ vEnc (9 - (j + 1)) (x / 128) = vEnc 9 n) := Lib.hid (by
        obtain ⟨f, hf⟩ : ∃ f, 9 - j = f + 1 := ⟨9 - j - 1, by omega⟩
        rw [← HV.out, hf, vEnc, if_neg (by omega), show 9 - (j + 1) = f by omega, List.append_assoc]
        rfl)
      go_wp2_with ((with_reducible show wpList _ _ _ (Oper.mk (some 66) _ _ _ _ _ :: _) _ _); refine app_one el5 (.tmp 60) (.tmp 65) rfl own rfl rfl rfl rfl rfl one8 HR.out ?_; intro g cap w1 hown hgrow hat hlt1)
      have hw := wwrap128 x HX64.out
      rw [hw]
      refine ⟨⟨j + 1, x / 128, ps ++ [x % 128 + 128], some ⟨g, 0, none⟩, cap, by omega, ?_, ?_, HNEW.out, rfl, rfl, ?_, fresh_app hfr hfv hat, (hfr.trans0 (Fr.alloc S0 wr _)).append hgrow hfv⟩, by simp [intOf]; omega⟩
      · rw [HX.out, Nat.div_div_eq_div_mul, ← Nat.pow_succ]
      · rw [List.length_append, HPL.out]; rfl
      · rw [← u8s_append, show u8s [x % 128 + 128] = [.int .u8 (128 + (x : Int) % 128)] from by simp [u8s]; omega]
        exact hown
    · have HFIN : Hid (ps ++ [x] = vEnc 9 n) := Lib.hid (by
        rw [← HV.out]
        cases hf : 9 - j with
        | zero => rw [vEnc, Nat.mod_eq_of_lt (by omega)]
        | succ f => rw [vEnc, if_pos (by omega)])
      go_wp2_with ((with_reducible show wpList _ _ _ (Oper.mk (some 73) _ _ _ _ _ :: _) _ _); refine app_one el5 (.tmp 69) (.tmp 72) rfl own rfl rfl rfl rfl rfl one8 HR.out ?_; intro g cap w1 hown hgrow hat hlt1)
      go_ret2
      exact onePost_mk HF.out ((hfr.trans0 (Fr.alloc S0 wr _)).append hgrow hfv) (by rw [HE.out, ← HFIN.out, List.length_append, HPL.out]; rfl) hown (by rw [HE.out, ← HFIN.out, ← u8s_append]; rfl) (fresh_app hfr hfv hat)
theorem one_var8 (n : Nat) (w : World) (hn : n < 18446744073709551616) :
    Calls Try.prog 42 #[.int .u8 ((fRow 8).1 : Nat), .int .u64 n] w fun e w' => OnePost w e w' 8 n := by
  have hfix := fixed_row 8 (by decide) w
  rw [show fixS (some 8) = (0, false) from rfl] at hfix
  rw [show (fRow 8).1 = 122 from rfl] at hfix ⊢
  have HFIX := Lib.hid hfix
  have HF : Hid (fits 8 n = true) := Lib.hid (fits_big hn (by decide))
  have HE := Lib.hid (enc_8 n)
  have HZ := Lib.hid (zz_lt n hn)
  have hsg := fun w => refsign_any n w (by omega) (by omega)
  rw [zz_eq n hn] at hsg
  have HSG := Lib.hid hsg
  clear hfix hn hsg
  obtain ⟨z, hz⟩ : ∃ z, zz n = z := ⟨_, rfl⟩
  rw [hz] at HE HZ HSG
  clear hz
  go_enter Try.func42, Try.ntmps42
  go_wp2_with (first | (go_at_call 52; refine HFIX.out.mono ?_; rintro e w' ⟨rfl, rfl⟩) | (go_at_call 53; refine (HSG.out _).mono ?_; rintro e w' ⟨rfl, rfl⟩))
  go_loopw [8, 11] (fun b a wr => ∃ (j x : Nat) (ps : List Nat) (p : Option Addr) (c : Nat), j ≤ 9 ∧ x = z / 128 ^ j ∧ ps.length = j ∧ ps ++ vEnc (9 - j) x = vEnc 9 z ∧ a = .int .u64 x ∧ b = .slice p j c ∧ wr.ownsRow 0 5 1 (.slice p j c) j (u8s ps) ∧ Fresh w (.slice p j c) ∧ Fr S0 w wr) (fun _ a _ => (intOf a).toNat)
  case atStart => exact ⟨0, z, [], none, 0, by omega, by simp, rfl, rfl, rfl, rfl, World.ownsRow_nil _ _ _ _, (fun g h => by simp [Value.ownBlock] at h), Fr.refl _ _⟩
  case round =>
    obtain ⟨j, x, ps, p, c, hj, hx, hpl, hv, rfl, rfl, own, hfv, hfr⟩ := hrel
    have HR : Hid (Room (j + 1)) := Lib.hid (Room.mk (by omega))
    have HX := Lib.hid hx
    have HPL := Lib.hid hpl
    have HV := Lib.hid hv
    have HX64 : Hid (x < 18446744073709551616) := Lib.hid (by rw [hx]; exact Nat.lt_of_le_of_lt (Nat.div_le_self _ _) HZ.out)
    clear hx hpl hv
    by_cases h127 : (127 : Int) < (x : Int)
    · have hjF : j < 9 := by
        rcases Nat.lt_or_ge j 9 with h | h
        · exact h
        · exfalso
          have : j = 9 := by omega
          have h1 := HX.out
          have h2 := HZ.out
          rw [this, show (128 : Nat) ^ 9 = 9223372036854775808 by decide] at h1
          omega
      have HNEW : Hid (ps ++ [x % 128 + 128] ++ vEnc (9 - (j + 1)) (x / 128) = vEnc 9 z) := Lib.hid (by
        obtain ⟨f, hf⟩ : ∃ f, 9 - j = f + 1 := ⟨9 - j - 1, by omega⟩
        rw [← HV.out, hf, vEnc, if_neg (by omega), show 9 - (j + 1) = f by omega, List.append_assoc]
        rfl)
      go_wp2_with ((with_reducible show wpList _ _ _ (Oper.mk (some 66) _ _ _ _ _ :: _) _ _); refine app_one el5 (.tmp 60) (.tmp 65) rfl own rfl rfl rfl rfl rfl one8 HR.out ?_; intro g cap w1 hown hgrow hat hlt1)
      have hw := wwrap128 x HX64.out
      rw [hw]
      refine ⟨⟨j + 1, x / 128, ps ++ [x % 128 + 128], some ⟨g, 0, none⟩, cap, by omega, ?_, ?_, HNEW.out, rfl, rfl, ?_, fresh_app hfr hfv hat, (hfr.trans0 (Fr.alloc S0 wr _)).append hgrow hfv⟩, by simp [intOf]; omega⟩
      · rw [HX.out, Nat.div_div_eq_div_mul, ← Nat.pow_succ]
      · rw [List.length_append, HPL.out]; rfl
      · rw [← u8s_append, show u8s [x % 128 + 128] = [.int .u8 (128 + (x : Int) % 128)] from by simp [u8s]; omega]
        exact hown
    · have HFIN : Hid (ps ++ [x] = vEnc 9 z) := Lib.hid (by
        rw [← HV.out]
        cases hf : 9 - j with
        | zero => rw [vEnc, Nat.mod_eq_of_lt (by omega)]
        | succ f => rw [vEnc, if_pos (by omega)])
      go_wp2_with ((with_reducible show wpList _ _ _ (Oper.mk (some 73) _ _ _ _ _ :: _) _ _); refine app_one el5 (.tmp 69) (.tmp 72) rfl own rfl rfl rfl rfl rfl one8 HR.out ?_; intro g cap w1 hown hgrow hat hlt1)
      go_ret2
      exact onePost_mk HF.out ((hfr.trans0 (Fr.alloc S0 wr _)).append hgrow hfv) (by rw [HE.out, ← HFIN.out, List.length_append, HPL.out]; rfl) hown (by rw [HE.out, ← HFIN.out, ← u8s_append]; rfl) (fresh_app hfr hfv hat)
theorem one_var9 (n : Nat) (w : World) (hn : n < 18446744073709551616) :
    Calls Try.prog 42 #[.int .u8 ((fRow 9).1 : Nat), .int .u64 n] w fun e w' => OnePost w e w' 9 n := by
  have hfix := fixed_row 9 (by decide) w
  rw [show fixS (some 9) = (0, false) from rfl] at hfix
  rw [show (fRow 9).1 = 110 from rfl] at hfix ⊢
  have HFIX := Lib.hid hfix
  have HF : Hid (fits 9 n = true) := Lib.hid (fits_big hn (by decide))
  have HE := Lib.hid (enc_9 n)
  have HZ := Lib.hid (zz_lt n hn)
  have hsg := fun w => refsign_any n w (by omega) (by omega)
  rw [zz_eq n hn] at hsg
  have HSG := Lib.hid hsg
  clear hfix hn hsg
  obtain ⟨z, hz⟩ : ∃ z, zz n = z := ⟨_, rfl⟩
  rw [hz] at HE HZ HSG
  clear hz
  go_enter Try.func42, Try.ntmps42
  go_wp2_with (first | (go_at_call 52; refine HFIX.out.mono ?_; rintro e w' ⟨rfl, rfl⟩) | (go_at_call 53; refine (HSG.out _).mono ?_; rintro e w' ⟨rfl, rfl⟩))
  go_loopw [8, 11] (fun b a wr => ∃ (j x : Nat) (ps : List Nat) (p : Option Addr) (c : Nat), j ≤ 8 ∧ x = z / 128 ^ j ∧ ps.length = j ∧ ps ++ vEnc (8 - j) x = vEnc 8 z ∧ a = .int .u64 x ∧ b = .slice p j c ∧ wr.ownsRow 0 5 1 (.slice p j c) j (u8s ps) ∧ Fresh w (.slice p j c) ∧ Fr S0 w wr) (fun _ a _ => (intOf a).toNat)
  case atStart => exact ⟨0, z, [], none, 0, by omega, by simp, rfl, rfl, rfl, rfl, World.ownsRow_nil _ _ _ _, (fun g h => by simp [Value.ownBlock] at h), Fr.refl _ _⟩
  case round =>
    obtain ⟨j, x, ps, p, c, hj, hx, hpl, hv, rfl, rfl, own, hfv, hfr⟩ := hrel
    have HR : Hid (Room (j + 1)) := Lib.hid (Room.mk (by omega))
    have HX := Lib.hid hx
    have HPL := Lib.hid hpl
    have HV := Lib.hid hv
    have HX64 : Hid (x < 18446744073709551616) := Lib.hid (by rw [hx]; exact Nat.lt_of_le_of_lt (Nat.div_le_self _ _) HZ.out)
    clear hx hpl hv
    by_cases h127 : (127 : Int) < (x : Int)
    · by_cases hj8 : j = 8
      · have h8 : ((j : Int) == 8) = true := by rw [hj8]; rfl
        have HFIN : Hid (ps ++ [x % 256] = vEnc 8 z) := Lib.hid (by rw [← HV.out, hj8]; rfl)
        clear hj8
        go_wp2_with ((with_reducible show wpList _ _ _ (Oper.mk (some 73) _ _ _ _ _ :: _) _ _); refine app_one el5 (.tmp 69) (.tmp 72) rfl own rfl rfl rfl rfl rfl one8 HR.out ?_; intro g cap w1 hown hgrow hat hlt1)
        go_ret2
        exact onePost_mk HF.out ((hfr.trans0 (Fr.alloc S0 wr _)).append hgrow hfv) (by rw [HE.out, ← HFIN.out, List.length_append, HPL.out]; rfl) hown (by rw [HE.out, ← HFIN.out, ← u8s_append]; rfl) (fresh_app hfr hfv hat)
      · have h8 : ((j : Int) == 8) = false := by rw [beq_eq_false_iff_ne]; omega
        have hjF : j < 8 := by omega
        have HNEW : Hid (ps ++ [x % 128 + 128] ++ vEnc (8 - (j + 1)) (x / 128) = vEnc 8 z) := Lib.hid (by
          obtain ⟨f, hf⟩ : ∃ f, 8 - j = f + 1 := ⟨8 - j - 1, by omega⟩
          rw [← HV.out, hf, vEnc, if_neg (by omega), show 8 - (j + 1) = f by omega, List.append_assoc]
          rfl)
        go_wp2_with ((with_reducible show wpList _ _ _ (Oper.mk (some 66) _ _ _ _ _ :: _) _ _); refine app_one el5 (.tmp 60) (.tmp 65) rfl own rfl rfl rfl rfl rfl one8 HR.out ?_; intro g cap w1 hown hgrow hat hlt1)
        have hw := wwrap128 x HX64.out
        rw [hw]
        refine ⟨⟨j + 1, x / 128, ps ++ [x % 128 + 128], some ⟨g, 0, none⟩, cap, by omega, ?_, ?_, HNEW.out, rfl, rfl, ?_, fresh_app hfr hfv hat, (hfr.trans0 (Fr.alloc S0 wr _)).append hgrow hfv⟩, by simp [intOf]; omega⟩
        · rw [HX.out, Nat.div_div_eq_div_mul, ← Nat.pow_succ]
        · rw [List.length_append, HPL.out]; rfl
        · rw [← u8s_append, show u8s [x % 128 + 128] = [.int .u8 (128 + (x : Int) % 128)] from by simp [u8s]; omega]
          exact hown
    · have HFIN : Hid (ps ++ [x] = vEnc 8 z) := Lib.hid (by
        rw [← HV.out]
        cases hf : 8 - j with
        | zero => rw [vEnc, Nat.mod_eq_of_lt (by omega)]
        | succ f => rw [vEnc, if_pos (by omega)])
      go_wp2_with ((with_reducible show wpList _ _ _ (Oper.mk (some 73) _ _ _ _ _ :: _) _ _); refine app_one el5 (.tmp 69) (.tmp 72) rfl own rfl rfl rfl rfl rfl one8 HR.out ?_; intro g cap w1 hown hgrow hat hlt1)
      go_ret2
      exact onePost_mk HF.out ((hfr.trans0 (Fr.alloc S0 wr _)).append hgrow hfv) (by rw [HE.out, ← HFIN.out, List.length_append, HPL.out]; rfl) hown (by rw [HE.out, ← HFIN.out, ← u8s_append]; rfl) (fresh_app hfr hfv hat)
end Go.Proofs.Ytmieeoceckcnkaa
namespace Go.Proofs.Ytmieeoceckcnkaa
open Go.RowKit
theorem one_any (k n : Nat) (w : World) (hk : k < 10) (hn : n < 18446744073709551616) :
    Calls Try.prog 42 #[.int .u8 ((fRow k).1 : Nat), .int .u64 n] w fun e w' => OnePost w e w' k n := by
  by_cases h7 : k < 7
  · cases hh : (k == 2 || k == 4 || k == 6)
    · exact one_low k n w h7 hn hh
    · exact one_high k n w h7 hn hh
  · have : k = 7 ∨ k = 8 ∨ k = 9 := by omega
    rcases this with rfl | rfl | rfl
    · exact one_var7 n w hn
    · exact one_var8 n w hn
    · exact one_var9 n w hn
end Go.Proofs.Ytmieeoceckcnkaa
