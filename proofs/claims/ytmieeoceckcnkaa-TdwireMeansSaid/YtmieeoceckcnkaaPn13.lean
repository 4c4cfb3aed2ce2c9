/- TwMath, TwNext, TwMeans, TwRead, TwTold -/
import Derived.Test.YtmieeoceckcnkaaPn1
import Derived.Test.YtmieeoceckcnkaaPn2
import Derived.Test.YtmieeoceckcnkaaPn3
import Derived.Test.YtmieeoceckcnkaaPn4
import Derived.Test.YtmieeoceckcnkaaPn5
import Derived.Test.YtmieeoceckcnkaaPn6
import Derived.Test.YtmieeoceckcnkaaPn7
import Derived.Test.YtmieeoceckcnkaaPn8
import Derived.Test.YtmieeoceckcnkaaPn9
import Derived.Test.YtmieeoceckcnkaaPn10
import Derived.Test.YtmieeoceckcnkaaPn11
import Derived.Test.YtmieeoceckcnkaaPn12
import Derived.StillTailTactics
import Derived.WalkKit
import Derived.Laws.BitsAllLaws
import Derived.Laws.BytesArg
import Derived.Lib.SlBytesConst
import Derived.Maps.AppendAt
import Derived.Laws.AppendOwnNone
import Derived.WalkSpells
import Derived.WalkLawsBesides
import Derived.Deep.QuietTactic
import Derived.BigQuiet
import Derived.RegionTactic
import Derived.Deep.AppendLies
import Derived.Deep.RegionLaw
import Derived.Laws.ResultCell
import Derived.Laws.EntriesVeiled
import Derived.Lib.Hide
import Derived.Test.YtmieeoceckcnkaaRows
import Derived.Deep.RegionHeld3
import Derived.BigRegion
import Derived.Laws.OwnMore
import Derived.Lib.AppendZerosOnto
import Derived.Lib.SliceRun
import Derived.Lib.Walk
import Derived.Laws.Externs
import Derived.Shelf.Spec.BitsCarry
import Derived.Deep.CutBlock
import Derived.Deep.CutRange
import Derived.Deep.DeepCutAuto
import Derived.Lib.BitFns
import Derived.Shelf.Small.Bits
import Derived.Shelf.Strconv.Itoa0
import Derived.Shelf.Bits.Mul64
import Derived.Deep.RegionHeld2
import Derived.Defers
import Derived.Recover
set_option maxRecDepth 100000
set_option maxHeartbeats 8000000
namespace Go.Proofs.Ytmieeoceckcnkaa
def numb (k : Int) : Nat := (k % 18446744073709551616).toNat
theorem numb_lt (k : Int) : numb k < 18446744073709551616 := by unfold numb; omega
theorem meant_numb (k : Int) (h1 : -9223372036854775808 ≤ k) (h2 : k < 9223372036854775808) : meant (numb k : Nat) = k := by unfold meant numb; split <;> omega
theorem numb_meant (n : Nat) (h : n < 18446744073709551616) : numb (meant n) = n := by unfold meant numb; split <;> omega
def rnd (k : Int) : Int := meant (numb k : Nat)
theorem rnd_bd (k : Int) : -9223372036854775808 ≤ rnd k ∧ rnd k ≤ 9223372036854775807 := by
  have := meant_bd (numb k : Nat) (by omega) (by have := numb_lt k; omega)
  unfold rnd
  omega
theorem rnd_sub (a : Int) (n : Nat) (h : n < 18446744073709551616) : numb (rnd (a + n) - a) = n := by
  unfold rnd meant numb
  split <;> omega
theorem sub_rnd (a k : Int) (h1 : -9223372036854775808 ≤ k) (h2 : k ≤ 9223372036854775807) : rnd (a + (numb (k - a) : Nat)) = k := by
  unfold rnd meant numb
  split <;> omega
def letr (first : Bool) : Nat := if first then 8 else 7
def alone (up first : Bool) : Bool := first || !up
def mnum (up first : Bool) (a v : Int) : Nat := if alone up first then numb v else numb (v - a)
def mval (up first : Bool) (a : Int) (n : Nat) : Int := if alone up first then meant n else rnd (a + n)
theorem mnum_lt (up first : Bool) (a v : Int) : mnum up first a v < 18446744073709551616 := by unfold mnum; split <;> exact numb_lt _
theorem mnum_mval (up first : Bool) (a : Int) (n : Nat) (h : n < 18446744073709551616) : mnum up first a (mval up first a n) = n := by
  unfold mnum mval
  split
  · exact numb_meant n h
  · exact rnd_sub a n h
theorem mval_mnum (up first : Bool) (a v : Int) (h1 : -9223372036854775808 ≤ v) (h2 : v ≤ 9223372036854775807) : mval up first a (mnum up first a v) = v := by
  unfold mnum mval
  split
  · exact meant_numb v h1 (by omega)
  · exact sub_rnd a v h1 h2
theorem mval_bd (up first : Bool) (a : Int) (n : Nat) (h : n < 18446744073709551616) : -9223372036854775808 ≤ mval up first a n ∧ mval up first a n ≤ 9223372036854775807 := by
  unfold mval
  split
  · have := meant_bd (n : Int) (by omega) (by omega)
    omega
  · exact rnd_bd _
def wrM (up : Bool) : Bool → Int → List Tm → List Nat
  | _, _, [] => []
  | first, a, x :: r => enc (letr (alone up first)) (mnum up first a x.1) ++ (enc 7 x.2 ++ wrM up false x.1 r)
def tdB (d : Nat) (lo hi : Int) (L W : List Tm) : List Nat := enc 7 d ++ (enc 8 (numb lo) ++ (enc 8 (numb hi) ++ (enc 7 L.length ++ (wrM true true 0 L ++ (enc 7 W.length ++ wrM false true 0 W)))))
def dnum (k : Nat) (l : List Nat) (at_ : Nat) : Option (Nat × Nat) := match dec k (l.drop at_) with
  | .ok (n, u) => some (n, at_ + u)
  | .error _ => none
def dfin (l : List Nat) (at_ : Nat) : Option (Nat × Nat) := match dnum 7 l at_ with
  | some (n, e) => if n ≤ 1000 then some (n, e) else none
  | none => none
def dsgn (l : List Nat) (at_ : Nat) : Option (Int × Nat) := match dnum 8 l at_ with
  | some (n, e) => some (meant n, e)
  | none => none
def dmval (up first : Bool) (a : Int) (l : List Nat) (at_ : Nat) : Option (Int × Nat) := match dnum (letr (alone up first)) l at_ with
  | some (n, e) => some (mval up first a n, e)
  | none => none
def drdM (up : Bool) (l : List Nat) : Nat → Bool → Int → Nat → List Tm → Option (List Tm × Nat)
  | 0, _, _, at_, acc => some (acc, at_)
  | j + 1, first, a, at_, acc => match dmval up first a l at_ with
    | none => none
    | some (v, e) => match dnum 7 l e with
      | none => none
      | some (n, e2) => drdM up l j false v e2 (acc ++ [(v, n)])
def drdL (up : Bool) (l : List Nat) (at_ : Nat) : Option (List Tm × Nat) := match dnum 7 l at_ with
  | none => none
  | some (n, e) => drdM up l n true 0 e []
structure Nums where
  d : Nat
  lo : Int
  hi : Int
  L : List Tm
  W : List Tm
def drdT (l : List Nat) : Option (Nums × Nat) := match dfin l 0 with
  | none => none
  | some (d, e1) => match dsgn l e1 with
    | none => none
    | some (lo, e2) => match dsgn l e2 with
      | none => none
      | some (hi, e3) => match drdL true l e3 with
        | none => none
        | some (L, e4) => match drdL false l e4 with
          | none => none
          | some (W, e5) => some (⟨d, lo, hi, L, W⟩, e5)
def Dg.bytes (x : Dg) : List Nat := tdB x.d x.lo x.hi x.L x.W
def Dg.nums (x : Dg) : Nums := ⟨x.d, x.lo, x.hi, x.L, x.W⟩
def Nums.dg (x : Nums) : Dg := { d := x.d, L := x.L, W := x.W, lo := x.lo, hi := x.hi }
structure RdOk (l : List Nat) (x : Dg) : Prop where
  eq : l = x.bytes
  good : x.Good
  few : x.W.length < x.d
theorem drop_app_len (pre x : List Nat) : (pre ++ x).drop pre.length = x := by simp
theorem letr_or (b : Bool) : letr b = 7 ∨ letr b = 8 := by cases b <;> simp [letr]
theorem dnum_enc (k n : Nat) (hk : k = 7 ∨ k = 8) (hn : n < 18446744073709551616) (pre post : List Nat) (e : Nat) (he : e = pre.length + (enc k n).length) : dnum k (pre ++ (enc k n ++ post)) pre.length = some (n, e) := by
  unfold dnum
  rw [drop_app_len, dec_enc k n post (by omega) hn (fits_big hn (by rcases hk with rfl | rfl <;> decide))]
  simp [he]
theorem enc_ne (k n : Nat) (hk : k = 7 ∨ k = 8) : 0 < (enc k n).length := by
  rcases Nat.eq_zero_or_pos (enc k n).length with h | h
  · have h2 : enc k n = [] := List.length_eq_zero_iff.1 h
    exfalso
    rcases hk with rfl | rfl <;> (simp [enc, encZ, vEnc] at h2; split at h2 <;> simp at h2)
  · exact h
theorem dnum_sound {k n at_ e : Nat} {l : List Nat} (hk : k = 7 ∨ k = 8) (hb : ∀ x ∈ l, x < 256) (h : dnum k l at_ = some (n, e)) (ha : at_ ≤ l.length) : n < 18446744073709551616 ∧ e ≤ l.length ∧ l.drop at_ = enc k n ++ l.drop e ∧ at_ < e := by
  unfold dnum at h
  split at h
  · rename_i n' u hd
    simp only [Option.some.injEq, Prod.mk.injEq] at h
    obtain ⟨rfl, rfl⟩ := h
    obtain ⟨h1, h2, -, h3⟩ := enc_dec k n' u (l.drop at_) (by omega) (fun x hx => hb x (List.mem_of_mem_drop hx)) hd
    rw [List.length_drop] at h1
    refine ⟨h3, by omega, ?_, ?_⟩
    · rw [h2, ← List.drop_drop, List.take_append_drop]
    · have h4 := enc_ne k n' hk
      rw [h2, List.length_take] at h4
      omega
  · cases h
theorem dfin_sound {n at_ e : Nat} {l : List Nat} (hb : ∀ x ∈ l, x < 256) (h : dfin l at_ = some (n, e)) (ha : at_ ≤ l.length) : n ≤ 1000 ∧ e ≤ l.length ∧ l.drop at_ = enc 7 n ++ l.drop e ∧ at_ < e := by
  unfold dfin at h
  split at h
  · rename_i n' e' hd
    split at h
    · simp only [Option.some.injEq, Prod.mk.injEq] at h
      obtain ⟨rfl, rfl⟩ := h
      have := dnum_sound (.inl rfl) hb hd ha
      exact ⟨by assumption, this.2⟩
    · cases h
  · cases h
theorem dsgn_sound {v : Int} {at_ e : Nat} {l : List Nat} (hb : ∀ x ∈ l, x < 256) (h : dsgn l at_ = some (v, e)) (ha : at_ ≤ l.length) : (-9223372036854775808 ≤ v ∧ v ≤ 9223372036854775807) ∧ e ≤ l.length ∧ l.drop at_ = enc 8 (numb v) ++ l.drop e ∧ at_ < e := by
  unfold dsgn at h
  split at h
  · rename_i n' e' hd
    simp only [Option.some.injEq, Prod.mk.injEq] at h
    obtain ⟨rfl, rfl⟩ := h
    obtain ⟨h1, h2⟩ := dnum_sound (.inr rfl) hb hd ha
    have := meant_bd (n' : Int) (by omega) (by omega)
    rw [numb_meant _ h1]
    exact ⟨by omega, h2⟩
  · cases h
theorem dmval_sound {up first : Bool} {a v : Int} {at_ e : Nat} {l : List Nat} (hb : ∀ x ∈ l, x < 256) (h : dmval up first a l at_ = some (v, e)) (ha : at_ ≤ l.length) : (-9223372036854775808 ≤ v ∧ v ≤ 9223372036854775807) ∧ e ≤ l.length ∧ l.drop at_ = enc (letr (alone up first)) (mnum up first a v) ++ l.drop e ∧ at_ < e := by
  unfold dmval at h
  split at h
  · rename_i n' e' hd
    simp only [Option.some.injEq, Prod.mk.injEq] at h
    obtain ⟨rfl, rfl⟩ := h
    obtain ⟨h1, h2⟩ := dnum_sound (letr_or _) hb hd ha
    rw [mnum_mval _ _ _ _ h1]
    exact ⟨mval_bd _ _ _ _ h1, h2⟩
  · cases h
def In64 (l : List Tm) : Prop := ∀ x ∈ l, (-9223372036854775808 ≤ x.1 ∧ x.1 ≤ 9223372036854775807) ∧ x.2 < 18446744073709551616
theorem drdM_sound {up : Bool} {l : List Nat} (hb : ∀ x ∈ l, x < 256) : ∀ (j : Nat) (first : Bool) (a : Int) (at_ : Nat) (acc out : List Tm) (e : Nat), at_ ≤ l.length → drdM up l j first a at_ acc = some (out, e) →
    ∃ L, out = acc ++ L ∧ L.length = j ∧ e ≤ l.length ∧ l.drop at_ = wrM up first a L ++ l.drop e ∧ In64 L ∧ at_ + 2 * j ≤ e
  | 0, first, a, at_, acc, out, e, ha, h => by
    rw [drdM] at h
    simp only [Option.some.injEq, Prod.mk.injEq] at h
    obtain ⟨rfl, rfl⟩ := h
    exact ⟨[], by simp, rfl, ha, by simp [wrM], fun x hx => (by cases hx), by omega⟩
  | j + 1, first, a, at_, acc, out, e, ha, h => by
    rw [drdM] at h
    split at h
    · cases h
    · rename_i v e1 hd1
      split at h
      · cases h
      · rename_i n e2 hd2
        obtain ⟨b1, b2, b3, b4⟩ := dmval_sound hb hd1 ha
        obtain ⟨c1, c2, c3, c4⟩ := dnum_sound (.inl rfl) hb hd2 b2
        obtain ⟨L, d1, d2, d3, d4, d5, d6⟩ := drdM_sound hb j false _ e2 _ out e c2 h
        refine ⟨(v, n) :: L, by rw [d1]; simp, by rw [List.length_cons, d2], d3, ?_, fun x hx => ?_, by omega⟩
        · rw [b3, c3, d4, wrM]
          simp [List.append_assoc]
        · rcases List.mem_cons.1 hx with rfl | hx
          · exact ⟨b1, c1⟩
          · exact d5 x hx
theorem drdL_sound {up : Bool} {l : List Nat} (hb : ∀ x ∈ l, x < 256) {at_ e : Nat} {L : List Tm} (ha : at_ ≤ l.length) (h : drdL up l at_ = some (L, e)) :
    e ≤ l.length ∧ l.drop at_ = enc 7 L.length ++ (wrM up true 0 L ++ l.drop e) ∧ In64 L ∧ at_ + 2 * L.length ≤ e := by
  unfold drdL at h
  split at h
  · cases h
  · rename_i n e1 hd
    obtain ⟨c1, c2, c3, c4⟩ := dnum_sound (.inl rfl) hb hd ha
    obtain ⟨L2, d1, d2, d3, d4, d5, d6⟩ := drdM_sound hb n true 0 e1 _ L e c2 h
    obtain rfl : L = L2 := by simpa using d1
    exact ⟨d3, by rw [c3, d2, d4], d5, by omega⟩
theorem dfin_enc (n : Nat) (hn : n ≤ 1000) (pre post : List Nat) (e : Nat) (he : e = pre.length + (enc 7 n).length) : dfin (pre ++ (enc 7 n ++ post)) pre.length = some (n, e) := by
  unfold dfin
  rw [dnum_enc 7 n (.inl rfl) (by omega) pre post e he]
  simp only
  rw [if_pos hn]
theorem dsgn_enc (v : Int) (h1 : -9223372036854775808 ≤ v) (h2 : v ≤ 9223372036854775807) (pre post : List Nat) (e : Nat) (he : e = pre.length + (enc 8 (numb v)).length) : dsgn (pre ++ (enc 8 (numb v) ++ post)) pre.length = some (v, e) := by
  unfold dsgn
  rw [dnum_enc 8 _ (.inr rfl) (numb_lt v) pre post e he]
  simp only
  rw [meant_numb v h1 (by omega)]
theorem dmval_enc {up first : Bool} {a v : Int} (h1 : -9223372036854775808 ≤ v) (h2 : v ≤ 9223372036854775807) (pre post : List Nat) (e : Nat) (he : e = pre.length + (enc (letr (alone up first)) (mnum up first a v)).length) : dmval up first a (pre ++ (enc (letr (alone up first)) (mnum up first a v) ++ post)) pre.length = some (v, e) := by
  unfold dmval
  rw [dnum_enc _ _ (letr_or _) (mnum_lt _ _ _ _) pre post e he]
  simp only
  rw [mval_mnum _ _ _ _ h1 h2]
theorem drdM_back (up : Bool) : ∀ (L : List Tm) (first : Bool) (a : Int) (pre post : List Nat) (acc : List Tm) (e : Nat), In64 L → e = pre.length + (wrM up first a L).length →
    drdM up (pre ++ (wrM up first a L ++ post)) L.length first a pre.length acc = some (acc ++ L, e)
  | [], first, a, pre, post, acc, e, _, he => by
    simp [drdM, wrM] at he ⊢
    exact he.symm
  | x :: r, first, a, pre, post, acc, e, h, he => by
    obtain ⟨⟨h1, h2⟩, h3⟩ := h x List.mem_cons_self
    rw [List.length_cons, drdM, wrM]
    have e1 : pre ++ (enc (letr (alone up first)) (mnum up first a x.1) ++ (enc 7 x.2 ++ wrM up false x.1 r) ++ post) = pre ++ (enc (letr (alone up first)) (mnum up first a x.1) ++ (enc 7 x.2 ++ (wrM up false x.1 r ++ post))) := by simp [List.append_assoc]
    rw [e1, dmval_enc h1 h2 pre _ _ rfl]
    simp only
    have e2 : pre ++ (enc (letr (alone up first)) (mnum up first a x.1) ++ (enc 7 x.2 ++ (wrM up false x.1 r ++ post))) = (pre ++ enc (letr (alone up first)) (mnum up first a x.1)) ++ (enc 7 x.2 ++ (wrM up false x.1 r ++ post)) := by simp [List.append_assoc]
    have l2 : pre.length + (enc (letr (alone up first)) (mnum up first a x.1)).length = (pre ++ enc (letr (alone up first)) (mnum up first a x.1)).length := by rw [List.length_append]
    rw [e2, l2, dnum_enc 7 x.2 (.inl rfl) h3 _ _ _ rfl]
    simp only
    have e3 : (pre ++ enc (letr (alone up first)) (mnum up first a x.1)) ++ (enc 7 x.2 ++ (wrM up false x.1 r ++ post)) = (pre ++ enc (letr (alone up first)) (mnum up first a x.1) ++ enc 7 x.2) ++ (wrM up false x.1 r ++ post) := by simp [List.append_assoc]
    have l3 : (pre ++ enc (letr (alone up first)) (mnum up first a x.1)).length + (enc 7 x.2).length = (pre ++ enc (letr (alone up first)) (mnum up first a x.1) ++ enc 7 x.2).length := by rw [List.length_append (bs := enc 7 x.2)]
    rw [e3, l3]
    rw [drdM_back up r false x.1 _ post _ e (fun y hy => h y (List.mem_cons_of_mem _ hy)) (by rw [he, wrM]; simp only [List.length_append]; omega)]
    simp
theorem drdL_back (up : Bool) (L : List Tm) (pre post : List Nat) (h : In64 L) (hl : L.length < 18446744073709551616) : drdL up (pre ++ (enc 7 L.length ++ (wrM up true 0 L ++ post))) pre.length = some (L, pre.length + ((enc 7 L.length).length + (wrM up true 0 L).length)) := by
  unfold drdL
  rw [dnum_enc 7 L.length (.inl rfl) hl pre _ _ rfl]
  simp only
  have e1 : pre ++ (enc 7 L.length ++ (wrM up true 0 L ++ post)) = (pre ++ enc 7 L.length) ++ (wrM up true 0 L ++ post) := by simp [List.append_assoc]
  have l1 : pre.length + (enc 7 L.length).length = (pre ++ enc 7 L.length).length := by rw [List.length_append]
  rw [e1, l1, drdM_back up L true 0 _ post [] _ h rfl]
  simp [Nat.add_assoc]
theorem fit_in {lo hi : Int} (h1 : -9223372036854775808 ≤ lo) (h2 : hi ≤ 9223372036854775807) {l : List Tm} (h : ∀ t ∈ l, Fit lo hi t) (ht : wts l ≤ 281474976710656) : In64 l := fun x hx => by
  have h3 := h x hx
  have h4 := wts_mem hx
  obtain ⟨h5, h6, -⟩ := h3
  exact ⟨⟨by omega, by omega⟩, by omega⟩
structure May64 (d : Nat) (lo hi : Int) (L W : List Tm) : Prop where
  d2 : d ≤ 1000
  l1 : -9223372036854775808 ≤ lo
  l2 : lo ≤ 9223372036854775807
  h1 : -9223372036854775808 ≤ hi
  h2 : hi ≤ 9223372036854775807
  iL : In64 L
  iW : In64 W
  nL : L.length < 18446744073709551616
  nW : W.length < 18446744073709551616
theorem drdT_back {d : Nat} {lo hi : Int} {L W : List Tm} (h : May64 d lo hi L W) (post : List Nat) : drdT (tdB d lo hi L W ++ post) = some (⟨d, lo, hi, L, W⟩, (tdB d lo hi L W).length) := by
  obtain ⟨a, ea⟩ : ∃ a, enc 7 d = a := ⟨_, rfl⟩
  obtain ⟨b, eb⟩ : ∃ a, enc 8 (numb lo) = a := ⟨_, rfl⟩
  obtain ⟨c, ec⟩ : ∃ a, enc 8 (numb hi) = a := ⟨_, rfl⟩
  obtain ⟨x, ex⟩ : ∃ a, enc 7 L.length = a := ⟨_, rfl⟩
  obtain ⟨y, ey⟩ : ∃ a, wrM true true 0 L = a := ⟨_, rfl⟩
  obtain ⟨z, ez⟩ : ∃ a, enc 7 W.length = a := ⟨_, rfl⟩
  obtain ⟨u, eu⟩ : ∃ a, wrM false true 0 W = a := ⟨_, rfl⟩
  have s1 := fun post => dfin_enc d h.d2 [] post _ rfl
  have s2 := fun pre post => dsgn_enc lo h.l1 h.l2 pre post _ rfl
  have s3 := fun pre post => dsgn_enc hi h.h1 h.h2 pre post _ rfl
  have s4 := fun pre post => drdL_back true L pre post h.iL h.nL
  have s5 := fun pre post => drdL_back false W pre post h.iW h.nW
  rw [ea] at s1
  rw [eb] at s2
  rw [ec] at s3
  rw [ex, ey] at s4
  rw [ez, eu] at s5
  unfold tdB
  rw [ea, eb, ec, ex, ey, ez, eu]
  clear ea eb ec ex ey ez eu
  have r1 := s1 (b ++ (c ++ (x ++ (y ++ (z ++ (u ++ post))))))
  have r2 := s2 a (c ++ (x ++ (y ++ (z ++ (u ++ post)))))
  have r3 := s3 (a ++ b) (x ++ (y ++ (z ++ (u ++ post))))
  have r4 := s4 (a ++ b ++ c) (z ++ (u ++ post))
  have r5 := s5 (a ++ b ++ c ++ x ++ y) post
  simp only [List.append_assoc, List.nil_append, List.length_append, List.length_nil, Nat.zero_add, Nat.add_assoc] at r1 r2 r3 r4 r5 ⊢
  unfold drdT
  rw [r1]
  simp only
  rw [r2]
  simp only
  rw [r3]
  simp only
  rw [r4]
  simp only
  rw [r5]
theorem drdT_sound {l : List Nat} (hb : ∀ x ∈ l, x < 256) (hl : l.length < 18446744073709551616) {N : Nums} {e : Nat} (h : drdT l = some (N, e)) : l = tdB N.d N.lo N.hi N.L N.W ++ l.drop e ∧ e ≤ l.length ∧ May64 N.d N.lo N.hi N.L N.W ∧ 2 * (N.L.length + N.W.length) ≤ l.length := by
  unfold drdT at h
  split at h
  · cases h
  · rename_i d e1 r1
    split at h
    · cases h
    · rename_i lo e2 r2
      split at h
      · cases h
      · rename_i hi e3 r3
        split at h
        · cases h
        · rename_i L e4 r4
          split at h
          · cases h
          · rename_i W e5 r5
            simp only [Option.some.injEq, Prod.mk.injEq] at h
            obtain ⟨rfl, rfl⟩ := h
            obtain ⟨d2, s1, t1, -⟩ := dfin_sound hb r1 (Nat.zero_le _)
            obtain ⟨b2, s2, t2, -⟩ := dsgn_sound hb r2 s1
            obtain ⟨b3, s3, t3, -⟩ := dsgn_sound hb r3 s2
            obtain ⟨s4, t4, i4, n4⟩ := drdL_sound hb s3 r4
            obtain ⟨s5, t5, i5, n5⟩ := drdL_sound hb s4 r5
            refine ⟨?_, s5, ⟨d2, b2.1, b2.2, b3.1, b3.2, i4, i5, (by show L.length < _; omega), (by show W.length < _; omega)⟩, by simp only; omega⟩
            rw [List.drop_zero] at t1
            simp only [tdB, List.append_assoc]
            rw [← t5, ← t4, ← t3, ← t2, ← t1]
theorem Dg.Good.may {x : Dg} (h : x.Good) : May64 x.d x.lo x.hi x.L x.W := by
  have hin := fit_in h.l1 h.h2 h.fit h.tot
  have hge := wts_ge (l := x.all) fun t ht => (h.fit t ht).n
  have htot := h.tot
  unfold Dg.tot at htot
  unfold Dg.all at hin hge
  rw [List.length_append] at hge
  have h2 : wts (x.L ++ x.W) = wts x.all := rfl
  exact ⟨h.d2, h.l1, h.l2, h.h1, h.h2, fun t ht => hin t (List.mem_append_left _ ht), fun t ht => hin t (List.mem_append_right _ ht), by omega, by omega⟩
theorem Dg.Good.load {x : Dg} (h : x.Good) (hf : x.W.length < x.d) : LoadOk x.d x.lo x.hi x.L x.W := ⟨hf, h.ris, h.fit, h.tot, h.emp⟩
theorem good_of {d : Nat} {lo hi : Int} {L W : List Tm} (h : May64 d lo hi L W) (h1 : 10 ≤ d) (k : LoadOk d lo hi L W) : ({ d := d, L := L, W := W, lo := lo, hi := hi } : Dg).Good :=
  ⟨h1, h.d2, k.ris, k.fit, h.l1, h.l2, h.h1, h.h2, k.tot, k.emp⟩
theorem rdOk_of {l : List Nat} (hb : ∀ x ∈ l, x < 256) (hl : l.length < 18446744073709551616) {N : Nums} (h : drdT l = some (N, l.length)) (h1 : 10 ≤ N.d) (k : LoadOk N.d N.lo N.hi N.L N.W) : RdOk l N.dg := by
  obtain ⟨e1, -, m, -⟩ := drdT_sound hb hl h
  rw [List.drop_length, List.append_nil] at e1
  exact ⟨e1, good_of m h1 k, k.len⟩
theorem rdOk_nums {l : List Nat} {x : Dg} (h : RdOk l x) : drdT l = some (x.nums, l.length) := by
  have h1 := drdT_back h.good.may []
  rw [List.append_nil] at h1
  rw [h.eq]
  exact h1
theorem rdOk_one {l : List Nat} {x y : Dg} (h : RdOk l x) (k : RdOk l y) : x = y := by
  have h1 := rdOk_nums h
  rw [rdOk_nums k] at h1
  simp only [Option.some.injEq, Prod.mk.injEq, and_true] at h1
  cases x
  cases y
  simp only [Dg.nums, Nums.mk.injEq] at h1
  obtain ⟨rfl, rfl, rfl, rfl, rfl⟩ := h1
  rfl
theorem wrM_lt (up : Bool) : ∀ (L : List Tm) (first : Bool) (a : Int), ∀ x ∈ wrM up first a L, x < 256
  | [], _, _, x, hx => by simp [wrM] at hx
  | y :: r, first, a, x, hx => by
    rw [wrM] at hx
    simp only [List.mem_append] at hx
    rcases hx with hx | hx | hx
    · exact enc_lt _ _ (by unfold letr; split <;> decide) x hx
    · exact enc_lt 7 _ (by decide) x hx
    · exact wrM_lt up r _ _ x hx
theorem tdB_lt (d : Nat) (lo hi : Int) (L W : List Tm) : ∀ x ∈ tdB d lo hi L W, x < 256 := by
  intro x hx
  rw [tdB] at hx
  simp only [List.mem_append] at hx
  rcases hx with hx | hx | hx | hx | hx | hx | hx
  · exact enc_lt 7 _ (by decide) x hx
  · exact enc_lt 8 _ (by decide) x hx
  · exact enc_lt 8 _ (by decide) x hx
  · exact enc_lt 7 _ (by decide) x hx
  · exact wrM_lt _ _ _ _ x hx
  · exact enc_lt 7 _ (by decide) x hx
  · exact wrM_lt _ _ _ _ x hx
theorem wrM_len (up : Bool) : ∀ (L : List Tm) (first : Bool) (a : Int), (wrM up first a L).length ≤ 20 * L.length
  | [], _, _ => by simp [wrM]
  | y :: r, first, a => by
    have h1 := enc_length (letr (alone up first)) (mnum up first a y.1) (by unfold letr; split <;> decide)
    have h2 := enc_length 7 y.2 (by decide)
    have h3 := wrM_len up r false y.1
    rw [wrM, List.length_append, List.length_append, List.length_cons]
    omega
theorem bytes_len (x : Dg) : x.bytes.length ≤ 50 + 20 * x.all.length := by
  have h1 := enc_length 7 x.d (by decide)
  have h2 := enc_length 8 (numb x.lo) (by decide)
  have h3 := enc_length 8 (numb x.hi) (by decide)
  have h4 := enc_length 7 x.L.length (by decide)
  have h5 := wrM_len true x.L true 0
  have h6 := enc_length 7 x.W.length (by decide)
  have h7 := wrM_len false x.W true 0
  have h8 : x.all.length = x.L.length + x.W.length := by unfold Dg.all; rw [List.length_append]
  simp only [Dg.bytes, tdB, List.length_append]
  omega
end Go.Proofs.Ytmieeoceckcnkaa

namespace Go.Proofs.Ytmieeoceckcnkaa
open Go.RowKit
structure RowNew (w w' : World) (v : Value) (l : List Nat) : Prop where
  own : w'.ownsRow 0 5 1 v l.length (u8s l)
  fresh : Fresh w v
theorem bclone_any (q : Option Addr) (d : Nat) (l : List Nat) (w : World) (hl : SlI w .u8 q l) (hq : q = none → d = 0) (hL : l.length ≤ 140737488355328) :
    Calls Try.prog 33 #[.slice q l.length d] w fun e w' => ∃ v, e = .returned v ∧ Fr S0 w w' ∧ RowNew w w' v l := by
  have hnil : ∀ (w : World) (a : Option Addr) (n c n' c' : Nat), (binOp .eql 22 (.slice a n c) (.slice none n' c')).run Try.prog w = .ok (.bool a.isNone) w := fun w a n c n' c' => Lib.run_eql_slice_nil w _ _ a n c n' c' Try.underlying22
  cases q with
  | none =>
    obtain rfl : l = [] := by
      by_cases h : l = []
      · exact h
      · obtain ⟨b, o, hp, -⟩ := hl.2 h
        cases hp
    obtain rfl := hq rfl
    go_enter Try.func33, Try.ntmps33
    go_wp2
    go_ret
    exact ⟨_, rfl, Fr.refl _ _, World.ownsRow_nil _ _ _ _, fresh_nil _ _⟩
  | some a =>
    have HR : Hid (l.length * 1 ≤ 140737488355328 ∧ l.length ≤ maxLen) := Lib.hid ⟨by omega, by unfold maxLen; omega⟩
    have hs := SrcIs.ofSl (hl.fr0 (Fr.alloc S0 w (.cells #[] 5))) hq
    clear hl hL hq
    go_enter Try.func33, Try.ntmps33
    go_wp2_with (first
      | ((with_reducible show wpList _ _ _ (Oper.mk (some 7) _ _ _ _ _ :: _) _ _); refine app_many_big el8 (.tmp 5) (.tmp 6) (own_none w _) hs (Nat.zero_add _) rfl rfl rfl rfl (ones _) HR.out.1 HR.out.2 ?_; intro p1 c1 w1 own1 g1 at1; have f1 := fr_made (Fr.refl S0 w) g1; have v1 := fresh_many (fresh_made (n := 0) (c := 0) (Fr.refl S0 w)) (size_le (Fr.refl S0 w)) at1; clear g1 at1)
      | fail)
    go_ret
    exact ⟨_, rfl, f1, by rw [List.nil_append] at own1; exact own1, v1⟩
theorem rnew_any (q : Option Addr) (d n : Nat) (l : List Nat) (w : World) (hn : l.length = n) (hl : SlI w .u8 q l) (h8 : ∀ x ∈ l, x < 256) (hq : q = none → d = 0) (hL : n ≤ 1000000000) :
    Calls Try.prog 20 #[.slice q n d] w fun e w' => ∃ g p c, e = .returned (.pointer (some ⟨g, 0, none⟩)) ∧ wRdIs w' g p c l 0 ∧ w.heap.size ≤ g ∧ Fr S0 w w' := by
  subst hn
  have HC := Lib.hid (bclone_any q d l w hl hq (by omega))
  have H8 := Lib.hid h8
  clear hl h8 hq
  go_enter Try.func20, Try.ntmps20
  go_wp2_with fail
  refine HC.out.mono ?_
  rintro e w1 ⟨v, rfl, f1, r1⟩
  obtain ⟨p, c, rfl, -⟩ := slForm r1.own
  have HR := Lib.hid r1
  have F1 := Lib.hid f1
  clear f1 r1 HC
  go_wp2_with fail
  go_ret
  have hs : SlI w1 .u8 p l := SlI.ofOwns HR.out.own
  have hg : ∀ a, p = some a → a.block < w1.heap.size := fun a ha => by
    by_cases h0 : l = []
    · rcases HR.out.own.2 with ⟨h1, -⟩ | ⟨g', cap, cur, h1, h2⟩
      · subst ha
        simp at h1
      · have h3 := (HR.out.own.lt g' (by rw [h1]; rfl)).2
        subst ha
        simp only [Value.slice.injEq, Option.some.injEq] at h1
        rw [h1.1]
        exact h3
    · exact hs.lt h0 a ha
  exact ⟨w1.heap.size, p, c, rfl, ⟨heap_alloc_new w1 _, hs.fr0 (Fr.alloc _ _ _), fun _ a ha e => Nat.ne_of_lt (hg a ha) e, Nat.zero_le _, H8.out⟩, F1.out.size, F1.out.trans0 (Fr.alloc _ _ _)⟩
def dgup : List PanicEntry := [{ v := .iface 51 (.agg #[]), recovered := false }]
theorem ddemand_yes (w : World) :
    Calls Try.prog 39 #[.bool true] w fun e w' => e = .returned (.tuple #[]) ∧ w = w' := by
  go_enter Try.func39, Try.ntmps39
  go_wp2
  go_end0
  exact ⟨rfl, rfl⟩
theorem ddemand_no (w : World) :
    Calls Try.prog 39 #[.bool false] w fun e w' => e = Ending.panicked dgup ∧ w = w' := by
  go_enter Try.func39, Try.ntmps39
  go_wp2
  exact ⟨rfl, rfl, rfl⟩
def NextEnds (w w' : World) (g : Nat) (p : Option Addr) (c : Nat) (l : List Nat) (at_ : Nat) (e : Ending) : Except Nat (Nat × Nat) → Prop
  | .ok (n, k) => e = .returned (.tuple #[.int .u64 n, .int .i64 0]) ∧ n < 18446744073709551616 ∧ wRdTo w w' g p c l (at_ + k)
  | .error x => e = .returned (.tuple #[.int .u64 0, .int .i64 x]) ∧ (x = 20 ∨ x = 21) ∧ Fr (· = g) w w'
theorem wnext_any (k g at_ c : Nat) (p : Option Addr) (l : List Nat) (w : World) (hk : k < 10) (h : wRdIs w g p c l at_) :
    Calls Try.prog 56 #[.pointer (some ⟨g, 0, none⟩), .int .u8 ((fRow k).1 : Nat)] w fun e w' => NextEnds w w' g p c l at_ e (dec k (l.drop at_)) := by
  have HF := Lib.hid (formOf_yes' k _ hk rfl w)
  have HG : Hid (∀ W, Fr S0 w W → Calls Try.prog (fRow k).2.2.2 #[.pointer (some ⟨g, 0, none⟩), .int .i64 ((fRow k).2.1 : Nat)] W fun e w' => RdPost W w' g p c l at_ e (dec k (l.drop at_))) := Lib.hid (fun W f => get_row g at_ c p l W (h.fr f (fun h => h) (fun _ => Off.s0 p)) k hk)
  have HI := Lib.hid h
  have hen := fun args w => enter_get k hk args w
  obtain ⟨C, eC⟩ : ∃ C, (fRow k).1 = C := ⟨_, rfl⟩
  obtain ⟨M, eM⟩ : ∃ C, (fRow k).2.1 = C := ⟨_, rfl⟩
  obtain ⟨FW, eW⟩ : ∃ C, (fRow k).2.2.1 = C := ⟨_, rfl⟩
  obtain ⟨FR, eR⟩ : ∃ C, (fRow k).2.2.2 = C := ⟨_, rfl⟩
  rw [eC, eM, eW, eR] at HF
  rw [eM, eR] at HG
  rw [eR] at hen
  rw [eC]
  generalize dec k (l.drop at_) = R at HG ⊢
  clear h eC eM eW eR hk
  go_enter Try.func56, Try.ntmps56
  go_wp2_with fail
  refine HF.out.mono ?_
  rintro e w1 ⟨rfl, f1⟩
  have F1 := Lib.hid f1
  clear f1 HF
  have FA := Lib.hid (F1.out.trans0 (Fr.alloc S0 w1 (.cells #[.int .u8 (C : Nat), .int .i64 (M : Nat), .func (.func FW) #[] #[], .func (.func FR) #[] #[]] 99)))
  have hbx := heap_alloc_new w1 (.cells #[.int .u8 (C : Nat), .int .i64 (M : Nat), .func (.func FW) #[] #[], .func (.func FR) #[] #[]] 99)
  have c0 := (HI.out.fr FA.out (fun h => h) (fun _ => Off.s0 p)).c1
  rw [Nat.zero_add] at c0
  go_wp2_with fail
  refine (HG.out _ FA.out).mono ?_
  rintro e w3 hR
  cases R with
  | ok a =>
    obtain ⟨n, k⟩ := a
    obtain ⟨rfl, hn, ht⟩ := hR
    have HT := Lib.hid (And.intro hn ht)
    clear ht hn c0 hbx HG hen
    go_wp2_with fail
    go_ret2
    exact ⟨rfl, HT.out.1, HT.out.2.is, (FA.out.mono fun _ _ e => e.elim).trans HT.out.2.fr fun _ _ e => e⟩
  | error x =>
    obtain ⟨rfl, hx, a, ht⟩ := hR
    have HT := Lib.hid ht
    have c1 := ht.is.c1
    have z1 := ht.is.f1
    rw [Nat.zero_add] at c1
    have e1 : ((x : Int) != 0) = true := by rw [bne_iff_ne]; omega
    have HX := Lib.hid hx
    clear ht c0 hbx HG hen hx
    go_wp2_with fail
    go_ret2
    exact ⟨rfl, HX.out, ((FA.out.mono fun _ _ e => e.elim).trans HT.out.fr fun _ _ e => e).trans (Fr.setCell (· = g) _ ⟨g, 1, none⟩ _ rfl) fun _ _ e => e⟩
def OptE (w w' : World) (g : Nat) (p : Option Addr) (c : Nat) (l : List Nat) (e : Ending) : Option (Value × Nat) → Prop
  | some (v, at_) => e = .returned v ∧ wRdTo w w' g p c l at_
  | none => e = .panicked dgup ∧ Fr (· = g) w w'
def srcV (g : Nat) : Value := .agg #[.pointer (some ⟨g, 0, none⟩)]
theorem wRdTo.from0 {w w1 w2 : World} {g : Nat} {p : Option Addr} {c : Nat} {l : List Nat} {a : Nat} (f : Fr S0 w w1) (t : wRdTo w1 w2 g p c l a) : wRdTo w w2 g p c l a := ⟨t.is, (f.mono fun _ _ e => e.elim).trans t.fr fun _ _ e => e⟩
theorem wRdTo.on {w w1 w2 : World} {g : Nat} {p : Option Addr} {c : Nat} {l : List Nat} {a : Nat} (t : wRdTo w w1 g p c l a) (f : Fr S0 w1 w2) : wRdTo w w2 g p c l a := ⟨t.is.fr f (fun h => h) (fun _ => Off.s0 p), t.fr.trans0 f⟩
theorem boxed1 {w : World} {v : Value} {t : TypeId} {W : World} (f : Fr S0 (w.alloc (.cells #[v] t)) W) : W.cell? ⟨w.heap.size, 0, none⟩ = some v := by
  have h := f.row (heap_alloc_new w (.cells #[v] t)) (fun h => h)
  simp [World.cell?, h]
def numR (k : Nat) (l : List Nat) (at_ : Nat) : Option (Value × Nat) := (dnum k l at_).map fun x => (.int .u64 (x.1 : Nat), x.2)
theorem number7_any (g at_ c : Nat) (p : Option Addr) (l : List Nat) (w : World) (h : wRdIs w g p c l at_) :
    Calls Try.prog 47 #[srcV g, .string ⟨#[118]⟩] w fun e w' => OptE w w' g p c l e (numR 7 l at_) := by
  have FA := Lib.hid (Fr.alloc S0 w (.cells #[.pointer (some ⟨g, 0, none⟩)] 55))
  have HN : Hid (∀ W, Fr S0 w W → Calls Try.prog 56 #[.pointer (some ⟨g, 0, none⟩), .int .u8 118] W fun e w' => NextEnds W w' g p c l at_ e (dec 7 (l.drop at_))) := Lib.hid (fun W f => wnext_any 7 g at_ c p l W (by decide) (h.fr f (fun h => h) (fun _ => Off.s0 p)))
  have hix : ∀ W, (Instr.index 9 (.string ⟨#[118]⟩) (.int .i64 0)).run Try.prog W = .ok (.int .u8 118) W := fun W => by kernel_rfl
  have cb : (w.alloc (.cells #[.pointer (some ⟨g, 0, none⟩)] 55)).cell? ⟨w.heap.size, 0, none⟩ = some (.pointer (some ⟨g, 0, none⟩)) := boxed1 (Fr.refl S0 _)
  clear h
  unfold numR dnum srcV
  generalize dec 7 (l.drop at_) = R at HN ⊢
  cases R with
  | ok a =>
    obtain ⟨n, k⟩ := a
    have HN2 : Hid (∀ W, Fr S0 w W → Calls Try.prog 56 #[.pointer (some ⟨g, 0, none⟩), .int .u8 118] W fun e w' => e = .returned (.tuple #[.int .u64 n, .int .i64 0]) ∧ wRdTo w w' g p c l (at_ + k)) := Lib.hid fun W f => (HN.out W f).mono fun _ _ h => ⟨h.1, h.2.2.from0 f⟩
    clear HN
    go_enter Try.func47, Try.ntmps47
    go_wp2_with fail
    go_region_law (first
      | (go_simp; go_at_call 56; (with_reducible refine (HN2.out _ (FA.out.trans0 (Fr.drew S0 _))).mono ?_); rintro _ w2 ⟨rfl, t2⟩; have T2 := Lib.hid t2; clear t2; dsimp only))
    all_goals
      go_wp2_with fail
      refine (ddemand_yes _).mono ?_
      rintro e w3 ⟨rfl, rfl⟩
      go_wp2_with fail
      go_ret
      exact ⟨rfl, T2.out⟩
  | error x =>
    have HN2 : Hid (∀ W, Fr S0 w W → Calls Try.prog 56 #[.pointer (some ⟨g, 0, none⟩), .int .u8 118] W fun e w' => e = .returned (.tuple #[.int .u64 0, .int .i64 x]) ∧ (x = 20 ∨ x = 21) ∧ Fr (· = g) w w') := Lib.hid fun W f => (HN.out W f).mono fun _ _ h => ⟨h.1, h.2.1, (f.mono fun _ _ e => e.elim).trans h.2.2 fun _ _ e => e⟩
    clear HN
    go_enter Try.func47, Try.ntmps47
    go_wp2_with fail
    go_region_law (first
      | (go_simp; go_at_call 56; (with_reducible refine (HN2.out _ (FA.out.trans0 (Fr.drew S0 _))).mono ?_); rintro _ w2 ⟨rfl, hx, t2⟩; have T2 := Lib.hid t2; have HX := Lib.hid hx; clear t2 hx; dsimp only))
    all_goals
      have e1 : ((x : Int) == 0) = false := by rw [beq_eq_false_iff_ne]; have := HX.out; omega
      go_wp2_with fail
      refine (ddemand_no _).mono ?_
      rintro e w3 ⟨rfl, rfl⟩
      exact ⟨rfl, rfl, T2.out⟩
theorem number8_any (g at_ c : Nat) (p : Option Addr) (l : List Nat) (w : World) (h : wRdIs w g p c l at_) :
    Calls Try.prog 47 #[srcV g, .string ⟨#[122]⟩] w fun e w' => OptE w w' g p c l e (numR 8 l at_) := by
  have FA := Lib.hid (Fr.alloc S0 w (.cells #[.pointer (some ⟨g, 0, none⟩)] 55))
  have HN : Hid (∀ W, Fr S0 w W → Calls Try.prog 56 #[.pointer (some ⟨g, 0, none⟩), .int .u8 122] W fun e w' => NextEnds W w' g p c l at_ e (dec 8 (l.drop at_))) := Lib.hid (fun W f => wnext_any 8 g at_ c p l W (by decide) (h.fr f (fun h => h) (fun _ => Off.s0 p)))
  have hix : ∀ W, (Instr.index 9 (.string ⟨#[122]⟩) (.int .i64 0)).run Try.prog W = .ok (.int .u8 122) W := fun W => by kernel_rfl
  have cb : (w.alloc (.cells #[.pointer (some ⟨g, 0, none⟩)] 55)).cell? ⟨w.heap.size, 0, none⟩ = some (.pointer (some ⟨g, 0, none⟩)) := boxed1 (Fr.refl S0 _)
  clear h
  unfold numR dnum srcV
  generalize dec 8 (l.drop at_) = R at HN ⊢
  cases R with
  | ok a =>
    obtain ⟨n, k⟩ := a
    have HN2 : Hid (∀ W, Fr S0 w W → Calls Try.prog 56 #[.pointer (some ⟨g, 0, none⟩), .int .u8 122] W fun e w' => e = .returned (.tuple #[.int .u64 n, .int .i64 0]) ∧ wRdTo w w' g p c l (at_ + k)) := Lib.hid fun W f => (HN.out W f).mono fun _ _ h => ⟨h.1, h.2.2.from0 f⟩
    clear HN
    go_enter Try.func47, Try.ntmps47
    go_wp2_with fail
    go_region_law (first
      | (go_simp; go_at_call 56; (with_reducible refine (HN2.out _ (FA.out.trans0 (Fr.drew S0 _))).mono ?_); rintro _ w2 ⟨rfl, t2⟩; have T2 := Lib.hid t2; clear t2; dsimp only))
    all_goals
      go_wp2_with fail
      refine (ddemand_yes _).mono ?_
      rintro e w3 ⟨rfl, rfl⟩
      go_wp2_with fail
      go_ret
      exact ⟨rfl, T2.out⟩
  | error x =>
    have HN2 : Hid (∀ W, Fr S0 w W → Calls Try.prog 56 #[.pointer (some ⟨g, 0, none⟩), .int .u8 122] W fun e w' => e = .returned (.tuple #[.int .u64 0, .int .i64 x]) ∧ (x = 20 ∨ x = 21) ∧ Fr (· = g) w w') := Lib.hid fun W f => (HN.out W f).mono fun _ _ h => ⟨h.1, h.2.1, (f.mono fun _ _ e => e.elim).trans h.2.2 fun _ _ e => e⟩
    clear HN
    go_enter Try.func47, Try.ntmps47
    go_wp2_with fail
    go_region_law (first
      | (go_simp; go_at_call 56; (with_reducible refine (HN2.out _ (FA.out.trans0 (Fr.drew S0 _))).mono ?_); rintro _ w2 ⟨rfl, hx, t2⟩; have T2 := Lib.hid t2; have HX := Lib.hid hx; clear t2 hx; dsimp only))
    all_goals
      have e1 : ((x : Int) == 0) = false := by rw [beq_eq_false_iff_ne]; have := HX.out; omega
      go_wp2_with fail
      refine (ddemand_no _).mono ?_
      rintro e w3 ⟨rfl, rfl⟩
      exact ⟨rfl, rfl, T2.out⟩
theorem plain_any (g at_ c : Nat) (p : Option Addr) (l : List Nat) (w : World) (h : wRdIs w g p c l at_) :
    Calls Try.prog 46 #[srcV g] w fun e w' => OptE w w' g p c l e (numR 7 l at_) := by
  have FA := Lib.hid (Fr.alloc S0 w (.cells #[.pointer (some ⟨g, 0, none⟩)] 55))
  have HN := Lib.hid (fun W (f : Fr S0 w W) => number7_any g at_ c p l W (h.fr f (fun h => h) (fun _ => Off.s0 p)))
  have cb : (w.alloc (.cells #[.pointer (some ⟨g, 0, none⟩)] 55)).cell? ⟨w.heap.size, 0, none⟩ = some (.pointer (some ⟨g, 0, none⟩)) := boxed1 (Fr.refl S0 _)
  clear h
  unfold srcV at *
  generalize numR 7 l at_ = R at HN ⊢
  go_enter Try.func46, Try.ntmps46
  go_wp2_with fail
  refine (HN.out _ FA.out).mono ?_
  rintro e w1 hR
  cases R with
  | some a =>
    obtain ⟨v, k⟩ := a
    obtain ⟨rfl, ht⟩ := hR
    have HT := Lib.hid (ht.from0 FA.out)
    clear ht HN
    go_wp2_with fail
    go_ret
    exact ⟨rfl, HT.out⟩
  | none =>
    obtain ⟨rfl, ht⟩ := hR
    exact ⟨rfl, rfl, (FA.out.mono fun _ _ e => e.elim).trans ht fun _ _ e => e⟩
def finR (l : List Nat) (at_ : Nat) : Option (Value × Nat) := (dfin l at_).map fun x => (.int .i64 (x.1 : Nat), x.2)
def sgnR (l : List Nat) (at_ : Nat) : Option (Value × Nat) := (dsgn l at_).map fun x => (.int .i64 x.1, x.2)
def mvlR (up first : Bool) (a : Int) (l : List Nat) (at_ : Nat) : Option (Value × Nat) := (dmval up first a l at_).map fun x => (.int .i64 x.1, x.2)
theorem fineness_rd (g at_ c : Nat) (p : Option Addr) (l : List Nat) (w : World) (h : wRdIs w g p c l at_) :
    Calls Try.prog 34 #[srcV g] w fun e w' => OptE w w' g p c l e (finR l at_) := by
  have FA := Lib.hid (Fr.alloc S0 w (.cells #[.pointer (some ⟨g, 0, none⟩)] 55))
  have HN := Lib.hid (fun W (f : Fr S0 w W) => plain_any g at_ c p l W (h.fr f (fun h => h) (fun _ => Off.s0 p)))
  have cb : (w.alloc (.cells #[.pointer (some ⟨g, 0, none⟩)] 55)).cell? ⟨w.heap.size, 0, none⟩ = some (.pointer (some ⟨g, 0, none⟩)) := boxed1 (Fr.refl S0 _)
  have HB : Hid (∀ n e, dnum 7 l at_ = some (n, e) → n < 18446744073709551616) := Lib.hid fun n e hh => (dnum_sound (.inl rfl) h.bd hh h.le).1
  clear h
  unfold finR dfin
  unfold numR at HN
  unfold srcV at *
  generalize dnum 7 l at_ = R at HN HB ⊢
  cases R with
  | none =>
    go_enter Try.func34, Try.ntmps34
    go_wp2_with fail
    refine (HN.out _ FA.out).mono ?_
    rintro e w1 ⟨rfl, ht⟩
    exact ⟨rfl, rfl, (FA.out.mono fun _ _ e => e.elim).trans ht fun _ _ e => e⟩
  | some a =>
    obtain ⟨n, k⟩ := a
    have hn := HB.out n k rfl
    simp only
    by_cases h2 : n ≤ 1000
    · rw [if_pos h2]
      have d2 : decide ((n : Int) ≤ 1000) = true := decide_eq_true (by omega)
      have hnb : (n : Int) ≤ 1000 := by omega
      clear hn HB h2
      go_enter Try.func34, Try.ntmps34
      go_wp2_with fail
      refine (HN.out _ FA.out).mono ?_
      rintro e w1 ⟨rfl, ht⟩
      have HT := Lib.hid (ht.from0 FA.out)
      clear ht HN
      go_wp2_with fail
      refine (ddemand_yes _).mono ?_
      rintro e w2 ⟨rfl, rfl⟩
      go_wp2_with fail
      go_ret
      exact ⟨rfl, HT.out⟩
    · rw [if_neg h2]
      have d2 : decide ((n : Int) ≤ 1000) = false := decide_eq_false (by omega)
      clear HB h2
      go_enter Try.func34, Try.ntmps34
      go_wp2_with fail
      refine (HN.out _ FA.out).mono ?_
      rintro e w1 ⟨rfl, ht⟩
      have HT := Lib.hid (ht.from0 FA.out)
      clear ht HN
      go_wp2_with fail
      refine (ddemand_no _).mono ?_
      rintro e w2 ⟨rfl, rfl⟩
      exact ⟨rfl, rfl, HT.out.fr⟩
theorem signed_rd (g at_ c : Nat) (p : Option Addr) (l : List Nat) (w : World) (h : wRdIs w g p c l at_) :
    Calls Try.prog 35 #[srcV g] w fun e w' => OptE w w' g p c l e (sgnR l at_) := by
  have FA := Lib.hid (Fr.alloc S0 w (.cells #[.pointer (some ⟨g, 0, none⟩)] 55))
  have HN := Lib.hid (fun W (f : Fr S0 w W) => number8_any g at_ c p l W (h.fr f (fun h => h) (fun _ => Off.s0 p)))
  have cb : (w.alloc (.cells #[.pointer (some ⟨g, 0, none⟩)] 55)).cell? ⟨w.heap.size, 0, none⟩ = some (.pointer (some ⟨g, 0, none⟩)) := boxed1 (Fr.refl S0 _)
  have HB : Hid (∀ n e, dnum 8 l at_ = some (n, e) → n < 18446744073709551616) := Lib.hid fun n e hh => (dnum_sound (.inr rfl) h.bd hh h.le).1
  clear h
  unfold sgnR dsgn
  unfold numR at HN
  unfold srcV at *
  generalize dnum 8 l at_ = R at HN HB ⊢
  cases R with
  | none =>
    go_enter Try.func35, Try.ntmps35
    go_wp2_with fail
    refine (HN.out _ FA.out).mono ?_
    rintro e w1 ⟨rfl, ht⟩
    exact ⟨rfl, rfl, (FA.out.mono fun _ _ e => e.elim).trans ht fun _ _ e => e⟩
  | some a =>
    obtain ⟨n, k⟩ := a
    have hn := HB.out n k rfl
    simp only
    obtain ⟨I, hI⟩ : ∃ I, meant n = I := ⟨_, rfl⟩
    have e1 : IntKind.i64.wrap (n : Int) = I := by rw [← hI, meant, IntKind.wrap_i64]; split <;> omega
    have hIb : -9223372036854775808 ≤ I ∧ I < 9223372036854775808 := by rw [← hI]; exact meant_bd _ (by omega) (by omega)
    obtain ⟨hI1, hI2⟩ := hIb
    rw [hI]
    clear hn HB hI
    go_enter Try.func35, Try.ntmps35
    go_wp2_with fail
    refine (HN.out _ FA.out).mono ?_
    rintro e w1 ⟨rfl, ht⟩
    have HT := Lib.hid (ht.from0 FA.out)
    clear ht HN
    go_wp2_with fail
    go_ret
    exact ⟨rfl, HT.out⟩
theorem free_rd (g at_ c : Nat) (p : Option Addr) (l : List Nat) (a : Int) (w : World) (h : wRdIs w g p c l at_) :
    Calls Try.prog 38 #[srcV g, .int .i64 a] w fun e w' => OptE w w' g p c l e (sgnR l at_) := by
  have FA := Lib.hid (Fr.alloc S0 w (.cells #[.pointer (some ⟨g, 0, none⟩)] 55))
  have HN := Lib.hid (fun W (f : Fr S0 w W) => signed_rd g at_ c p l W (h.fr f (fun h => h) (fun _ => Off.s0 p)))
  have cb : (w.alloc (.cells #[.pointer (some ⟨g, 0, none⟩)] 55)).cell? ⟨w.heap.size, 0, none⟩ = some (.pointer (some ⟨g, 0, none⟩)) := boxed1 (Fr.refl S0 _)
  clear h
  unfold srcV at *
  generalize sgnR l at_ = R at HN ⊢
  go_enter Try.func38, Try.ntmps38
  go_wp2_with fail
  refine (HN.out _ FA.out).mono ?_
  rintro e w1 hR
  cases R with
  | some a =>
    obtain ⟨v, k⟩ := a
    obtain ⟨rfl, ht⟩ := hR
    have HT := Lib.hid (ht.from0 FA.out)
    clear ht HN
    go_wp2_with fail
    go_ret
    exact ⟨rfl, HT.out⟩
  | none =>
    obtain ⟨rfl, ht⟩ := hR
    exact ⟨rfl, rfl, (FA.out.mono fun _ _ e => e.elim).trans ht fun _ _ e => e⟩
theorem above_rd (g at_ c : Nat) (p : Option Addr) (l : List Nat) (a : Int) (w : World) (h : wRdIs w g p c l at_) :
    Calls Try.prog 37 #[srcV g, .int .i64 a] w fun e w' => OptE w w' g p c l e (mvlR true false a l at_) := by
  have FA := Lib.hid (Fr.alloc S0 w (.cells #[.pointer (some ⟨g, 0, none⟩)] 55))
  have HN := Lib.hid (fun W (f : Fr S0 w W) => plain_any g at_ c p l W (h.fr f (fun h => h) (fun _ => Off.s0 p)))
  have cb : (w.alloc (.cells #[.pointer (some ⟨g, 0, none⟩)] 55)).cell? ⟨w.heap.size, 0, none⟩ = some (.pointer (some ⟨g, 0, none⟩)) := boxed1 (Fr.refl S0 _)
  have HB : Hid (∀ n e, dnum 7 l at_ = some (n, e) → n < 18446744073709551616) := Lib.hid fun n e hh => (dnum_sound (.inl rfl) h.bd hh h.le).1
  clear h
  unfold mvlR dmval
  rw [show letr (alone true false) = 7 from rfl]
  unfold numR at HN
  unfold srcV at *
  generalize dnum 7 l at_ = R at HN HB ⊢
  cases R with
  | none =>
    go_enter Try.func37, Try.ntmps37
    go_wp2_with fail
    refine (HN.out _ FA.out).mono ?_
    rintro e w1 ⟨rfl, ht⟩
    exact ⟨rfl, rfl, (FA.out.mono fun _ _ e => e.elim).trans ht fun _ _ e => e⟩
  | some b =>
    obtain ⟨n, k⟩ := b
    have hn := HB.out n k rfl
    simp only
    obtain ⟨I, hI⟩ : ∃ I, meant n = I := ⟨_, rfl⟩
    have e1 : IntKind.i64.wrap (n : Int) = I := by rw [← hI, meant, IntKind.wrap_i64]; split <;> omega
    have hIb : -9223372036854775808 ≤ I ∧ I < 9223372036854775808 := by rw [← hI]; exact meant_bd _ (by omega) (by omega)
    obtain ⟨hI1, hI2⟩ := hIb
    obtain ⟨K, hK⟩ : ∃ K, mval true false a n = K := ⟨_, rfl⟩
    have e2 : IntKind.i64.wrap (a + I) = K := by rw [← hK, ← hI, mval, if_neg (by decide), rnd, meant, meant, numb, IntKind.wrap_i64]; split <;> split <;> omega
    have e3 : wrap64 (a + I) = K := by rw [← e2, IntKind.wrap_i64, wrap64]
    have hKb : -9223372036854775808 ≤ K ∧ K ≤ 9223372036854775807 := by rw [← hK]; exact mval_bd _ _ _ _ hn
    obtain ⟨hK1, hK2⟩ := hKb
    rw [hK]
    clear hn HB hI hK
    go_enter Try.func37, Try.ntmps37
    go_wp2_with fail
    refine (HN.out _ FA.out).mono ?_
    rintro e w1 ⟨rfl, ht⟩
    have HT := Lib.hid (ht.from0 FA.out)
    clear ht HN
    go_wp2_with fail
    go_ret
    exact ⟨rfl, HT.out⟩
end Go.Proofs.Ytmieeoceckcnkaa

namespace Go.Proofs.Ytmieeoceckcnkaa
open Go.RowKit
def Has (B : Nat) : Prop := ∀ (args : Array Value) (w : World), (callFunc B args).run Try.prog w = .ok (.enter B args) w
def StepIs (up : Bool) (B : Nat) (first : Bool) : Prop := (B = 38 ∧ alone up first = true) ∨ (B = 37 ∧ up = true ∧ first = false)
def OtherIs (up : Bool) (B : Nat) : Prop := StepIs up B false
theorem StepIs.has {up : Bool} {B : Nat} {first : Bool} (h : StepIs up B first) : Has B := by
  rcases h with ⟨rfl, -⟩ | ⟨rfl, -⟩
  · exact fun _ _ => by kernel_rfl
  · exact fun _ _ => by kernel_rfl
theorem step_two (up : Bool) (B : Nat) (first : Bool) (g at_ c : Nat) (a : Int) (p : Option Addr) (l : List Nat) (W : World) (hB : StepIs up B first) (t : wRdIs W g p c l at_) :
    Calls Try.prog B #[srcV g, .int .i64 a] W fun e w' => (∃ v e1, dmval up first a l at_ = some (v, e1) ∧ e = .returned (.int .i64 v) ∧ wRdTo W w' g p c l e1) ∨ (dmval up first a l at_ = none ∧ e = .panicked dgup ∧ Fr (· = g) W w') := by
  rcases hB with ⟨rfl, hal⟩ | ⟨rfl, rfl, rfl⟩
  · refine (free_rd g at_ c p l a W t).mono fun e w' h => ?_
    have e1 : dmval up first a l at_ = dsgn l at_ := by
      have e8 : letr (alone up first) = 8 := by rw [hal]; rfl
      have em : ∀ n, mval up first a n = meant n := fun n => by rw [mval, if_pos hal]
      unfold dmval dsgn
      simp only [e8, em]
    rw [e1]
    unfold sgnR at h
    cases hR : dsgn l at_ with
    | none => rw [hR] at h; exact .inr ⟨rfl, h⟩
    | some a => rw [hR] at h; exact .inl ⟨a.1, a.2, rfl, h⟩
  · refine (above_rd g at_ c p l a W t).mono fun e w' h => ?_
    unfold mvlR at h
    cases hR : dmval true false a l at_ with
    | none => rw [hR] at h; exact .inr ⟨rfl, h⟩
    | some a => rw [hR] at h; exact .inl ⟨a.1, a.2, rfl, h⟩
theorem plain_two (g at_ c : Nat) (p : Option Addr) (l : List Nat) (W : World) (t : wRdIs W g p c l at_) :
    Calls Try.prog 46 #[srcV g] W fun e w' => (∃ n e1, dnum 7 l at_ = some (n, e1) ∧ e = .returned (.int .u64 (n : Nat)) ∧ wRdTo W w' g p c l e1) ∨ (dnum 7 l at_ = none ∧ e = .panicked dgup ∧ Fr (· = g) W w') := by
  refine (plain_any g at_ c p l W t).mono fun e w' h => ?_
  unfold numR at h
  cases hR : dnum 7 l at_ with
  | none => rw [hR] at h; exact .inr ⟨rfl, h⟩
  | some a => rw [hR] at h; exact .inl ⟨a.1, a.2, rfl, h⟩
structure AccG (g : Nat) (w wr : World) (v : Value) (N : Nat) (L : List Tm) : Prop where
  own : wr.ownsRow 0 44 2 v N (prs L)
  fresh : Fresh w v
  fr : Fr (· = g) w wr
theorem AccG.on {g : Nat} {w wr w2 : World} {v : Value} {N : Nat} {L : List Tm} (h : AccG g w wr v N L) (f : Fr (· = g) wr w2) (hg : g < w.heap.size) : AccG g w w2 v N L :=
  ⟨f.owns h.own fun k hk e => by have h1 := h.fresh k hk; have h2 : k = g := e; omega, h.fresh, h.fr.trans f fun _ _ e => e⟩
theorem AccG.app {g : Nat} {w wr w3 : World} {v : Value} {N : Nat} {L : List Tm} {o : Obj} {h1 cap n : Nat} {k : Int} (h : AccG g w wr v N L) (own : w3.ownsRow 0 44 2 (.slice (some ⟨h1, 0, none⟩) (N + 1) cap) (N + 1) (prs L ++ #[Value.int .i64 k, Value.int .u64 (n : Int)].toList))
    (hg : (wr.alloc o).grownBy w3 v.ownBlock) (hat : v.ownBlock = some h1 ∨ h1 = wr.heap.size + 1) : AccG g w w3 (.slice (some ⟨h1, 0, none⟩) (N + 1) cap) (N + 1) (L ++ [(k, n)]) ∧ Fr (fun x => v.ownBlock = some x) wr w3 := by
  have ff : Fr (fun x => v.ownBlock = some x) wr w3 := ((Fr.alloc S0 wr o).mono fun _ _ e => e.elim).trans (Fr.grown hg) fun _ _ e => e
  refine ⟨⟨by rw [prs_snoc]; exact own, fun k hk => ?_, (h.fr.trans0 (Fr.alloc S0 wr _)).append hg h.fresh⟩, ff⟩
  obtain rfl : h1 = k := Option.some.inj hk
  rcases hat with e | e
  · exact h.fresh _ e
  · have := h.fr.size
    omega
theorem AccG.len {g : Nat} {w wr : World} {v : Value} {N : Nat} {L : List Tm} (h : AccG g w wr v N L) : L.length = N := by
  have := h.own.1
  rw [prs_len] at this
  omega
theorem rmeans_any (up : Bool) (O g at0 c : Nat) (p : Option Addr) (l : List Nat) (w : World) (h : wRdIs w g p c l at0) (hO : OtherIs up O) (hl : l.length ≤ 1000000000) :
    Calls Try.prog 36 #[srcV g, .func (.func O) #[srcV g] #[]] w fun e w' =>
      (∃ L e5 q d, drdL up l at0 = some (L, e5) ∧ e = .returned (.slice q L.length d) ∧ AccG g w w' (.slice q L.length d) L.length L ∧ wRdTo w w' g p c l e5) ∨ (drdL up l at0 = none ∧ e = .panicked dgup ∧ Fr (· = g) w w') := by
  have hgl : g < w.heap.size := (Array.getElem?_eq_some_iff.1 h.blk).1
  have HGL := Lib.hid hgl
  have hmf : ∀ (fn : Fn) (first cap : Array Value) (w : World), (Instr.makeFunc fn first cap).run Try.prog w = .ok (.func fn first cap) w := fun _ _ _ _ => rfl
  have FA := Fr.alloc S0 w (.cells #[.pointer (some ⟨g, 0, none⟩)] 55)
  have T0 := Lib.hid ((h.self).on FA)
  have HB0 : Hid (∀ W, Fr (· = g) (w.alloc (.cells #[.pointer (some ⟨g, 0, none⟩)] 55)) W → W.cell? ⟨w.heap.size, 0, none⟩ = some (.pointer (some ⟨g, 0, none⟩))) := Lib.hid fun W f => by
    have h2 := f.row (heap_alloc_new w (.cells #[.pointer (some ⟨g, 0, none⟩)] 55)) (fun e => by have e2 : w.heap.size = g := e; omega)
    simp [World.cell?, h2]
  have HSTEP := Lib.hid (fun B first a b W hB t => step_two up B first g b c a p l W hB t)
  have HCNT := Lib.hid (fun a W t => plain_two g a c p l W t)
  have F0 := Lib.hid FA
  have q0 := HB0.out _ (Fr.refl _ _)
  have HPF : Hid (∀ B first, StepIs up B first → ∀ a W, (callFunc B #[.agg #[.pointer (some ⟨g, 0, none⟩)], .int .i64 a]).run Try.prog W = .ok (.enter B #[.agg #[.pointer (some ⟨g, 0, none⟩)], .int .i64 a]) W) := Lib.hid fun B first hB a W => hB.has _ _
  have HPS : Hid (l ≠ [] → ∀ a, p = some a → a.block < w.heap.size) := Lib.hid fun hl a ha => h.sl.lt hl a ha
  have HBD := Lib.hid h.bd
  have HLE := Lib.hid h.le
  have HLL := Lib.hid hl
  have HOT := Lib.hid hO
  have H1 := Lib.hid (plain_two g at0 c p l _ T0.out.is)
  clear h FA hgl hl hO
  unfold srcV at *
  go_enter Try.func36, Try.ntmps36
  go_wp2_with fail
  refine H1.out.mono ?_
  rintro e w1 (⟨many, b0, hd0, rfl, t0⟩ | ⟨hd0, rfl, f0⟩)
  rotate_left
  · have HNO : Hid (drdL up l at0 = none) := Lib.hid (by unfold drdL; rw [hd0])
    exact ⟨rfl, .inr ⟨HNO.out, rfl, (F0.out.mono fun _ _ e => e.elim).trans f0 fun _ _ e => e⟩⟩
  have HDL : Hid (drdL up l at0 = drdM up l many true 0 b0 []) := Lib.hid (by unfold drdL; rw [hd0])
  have hmany := (dnum_sound (.inl rfl) HBD.out hd0 HLE.out).1
  have T1 := Lib.hid (T0.out.trans t0)
  have FG0 := Lib.hid t0.fr
  have q1 := HB0.out _ t0.fr
  have hmany' : (many : Int) < 18446744073709551616 := by omega
  clear hd0 t0 H1 q0
  go_wp2_with fail
  go_loopw [5, 6, 7, 12] (fun v st fm i wr => ∃ (j B : Nat) (first : Bool) (a : Int) (at_ : Nat) (acc : List Tm), j ≤ many ∧ j ≤ 1000000000 ∧ i = .int .u64 j ∧ st = .func (.func B) #[.agg #[.pointer (some ⟨g, 0, none⟩)]] #[] ∧ fm = .int .i64 a ∧ -9223372036854775808 ≤ a ∧ a ≤ 9223372036854775807 ∧ Hid (StepIs up B first) ∧ Hid (drdM up l many true 0 b0 [] = drdM up l (many - j) first a at_ acc) ∧ Hid (AccG g w wr v j acc ∧ Fr (· = g) (w.alloc (.cells #[.pointer (some ⟨g, 0, none⟩)] 55)) wr ∧ ∀ k, v.ownBlock = some k → w.heap.size + 1 ≤ k) ∧ Hid (wRdTo w wr g p c l at_) ∧ Hid (j ≤ at_)) (fun _ _ _ i _ => many - (intOf i).toNat)
  case atStart => exact ⟨0, _, true, 0, b0, [], by omega, by omega, rfl, rfl, rfl, by omega, by omega, Lib.hid (.inl ⟨rfl, rfl⟩), Lib.hid rfl, Lib.hid ⟨⟨World.ownsRow_nil _ _ _ _, fresh_nil _ _, (F0.out.mono fun _ _ e => e.elim).trans FG0.out fun _ _ e => e⟩, FG0.out, fun k hk => by cases hk⟩, T1, Lib.hid (Nat.zero_le _)⟩
  case round =>
    obtain ⟨j, B, first, a, at_, acc, hj, hj9, rfl, rfl, rfl, ha1, ha2, hB, heq, hacc, ht, hjat⟩ := hrel
    clear T0 T1 q1
    obtain ⟨pv, cv, rfl⟩ := slFormN hacc.out.1.own
    by_cases hjm : (j : Int) < (many : Int)
    · have hcf := HPF.out B first hB.out a wr
      have HS := Lib.hid (HSTEP.out B first a at_ wr hB.out ht.out.is)
      have c0 := HB0.out _ hacc.out.2.1
      obtain ⟨r, hr⟩ : ∃ r, many - j = r + 1 := ⟨many - j - 1, by omega⟩
      have HEQ : Hid (drdM up l many true 0 b0 [] = match dmval up first a l at_ with | none => none | some (v, e) => match dnum 7 l e with | none => none | some (n, e2) => drdM up l r false v e2 (acc ++ [(v, n)])) := Lib.hid (by rw [heq.out, hr]; rfl)
      have HRR := Lib.hid hr
      clear heq hr HSTEP
      go_wp2_with fail
      refine HS.out.mono ?_
      rintro e w1 (⟨v, e1, hd, rfl, t1⟩ | ⟨hd, rfl, f1⟩)
      · obtain ⟨⟨hv1, hv2⟩, hle1, -, hlt1⟩ := dmval_sound ht.out.is.bd hd ht.out.is.le
        have HLT := Lib.hid (And.intro hle1 hlt1)
        have T1 := Lib.hid (ht.out.trans t1)
        have FG := Lib.hid t1.fr
        have HD := Lib.hid hd
        have b1 := HB0.out _ (hacc.out.2.1.trans t1.fr fun _ _ e => e)
        have HC := Lib.hid (HCNT.out e1 w1 t1.is)
        clear t1 hd HS hle1 hlt1
        go_wp2_with fail
        refine HC.out.mono ?_
        rintro e w2 (⟨n, e2, hd2, rfl, t2⟩ | ⟨hd2, rfl, f2⟩)
        · obtain ⟨hn, hle2, -, hlt2⟩ := dnum_sound (.inl rfl) T1.out.is.bd hd2 T1.out.is.le
          have T2 := Lib.hid (T1.out.trans t2)
          have HA2 := Lib.hid (hacc.out.1.on (FG.out.trans t2.fr fun _ _ e => e) HGL.out)
          have FB2 := Lib.hid ((hacc.out.2.1.trans FG.out fun _ _ e => e).trans t2.fr fun _ _ e => e)
          have b2 := HB0.out _ FB2.out
          have HBK := Lib.hid hacc.out.2.2
          have HNX : Hid (drdM up l many true 0 b0 [] = drdM up l (many - (j + 1)) false v e2 (acc ++ [(v, n)])) := Lib.hid (by
            rw [HEQ.out, HD.out]
            simp only
            rw [hd2]
            simp only
            rw [show many - (j + 1) = r by have := HRR.out; omega])
          have hj8 : j + 1 ≤ 1000000000 := by have := HLT.out; have := hjat.out; have := HLL.out; omega
          have HR : Hid (Room (j + 1)) := Lib.hid (Room.mk (by omega))
          have HJA : Hid (j + 1 ≤ e2) := Lib.hid (by have := HLT.out; have := hjat.out; omega)
          have hnb : (n : Int) < 18446744073709551616 := by omega
          have hj8' : (j : Int) + 1 ≤ 1000000000 := by omega
          clear t2 hd2 HEQ HD HC hacc ht c0 b1 hcf hle2 hlt2 HLT hjat
          go_wp2_with ((with_reducible show wpList _ _ _ (Oper.mk (some 23) _ _ _ _ _ :: _) _ _); refine app_one elAm (.tmp 17) (.tmp 22) rfl HA2.out.own rfl rfl rfl rfl rfl (one_pr v n) HR.out ?_; intro g1 cap1 w3 hown hgrow hat hlt; have HA3 := Lib.hid (HA2.out.app hown hgrow hat); have b3 := (HB0.out _ (FB2.out.trans HA3.out.2 fun x hx e => by have h6 := HBK.out x e; have h7 := size_alloc w (.cells #[.pointer (some ⟨g, 0, none⟩)] 55); omega)); have HAT := Lib.hid hat; clear hown hgrow hat hlt)
          go_roundw
          case rel =>
            have FB3 : Fr (· = g) (w.alloc (.cells #[.pointer (some ⟨g, 0, none⟩)] 55)) w3 := FB2.out.trans HA3.out.2 fun x hx e => by have h6 := HBK.out x e; have h7 := size_alloc w (.cells #[.pointer (some ⟨g, 0, none⟩)] 55); omega
            refine ⟨j + 1, _, false, v, e2, acc ++ [(v, n)], by omega, hj8, by go_num, rfl, rfl, hv1, hv2, HOT, HNX, Lib.hid ⟨HA3.out.1, FB3, fun k hk => ?_⟩, ?_, HJA⟩
            · obtain rfl : g1 = k := Option.some.inj hk
              rcases HAT.out with e | e
              · exact HBK.out _ e
              · have h8 := FB2.out.size
                rw [size_alloc] at h8
                omega
            · have hgr : ¬ (fun x => (Value.slice pv j cv).ownBlock = some x) g := fun e => by have := HBK.out g e; have := HGL.out; omega
              exact Lib.hid ⟨T2.out.is.fr HA3.out.2 hgr (fun hl a ha e => by have := HBK.out _ e; have := HPS.out hl a ha; omega), T2.out.fr.trans HA3.out.2 fun x hx e => by have := HBK.out x e; omega⟩
          case measure => simp [intOf]; omega
        · have HNO : Hid (drdL up l at0 = none) := Lib.hid (by
            rw [HDL.out, HEQ.out, HD.out]
            simp only
            rw [hd2])
          exact ⟨rfl, .inr ⟨HNO.out, rfl, T1.out.fr.trans f2 fun _ _ e => e⟩⟩
      · have HNO : Hid (drdL up l at0 = none) := Lib.hid (by rw [HDL.out, HEQ.out, hd])
        exact ⟨rfl, .inr ⟨HNO.out, rfl, ht.out.fr.trans f1 fun _ _ e => e⟩⟩
    · obtain rfl : j = many := by omega
      have HE : Hid (drdL up l at0 = some (acc, at_)) := Lib.hid (by rw [HDL.out, heq.out, Nat.sub_self, drdM])
      have hln := hacc.out.1.len
      clear heq
      go_wp2_with fail
      go_ret
      exact .inl ⟨acc, at_, HE.out, pv, cv, by rw [hln]; rfl, by rw [hln]; exact hacc.out.1, ht.out⟩
end Go.Proofs.Ytmieeoceckcnkaa

namespace Go.Proofs.Ytmieeoceckcnkaa
open Go.RowKit
theorem fin_two (g at_ c : Nat) (p : Option Addr) (l : List Nat) (w W : World) (t : wRdTo w W g p c l at_) :
    Calls Try.prog 34 #[srcV g] W fun e w' => (∃ n e1, dfin l at_ = some (n, e1) ∧ e = .returned (.int .i64 (n : Nat)) ∧ wRdTo w w' g p c l e1 ∧ Fr (· = g) W w') ∨ (dfin l at_ = none ∧ e = .panicked dgup ∧ Fr (· = g) w w') := by
  refine (fineness_rd g at_ c p l W t.is).mono fun e w' h => ?_
  unfold finR at h
  cases hR : dfin l at_ with
  | none =>
    rw [hR] at h
    exact .inr ⟨rfl, h.1, t.fr.trans h.2 fun _ _ e => e⟩
  | some a =>
    obtain ⟨n, e1⟩ := a
    rw [hR] at h
    exact .inl ⟨n, e1, rfl, h.1, t.trans h.2, h.2.fr⟩
theorem sgn_two (g at_ c : Nat) (p : Option Addr) (l : List Nat) (w W : World) (t : wRdTo w W g p c l at_) :
    Calls Try.prog 35 #[srcV g] W fun e w' => (∃ v e1, dsgn l at_ = some (v, e1) ∧ e = .returned (.int .i64 v) ∧ wRdTo w w' g p c l e1 ∧ Fr (· = g) W w') ∨ (dsgn l at_ = none ∧ e = .panicked dgup ∧ Fr (· = g) w w') := by
  refine (signed_rd g at_ c p l W t.is).mono fun e w' h => ?_
  unfold sgnR at h
  cases hR : dsgn l at_ with
  | none =>
    rw [hR] at h
    exact .inr ⟨rfl, h.1, t.fr.trans h.2 fun _ _ e => e⟩
  | some a =>
    obtain ⟨n, e1⟩ := a
    rw [hR] at h
    exact .inl ⟨n, e1, rfl, h.1, t.trans h.2, h.2.fr⟩
theorem means_two (up : Bool) (O g at_ c : Nat) (p : Option Addr) (l : List Nat) (w W : World) (t : wRdTo w W g p c l at_) (hO : OtherIs up O) (hl : l.length ≤ 1000000000) :
    Calls Try.prog 36 #[srcV g, .func (.func O) #[srcV g] #[]] W fun e w' => (∃ L e1 q n d, drdL up l at_ = some (L, e1) ∧ L.length = n ∧ e = .returned (.slice q n d) ∧ AccG g W w' (.slice q n d) n L ∧ wRdTo w w' g p c l e1 ∧ Fr (· = g) W w') ∨ (drdL up l at_ = none ∧ e = .panicked dgup ∧ Fr (· = g) w w') := by
  refine (rmeans_any up O g at_ c p l W t.is hO hl).mono fun e w' h => ?_
  rcases h with ⟨L, e5, q, d, h1, h2, h3, h4⟩ | ⟨h1, h2, h3⟩
  · exact .inl ⟨L, e5, q, _, d, h1, rfl, h2, h3, t.trans h4, h4.fr⟩
  · exact .inr ⟨h1, h2, t.fr.trans h3 fun _ _ e => e⟩
section
variable (D : Nat) (lo hi : Int) (p : Option Addr) (n c : Nat) (q : Option Addr) (m e : Nat) (L W : List Tm) (w : World)
theorem tload_any (hD2 : D ≤ 1000) (hL : Sl w p n c L) (hW : Sl w q m e W) (hN : n + m ≤ 400000000000) (hu : ∀ t ∈ L ++ W, t.2 < 18446744073709551616)
    (l1 : -9223372036854775808 ≤ lo) (l2 : lo ≤ 9223372036854775807) (h1 : -9223372036854775808 ≤ hi) (h2 : hi ≤ 9223372036854775807) :
    Calls Try.prog 41 #[.int .i64 (D : Nat), .int .i64 lo, .int .i64 hi, .slice p n c, .slice q m e] w fun e w' =>
      (10 ≤ D ∧ LoadOk D lo hi L W ∧ ∃ g, e = .returned (.tuple #[.pointer (some ⟨g, 0, none⟩), .int .i64 0]) ∧ NewD w w' g { d := D, L := L, W := W, lo := lo, hi := hi }) ∨
      (¬ (10 ≤ D ∧ LoadOk D lo hi L W) ∧ e = .returned (.tuple #[.pointer none, .int .i64 1]) ∧ Fr S0 w w') := by
  by_cases hd : 10 ≤ D
  · refine (load_any D lo hi p n c q m e L W w hd hD2 hL hW hN hu l1 l2 h1 h2).mono fun e w' h => ?_
    rcases h with ⟨k, g, h3, h4⟩ | ⟨k, h3, h4⟩
    · exact .inl ⟨hd, k, g, h3, h4⟩
    · exact .inr ⟨fun x => k x.2, h3, h4⟩
  · have HN := Lib.hid (new_no (D : Int) w (by omega))
    have HNO : Hid (¬ (10 ≤ D ∧ LoadOk D lo hi L W)) := Lib.hid fun x => hd x.1
    clear hL hW hu hN hd hD2
    go_enter Try.func41, Try.ntmps41
    go_wp2_with fail
    refine HN.out.mono ?_
    rintro e1 w1 ⟨rfl, f1⟩
    have F1 := Lib.hid f1
    clear f1 HN
    go_wp2_with fail
    go_ret2
    exact .inr ⟨HNO.out, rfl, F1.out⟩
end
theorem rdOk_no {l : List Nat} (h : drdT l = none) : ¬ ∃ x, RdOk l x := by
  rintro ⟨x, k⟩
  rw [rdOk_nums k] at h
  cases h
theorem rdOk_else {l : List Nat} {N : Nums} {e : Nat} (h : drdT l = some (N, e)) (hn : ¬ (e = l.length ∧ 10 ≤ N.d ∧ LoadOk N.d N.lo N.hi N.L N.W)) : ¬ ∃ x, RdOk l x := by
  rintro ⟨x, k⟩
  rw [rdOk_nums k] at h
  simp only [Option.some.injEq, Prod.mk.injEq] at h
  obtain ⟨rfl, rfl⟩ := h
  exact hn ⟨rfl, k.good.d1, k.good.load k.few⟩
def SrcEnds (w w' : World) (g : Nat) (l : List Nat) (e : Ending) : Prop :=
  (∃ x gs, RdOk l x ∧ e = .returned (.pointer (some ⟨gs, 0, none⟩)) ∧ (∃ C, DIs w' gs C x ∧ ∀ b, C b → w.heap.size ≤ b) ∧ Fr (· = g) w w') ∨ ((¬ ∃ x, RdOk l x) ∧ e = .panicked dgup ∧ Fr (· = g) w w')
theorem source_any (g c : Nat) (p : Option Addr) (l : List Nat) (w : World) (h : wRdIs w g p c l 0) (hl : l.length ≤ 1000000000) :
    Calls Try.prog 21 #[srcV g] w fun e w' => SrcEnds w w' g l e := by
  have hgl : g < w.heap.size := (Array.getElem?_eq_some_iff.1 h.blk).1
  have HGL := Lib.hid hgl
  have HLN := Lib.hid hl
  have HF := Lib.hid (fun W t => fin_two g 0 c p l w W t)
  have HS := Lib.hid (fun a W t => sgn_two g a c p l w W t)
  have HM1 := Lib.hid (fun a W t => means_two true 37 g a c p l w W t (.inr ⟨rfl, rfl, rfl⟩) hl)
  have HM2 := Lib.hid (fun a W t => means_two false 38 g a c p l w W t (.inl ⟨rfl, rfl⟩) hl)
  have T0 := Lib.hid ((h.self).on (Fr.alloc S0 w (.cells #[.pointer (some ⟨g, 0, none⟩)] 55)))
  have q0 : (w.alloc (.cells #[.pointer (some ⟨g, 0, none⟩)] 55)).cell? ⟨w.heap.size, 0, none⟩ = some (.pointer (some ⟨g, 0, none⟩)) := boxed1 (Fr.refl S0 _)
  have hmf : ∀ (fn : Fn) (first cap : Array Value) (w : World), (Instr.makeFunc fn first cap).run Try.prog w = .ok (.func fn first cap) w := fun _ _ _ _ => rfl
  have HNO1 : Hid (dfin l 0 = none → ¬ ∃ x, RdOk l x) := Lib.hid fun e => rdOk_no (by unfold drdT; rw [e])
  have HNO2 : Hid (∀ d e1, dfin l 0 = some (d, e1) → dsgn l e1 = none → ¬ ∃ x, RdOk l x) := Lib.hid fun d e1 h1 h2 => rdOk_no (by
    unfold drdT; rw [h1]; simp only; rw [h2])
  have HNO3 : Hid (∀ d e1 lo e2, dfin l 0 = some (d, e1) → dsgn l e1 = some (lo, e2) → dsgn l e2 = none → ¬ ∃ x, RdOk l x) := Lib.hid fun d e1 lo e2 h1 h2 h3 => rdOk_no (by
    unfold drdT; rw [h1]; simp only; rw [h2]; simp only; rw [h3])
  have HNO4 : Hid (∀ d e1 lo e2 hi e3, dfin l 0 = some (d, e1) → dsgn l e1 = some (lo, e2) → dsgn l e2 = some (hi, e3) → drdL true l e3 = none → ¬ ∃ x, RdOk l x) := Lib.hid fun d e1 lo e2 hi e3 h1 h2 h3 h4 => rdOk_no (by
    unfold drdT; rw [h1]; simp only; rw [h2]; simp only; rw [h3]; simp only; rw [h4])
  have HNO5 : Hid (∀ d e1 lo e2 hi e3 L e4, dfin l 0 = some (d, e1) → dsgn l e1 = some (lo, e2) → dsgn l e2 = some (hi, e3) → drdL true l e3 = some (L, e4) → drdL false l e4 = none → ¬ ∃ x, RdOk l x) := Lib.hid fun d e1 lo e2 hi e3 L e4 h1 h2 h3 h4 h5 => rdOk_no (by
    unfold drdT; rw [h1]; simp only; rw [h2]; simp only; rw [h3]; simp only; rw [h4]; simp only; rw [h5])
  have HYES : Hid (∀ d e1 lo e2 hi e3 L e4 W e5, dfin l 0 = some (d, e1) → dsgn l e1 = some (lo, e2) → dsgn l e2 = some (hi, e3) → drdL true l e3 = some (L, e4) → drdL false l e4 = some (W, e5) → drdT l = some (⟨d, lo, hi, L, W⟩, e5)) := Lib.hid fun d e1 lo e2 hi e3 L e4 W e5 h1 h2 h3 h4 h5 => by
    unfold drdT; rw [h1]; simp only; rw [h2]; simp only; rw [h3]; simp only; rw [h4]; simp only; rw [h5]
  have H256 := Lib.hid h.bd
  have HLF := Lib.hid (fun e W (t : wRdIs W g p c l e) => wleft_any g e c p l W t)
  clear h hgl hl
  unfold srcV at *
  unfold SrcEnds
  go_enter Try.func21, Try.ntmps21
  go_wp2_with fail
  go_region_held2 (fun w' => w'.cell? ⟨w.heap.size, 0, none⟩ = some (.pointer (some ⟨g, 0, none⟩)))
    (first
      | exact q0
      | assumption
      | exact f9.cell (by assumption) (fun e => by have e2 : w.heap.size = g := e; have := HGL.out; omega)
      | fail)
    (first
      | (go_simp; go_at_call 34; (with_reducible refine (HF.out _ (T0.out.on (Fr.drew S0 _))).mono ?_); rintro _ w2 (⟨d, e1, hr1, rfl, t2, f9⟩ | ⟨hr, rfl, f9⟩); rotate_left; (exact ⟨rfl, .inr ⟨HNO1.out hr, rfl, f9⟩⟩); (have T2 := Lib.hid t2); (have HR1 := Lib.hid hr1); clear t2 hr1)
      | (go_simp; go_at_call 35; (with_reducible refine (HS.out _ _ T2.out).mono ?_); rintro _ w3 (⟨lo, e2, hr2, rfl, t3, f9⟩ | ⟨hr, rfl, f9⟩); rotate_left; (exact ⟨rfl, .inr ⟨HNO2.out _ _ HR1.out hr, rfl, f9⟩⟩); (have T3 := Lib.hid t3); (have HR2 := Lib.hid hr2); clear t3 hr2)
      | (go_simp; go_at_call 35; (with_reducible refine (HS.out _ _ T3.out).mono ?_); rintro _ w4 (⟨hi, e3, hr3, rfl, t4, f9⟩ | ⟨hr, rfl, f9⟩); rotate_left; (exact ⟨rfl, .inr ⟨HNO3.out _ _ _ _ HR1.out HR2.out hr, rfl, f9⟩⟩); (have T4 := Lib.hid t4); (have HR3 := Lib.hid hr3); (have b4 : w4.cell? ⟨w.heap.size, 0, none⟩ = some (.pointer (some ⟨g, 0, none⟩)) := f9.cell (by assumption) (fun e => by have e2 : w.heap.size = g := e; have := HGL.out; omega)); clear t4 hr3)
      | fail)
  have HSLT := Lib.hid (And.intro (dfin_sound H256.out HR1.out (Nat.zero_le _)).1 (And.intro (dsgn_sound H256.out HR2.out T2.out.is.le).1 (dsgn_sound H256.out HR3.out T3.out.is.le).1))
  clear T0 q0 T2 T3 HF HS HNO1 HNO2 HNO3
  go_wp2_with fail
  go_region_held2 (fun w' => w'.cell? ⟨w.heap.size, 0, none⟩ = some (.pointer (some ⟨g, 0, none⟩)))
    (first
      | assumption
      | exact f9.cell (by assumption) (fun e => by have e2 : w.heap.size = g := e; have := HGL.out; omega)
      | fail)
    (first
      | (go_simp; go_at_call 36; (with_reducible refine (HM1.out _ _ (T4.out.on (Fr.drew S0 _))).mono ?_); rintro _ w5 (⟨L, e4, qL, nL, cL, hr4, hnL, rfl, aL, t5, f9⟩ | ⟨hr, rfl, f9⟩); rotate_left; (exact ⟨rfl, .inr ⟨HNO4.out _ _ _ _ _ _ HR1.out HR2.out HR3.out hr, rfl, f9⟩⟩); (have T5 := Lib.hid t5); (have HR4 := Lib.hid hr4); (have HAL := Lib.hid (And.intro hnL aL)); clear t5 hr4 hnL aL)
      | (go_simp; go_at_call 36; (with_reducible refine (HM2.out _ _ T5.out).mono ?_); rintro _ w6 (⟨W, e5, qW, nW, cW, hr5, hnW, rfl, aW, t6, f9⟩ | ⟨hr, rfl, f9⟩); rotate_left; (exact ⟨rfl, .inr ⟨HNO5.out _ _ _ _ _ _ _ _ HR1.out HR2.out HR3.out HR4.out hr, rfl, f9⟩⟩); (have T6 := Lib.hid t6); (have HR5 := Lib.hid hr5); (have HAW := Lib.hid (And.intro hnW aW)); (have F56 := Lib.hid f9); (have b6 : w6.cell? ⟨w.heap.size, 0, none⟩ = some (.pointer (some ⟨g, 0, none⟩)) := f9.cell (by assumption) (fun e => by have e2 : w.heap.size = g := e; have := HGL.out; omega)); clear t6 hr5 hnW aW)
      | fail)
  all_goals
    have HQ := Lib.hid (HYES.out _ _ _ _ _ _ _ _ _ _ HR1.out HR2.out HR3.out HR4.out HR5.out)
    have hLS := drdL_sound H256.out T4.out.is.le HR4.out
    have hWS := drdL_sound H256.out T5.out.is.le HR5.out
    have HSL := Lib.hid (Sl.ofOwns (HAL.out.2.on F56.out (Nat.lt_of_lt_of_le HGL.out (T4.out.fr.size))).own)
    have HSW := Lib.hid (Sl.ofOwns HAW.out.2.own)
    have HU : Hid (∀ t ∈ L ++ W, t.2 < 18446744073709551616) := Lib.hid fun t ht => by
      rcases List.mem_append.1 ht with h | h
      · exact (hLS.2.2.1 t h).2
      · exact (hWS.2.2.1 t h).2
    have HNN : Hid (nL + nW ≤ 400000000000) := Lib.hid (by
      have h1 := hLS.2.2.2
      have h2 := hWS.2.2.2
      have h3 := HAL.out.1
      have h4 := HAW.out.1
      have h5 := HLN.out
      have h6 := hWS.1
      omega)
    have HLD := Lib.hid (fun X (f : Fr S0 w6 X) => tload_any d lo hi qL nL cL qW nW cW L W X HSLT.out.1 (HSL.out.fr0 f) (HSW.out.fr0 f) HNN.out HU.out HSLT.out.2.1.1 HSLT.out.2.1.2 HSLT.out.2.2.1 HSLT.out.2.2.2)
    have HLF1 := Lib.hid (HLF.out e5 w6 T6.out.is)
    have hdb : (d : Int) ≤ 1000 := by have := HSLT.out.1; omega
    clear hLS hWS HYES HNO4 HNO5 HM1 HM2 HLF HR1 HR2 HR3 HR4 HR5
    go_wp2_with fail
    refine HLF1.out.mono ?_
    rintro _ w7 ⟨rfl, k, rfl⟩
    have FW := Lib.hid (Fr.drewN S0 w6 k)
    have F7 := Lib.hid (T6.out.fr.trans0 FW.out)
    by_cases hend : e5 = l.length
    · have e6 : ((l.length : Int) - (e5 : Int) == 0) = true := by rw [beq_iff_eq]; omega
      have HE := Lib.hid hend
      clear hend HLF1
      go_wp2_with fail
      refine (ddemand_yes _).mono ?_
      rintro _ v3 ⟨rfl, rfl⟩
      go_wp2_with fail
      refine (HLD.out _ FW.out).mono ?_
      rintro _ w8 (⟨hd1, hok, gs, rfl, hk⟩ | ⟨hok, rfl, f8⟩)
      · have HK := Lib.hid (And.intro hd1 (And.intro hok hk))
        clear hd1 hok hk HLD e6 b6
        go_wp2_with fail
        refine (ddemand_yes _).mono ?_
        rintro _ v5 ⟨rfl, rfl⟩
        go_wp2_with fail
        go_ret
        have hl := HLN.out
        have hr := rdOk_of H256.out (by omega) (by rw [HQ.out, HE.out]) HK.out.1 HK.out.2.1
        obtain ⟨C, hC, hCb⟩ := HK.out.2.2.ex
        exact .inl ⟨_, gs, hr, rfl, ⟨C, hC, fun b hb => Nat.le_trans F7.out.size (hCb b hb)⟩, F7.out.trans0 HK.out.2.2.fr⟩
      · have HNO : Hid (¬ ∃ x, RdOk l x) := Lib.hid (rdOk_else HQ.out fun h => hok h.2)
        have F8 := Lib.hid (F7.out.trans0 f8)
        clear hok f8 HLD e6 b6
        go_wp2_with fail
        refine (ddemand_no _).mono ?_
        rintro _ v5 ⟨rfl, rfl⟩
        exact ⟨rfl, .inr ⟨HNO.out, rfl, F8.out⟩⟩
    · have e6 : ((l.length : Int) - (e5 : Int) == 0) = false := by rw [beq_eq_false_iff_ne]; omega
      have HNO : Hid (¬ ∃ x, RdOk l x) := Lib.hid (rdOk_else HQ.out fun h => hend h.1)
      clear HLF1 hend
      go_wp2_with fail
      refine (ddemand_no _).mono ?_
      rintro _ v3 ⟨rfl, rfl⟩
      exact ⟨rfl, .inr ⟨HNO.out, rfl, F7.out⟩⟩
end Go.Proofs.Ytmieeoceckcnkaa

namespace Go.Proofs.Ytmieeoceckcnkaa
open Go.RowKit Go.ChangeMaps
theorem cell_row {w : World} {g : Nat} {x : Value} {t : TypeId} (h : w.heap[g]? = some (.cells #[x] t (0, 0))) : w.cell? ⟨g, 0, none⟩ = some x := by simp [World.cell?, h]
theorem set_first {w : World} {g : Nat} {x y : Value} {t : TypeId} (h : w.heap[g]? = some (.cells #[x] t (0, 0))) : (w.setCell ⟨g, 0, none⟩ y).heap[g]? = some (.cells #[y] t (0, 0)) := by rw [heap_setCell_same w g 0 _ _ _ h]; rfl
theorem scatch_given (q : Nat) (E : Int) (w : World) (hq : w.heap[q]? = some (.cells #[.int .i64 E] 25 (0, 0))) :
    CallsD Try.prog 19 #[.pointer (some ⟨q, 0, none⟩)] (.panicking dgup) w fun e u' w' => e = .returned (.tuple #[]) ∧ settle u' = .returning ∧ Fr (· = q) w w' ∧ w'.heap[q]? = some (.cells #[.int .i64 9] 25 (0, 0)) := by
  have hnn : ∀ (v : Value) w, (binOp .eql 20 (.iface 51 v) .nilIface).run Try.prog w = .ok (.bool false) w := fun v w => by kernel_rfl
  have hta : ∀ (v : Value) w, (Instr.typeAssert (.iface 51 v) 20 51 true).run Try.prog w = .ok (.tuple #[v, .bool true]) w := fun v w => by kernel_rfl
  unfold dgup
  refine callsD_of_wpS Try.func19 rfl fun c₀ cs hu => ?_
  apply wpS_seq
  apply wpS_region
  simp [wpOpsS, go_sem, recoverD, hu, Try.ntmps19, Exit.thenS]
  refine wpS_of_wp ?_
  have et : ∀ v : Value, (#[Value.pointer (some ⟨q, 0, none⟩)] ++ (Array.replicate 9 undef).setIfInBounds 3 v) = #[Value.pointer (some ⟨q, 0, none⟩), undef, undef, undef, v, undef, undef, undef, undef, undef] := fun v => rfl
  rw [et]
  have HU := Lib.hid hu
  have HFA := Lib.hid (Fr.alloc S0 w (.cells #[] 51))
  have bq := HFA.out.row hq (fun h => h)
  have HE := Lib.hid (set_first (y := .int .i64 9) bq)
  have HF9 := Lib.hid ((HFA.out.mono (fun _ _ e => e.elim)).trans (Fr.setCell (· = q) _ ⟨q, 0, none⟩ (.int .i64 9) rfl) (fun _ _ e => e))
  have c2 : (w.alloc (.cells #[] 51)).cell? ⟨q, 0, none⟩ = some (.int .i64 E) := by
    generalize w.alloc (.cells #[] 51) = W at bq
    simp [World.cell?, bq]
  have z2 : (w.alloc (.cells #[] 51)).frozen? ⟨q, 0, none⟩ = false := by
    clear c2
    generalize w.alloc (.cells #[] 51) = W at bq
    simp [World.frozen?, bq]
  clear hu bq hq
  go_wp2_with fail
  exact ⟨rfl, .panicking [{ v := .iface 51 (.agg #[]), recovered := true }], rfl, .tuple #[], by simp [results, Try.results19], rfl, rfl, HF9.out, HE.out⟩
theorem scatch_idle (q : Addr) (w : World) :
    CallsD Try.prog 19 #[.pointer (some q)] .returning w fun e u' w' => e = .returned (.tuple #[]) ∧ u' = .returning ∧ w' = w := by
  have hnn : ∀ w, (binOp .eql 20 .nilIface .nilIface).run Try.prog w = .ok (.bool true) w := fun w => by kernel_rfl
  refine callsD_of_wpS Try.func19 rfl fun c₀ cs hu => ?_
  apply wpS_seq
  apply wpS_region
  simp [wpOpsS, go_sem, recoverD, hu, Try.ntmps19, Exit.thenS]
  refine wpS_of_wp ?_
  have et : (#[Value.pointer (some q)] ++ (Array.replicate 9 undef).setIfInBounds 3 Value.nilIface) = #[Value.pointer (some q), undef, undef, undef, .nilIface, undef, undef, undef, undef, undef] := rfl
  rw [et]
  go_wp2_with fail
  exact ⟨rfl, .returning, by cases c₀; simp_all, .tuple #[], by simp [results, Try.results19], rfl, rfl, rfl⟩
theorem sres {tmps : Array Value} {w : World} {q : Nat} {v : Value} {e : Int} (h4 : tmps.getD 2 undef = v) (h5 : tmps.getD 3 undef = .pointer (some ⟨q, 0, none⟩)) (hq : w.heap[q]? = some (.cells #[.int .i64 e] 25 (0, 0))) :
    (results Try.f6 tmps).run Try.prog w = .ok (.tuple #[v, .int .i64 e]) w := by
  have c2 : w.cell? ⟨q, 0, none⟩ = some (.int .i64 e) := by simp [World.cell?, hq]
  have h4' : tmps[2]?.getD undef = v := by simpa using h4
  have h5' : tmps[3]?.getD undef = .pointer (some ⟨q, 0, none⟩) := by simpa using h5
  simp [results, Try.results6, asAddr, h4', h5', go_sem, c2]
def RdEnds (w w' : World) (l : List Nat) (e : Ending) : Prop :=
  (∃ x g, RdOk l x ∧ e = .returned (.tuple #[.pointer (some ⟨g, 0, none⟩), .int .i64 0]) ∧ NewD w w' g x) ∨ ((¬ ∃ x, RdOk l x) ∧ e = .returned (.tuple #[.pointer none, .int .i64 9]) ∧ Fr S0 w w')
theorem tread_any (q : Option Addr) (d n : Nat) (l : List Nat) (w : World) (hn : l.length = n) (hl : SlI w .u8 q l) (h8 : ∀ x ∈ l, x < 256) (hq : q = none → d = 0) (hL : n ≤ 1000000000) :
    Calls Try.prog 6 #[.slice q n d] w fun e w' => RdEnds w w' l e := by
  have HN := Lib.hid (fun W (f : Fr S0 w W) => rnew_any q d n l W hn (hl.fr0 f) h8 hq hL)
  have HSK := Lib.hid (fun g p c W (h : wRdIs W g p c l 0) => source_any g c p l W h (by omega))
  have HT := Lib.hid (heap_alloc_new w (.cells #[.int .i64 0] 25))
  have F0 := Lib.hid (Fr.alloc S0 w (.cells #[.int .i64 0] 25))
  have HSZ : Hid ((w.alloc (.cells #[.int .i64 0] 25)).heap.size = w.heap.size + 1) := Lib.hid (size_alloc _ _)
  unfold srcV at HSK
  clear hl h8 hq hn
  go_enter_defers Try.func6, Try.ntmps6
  go_wp2_with fail
  refine (HN.out _ F0.out).mono ?_
  rintro e w2 ⟨g, p, c, rfl, hr, hg, f2⟩
  have HG := Lib.hid (And.intro True.intro (And.intro hg f2))
  have HS2 := Lib.hid (HSK.out g p c w2 hr)
  clear hr hg f2 HN HSK
  go_wp2_with fail
  refine HS2.out.mono ?_
  rintro e w3 h3
  unfold SrcEnds at h3
  have hfr : Fr (· = g) w2 w3 := by
    rcases h3 with ⟨_, _, -, -, -, f⟩ | ⟨-, -, f⟩ <;> exact f
  have F3 : Hid (Fr S0 w w3) := Lib.hid (((F0.out.trans0 HG.out.2.2)).trans hfr fun j hj e => by have e2 : j = g := e; have := HG.out.2.1; have := HSZ.out; omega)
  have hrow : w3.heap[w.heap.size]? = some (.cells #[.int .i64 0] 25 (0, 0)) := hfr.row (HG.out.2.2.row HT.out fun h => h) (fun e => by have e2 : w.heap.size = g := e; have := HG.out.2.1; have := HSZ.out; omega)
  have HR := Lib.hid hrow
  have HS23 : Hid (w.heap.size + 1 ≤ w2.heap.size) := Lib.hid (by have := HG.out.2.2.size; rw [HSZ.out] at this; exact this)
  rcases h3 with ⟨x, gs, hok, rfl, ⟨C, hC, hCb⟩, -⟩ | ⟨hno, rfl, -⟩
  · have c2 : w3.cell? ⟨w.heap.size, 0, none⟩ = some (.int .i64 0) := cell_row hrow
    have z2 : w3.frozen? ⟨w.heap.size, 0, none⟩ = false := by simp [World.frozen?, hrow]
    have f9 : Fr (fun j => j = w.heap.size) w3 (w3.setCell ⟨w.heap.size, 0, none⟩ (.int .i64 0)) := Fr.setCell _ _ _ _ rfl
    have HE := Lib.hid (set_first (y := .int .i64 0) hrow)
    have HNEW : Hid (RdEnds w (w3.setCell ⟨w.heap.size, 0, none⟩ (.int .i64 0)) l (.returned (.tuple #[.pointer (some ⟨gs, 0, none⟩), .int .i64 0]))) := Lib.hid (.inl ⟨x, gs, hok, rfl, ⟨C, hC.fr f9 fun b hb e => by have e2 : b = w.heap.size := e; have := hCb b hb; have := HS23.out; omega, fun b hb => by have := hCb b hb; have := HS23.out; omega⟩, F3.out.trans f9 fun j hj e => by have e2 : j = w.heap.size := e; omega⟩)
    clear hrow hok hC hCb f9 hfr HS2
    go_wp2_with fail
    refine leaves_cons (f := 19) (args := #[.pointer (some ⟨w.heap.size, 0, none⟩)]) (by simp) (by simp [go_sem]) ?_
    refine (scatch_idle ⟨w.heap.size, 0, none⟩ _).mono ?_
    rintro e u' wz ⟨rfl, rfl, rfl⟩
    exact ⟨_, sres rfl rfl HE.out, HNEW.out⟩
  · have HNO := Lib.hid hno
    clear hno hrow hfr HS2
    refine leaves_cons (f := 19) (args := #[.pointer (some ⟨w.heap.size, 0, none⟩)]) (by simp) (by simp [go_sem]) ?_
    refine (scatch_given w.heap.size _ _ HR.out).mono ?_
    rintro e u' wz ⟨rfl, hset, fz, z2⟩
    show Leaves _ _ _ _ [] (settle u') wz
    rw [hset]
    exact ⟨_, sres rfl rfl z2, .inr ⟨HNO.out, rfl, F3.out.trans fz fun j hj e => by have e2 : j = w.heap.size := e; omega⟩⟩
def WtEnds (w w' : World) (l : List Nat) (e : Ending) : Prop :=
  (∃ x, RdOk l x ∧ e = .returned (.tuple #[.int .u64 (x.tot : Nat), .int .i64 0]) ∧ Fr S0 w w') ∨ ((¬ ∃ x, RdOk l x) ∧ e = .returned (.tuple #[.int .u64 0, .int .i64 9]) ∧ Fr S0 w w')
theorem tweight_any (q : Option Addr) (d n : Nat) (l : List Nat) (w : World) (hn : l.length = n) (hl : SlI w .u8 q l) (h8 : ∀ x ∈ l, x < 256) (hq : q = none → d = 0) (hL : n ≤ 1000000000) :
    Calls Try.prog 7 #[.slice q n d] w fun e w' => WtEnds w w' l e := by
  have H := Lib.hid (tread_any q d n l w hn hl h8 hq hL)
  clear hn hl h8 hq hL
  go_enter Try.func7, Try.ntmps7
  go_wp2_with fail
  refine H.out.mono ?_
  rintro e w1 (⟨x, g, hok, rfl, hk⟩ | ⟨hno, rfl, f1⟩)
  · have HK := Lib.hid (And.intro hok hk)
    have HT := Lib.hid (nd_total hk)
    clear hok hk H
    go_wp2_with fail
    refine HT.out.mono ?_
    rintro e w2 ⟨rfl, rfl⟩
    go_wp2_with fail
    go_ret2
    exact .inl ⟨x, HK.out.1, rfl, HK.out.2.fr⟩
  · have HK := Lib.hid (And.intro hno f1)
    clear hno f1 H
    go_wp2_with fail
    go_ret2
    exact .inr ⟨HK.out.1, rfl, HK.out.2⟩
end Go.Proofs.Ytmieeoceckcnkaa
