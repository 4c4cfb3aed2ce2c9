/- DwMath, DwNext, DwHead, DwPairs, DwRead, DwTold -/
import Derived.Test.YtaemgflhgdlmiaaGreatPw1
import Derived.Test.YtaemgflhgdlmiaaGreatPw2
import Derived.Test.YtaemgflhgdlmiaaGreatPw3
import Derived.Test.YtaemgflhgdlmiaaGreatPw4
import Derived.Test.YtaemgflhgdlmiaaGreatPw5
import Derived.Test.YtaemgflhgdlmiaaGreatPw6
import Derived.Test.YtaemgflhgdlmiaaGreatPw7
import Derived.Test.YtaemgflhgdlmiaaGreatPw8
import Derived.Test.YtaemgflhgdlmiaaGreatPw9
import Derived.Test.YtaemgflhgdlmiaaGreatPw10
import Derived.Test.YtaemgflhgdlmiaaGreatPw11
import Derived.Test.YtaemgflhgdlmiaaGreatPw12
import Derived.Test.YtaemgflhgdlmiaaGreatPw13
import Derived.Test.YtaemgflhgdlmiaaGreatPw14
import Derived.Test.YtaemgflhgdlmiaaGreatPw15
import Derived.Test.YtaemgflhgdlmiaaGreatPw16
import Derived.Test.YtaemgflhgdlmiaaGreatPw17
import Derived.Test.YtaemgflhgdlmiaaGreatPw18
import Derived.Test.YtaemgflhgdlmiaaGreatPw19
import Derived.Test.YtaemgflhgdlmiaaGreatPw20
import Derived.Test.YtaemgflhgdlmiaaGreatPw21
import Derived.Test.YtaemgflhgdlmiaaGreatPw22
import Derived.Test.YtaemgflhgdlmiaaGreatPw23
import Derived.Test.YtaemgflhgdlmiaaGreatPw24
import Derived.Test.YtaemgflhgdlmiaaGreatPw25
import Derived.Test.YtaemgflhgdlmiaaGreatPw26
import Derived.Test.YtaemgflhgdlmiaaGreatPw27
import Derived.Test.YtaemgflhgdlmiaaGreatPw28
import Derived.Test.YtaemgflhgdlmiaaGreatPw29
import Derived.StillTailTactics
import Derived.WalkKit
import Derived.Laws.BitsAllLaws
import Derived.Laws.BytesArg
import Derived.Lib.SlBytesConst
import Derived.Maps.AppendAt
import Derived.Laws.AppendOwnNone
import Derived.WalkSpells
import Derived.WalkLawsBesides
import Derived.Deep.QuietTactic
import Derived.BigQuiet
import Derived.RegionTactic
import Derived.Deep.AppendLies
import Derived.Deep.RegionLaw
import Derived.Laws.ResultCell
import Derived.Laws.EntriesVeiled
import Derived.Lib.Hide
import Derived.Test.YtaemgflhgdlmiaaGreatRows
import Derived.Deep.RegionHeld3
import Derived.Lib.SliceRun
import Derived.BigRegion
import Derived.Laws.Externs
import Derived.Shelf.Spec.BitsCarry
import Derived.Deep.CutBlock
import Derived.Deep.CutRange
import Derived.Deep.DeepCutAuto
import Derived.Lib.BitFns
import Derived.Shelf.Small.Bits
import Derived.Shelf.Strconv.Itoa0
import Derived.Shelf.Bits.Mul64
import Derived.Lib.AppendZeros
import Derived.Laws.CopyOwn
import Derived.Lib.Overlaps
import Derived.Lib.AppendZerosOnto
import Derived.Laws.OwnMore
import Derived.Shelf.SlSortCmp.WholeK
import Derived.Deep.RegionHeld2
import Derived.Defers
import Derived.Recover
set_option maxRecDepth 100000
set_option maxHeartbeats 8000000
namespace Go.Proofs.YtaemgflhgdlmiaaGreat
def numb (k : Int) : Nat := (k % 18446744073709551616).toNat
theorem numb_lt (k : Int) : numb k < 18446744073709551616 := by unfold numb; omega
theorem numb_nat (n : Nat) (h : n < 18446744073709551616) : numb (n : Int) = n := by unfold numb; omega
theorem meant_numb (k : Int) (h1 : -9223372036854775808 ≤ k) (h2 : k < 9223372036854775808) : meant (numb k : Nat) = k := by unfold meant numb; split <;> omega
theorem numb_meant (n : Nat) (h : n < 18446744073709551616) : numb (meant n) = n := by unfold meant numb; split <;> omega
def letr (first : Bool) : Nat := if first then 8 else 7
def wrP : Bool → Int → List Pr → List Nat
  | _, _, [] => []
  | first, from_, x :: r => enc (letr first) (numb (x.1 - from_)) ++ (enc 7 x.2 ++ wrP false (x.1 + 1) r)
def ddB (A m : Nat) (l : List Pr) (f : Nat) : List Nat := enc 7 A ++ (enc 7 m ++ (enc 7 l.length ++ (enc 7 f ++ wrP true 0 l)))
def dnum (k : Nat) (l : List Nat) (at_ : Nat) : Option (Nat × Nat) := match dec k (l.drop at_) with
  | .ok (n, u) => some (n, at_ + u)
  | .error _ => none
def dsml (l : List Nat) (at_ : Nat) : Option (Nat × Nat) := match dnum 7 l at_ with
  | some (n, e) => if n ≤ 2097152 then some (n, e) else none
  | none => none
def dsgn (l : List Nat) (at_ : Nat) : Option (Int × Nat) := match dnum 8 l at_ with
  | some (n, e) => if -1048576 ≤ meant n ∧ meant n ≤ 1048576 then some (meant n, e) else none
  | none => none
def dstp (first : Bool) (l : List Nat) (at_ : Nat) : Option (Int × Nat) := if first then dsgn l at_ else match dsml l at_ with
  | some (n, e) => some ((n : Int), e)
  | none => none
def drdP (l : List Nat) : Nat → Bool → Int → Nat → List Pr → Option (List Pr × Nat)
  | 0, _, _, at_, acc => some (acc, at_)
  | j + 1, first, from_, at_, acc => match dstp first l at_ with
    | none => none
    | some (v, e) => match dnum 7 l e with
      | none => none
      | some (n, e2) => drdP l j false (from_ + v + 1) e2 (acc ++ [(from_ + v, n)])
def drdH (l : List Nat) : Option ((Nat × Nat) × Nat) := match dsml l 0 with
  | none => none
  | some (A, e) => match dsml l e with
    | none => none
    | some (m, e2) => some ((A, m), e2)
def drdQ (l : List Nat) : Option ((Nat × Nat × List Pr × Nat) × Nat) := match drdH l with
  | none => none
  | some ((A, m), e2) => match dsml l e2 with
    | none => none
    | some (many, e3) => match dnum 7 l e3 with
      | none => none
      | some (f, e4) => match drdP l many true 0 e4 [] with
        | none => none
        | some (L, e5) => some ((A, m, L, f), e5)
def RdOk (l : List Nat) (A m : Nat) (L : List Pr) (f : Nat) : Prop := drdQ l = some ((A, m, L, f), l.length) ∧ DdOk A m L f
theorem drop_app_len (pre x : List Nat) : (pre ++ x).drop pre.length = x := by simp
theorem dnum_enc (k n : Nat) (hk : k = 7 ∨ k = 8) (hn : n < 18446744073709551616) (pre post : List Nat) (e : Nat) (he : e = pre.length + (enc k n).length) : dnum k (pre ++ (enc k n ++ post)) pre.length = some (n, e) := by
  unfold dnum
  rw [drop_app_len, dec_enc k n post (by omega) hn (fits_big hn (by rcases hk with rfl | rfl <;> decide))]
  simp [he]
theorem dnum_sound {k n at_ e : Nat} {l : List Nat} (hk : k = 7 ∨ k = 8) (hb : ∀ x ∈ l, x < 256) (h : dnum k l at_ = some (n, e)) (ha : at_ ≤ l.length) : n < 18446744073709551616 ∧ e ≤ l.length ∧ l.drop at_ = enc k n ++ l.drop e := by
  unfold dnum at h
  split at h
  · rename_i n' u hd
    simp only [Option.some.injEq, Prod.mk.injEq] at h
    obtain ⟨rfl, rfl⟩ := h
    obtain ⟨h1, h2, -, h3⟩ := enc_dec k n' u (l.drop at_) (by omega) (fun x hx => hb x (List.mem_of_mem_drop hx)) hd
    rw [List.length_drop] at h1
    refine ⟨h3, by omega, ?_⟩
    rw [h2, ← List.drop_drop, List.take_append_drop]
  · cases h
theorem dsml_sound {n at_ e : Nat} {l : List Nat} (hb : ∀ x ∈ l, x < 256) (h : dsml l at_ = some (n, e)) (ha : at_ ≤ l.length) : n ≤ 2097152 ∧ e ≤ l.length ∧ l.drop at_ = enc 7 n ++ l.drop e := by
  unfold dsml at h
  split at h
  · rename_i n' e' hd
    split at h
    · simp only [Option.some.injEq, Prod.mk.injEq] at h
      obtain ⟨rfl, rfl⟩ := h
      have := dnum_sound (.inl rfl) hb hd ha
      exact ⟨by assumption, this.2⟩
    · cases h
  · cases h
theorem dstp_sound {first : Bool} {v : Int} {at_ e : Nat} {l : List Nat} (hb : ∀ x ∈ l, x < 256) (h : dstp first l at_ = some (v, e)) (ha : at_ ≤ l.length) : -2097152 ≤ v ∧ v ≤ 2097152 ∧ (first = false → 0 ≤ v) ∧ e ≤ l.length ∧ l.drop at_ = enc (letr first) (numb v) ++ l.drop e := by
  unfold dstp at h
  cases first with
  | true =>
    simp only [if_true] at h
    unfold dsgn at h
    split at h
    · rename_i n' e' hd
      split at h
      · simp only [Option.some.injEq, Prod.mk.injEq] at h
        obtain ⟨rfl, rfl⟩ := h
        obtain ⟨h1, h2, h3⟩ := dnum_sound (.inr rfl) hb hd ha
        rw [numb_meant _ h1]
        exact ⟨by omega, by omega, (fun h => by cases h), h2, h3⟩
      · cases h
    · cases h
  | false =>
    rw [if_neg (by decide)] at h
    split at h
    · rename_i n' e' hd
      simp only [Option.some.injEq, Prod.mk.injEq] at h
      obtain ⟨rfl, rfl⟩ := h
      obtain ⟨h1, h2, h3⟩ := dsml_sound hb hd ha
      rw [numb_nat _ (by omega)]
      exact ⟨by omega, by omega, (fun _ => by omega), h2, h3⟩
    · cases h
theorem drdP_sound {l : List Nat} (hb : ∀ x ∈ l, x < 256) : ∀ (j : Nat) (first : Bool) (from_ : Int) (at_ : Nat) (acc out : List Pr) (e : Nat), at_ ≤ l.length → drdP l j first from_ at_ acc = some (out, e) →
    ∃ L, out = acc ++ L ∧ L.length = j ∧ e ≤ l.length ∧ l.drop at_ = wrP first from_ L ++ l.drop e ∧ Srt L ∧ (∀ x ∈ L, x.2 < 18446744073709551616 ∧ from_ - 2097152 ≤ x.1 ∧ (first = false → from_ ≤ x.1))
  | 0, first, from_, at_, acc, out, e, ha, h => by
    rw [drdP] at h
    simp only [Option.some.injEq, Prod.mk.injEq] at h
    obtain ⟨rfl, rfl⟩ := h
    exact ⟨[], by simp, rfl, ha, by simp [wrP], srt_nil, fun x hx => by cases hx⟩
  | j + 1, first, from_, at_, acc, out, e, ha, h => by
    rw [drdP] at h
    split at h
    · cases h
    · rename_i v e1 hd1
      split at h
      · cases h
      · rename_i n e2 hd2
        obtain ⟨b1, b2, b3, b4, b5⟩ := dstp_sound hb hd1 ha
        obtain ⟨c1, c2, c3⟩ := dnum_sound (.inl rfl) hb hd2 b4
        obtain ⟨L, d1, d2, d3, d4, d5, d6⟩ := drdP_sound hb j false _ e2 _ out e c2 h
        refine ⟨(from_ + v, n) :: L, by rw [d1]; simp, by rw [List.length_cons, d2], d3, ?_, srt_cons.2 ⟨fun y hy => ?_, d5⟩, fun x hx => ?_⟩
        · rw [b5, c3, d4, wrP]
          simp only
          rw [show from_ + v - from_ = v by omega]
          simp [List.append_assoc]
        · have := (d6 y hy).2.2 rfl
          show from_ + v < y.1
          omega
        · rcases List.mem_cons.1 hx with rfl | hx
          · exact ⟨c1, by show from_ - 2097152 ≤ from_ + v; omega, fun hf => by have := b3 hf; show from_ ≤ from_ + v; omega⟩
          · have h6 := d6 x hx
            have h7 := h6.2.2 rfl
            exact ⟨h6.1, by omega, fun hf => by have := b3 hf; omega⟩
def StepsOk : Bool → Int → List Pr → Prop
  | _, _, [] => True
  | first, from_, x :: r => (if first then -1048576 ≤ x.1 - from_ ∧ x.1 - from_ ≤ 1048576 else 0 ≤ x.1 - from_ ∧ x.1 - from_ ≤ 2097152) ∧ x.2 < 18446744073709551616 ∧ StepsOk false (x.1 + 1) r
theorem dstp_enc {first : Bool} {v : Int} (hv : if first then -1048576 ≤ v ∧ v ≤ 1048576 else 0 ≤ v ∧ v ≤ 2097152) (pre post : List Nat) (e : Nat) (he : e = pre.length + (enc (letr first) (numb v)).length) : dstp first (pre ++ (enc (letr first) (numb v) ++ post)) pre.length = some (v, e) := by
  unfold dstp
  cases first with
  | true =>
    simp only [if_true] at hv ⊢
    unfold dsgn
    rw [show letr true = 8 from rfl, dnum_enc 8 _ (.inr rfl) (numb_lt v) pre post e he]
    simp only
    rw [meant_numb v (by omega) (by omega), if_pos hv]
  | false =>
    rw [if_neg (by decide)] at hv ⊢
    unfold dsml
    rw [show letr false = 7 from rfl, dnum_enc 7 _ (.inl rfl) (numb_lt v) pre post e he]
    simp only
    obtain ⟨n, rfl⟩ : ∃ n : Nat, v = (n : Int) := ⟨v.toNat, by omega⟩
    rw [numb_nat n (by omega), if_pos (by omega)]
theorem drdP_back : ∀ (L : List Pr) (first : Bool) (from_ : Int) (pre post : List Nat) (acc : List Pr) (e : Nat), StepsOk first from_ L → e = pre.length + (wrP first from_ L).length →
    drdP (pre ++ (wrP first from_ L ++ post)) L.length first from_ pre.length acc = some (acc ++ L, e)
  | [], first, from_, pre, post, acc, e, _, he => by
    simp [drdP, wrP] at he ⊢
    exact he.symm
  | x :: r, first, from_, pre, post, acc, e, h, he => by
    obtain ⟨h1, h2, h3⟩ := h
    rw [List.length_cons, drdP, wrP]
    have e1 : pre ++ (enc (letr first) (numb (x.1 - from_)) ++ (enc 7 x.2 ++ wrP false (x.1 + 1) r) ++ post) = pre ++ (enc (letr first) (numb (x.1 - from_)) ++ (enc 7 x.2 ++ (wrP false (x.1 + 1) r ++ post))) := by simp [List.append_assoc]
    rw [e1, dstp_enc h1 pre _ _ rfl]
    simp only
    have e2 : pre ++ (enc (letr first) (numb (x.1 - from_)) ++ (enc 7 x.2 ++ (wrP false (x.1 + 1) r ++ post))) = (pre ++ enc (letr first) (numb (x.1 - from_))) ++ (enc 7 x.2 ++ (wrP false (x.1 + 1) r ++ post)) := by simp [List.append_assoc]
    have l2 : pre.length + (enc (letr first) (numb (x.1 - from_))).length = (pre ++ enc (letr first) (numb (x.1 - from_))).length := by rw [List.length_append]
    rw [e2, l2, dnum_enc 7 x.2 (.inl rfl) h2 _ _ _ rfl]
    simp only
    have e3 : (pre ++ enc (letr first) (numb (x.1 - from_))) ++ (enc 7 x.2 ++ (wrP false (x.1 + 1) r ++ post)) = (pre ++ enc (letr first) (numb (x.1 - from_)) ++ enc 7 x.2) ++ (wrP false (x.1 + 1) r ++ post) := by simp [List.append_assoc]
    have l3 : (pre ++ enc (letr first) (numb (x.1 - from_))).length + (enc 7 x.2).length = (pre ++ enc (letr first) (numb (x.1 - from_)) ++ enc 7 x.2).length := by rw [List.length_append (bs := enc 7 x.2)]
    rw [e3, l3, show from_ + (x.1 - from_) + 1 = x.1 + 1 by omega, show from_ + (x.1 - from_) = x.1 by omega]
    rw [drdP_back r false (x.1 + 1) _ post _ e h3 (by rw [he, wrP]; simp only [List.length_append]; omega)]
    simp
theorem stepsOk_of : ∀ (L : List Pr) (k : Int), Srt L → (∀ x ∈ L, k ≤ x.1 ∧ -1048576 ≤ x.1 ∧ x.1 ≤ 1048576 ∧ x.2 < 18446744073709551616) → -1048576 ≤ k → StepsOk false k L
  | [], _, _, _, _ => trivial
  | x :: r, k, hs, h, hk => by
    have h1 := h x List.mem_cons_self
    have h2 := srt_cons.1 hs
    refine ⟨by rw [if_neg (by decide)]; omega, h1.2.2.2, stepsOk_of r _ h2.2 (fun y hy => ?_) (by omega)⟩
    have h3 := h y (List.mem_cons_of_mem _ hy)
    have h4 := h2.1 y hy
    exact ⟨by omega, h3.2⟩
theorem stepsOk_first (L : List Pr) (hs : Srt L) (h : ∀ x ∈ L, -1048576 ≤ x.1 ∧ x.1 ≤ 1048576 ∧ x.2 < 18446744073709551616) : StepsOk true 0 L := by
  cases L with
  | nil => trivial
  | cons x r =>
    have h1 := h x List.mem_cons_self
    have h2 := srt_cons.1 hs
    refine ⟨by rw [if_pos rfl]; omega, h1.2.2, stepsOk_of r _ h2.2 (fun y hy => ?_) (by omega)⟩
    have h3 := h y (List.mem_cons_of_mem _ hy)
    have h4 := h2.1 y hy
    exact ⟨by omega, h3⟩
theorem dsml_enc (n : Nat) (hn : n ≤ 2097152) (pre post : List Nat) (e : Nat) (he : e = pre.length + (enc 7 n).length) : dsml (pre ++ (enc 7 n ++ post)) pre.length = some (n, e) := by
  unfold dsml
  rw [dnum_enc 7 n (.inl rfl) (by omega) pre post e he]
  simp only
  rw [if_pos hn]
theorem ddOk_good {A m f : Nat} {L : List Pr} (h : DdOk A m L f) : StepsOk true 0 L ∧ f < 18446744073709551616 ∧ A ≤ 2097152 ∧ m ≤ 2097152 ∧ L.length ≤ 2097152 := by
  have hg := h.ld.good
  have h3 := h.ld.m3
  have h4 := h.ld.len
  have h5 := h.a2
  have ht := hg.tot
  refine ⟨stepsOk_first L hg.srt fun x hx => ⟨(hg.all x hx).1, (hg.all x hx).2, ?_⟩, ?_, by omega, by omega, by omega⟩
  · have h1 := cnt_mem hg.srt hx
    have h2 := cnt_tot L x.1
    omega
  · rcases h.ld.fold with h6 | ⟨-, x, t, h6, h7, -⟩
    · omega
    · have h1 := cnt_mem hg.srt (x := x) (by rw [h6]; exact List.mem_cons_self)
      have h2 := cnt_tot L x.1
      omega
theorem drdQ_steps {l : List Nat} {A m many f e1 e2 e3 e4 e5 : Nat} {L : List Pr} (r1 : dsml l 0 = some (A, e1)) (r2 : dsml l e1 = some (m, e2)) (r3 : dsml l e2 = some (many, e3)) (r4 : dnum 7 l e3 = some (f, e4)) (r5 : drdP l many true 0 e4 [] = some (L, e5)) : drdQ l = some ((A, m, L, f), e5) := by
  have hh : drdH l = some ((A, m), e2) := by
    unfold drdH
    rw [r1]
    simp only
    rw [r2]
  unfold drdQ
  rw [hh]
  simp only
  rw [r3]
  simp only
  rw [r4]
  simp only
  rw [r5]
theorem drdQ_back {A m f : Nat} {L : List Pr} (h : DdOk A m L f) (post : List Nat) : drdQ (ddB A m L f ++ post) = some ((A, m, L, f), (ddB A m L f).length) := by
  obtain ⟨h1, h2, h3, h4, h5⟩ := ddOk_good h
  obtain ⟨a, ea⟩ : ∃ a, enc 7 A = a := ⟨_, rfl⟩
  obtain ⟨b, eb⟩ : ∃ a, enc 7 m = a := ⟨_, rfl⟩
  obtain ⟨c, ec⟩ : ∃ a, enc 7 L.length = a := ⟨_, rfl⟩
  obtain ⟨d, ed⟩ : ∃ a, enc 7 f = a := ⟨_, rfl⟩
  obtain ⟨x, ex⟩ : ∃ a, wrP true 0 L = a := ⟨_, rfl⟩
  have s1 := fun post => dsml_enc A h3 [] post _ rfl
  have s2 := fun pre post => dsml_enc m h4 pre post _ rfl
  have s3 := fun pre post => dsml_enc L.length h5 pre post _ rfl
  have s4 := fun pre post => dnum_enc 7 f (.inl rfl) h2 pre post _ rfl
  have s5 := fun pre post => drdP_back L true 0 pre post [] _ h1 rfl
  rw [ea] at s1
  rw [eb] at s2
  rw [ec] at s3
  rw [ed] at s4
  rw [ex] at s5
  unfold ddB
  rw [ea, eb, ec, ed, ex]
  clear ea eb ec ed ex h1 h2 h3 h4 h5 h
  have r1 := s1 (b ++ (c ++ (d ++ (x ++ post))))
  have r2 := s2 a (c ++ (d ++ (x ++ post)))
  have r3 := s3 (a ++ b) (d ++ (x ++ post))
  have r4 := s4 (a ++ b ++ c) (x ++ post)
  have r5 := s5 (a ++ b ++ c ++ d) post
  simp only [List.append_assoc, List.nil_append, List.length_append, List.length_nil, Nat.zero_add, Nat.add_assoc] at r1 r2 r3 r4 r5 ⊢
  exact drdQ_steps r1 r2 r3 r4 r5
theorem drdQ_sound {l : List Nat} (hb : ∀ x ∈ l, x < 256) {A m f e : Nat} {L : List Pr} (h : drdQ l = some ((A, m, L, f), e)) : l = ddB A m L f ++ l.drop e ∧ e ≤ l.length ∧ Srt L ∧ ∀ x ∈ L, x.2 < 18446744073709551616 := by
  unfold drdQ drdH at h
  split at h
  · cases h
  · rename_i A' m' e2 hh
    split at hh
    · cases hh
    · rename_i A'' e1 r1
      split at hh
      · cases hh
      · rename_i m'' e2' r2
        simp only [Option.some.injEq, Prod.mk.injEq] at hh
        obtain ⟨⟨rfl, rfl⟩, rfl⟩ := hh
        split at h
        · cases h
        · rename_i many e3 r3
          split at h
          · cases h
          · rename_i f' e4 r4
            split at h
            · cases h
            · rename_i L' e5 r5
              simp only [Option.some.injEq, Prod.mk.injEq] at h
              obtain ⟨⟨rfl, rfl, rfl, rfl⟩, rfl⟩ := h
              obtain ⟨-, s1, t1⟩ := dsml_sound hb r1 (Nat.zero_le _)
              obtain ⟨-, s2, t2⟩ := dsml_sound hb r2 s1
              obtain ⟨-, s3, t3⟩ := dsml_sound hb r3 s2
              obtain ⟨-, s4, t4⟩ := dnum_sound (.inl rfl) hb r4 s3
              obtain ⟨L2, u1, u2, u3, u4, u5, u6⟩ := drdP_sound hb _ _ _ _ _ _ _ s4 r5
              obtain rfl : L' = L2 := by simpa using u1
              refine ⟨?_, u3, u5, fun x hx => (u6 x hx).1⟩
              rw [List.drop_zero] at t1
              rw [ddB, u2]
              simp only [List.append_assoc]
              rw [← u4, ← t4, ← t3, ← t2, ← t1]
theorem rdOk_iff {l : List Nat} (hb : ∀ x ∈ l, x < 256) {A m f : Nat} {L : List Pr} : RdOk l A m L f ↔ l = ddB A m L f ∧ DdOk A m L f := by
  constructor
  · intro h
    have := (drdQ_sound hb h.1).1
    rw [List.drop_length, List.append_nil] at this
    exact ⟨this, h.2⟩
  · rintro ⟨rfl, h⟩
    refine ⟨?_, h⟩
    have := drdQ_back h []
    rw [List.append_nil] at this
    exact this
theorem wrP_lt : ∀ (L : List Pr) (first : Bool) (from_ : Int), ∀ x ∈ wrP first from_ L, x < 256
  | [], _, _, x, hx => by simp [wrP] at hx
  | y :: r, first, from_, x, hx => by
    rw [wrP] at hx
    simp only [List.mem_append] at hx
    rcases hx with hx | hx | hx
    · exact enc_lt _ _ (by unfold letr; split <;> decide) x hx
    · exact enc_lt 7 _ (by decide) x hx
    · exact wrP_lt r _ _ x hx
theorem ddB_lt (A m : Nat) (L : List Pr) (f : Nat) : ∀ x ∈ ddB A m L f, x < 256 := by
  intro x hx
  rw [ddB] at hx
  simp only [List.mem_append] at hx
  rcases hx with hx | hx | hx | hx | hx
  · exact enc_lt 7 _ (by decide) x hx
  · exact enc_lt 7 _ (by decide) x hx
  · exact enc_lt 7 _ (by decide) x hx
  · exact enc_lt 7 _ (by decide) x hx
  · exact wrP_lt _ _ _ x hx
theorem wrP_len : ∀ (L : List Pr) (first : Bool) (from_ : Int), (wrP first from_ L).length ≤ 20 * L.length
  | [], _, _ => by simp [wrP]
  | y :: r, first, from_ => by
    have h1 := enc_length (letr first) (numb (y.1 - from_)) (by unfold letr; split <;> decide)
    have h2 := enc_length 7 y.2 (by decide)
    have h3 := wrP_len r false (y.1 + 1)
    rw [wrP, List.length_append, List.length_append, List.length_cons]
    omega
theorem ddB_len (A m : Nat) (L : List Pr) (f : Nat) : (ddB A m L f).length ≤ 40 + 20 * L.length := by
  have h1 := enc_length 7 A (by decide)
  have h2 := enc_length 7 m (by decide)
  have h3 := enc_length 7 L.length (by decide)
  have h4 := enc_length 7 f (by decide)
  have h5 := wrP_len L true 0
  simp only [ddB, List.length_append]
  omega
end Go.Proofs.YtaemgflhgdlmiaaGreat

namespace Go.Proofs.YtaemgflhgdlmiaaGreat
open Go.RowKit
structure RowNew (w w' : World) (v : Value) (l : List Nat) : Prop where
  own : w'.ownsRow 0 5 1 v l.length (u8s l)
  fresh : Fresh w v
theorem bclone_any (q : Option Addr) (d : Nat) (l : List Nat) (w : World) (hl : SlI w .u8 q l) (hq : q = none → d = 0) (hL : l.length ≤ 140737488355328) :
    Calls Tryz.prog 86 #[.slice q l.length d] w fun e w' => ∃ v, e = .returned v ∧ Fr S0 w w' ∧ RowNew w w' v l := by
  have hnil : ∀ (w : World) (a : Option Addr) (n c n' c' : Nat), (binOp .eql 30 (.slice a n c) (.slice none n' c')).run Tryz.prog w = .ok (.bool a.isNone) w := fun w a n c n' c' => Lib.run_eql_slice_nil w _ _ a n c n' c' Tryz.underlying30
  cases q with
  | none =>
    obtain rfl : l = [] := by
      by_cases h : l = []
      · exact h
      · obtain ⟨b, o, hp, -⟩ := hl.2 h
        cases hp
    obtain rfl := hq rfl
    go_enter Tryz.func86, Tryz.ntmps86
    go_wp2
    go_ret
    exact ⟨_, rfl, Fr.refl _ _, World.ownsRow_nil _ _ _ _, fresh_nil _ _⟩
  | some a =>
    have HR : Hid (l.length * 1 ≤ 140737488355328 ∧ l.length ≤ maxLen) := Lib.hid ⟨by omega, by unfold maxLen; omega⟩
    have hs := SrcIs.ofSl (hl.fr0 (Fr.alloc S0 w (.cells #[] 5))) hq
    clear hl hL hq
    go_enter Tryz.func86, Tryz.ntmps86
    go_wp2_with (first
      | ((with_reducible show wpList _ _ _ (Oper.mk (some 7) _ _ _ _ _ :: _) _ _); refine app_many_big el8 (.tmp 5) (.tmp 6) (own_none w _) hs (Nat.zero_add _) rfl rfl rfl rfl (ones _) HR.out.1 HR.out.2 ?_; intro p1 c1 w1 own1 g1 at1; have f1 := fr_made (Fr.refl S0 w) g1; have v1 := fresh_many (fresh_made (n := 0) (c := 0) (Fr.refl S0 w)) (size_le (Fr.refl S0 w)) at1; clear g1 at1)
      | fail)
    go_ret
    exact ⟨_, rfl, f1, by rw [List.nil_append] at own1; exact own1, v1⟩
theorem rnew_any (q : Option Addr) (d n : Nat) (l : List Nat) (w : World) (hn : l.length = n) (hl : SlI w .u8 q l) (h8 : ∀ x ∈ l, x < 256) (hq : q = none → d = 0) (hL : n ≤ 1000000) :
    Calls Tryz.prog 58 #[.slice q n d] w fun e w' => ∃ g p c, e = .returned (.pointer (some ⟨g, 0, none⟩)) ∧ wRdIs w' g p c l 0 ∧ w.heap.size ≤ g ∧ Fr S0 w w' := by
  subst hn
  have HC := Lib.hid (bclone_any q d l w hl hq (by omega))
  have H8 := Lib.hid h8
  clear hl h8 hq
  go_enter Tryz.func58, Tryz.ntmps58
  go_wp2_with fail
  refine HC.out.mono ?_
  rintro e w1 ⟨v, rfl, f1, r1⟩
  obtain ⟨p, c, rfl, -⟩ := slForm r1.own
  have HR := Lib.hid r1
  have F1 := Lib.hid f1
  clear f1 r1 HC
  go_wp2_with fail
  go_ret
  have hs : SlI w1 .u8 p l := SlI.ofOwns HR.out.own
  have hg : ∀ a, p = some a → a.block < w1.heap.size := fun a ha => by
    by_cases h0 : l = []
    · rcases HR.out.own.2 with ⟨h1, -⟩ | ⟨g', cap, cur, h1, h2⟩
      · subst ha
        simp at h1
      · have h3 := (HR.out.own.lt g' (by rw [h1]; rfl)).2
        subst ha
        simp only [Value.slice.injEq, Option.some.injEq] at h1
        rw [h1.1]
        exact h3
    · exact hs.lt h0 a ha
  exact ⟨w1.heap.size, p, c, rfl, ⟨heap_alloc_new w1 _, hs.fr0 (Fr.alloc _ _ _), fun _ a ha e => Nat.ne_of_lt (hg a ha) e, Nat.zero_le _, H8.out⟩, F1.out.size, F1.out.trans0 (Fr.alloc _ _ _)⟩
def dgup : List PanicEntry := [{ v := .iface 121 (.agg #[]), recovered := false }]
theorem ddemand_yes (w : World) :
    Calls Tryz.prog 60 #[.bool true] w fun e w' => e = .returned (.tuple #[]) ∧ w = w' := by
  go_enter Tryz.func60, Tryz.ntmps60
  go_wp2
  go_end0
  exact ⟨rfl, rfl⟩
theorem ddemand_no (w : World) :
    Calls Tryz.prog 60 #[.bool false] w fun e w' => e = Ending.panicked dgup ∧ w = w' := by
  go_enter Tryz.func60, Tryz.ntmps60
  go_wp2
  exact ⟨rfl, rfl, rfl⟩
def NextEnds (w w' : World) (g : Nat) (p : Option Addr) (c : Nat) (l : List Nat) (at_ : Nat) (e : Ending) : Except Nat (Nat × Nat) → Prop
  | .ok (n, k) => e = .returned (.tuple #[.int .u64 n, .int .i64 0]) ∧ n < 18446744073709551616 ∧ wRdTo w w' g p c l (at_ + k)
  | .error x => e = .returned (.tuple #[.int .u64 0, .int .i64 x]) ∧ (x = 20 ∨ x = 21) ∧ Fr (· = g) w w'
theorem wnext_any (k g at_ c : Nat) (p : Option Addr) (l : List Nat) (w : World) (hk : k < 10) (h : wRdIs w g p c l at_) :
    Calls Tryz.prog 112 #[.pointer (some ⟨g, 0, none⟩), .int .u8 ((fRow k).1 : Nat)] w fun e w' => NextEnds w w' g p c l at_ e (dec k (l.drop at_)) := by
  have HF := Lib.hid (formOf_yes' k _ hk rfl w)
  have HG : Hid (∀ W, Fr S0 w W → Calls Tryz.prog (fRow k).2.2.2 #[.pointer (some ⟨g, 0, none⟩), .int .i64 ((fRow k).2.1 : Nat)] W fun e w' => RdPost W w' g p c l at_ e (dec k (l.drop at_))) := Lib.hid (fun W f => get_row g at_ c p l W (h.fr f (fun h => h) (fun _ => Off.s0 p)) k hk)
  have HI := Lib.hid h
  have hen := fun args w => enter_get k hk args w
  obtain ⟨C, eC⟩ : ∃ C, (fRow k).1 = C := ⟨_, rfl⟩
  obtain ⟨M, eM⟩ : ∃ C, (fRow k).2.1 = C := ⟨_, rfl⟩
  obtain ⟨FW, eW⟩ : ∃ C, (fRow k).2.2.1 = C := ⟨_, rfl⟩
  obtain ⟨FR, eR⟩ : ∃ C, (fRow k).2.2.2 = C := ⟨_, rfl⟩
  rw [eC, eM, eW, eR] at HF
  rw [eM, eR] at HG
  rw [eR] at hen
  rw [eC]
  generalize dec k (l.drop at_) = R at HG ⊢
  clear h eC eM eW eR hk
  go_enter Tryz.func112, Tryz.ntmps112
  go_wp2_with fail
  refine HF.out.mono ?_
  rintro e w1 ⟨rfl, f1⟩
  have F1 := Lib.hid f1
  clear f1 HF
  have FA := Lib.hid (F1.out.trans0 (Fr.alloc S0 w1 (.cells #[.int .u8 (C : Nat), .int .i64 (M : Nat), .func (.func FW) #[] #[], .func (.func FR) #[] #[]] 153)))
  have hbx := heap_alloc_new w1 (.cells #[.int .u8 (C : Nat), .int .i64 (M : Nat), .func (.func FW) #[] #[], .func (.func FR) #[] #[]] 153)
  have c0 := (HI.out.fr FA.out (fun h => h) (fun _ => Off.s0 p)).c1
  rw [Nat.zero_add] at c0
  go_wp2_with fail
  refine (HG.out _ FA.out).mono ?_
  rintro e w3 hR
  cases R with
  | ok a =>
    obtain ⟨n, k⟩ := a
    obtain ⟨rfl, hn, ht⟩ := hR
    have HT := Lib.hid (And.intro hn ht)
    clear ht hn c0 hbx HG hen
    go_wp2_with fail
    go_ret2
    exact ⟨rfl, HT.out.1, HT.out.2.is, (FA.out.mono fun _ _ e => e.elim).trans HT.out.2.fr fun _ _ e => e⟩
  | error x =>
    obtain ⟨rfl, hx, a, ht⟩ := hR
    have HT := Lib.hid ht
    have c1 := ht.is.c1
    have z1 := ht.is.f1
    rw [Nat.zero_add] at c1
    have e1 : ((x : Int) != 0) = true := by rw [bne_iff_ne]; omega
    have HX := Lib.hid hx
    clear ht c0 hbx HG hen hx
    go_wp2_with fail
    go_ret2
    exact ⟨rfl, HX.out, ((FA.out.mono fun _ _ e => e.elim).trans HT.out.fr fun _ _ e => e).trans (Fr.setCell (· = g) _ ⟨g, 1, none⟩ _ rfl) fun _ _ e => e⟩
def OptE (w w' : World) (g : Nat) (p : Option Addr) (c : Nat) (l : List Nat) (e : Ending) : Option (Value × Nat) → Prop
  | some (v, at_) => e = .returned v ∧ wRdTo w w' g p c l at_
  | none => e = .panicked dgup ∧ Fr (· = g) w w'
def srcV (g : Nat) : Value := .agg #[.pointer (some ⟨g, 0, none⟩)]
theorem wRdTo.from0 {w w1 w2 : World} {g : Nat} {p : Option Addr} {c : Nat} {l : List Nat} {a : Nat} (f : Fr S0 w w1) (t : wRdTo w1 w2 g p c l a) : wRdTo w w2 g p c l a := ⟨t.is, (f.mono fun _ _ e => e.elim).trans t.fr fun _ _ e => e⟩
theorem wRdTo.on {w w1 w2 : World} {g : Nat} {p : Option Addr} {c : Nat} {l : List Nat} {a : Nat} (t : wRdTo w w1 g p c l a) (f : Fr S0 w1 w2) : wRdTo w w2 g p c l a := ⟨t.is.fr f (fun h => h) (fun _ => Off.s0 p), t.fr.trans0 f⟩
theorem boxed1 {w : World} {v : Value} {t : TypeId} {W : World} (f : Fr S0 (w.alloc (.cells #[v] t)) W) : W.cell? ⟨w.heap.size, 0, none⟩ = some v := by
  have h := f.row (heap_alloc_new w (.cells #[v] t)) (fun h => h)
  simp [World.cell?, h]
def numR (k : Nat) (l : List Nat) (at_ : Nat) : Option (Value × Nat) := (dnum k l at_).map fun x => (.int .u64 (x.1 : Nat), x.2)
theorem number7_any (g at_ c : Nat) (p : Option Addr) (l : List Nat) (w : World) (h : wRdIs w g p c l at_) :
    Calls Tryz.prog 87 #[srcV g, .string ⟨#[118]⟩] w fun e w' => OptE w w' g p c l e (numR 7 l at_) := by
  have FA := Lib.hid (Fr.alloc S0 w (.cells #[.pointer (some ⟨g, 0, none⟩)] 76))
  have HN : Hid (∀ W, Fr S0 w W → Calls Tryz.prog 112 #[.pointer (some ⟨g, 0, none⟩), .int .u8 118] W fun e w' => NextEnds W w' g p c l at_ e (dec 7 (l.drop at_))) := Lib.hid (fun W f => wnext_any 7 g at_ c p l W (by decide) (h.fr f (fun h => h) (fun _ => Off.s0 p)))
  have hix : ∀ W, (Instr.index 9 (.string ⟨#[118]⟩) (.int .i64 0)).run Tryz.prog W = .ok (.int .u8 118) W := fun W => by kernel_rfl
  have cb : (w.alloc (.cells #[.pointer (some ⟨g, 0, none⟩)] 76)).cell? ⟨w.heap.size, 0, none⟩ = some (.pointer (some ⟨g, 0, none⟩)) := boxed1 (Fr.refl S0 _)
  clear h
  unfold numR dnum srcV
  generalize dec 7 (l.drop at_) = R at HN ⊢
  cases R with
  | ok a =>
    obtain ⟨n, k⟩ := a
    have HN2 : Hid (∀ W, Fr S0 w W → Calls Tryz.prog 112 #[.pointer (some ⟨g, 0, none⟩), .int .u8 118] W fun e w' => e = .returned (.tuple #[.int .u64 n, .int .i64 0]) ∧ wRdTo w w' g p c l (at_ + k)) := Lib.hid fun W f => (HN.out W f).mono fun _ _ h => ⟨h.1, h.2.2.from0 f⟩
    clear HN
    go_enter Tryz.func87, Tryz.ntmps87
    go_wp2_with fail
    go_region_law (first
      | (go_simp; go_at_call 112; (with_reducible refine (HN2.out _ (FA.out.trans0 (Fr.drew S0 _))).mono ?_); rintro _ w2 ⟨rfl, t2⟩; have T2 := Lib.hid t2; clear t2; dsimp only))
    all_goals
      go_wp2_with fail
      refine (ddemand_yes _).mono ?_
      rintro e w3 ⟨rfl, rfl⟩
      go_wp2_with fail
      go_ret
      exact ⟨rfl, T2.out⟩
  | error x =>
    have HN2 : Hid (∀ W, Fr S0 w W → Calls Tryz.prog 112 #[.pointer (some ⟨g, 0, none⟩), .int .u8 118] W fun e w' => e = .returned (.tuple #[.int .u64 0, .int .i64 x]) ∧ (x = 20 ∨ x = 21) ∧ Fr (· = g) w w') := Lib.hid fun W f => (HN.out W f).mono fun _ _ h => ⟨h.1, h.2.1, (f.mono fun _ _ e => e.elim).trans h.2.2 fun _ _ e => e⟩
    clear HN
    go_enter Tryz.func87, Tryz.ntmps87
    go_wp2_with fail
    go_region_law (first
      | (go_simp; go_at_call 112; (with_reducible refine (HN2.out _ (FA.out.trans0 (Fr.drew S0 _))).mono ?_); rintro _ w2 ⟨rfl, hx, t2⟩; have T2 := Lib.hid t2; have HX := Lib.hid hx; clear t2 hx; dsimp only))
    all_goals
      have e1 : ((x : Int) == 0) = false := by rw [beq_eq_false_iff_ne]; have := HX.out; omega
      go_wp2_with fail
      refine (ddemand_no _).mono ?_
      rintro e w3 ⟨rfl, rfl⟩
      exact ⟨rfl, rfl, T2.out⟩
theorem number8_any (g at_ c : Nat) (p : Option Addr) (l : List Nat) (w : World) (h : wRdIs w g p c l at_) :
    Calls Tryz.prog 87 #[srcV g, .string ⟨#[122]⟩] w fun e w' => OptE w w' g p c l e (numR 8 l at_) := by
  have FA := Lib.hid (Fr.alloc S0 w (.cells #[.pointer (some ⟨g, 0, none⟩)] 76))
  have HN : Hid (∀ W, Fr S0 w W → Calls Tryz.prog 112 #[.pointer (some ⟨g, 0, none⟩), .int .u8 122] W fun e w' => NextEnds W w' g p c l at_ e (dec 8 (l.drop at_))) := Lib.hid (fun W f => wnext_any 8 g at_ c p l W (by decide) (h.fr f (fun h => h) (fun _ => Off.s0 p)))
  have hix : ∀ W, (Instr.index 9 (.string ⟨#[122]⟩) (.int .i64 0)).run Tryz.prog W = .ok (.int .u8 122) W := fun W => by kernel_rfl
  have cb : (w.alloc (.cells #[.pointer (some ⟨g, 0, none⟩)] 76)).cell? ⟨w.heap.size, 0, none⟩ = some (.pointer (some ⟨g, 0, none⟩)) := boxed1 (Fr.refl S0 _)
  clear h
  unfold numR dnum srcV
  generalize dec 8 (l.drop at_) = R at HN ⊢
  cases R with
  | ok a =>
    obtain ⟨n, k⟩ := a
    have HN2 : Hid (∀ W, Fr S0 w W → Calls Tryz.prog 112 #[.pointer (some ⟨g, 0, none⟩), .int .u8 122] W fun e w' => e = .returned (.tuple #[.int .u64 n, .int .i64 0]) ∧ wRdTo w w' g p c l (at_ + k)) := Lib.hid fun W f => (HN.out W f).mono fun _ _ h => ⟨h.1, h.2.2.from0 f⟩
    clear HN
    go_enter Tryz.func87, Tryz.ntmps87
    go_wp2_with fail
    go_region_law (first
      | (go_simp; go_at_call 112; (with_reducible refine (HN2.out _ (FA.out.trans0 (Fr.drew S0 _))).mono ?_); rintro _ w2 ⟨rfl, t2⟩; have T2 := Lib.hid t2; clear t2; dsimp only))
    all_goals
      go_wp2_with fail
      refine (ddemand_yes _).mono ?_
      rintro e w3 ⟨rfl, rfl⟩
      go_wp2_with fail
      go_ret
      exact ⟨rfl, T2.out⟩
  | error x =>
    have HN2 : Hid (∀ W, Fr S0 w W → Calls Tryz.prog 112 #[.pointer (some ⟨g, 0, none⟩), .int .u8 122] W fun e w' => e = .returned (.tuple #[.int .u64 0, .int .i64 x]) ∧ (x = 20 ∨ x = 21) ∧ Fr (· = g) w w') := Lib.hid fun W f => (HN.out W f).mono fun _ _ h => ⟨h.1, h.2.1, (f.mono fun _ _ e => e.elim).trans h.2.2 fun _ _ e => e⟩
    clear HN
    go_enter Tryz.func87, Tryz.ntmps87
    go_wp2_with fail
    go_region_law (first
      | (go_simp; go_at_call 112; (with_reducible refine (HN2.out _ (FA.out.trans0 (Fr.drew S0 _))).mono ?_); rintro _ w2 ⟨rfl, hx, t2⟩; have T2 := Lib.hid t2; have HX := Lib.hid hx; clear t2 hx; dsimp only))
    all_goals
      have e1 : ((x : Int) == 0) = false := by rw [beq_eq_false_iff_ne]; have := HX.out; omega
      go_wp2_with fail
      refine (ddemand_no _).mono ?_
      rintro e w3 ⟨rfl, rfl⟩
      exact ⟨rfl, rfl, T2.out⟩
theorem count_any (g at_ c : Nat) (p : Option Addr) (l : List Nat) (w : World) (h : wRdIs w g p c l at_) :
    Calls Tryz.prog 63 #[srcV g] w fun e w' => OptE w w' g p c l e (numR 7 l at_) := by
  have FA := Lib.hid (Fr.alloc S0 w (.cells #[.pointer (some ⟨g, 0, none⟩)] 76))
  have HN := Lib.hid (fun W (f : Fr S0 w W) => number7_any g at_ c p l W (h.fr f (fun h => h) (fun _ => Off.s0 p)))
  have cb : (w.alloc (.cells #[.pointer (some ⟨g, 0, none⟩)] 76)).cell? ⟨w.heap.size, 0, none⟩ = some (.pointer (some ⟨g, 0, none⟩)) := boxed1 (Fr.refl S0 _)
  clear h
  unfold srcV at *
  generalize numR 7 l at_ = R at HN ⊢
  go_enter Tryz.func63, Tryz.ntmps63
  go_wp2_with fail
  refine (HN.out _ FA.out).mono ?_
  rintro e w1 hR
  cases R with
  | some a =>
    obtain ⟨v, k⟩ := a
    obtain ⟨rfl, ht⟩ := hR
    have HT := Lib.hid (ht.from0 FA.out)
    clear ht HN
    go_wp2_with fail
    go_ret
    exact ⟨rfl, HT.out⟩
  | none =>
    obtain ⟨rfl, ht⟩ := hR
    exact ⟨rfl, rfl, (FA.out.mono fun _ _ e => e.elim).trans ht fun _ _ e => e⟩
def smlR (l : List Nat) (at_ : Nat) : Option (Value × Nat) := (dsml l at_).map fun x => (.int .i64 (x.1 : Nat), x.2)
def sgnR (l : List Nat) (at_ : Nat) : Option (Value × Nat) := (dsgn l at_).map fun x => (.int .i64 x.1, x.2)
theorem small_any (g at_ c : Nat) (p : Option Addr) (l : List Nat) (w : World) (h : wRdIs w g p c l at_) :
    Calls Tryz.prog 62 #[srcV g] w fun e w' => OptE w w' g p c l e (smlR l at_) := by
  have FA := Lib.hid (Fr.alloc S0 w (.cells #[.pointer (some ⟨g, 0, none⟩)] 76))
  have HN := Lib.hid (fun W (f : Fr S0 w W) => count_any g at_ c p l W (h.fr f (fun h => h) (fun _ => Off.s0 p)))
  have cb : (w.alloc (.cells #[.pointer (some ⟨g, 0, none⟩)] 76)).cell? ⟨w.heap.size, 0, none⟩ = some (.pointer (some ⟨g, 0, none⟩)) := boxed1 (Fr.refl S0 _)
  have HB : Hid (∀ n e, dnum 7 l at_ = some (n, e) → n < 18446744073709551616) := Lib.hid fun n e hh => (dnum_sound (.inl rfl) h.bd hh h.le).1
  clear h
  unfold smlR dsml
  unfold numR at HN
  unfold srcV at *
  generalize dnum 7 l at_ = R at HN HB ⊢
  cases R with
  | none =>
    go_enter Tryz.func62, Tryz.ntmps62
    go_wp2_with fail
    refine (HN.out _ FA.out).mono ?_
    rintro e w1 ⟨rfl, ht⟩
    exact ⟨rfl, rfl, (FA.out.mono fun _ _ e => e.elim).trans ht fun _ _ e => e⟩
  | some a =>
    obtain ⟨n, k⟩ := a
    have hn := HB.out n k rfl
    simp only
    by_cases h2 : n ≤ 2097152
    · rw [if_pos h2]
      have d2 : decide ((n : Int) ≤ 2097152) = true := decide_eq_true (by omega)
      have hnb : (n : Int) ≤ 2097152 := by omega
      clear hn HB h2
      go_enter Tryz.func62, Tryz.ntmps62
      go_wp2_with fail
      refine (HN.out _ FA.out).mono ?_
      rintro e w1 ⟨rfl, ht⟩
      have HT := Lib.hid (ht.from0 FA.out)
      clear ht HN
      go_wp2_with fail
      refine (ddemand_yes _).mono ?_
      rintro e w2 ⟨rfl, rfl⟩
      go_wp2_with fail
      go_ret
      exact ⟨rfl, HT.out⟩
    · rw [if_neg h2]
      have d2 : decide ((n : Int) ≤ 2097152) = false := decide_eq_false (by omega)
      clear HB h2
      go_enter Tryz.func62, Tryz.ntmps62
      go_wp2_with fail
      refine (HN.out _ FA.out).mono ?_
      rintro e w1 ⟨rfl, ht⟩
      have HT := Lib.hid (ht.from0 FA.out)
      clear ht HN
      go_wp2_with fail
      refine (ddemand_no _).mono ?_
      rintro e w2 ⟨rfl, rfl⟩
      exact ⟨rfl, rfl, HT.out.fr⟩
theorem dsigned_any (g at_ c : Nat) (p : Option Addr) (l : List Nat) (w : World) (h : wRdIs w g p c l at_) :
    Calls Tryz.prog 88 #[srcV g] w fun e w' => OptE w w' g p c l e (sgnR l at_) := by
  have FA := Lib.hid (Fr.alloc S0 w (.cells #[.pointer (some ⟨g, 0, none⟩)] 76))
  have HN := Lib.hid (fun W (f : Fr S0 w W) => number8_any g at_ c p l W (h.fr f (fun h => h) (fun _ => Off.s0 p)))
  have cb : (w.alloc (.cells #[.pointer (some ⟨g, 0, none⟩)] 76)).cell? ⟨w.heap.size, 0, none⟩ = some (.pointer (some ⟨g, 0, none⟩)) := boxed1 (Fr.refl S0 _)
  have HB : Hid (∀ n e, dnum 8 l at_ = some (n, e) → n < 18446744073709551616) := Lib.hid fun n e hh => (dnum_sound (.inr rfl) h.bd hh h.le).1
  clear h
  unfold sgnR dsgn
  unfold numR at HN
  unfold srcV at *
  generalize dnum 8 l at_ = R at HN HB ⊢
  cases R with
  | none =>
    go_enter Tryz.func88, Tryz.ntmps88
    go_wp2_with fail
    refine (HN.out _ FA.out).mono ?_
    rintro e w1 ⟨rfl, ht⟩
    exact ⟨rfl, rfl, (FA.out.mono fun _ _ e => e.elim).trans ht fun _ _ e => e⟩
  | some a =>
    obtain ⟨n, k⟩ := a
    have hn := HB.out n k rfl
    simp only
    obtain ⟨I, hI⟩ : ∃ I, meant n = I := ⟨_, rfl⟩
    have e1 : IntKind.i64.wrap (n : Int) = I := by rw [← hI, meant, IntKind.wrap_i64]; split <;> omega
    have hIb : -9223372036854775808 ≤ I ∧ I < 9223372036854775808 := by rw [← hI]; exact meant_bd _ (by omega) (by omega)
    obtain ⟨hI1, hI2⟩ := hIb
    rw [hI]
    by_cases h1 : -1048576 ≤ I
    · have d1 : decide ((-1048576 : Int) ≤ I) = true := decide_eq_true h1
      by_cases h2 : I ≤ 1048576
      · rw [if_pos ⟨h1, h2⟩]
        have d2 : decide (I ≤ 1048576) = true := decide_eq_true h2
        clear hn HB h1 h2 hI
        go_enter Tryz.func88, Tryz.ntmps88
        go_wp2_with fail
        refine (HN.out _ FA.out).mono ?_
        rintro e w1 ⟨rfl, ht⟩
        have HT := Lib.hid (ht.from0 FA.out)
        clear ht HN
        go_wp2_with fail
        refine (ddemand_yes _).mono ?_
        rintro e w2 ⟨rfl, rfl⟩
        go_wp2_with fail
        go_ret
        exact ⟨rfl, HT.out⟩
      · rw [if_neg (fun h => h2 h.2)]
        have d2 : decide (I ≤ 1048576) = false := decide_eq_false h2
        clear hn HB h1 h2 hI
        go_enter Tryz.func88, Tryz.ntmps88
        go_wp2_with fail
        refine (HN.out _ FA.out).mono ?_
        rintro e w1 ⟨rfl, ht⟩
        have HT := Lib.hid (ht.from0 FA.out)
        clear ht HN
        go_wp2_with fail
        refine (ddemand_no _).mono ?_
        rintro e w2 ⟨rfl, rfl⟩
        exact ⟨rfl, rfl, HT.out.fr⟩
    · rw [if_neg (fun h => h1 h.1)]
      have d1 : decide ((-1048576 : Int) ≤ I) = false := decide_eq_false h1
      clear hn HB h1 hI
      go_enter Tryz.func88, Tryz.ntmps88
      go_wp2_with fail
      refine (HN.out _ FA.out).mono ?_
      rintro e w1 ⟨rfl, ht⟩
      have HT := Lib.hid (ht.from0 FA.out)
      clear ht HN
      go_wp2_with fail
      refine (ddemand_no _).mono ?_
      rintro e w2 ⟨rfl, rfl⟩
      exact ⟨rfl, rfl, HT.out.fr⟩
end Go.Proofs.YtaemgflhgdlmiaaGreat

namespace Go.Proofs.YtaemgflhgdlmiaaGreat
open Go.RowKit
theorem set_first2 {w : World} {g : Nat} {a b : Value} {t : TypeId} (h : w.heap[g]? = some (.cells #[a, b] t (0, 0))) (x : Value) : (w.setCell ⟨g, 0, none⟩ x).heap[g]? = some (.cells #[x, b] t (0, 0)) := by rw [heap_setCell_same w g 0 _ _ _ h]; rfl
theorem set_second2 {w : World} {g : Nat} {a b : Value} {t : TypeId} (h : w.heap[g]? = some (.cells #[a, b] t (0, 0))) (x : Value) : (w.setCell ⟨g, 1, none⟩ x).heap[g]? = some (.cells #[a, x] t (0, 0)) := by rw [heap_setCell_same w g 1 _ _ _ h]; rfl
def hdV (A m : Nat) : Value := .agg #[.int .i64 (A : Nat), .int .i64 (m : Nat)]
def headR (l : List Nat) : Option (Value × Nat) := (drdH l).map fun x => (hdV x.1.1 x.1.2, x.2)
theorem szHead : (Tryz.prog.info? 69).map (·.size) = some 2 := by kernel_rfl
theorem oneHead (a b : Nat) : (#[Value.int .i64 (a : Int), .int .i64 (b : Int)]).all (·.oneCell') = true := by simp [Value.oneCell']
theorem small_two (g at_ c : Nat) (p : Option Addr) (l : List Nat) (w W : World) (t : wRdTo w W g p c l at_) :
    Calls Tryz.prog 62 #[srcV g] W fun e w' => (∃ n e1, dsml l at_ = some (n, e1) ∧ e = .returned (.int .i64 (n : Nat)) ∧ wRdTo w w' g p c l e1 ∧ Fr (· = g) W w') ∨ (dsml l at_ = none ∧ e = .panicked dgup ∧ Fr (· = g) w w') := by
  refine (small_any g at_ c p l W t.is).mono fun e w' h => ?_
  unfold smlR at h
  cases hR : dsml l at_ with
  | none =>
    rw [hR] at h
    exact .inr ⟨rfl, h.1, t.fr.trans h.2 fun _ _ e => e⟩
  | some a =>
    obtain ⟨n, e1⟩ := a
    rw [hR] at h
    exact .inl ⟨n, e1, rfl, h.1, t.trans h.2, h.2.fr⟩
theorem head_any (g c : Nat) (p : Option Addr) (l : List Nat) (w : World) (h : wRdIs w g p c l 0) :
    Calls Tryz.prog 59 #[srcV g] w fun e w' => OptE w w' g p c l e (headR l) := by
  have hgl : g < w.heap.size := (Array.getElem?_eq_some_iff.1 h.blk).1
  have HN := Lib.hid (fun a W (t : wRdTo w W g p c l a) => small_two g a c p l w W t)
  obtain ⟨W0, hW0⟩ : ∃ W0, (w.alloc (.cells #[.pointer (some ⟨g, 0, none⟩)] 76)).alloc (.cells #[.int .i64 0, .int .i64 0] 69) = W0 := ⟨_, rfl⟩
  have FA : Fr S0 w W0 := by rw [← hW0]; exact (Fr.alloc S0 w (.cells #[.pointer (some ⟨g, 0, none⟩)] 76)).trans0 (Fr.alloc S0 _ (.cells #[.int .i64 0, .int .i64 0] 69))
  have T0 := Lib.hid ((h.self).on FA)
  have HB0 : Hid (∀ W, Fr (· = g) W0 W → W.cell? ⟨w.heap.size, 0, none⟩ = some (.pointer (some ⟨g, 0, none⟩))) := Lib.hid fun W f => by
    have h1 := (Fr.alloc S0 (w.alloc (.cells #[.pointer (some ⟨g, 0, none⟩)] 76)) (.cells #[.int .i64 0, .int .i64 0] 69)).row (heap_alloc_new w _) (fun h => h)
    rw [hW0] at h1
    have h2 := f.row h1 (fun e => by have e2 : w.heap.size = g := e; omega)
    simp [World.cell?, h2]
  have HB1 : Hid (∀ W, Fr (· = g) W0 W → W.heap[w.heap.size + 1]? = some (.cells #[.int .i64 0, .int .i64 0] 69 (0, 0))) := Lib.hid fun W f => by
    have h1 := heap_alloc_new (w.alloc (.cells #[.pointer (some ⟨g, 0, none⟩)] 76)) (.cells #[.int .i64 0, .int .i64 0] 69)
    rw [size_alloc, hW0] at h1
    exact f.row h1 (fun e => by have e2 : w.heap.size + 1 = g := e; omega)
  have HSZ : Hid (g < w.heap.size) := Lib.hid hgl
  have q0 := HB0.out W0 (Fr.refl _ _)
  have HPS : Hid (l ≠ [] → ∀ a, p = some a → a.block < w.heap.size) := Lib.hid fun hl a ha => h.sl.lt hl a ha
  clear h FA hgl
  unfold srcV at *
  have HNO1 : Hid (dsml l 0 = none → headR l = none) := Lib.hid fun h => by rw [headR, drdH, h]; rfl
  have HNO2 : Hid (∀ A e1, dsml l 0 = some (A, e1) → dsml l e1 = none → headR l = none) := Lib.hid fun A e1 h h2 => by
    unfold headR drdH
    rw [h]
    simp only
    rw [h2]
    rfl
  have HYES : Hid (∀ A e1 m e2, dsml l 0 = some (A, e1) → dsml l e1 = some (m, e2) → headR l = some (hdV A m, e2)) := Lib.hid fun A e1 m e2 h h2 => by
    unfold headR drdH
    rw [h]
    simp only
    rw [h2]
    rfl
  generalize headR l = R at HNO1 HNO2 HYES ⊢
  go_enter Tryz.func59, Tryz.ntmps59
  go_wp2_with fail
  go_region_law (first
    | (go_simp; go_at_call 62; (with_reducible refine (HN.out 0 _ (T0.out.on (Fr.drew S0 _))).mono ?_); rintro _ w2 (⟨A, e1, hr1, rfl, t2, f2⟩ | ⟨hr, rfl, f2⟩); rotate_left; (exact ⟨rfl, by rw [HNO1.out hr]; exact ⟨rfl, f2⟩⟩); (have T2 := Lib.hid t2); (have F2 := Lib.hid ((Fr.drew (· = g) W0).trans f2 fun _ _ e => e)); (have HR1 := Lib.hid hr1); (have b0 := HB0.out _ F2.out); clear t2 f2 hr1)
    | (go_simp; go_at_call 62; (with_reducible refine (HN.out _ _ T2.out).mono ?_); rintro _ w3 (⟨m, e2, hr2, rfl, t3, f3⟩ | ⟨hr, rfl, f3⟩); rotate_left; (exact ⟨rfl, by rw [HNO2.out _ _ HR1.out hr]; exact ⟨rfl, f3⟩⟩); (have T3 := Lib.hid t3); (have F3 := Lib.hid (F2.out.trans f3 fun _ _ e => e)); (have HR2 := Lib.hid hr2); clear t3 f3 hr2; (have hb := HB1.out _ F3.out); (obtain ⟨x0, x1⟩ := cell_pair hb); (have z0 : w3.frozen? ⟨w.heap.size + 1, 0, none⟩ = false := by simp [World.frozen?, hb]); (have hb2 := set_first2 hb (.int .i64 (A : Nat))); (obtain ⟨y0, y1⟩ := cell_pair hb2); (have z1 : (w3.setCell ⟨w.heap.size + 1, 0, none⟩ (.int .i64 (A : Nat))).frozen? ⟨w.heap.size + 1, 1, none⟩ = false := by simp [World.frozen?, hb2]); (have HB := Lib.hid hb); clear y0 hb hb2)
    | fail)
  all_goals
    have hb9 := set_second2 (set_first2 HB.out (.int .i64 (A : Nat))) (.int .i64 (m : Nat))
    have HEND : Hid (OptE w ((w3.setCell ⟨w.heap.size + 1, 0, none⟩ (.int .i64 (A : Nat))).setCell ⟨w.heap.size + 1, 1, none⟩ (.int .i64 (m : Nat))) g p c l (.returned (hdV A m)) R) := Lib.hid (by
      rw [HYES.out _ _ _ _ HR1.out HR2.out]
      have hg := HSZ.out
      have ff : Fr (· = w.heap.size + 1) w3 ((w3.setCell ⟨w.heap.size + 1, 0, none⟩ (.int .i64 (A : Nat))).setCell ⟨w.heap.size + 1, 1, none⟩ (.int .i64 (m : Nat))) := (Fr.setCell (· = w.heap.size + 1) _ _ _ rfl).trans (Fr.setCell (· = w.heap.size + 1) _ _ _ rfl) fun _ _ e => e
      refine ⟨rfl, T3.out.is.fr ff (fun e => by have e2 : g = w.heap.size + 1 := e; omega) (fun hl a ha e => by have e2 : a.block = w.heap.size + 1 := e; have := HPS.out hl a ha; omega), T3.out.fr.trans ff fun j hj e => by have e2 : j = w.heap.size + 1 := e; omega⟩)
    go_wp2_with fail
    exact bodyPost_ret (v := hdV A m) (results_cell Tryz.results59 _ _ rfl hb9 Tryz.underlying69 rfl szHead) rfl HEND.out
end Go.Proofs.YtaemgflhgdlmiaaGreat

namespace Go.Proofs.YtaemgflhgdlmiaaGreat
open Go.RowKit
def StepIs (B : Nat) (first : Bool) : Prop := (B = 88 ∧ first = true) ∨ (B = 62 ∧ first = false)
theorem StepIs.has {B : Nat} {first : Bool} (h : StepIs B first) : Has B := by
  rcases h with ⟨rfl, -⟩ | ⟨rfl, -⟩
  · exact fun _ _ => by kernel_rfl
  · exact fun _ _ => by kernel_rfl
theorem step_two (B : Nat) (first : Bool) (g at_ c : Nat) (p : Option Addr) (l : List Nat) (W : World) (hB : StepIs B first) (t : wRdIs W g p c l at_) :
    Calls Tryz.prog B #[srcV g] W fun e w' => (∃ v e1, dstp first l at_ = some (v, e1) ∧ e = .returned (.int .i64 v) ∧ wRdTo W w' g p c l e1) ∨ (dstp first l at_ = none ∧ e = .panicked dgup ∧ Fr (· = g) W w') := by
  rcases hB with ⟨rfl, rfl⟩ | ⟨rfl, rfl⟩
  · refine (dsigned_any g at_ c p l W t).mono fun e w' h => ?_
    unfold dstp
    rw [if_pos rfl]
    unfold sgnR at h
    cases hR : dsgn l at_ with
    | none => rw [hR] at h; exact .inr ⟨rfl, h⟩
    | some a => rw [hR] at h; exact .inl ⟨a.1, a.2, rfl, h⟩
  · refine (small_any g at_ c p l W t).mono fun e w' h => ?_
    unfold dstp
    rw [if_neg (by decide)]
    unfold smlR at h
    cases hR : dsml l at_ with
    | none => rw [hR] at h; exact .inr ⟨rfl, h⟩
    | some a => rw [hR] at h; exact .inl ⟨(a.1 : Int), a.2, rfl, h⟩
theorem count_two (g at_ c : Nat) (p : Option Addr) (l : List Nat) (W : World) (t : wRdIs W g p c l at_) :
    Calls Tryz.prog 63 #[srcV g] W fun e w' => (∃ n e1, dnum 7 l at_ = some (n, e1) ∧ e = .returned (.int .u64 (n : Nat)) ∧ wRdTo W w' g p c l e1) ∨ (dnum 7 l at_ = none ∧ e = .panicked dgup ∧ Fr (· = g) W w') := by
  refine (count_any g at_ c p l W t).mono fun e w' h => ?_
  unfold numR at h
  cases hR : dnum 7 l at_ with
  | none => rw [hR] at h; exact .inr ⟨rfl, h⟩
  | some a => rw [hR] at h; exact .inl ⟨a.1, a.2, rfl, h⟩
structure AccG (g : Nat) (w wr : World) (v : Value) (N : Nat) (L : List Pr) : Prop where
  own : wr.ownsRow 0 67 2 v N (prs L)
  fresh : Fresh w v
  fr : Fr (· = g) w wr
theorem AccG.on {g : Nat} {w wr w2 : World} {v : Value} {N : Nat} {L : List Pr} (h : AccG g w wr v N L) (f : Fr (· = g) wr w2) (hg : g < w.heap.size) : AccG g w w2 v N L :=
  ⟨f.owns h.own fun k hk e => by have h1 := h.fresh k hk; have h2 : k = g := e; omega, h.fresh, h.fr.trans f fun _ _ e => e⟩
theorem AccG.app {g : Nat} {w wr w3 : World} {v : Value} {N : Nat} {L : List Pr} {o : Obj} {h1 cap n : Nat} {k : Int} (h : AccG g w wr v N L) (own : w3.ownsRow 0 67 2 (.slice (some ⟨h1, 0, none⟩) (N + 1) cap) (N + 1) (prs L ++ #[Value.int .i64 k, Value.int .u64 (n : Int)].toList))
    (hg : (wr.alloc o).grownBy w3 v.ownBlock) (hat : v.ownBlock = some h1 ∨ h1 = wr.heap.size + 1) : AccG g w w3 (.slice (some ⟨h1, 0, none⟩) (N + 1) cap) (N + 1) (L ++ [(k, n)]) ∧ Fr (fun x => v.ownBlock = some x) wr w3 := by
  have ff : Fr (fun x => v.ownBlock = some x) wr w3 := ((Fr.alloc S0 wr o).mono fun _ _ e => e.elim).trans (Fr.grown hg) fun _ _ e => e
  refine ⟨⟨by rw [prs_snoc]; exact own, fun k hk => ?_, (h.fr.trans0 (Fr.alloc S0 wr _)).append hg h.fresh⟩, ff⟩
  obtain rfl : h1 = k := Option.some.inj hk
  rcases hat with e | e
  · exact h.fresh _ e
  · have := h.fr.size
    omega
theorem rpairs_any (g at0 c many : Nat) (p : Option Addr) (l : List Nat) (w : World) (h : wRdIs w g p c l at0) (hm : many ≤ 2097152) :
    Calls Tryz.prog 64 #[srcV g, .int .i64 (many : Nat)] w fun e w' =>
      (∃ L e5 q d, drdP l many true 0 at0 [] = some (L, e5) ∧ e = .returned (.slice q many d) ∧ AccG g w w' (.slice q many d) many L ∧ wRdTo w w' g p c l e5) ∨ (drdP l many true 0 at0 [] = none ∧ e = .panicked dgup ∧ Fr (· = g) w w') := by
  have hgl : g < w.heap.size := (Array.getElem?_eq_some_iff.1 h.blk).1
  have HGL := Lib.hid hgl
  have hmf : ∀ (fn : Fn) (first cap : Array Value) (w : World), (Instr.makeFunc fn first cap).run Tryz.prog w = .ok (.func fn first cap) w := fun _ _ _ _ => rfl
  have FA := Fr.alloc S0 w (.cells #[.pointer (some ⟨g, 0, none⟩)] 76)
  have T0 := Lib.hid ((h.self).on FA)
  have HB0 : Hid (∀ W, Fr (· = g) (w.alloc (.cells #[.pointer (some ⟨g, 0, none⟩)] 76)) W → W.cell? ⟨w.heap.size, 0, none⟩ = some (.pointer (some ⟨g, 0, none⟩))) := Lib.hid fun W f => by
    have h2 := f.row (heap_alloc_new w (.cells #[.pointer (some ⟨g, 0, none⟩)] 76)) (fun e => by have e2 : w.heap.size = g := e; omega)
    simp [World.cell?, h2]
  have HSTEP := Lib.hid (fun B first a W hB t => step_two B first g a c p l W hB t)
  have HCNT := Lib.hid (fun a W t => count_two g a c p l W t)
  have F0 := Lib.hid FA
  have q0 := HB0.out _ (Fr.refl _ _)
  have HPF : Hid (∀ B first, StepIs B first → ∀ W, (callFunc B #[.agg #[.pointer (some ⟨g, 0, none⟩)]]).run Tryz.prog W = .ok (.enter B #[.agg #[.pointer (some ⟨g, 0, none⟩)]]) W) := Lib.hid fun B first hB W => hB.has _ _
  have HPS : Hid (l ≠ [] → ∀ a, p = some a → a.block < w.heap.size) := Lib.hid fun hl a ha => h.sl.lt hl a ha
  clear h FA hgl
  unfold srcV at *
  go_enter Tryz.func64, Tryz.ntmps64
  go_wp2_with fail
  go_loopw [5, 6, 7, 12] (fun v st fm i wr => ∃ (j B : Nat) (first : Bool) (from_ : Int) (at_ : Nat) (acc : List Pr), j ≤ many ∧ i = .int .i64 j ∧ st = .func (.func B) #[.agg #[.pointer (some ⟨g, 0, none⟩)]] #[] ∧ fm = .int .i64 from_ ∧ -2097153 ≤ from_ ∧ from_ ≤ 2097153 + 2097153 * (j : Int) ∧ Hid (StepIs B first ∧ (first = true → from_ = 0)) ∧ Hid (drdP l many true 0 at0 [] = drdP l (many - j) first from_ at_ acc) ∧ Hid (AccG g w wr v j acc ∧ Fr (· = g) (w.alloc (.cells #[.pointer (some ⟨g, 0, none⟩)] 76)) wr ∧ ∀ k, v.ownBlock = some k → w.heap.size + 1 ≤ k) ∧ Hid (wRdTo w wr g p c l at_)) (fun _ _ _ i _ => many - (intOf i).toNat)
  case atStart => exact ⟨0, _, true, 0, at0, [], by omega, rfl, rfl, rfl, by omega, by omega, Lib.hid ⟨.inl ⟨rfl, rfl⟩, fun _ => rfl⟩, Lib.hid rfl, Lib.hid ⟨⟨World.ownsRow_nil _ _ _ _, fresh_nil _ _, F0.out.mono fun _ _ e => e.elim⟩, Fr.refl _ _, fun k hk => by cases hk⟩, T0⟩
  case round =>
    obtain ⟨j, B, first, from_, at_, acc, hj, rfl, rfl, rfl, hf1, hf2, hB, heq, hacc, ht⟩ := hrel
    clear T0 q0
    obtain ⟨pv, cv, rfl⟩ := slFormN hacc.out.1.own
    by_cases hjm : (j : Int) < (many : Int)
    · have hcf := HPF.out B first hB.out.1 wr
      have HS := Lib.hid (HSTEP.out B first at_ wr hB.out.1 ht.out.is)
      have b0 := HB0.out _ hacc.out.2.1
      obtain ⟨r, hr⟩ : ∃ r, many - j = r + 1 := ⟨many - j - 1, by omega⟩
      have HEQ : Hid (drdP l many true 0 at0 [] = match dstp first l at_ with | none => none | some (v, e) => match dnum 7 l e with | none => none | some (n, e2) => drdP l r false (from_ + v + 1) e2 (acc ++ [(from_ + v, n)])) := Lib.hid (by rw [heq.out, hr]; rfl)
      have HR : Hid (Room (j + 1)) := Lib.hid (Room.mk (by omega))
      have HRR := Lib.hid hr
      have hjb : (j : Int) < 2097152 := by omega
      clear heq hr HSTEP
      go_wp2_with fail
      refine HS.out.mono ?_
      rintro e w1 (⟨v, e1, hd, rfl, t1⟩ | ⟨hd, rfl, f1⟩)
      · have hvb : -2097152 ≤ v ∧ v ≤ 2097152 := by
          have := dstp_sound ht.out.is.bd hd ht.out.is.le
          exact ⟨this.1, this.2.1⟩
        have hv0 : first = false → 0 ≤ v := (dstp_sound ht.out.is.bd hd ht.out.is.le).2.2.1
        have hkey : -2097153 ≤ from_ + v := by
          rcases hB.out.1 with ⟨-, h5⟩ | ⟨-, h5⟩
          · have := hB.out.2 h5
            omega
          · have := hv0 h5
            omega
        have T1 := Lib.hid (ht.out.trans t1)
        have FG := Lib.hid t1.fr
        have HD := Lib.hid hd
        have b1 := HB0.out _ (hacc.out.2.1.trans t1.fr fun _ _ e => e)
        have HC := Lib.hid (HCNT.out e1 w1 t1.is)
        obtain ⟨hv1, hv2⟩ := hvb
        obtain ⟨K, hK⟩ : ∃ K, from_ + v = K := ⟨_, rfl⟩
        have hKb : K ≤ 4194305 + 2097153 * (j : Int) := by omega
        have hk1 : -2097153 ≤ K := by omega
        rw [hK] at hkey
        clear t1 hd HS hf1 hf2 hv0 hkey
        go_wp2_with fail
        refine HC.out.mono ?_
        rintro e w2 (⟨n, e2, hd2, rfl, t2⟩ | ⟨hd2, rfl, f2⟩)
        · have hn := (dnum_sound (.inl rfl) T1.out.is.bd hd2 T1.out.is.le).1
          have T2 := Lib.hid (T1.out.trans t2)
          have HA2 := Lib.hid (hacc.out.1.on (FG.out.trans t2.fr fun _ _ e => e) HGL.out)
          have FB2 := Lib.hid ((hacc.out.2.1.trans FG.out fun _ _ e => e).trans t2.fr fun _ _ e => e)
          have b2 := HB0.out _ FB2.out
          have HBK := Lib.hid hacc.out.2.2
          have HNX : Hid (drdP l many true 0 at0 [] = drdP l (many - (j + 1)) false (K + 1) e2 (acc ++ [(K, n)])) := Lib.hid (by
            rw [HEQ.out, HD.out]
            simp only
            rw [hd2]
            simp only
            rw [hK, show many - (j + 1) = r by have := HRR.out; omega])
          have hnb : (n : Int) < 18446744073709551616 := by omega
          clear t2 hd2 HEQ HD HC hK hacc ht b0 b1 hcf
          go_wp2_with ((with_reducible show wpList _ _ _ (Oper.mk (some 24) _ _ _ _ _ :: _) _ _); refine app_one elPr (.tmp 18) (.tmp 23) rfl HA2.out.own rfl rfl rfl rfl rfl (one_pr K n) HR.out ?_; intro g1 cap1 w3 hown hgrow hat hlt; have HA3 := Lib.hid (HA2.out.app hown hgrow hat); have b3 := (HB0.out _ (FB2.out.trans HA3.out.2 fun x hx e => by have h6 := HBK.out x e; have h7 := size_alloc w (.cells #[.pointer (some ⟨g, 0, none⟩)] 76); omega)); have HAT := Lib.hid hat; clear hown hgrow hat hlt)
          go_roundw
          case rel =>
            have FB3 : Fr (· = g) (w.alloc (.cells #[.pointer (some ⟨g, 0, none⟩)] 76)) w3 := FB2.out.trans HA3.out.2 fun x hx e => by have h6 := HBK.out x e; have h7 := size_alloc w (.cells #[.pointer (some ⟨g, 0, none⟩)] 76); omega
            refine ⟨j + 1, _, false, K + 1, e2, acc ++ [(K, n)], by omega, by go_num, rfl, rfl, by omega, by push_cast; omega, Lib.hid ⟨.inr ⟨rfl, rfl⟩, fun h => (by cases h)⟩, HNX, Lib.hid ⟨HA3.out.1, FB3, fun k hk => ?_⟩, ?_⟩
            · obtain rfl : g1 = k := Option.some.inj hk
              rcases HAT.out with e | e
              · exact HBK.out _ e
              · have h8 := FB2.out.size
                rw [size_alloc] at h8
                omega
            · have hgr : ¬ (fun x => (Value.slice pv j cv).ownBlock = some x) g := fun e => by have := HBK.out g e; have := HGL.out; omega
              exact Lib.hid ⟨T2.out.is.fr HA3.out.2 hgr (fun hl a ha e => by have := HBK.out _ e; have := HPS.out hl a ha; omega), T2.out.fr.trans HA3.out.2 fun x hx e => by have := HBK.out x e; omega⟩
          case measure => simp [intOf]; omega
        · have HNO : Hid (drdP l many true 0 at0 [] = none) := Lib.hid (by
            rw [HEQ.out, HD.out]
            simp only
            rw [hd2])
          exact ⟨rfl, .inr ⟨HNO.out, rfl, T1.out.fr.trans f2 fun _ _ e => e⟩⟩
      · have HNO : Hid (drdP l many true 0 at0 [] = none) := Lib.hid (by rw [HEQ.out, hd])
        exact ⟨rfl, .inr ⟨HNO.out, rfl, ht.out.fr.trans f1 fun _ _ e => e⟩⟩
    · obtain rfl : j = many := by omega
      have HE : Hid (drdP l j true 0 at0 [] = some (acc, at_)) := Lib.hid (by rw [heq.out, Nat.sub_self, drdP])
      clear heq hf1 hf2
      go_wp2_with fail
      go_ret
      exact .inl ⟨acc, at_, HE.out, pv, cv, rfl, hacc.out.1, ht.out⟩
end Go.Proofs.YtaemgflhgdlmiaaGreat

namespace Go.Proofs.YtaemgflhgdlmiaaGreat
open Go.RowKit
theorem head_two (g c : Nat) (p : Option Addr) (l : List Nat) (w W : World) (t : wRdTo w W g p c l 0) :
    Calls Tryz.prog 59 #[srcV g] W fun e w' => (∃ A m e1, drdH l = some ((A, m), e1) ∧ e = .returned (.agg #[.int .i64 (A : Nat), .int .i64 (m : Nat)]) ∧ wRdTo w w' g p c l e1 ∧ Fr (· = g) W w') ∨ (drdH l = none ∧ e = .panicked dgup ∧ Fr (· = g) w w') := by
  refine (head_any g c p l W t.is).mono fun e w' h => ?_
  unfold headR at h
  cases hR : drdH l with
  | none =>
    rw [hR] at h
    exact .inr ⟨rfl, h.1, t.fr.trans h.2 fun _ _ e => e⟩
  | some a =>
    obtain ⟨⟨A, m⟩, e1⟩ := a
    rw [hR] at h
    exact .inl ⟨A, m, e1, rfl, h.1, t.trans h.2, h.2.fr⟩
theorem cnt_two (g at_ c : Nat) (p : Option Addr) (l : List Nat) (w W : World) (t : wRdTo w W g p c l at_) :
    Calls Tryz.prog 63 #[srcV g] W fun e w' => (∃ n e1, dnum 7 l at_ = some (n, e1) ∧ e = .returned (.int .u64 (n : Nat)) ∧ wRdTo w w' g p c l e1 ∧ Fr (· = g) W w') ∨ (dnum 7 l at_ = none ∧ e = .panicked dgup ∧ Fr (· = g) w w') := by
  refine (count_two g at_ c p l W t.is).mono fun e w' h => ?_
  rcases h with ⟨n, e1, h1, h2, h3⟩ | ⟨h1, h2, h3⟩
  · exact .inl ⟨n, e1, h1, h2, t.trans h3, h3.fr⟩
  · exact .inr ⟨h1, h2, t.fr.trans h3 fun _ _ e => e⟩
theorem pair_keep {W : World} {B b : Nat} {v x y : Value} (h : W.cell? ⟨B, 0, none⟩ = some v) (hne : b ≠ B) : ((W.setCell ⟨b, 0, none⟩ x).setCell ⟨b, 1, none⟩ y).cell? ⟨B, 0, none⟩ = some v :=
  ((Fr.setCell (· = b) W ⟨b, 0, none⟩ x rfl).trans (Fr.setCell (· = b) _ ⟨b, 1, none⟩ y rfl) fun _ _ e => e).cell h fun e => hne (show B = b from e).symm
theorem pair_facts {W : World} {b : Nat} {u v : Value} {t : TypeId} (h : W.heap[b]? = some (.cells #[u, v] t (0, 0))) (x : Value) : W.cell? ⟨b, 0, none⟩ = some u ∧ W.frozen? ⟨b, 0, none⟩ = false ∧ (W.setCell ⟨b, 0, none⟩ x).cell? ⟨b, 1, none⟩ = some v ∧ (W.setCell ⟨b, 0, none⟩ x).frozen? ⟨b, 1, none⟩ = false := by
  have h2 := set_first2 h x
  refine ⟨(cell_pair h).1, ?_, (cell_pair h2).2, ?_⟩
  · simp [World.frozen?, h]
  · clear h
    generalize W.setCell ⟨b, 0, none⟩ x = W2 at *
    simp [World.frozen?, h2]
theorem hb_carry {g b : Nat} {W W' : World} {o : Obj} (h : W.heap[b]? = some o) (f : Fr (· = g) W W') (hne : b ≠ g) : W'.heap[b]? = some o := f.row h hne
theorem rd_store {w W : World} {g b c a : Nat} {p : Option Addr} {l : List Nat} (t : wRdTo w W g p c l a) (hb : w.heap.size ≤ b) (hg : g < w.heap.size) (hps : l ≠ [] → ∀ x, p = some x → x.block < w.heap.size) (x y : Value) : wRdTo w ((W.setCell ⟨b, 0, none⟩ x).setCell ⟨b, 1, none⟩ y) g p c l a := by
  have ff : Fr (· = b) W ((W.setCell ⟨b, 0, none⟩ x).setCell ⟨b, 1, none⟩ y) := (Fr.setCell (· = b) W ⟨b, 0, none⟩ x rfl).trans (Fr.setCell (· = b) _ ⟨b, 1, none⟩ y rfl) fun _ _ e => e
  exact ⟨t.is.fr ff (fun e => by have e2 : g = b := e; omega) (fun hl y hy e => by have e2 : y.block = b := e; have := hps hl y hy; omega), t.fr.trans ff fun j hj e => by have e2 : j = b := e; omega⟩
theorem own_cap {w : World} {e : TypeId} {s n d : Nat} {q : Option Addr} {xs : List Value} (h : w.ownsRow 0 e s (.slice q n d) n xs) : q = none → d = 0 := by
  intro hq
  subst hq
  rcases h.2 with ⟨hv, -⟩ | ⟨g, cap, cur, hv, -⟩
  · simp only [Value.slice.injEq] at hv
    exact hv.2.2
  · simp at hv
structure Beg (w W : World) (b g : Nat) (p : Option Addr) (c : Nat) (l : List Nat) (e A m : Nat) : Prop where
  row : W.heap[b]? = some (.cells #[.int .i64 (A : Nat), .int .i64 (m : Nat)] 69 (0, 0))
  rd : wRdTo w W g p c l e
  box : W.cell? ⟨w.heap.size, 0, none⟩ = some (.pointer (some ⟨g, 0, none⟩))
  b0 : w.heap.size < b
theorem drdH_le {l : List Nat} {A m e : Nat} (hb : ∀ x ∈ l, x < 256) (h : drdH l = some ((A, m), e)) : A ≤ 2097152 ∧ m ≤ 2097152 := by
  unfold drdH at h
  split at h
  · cases h
  · rename_i A' e1 r1
    split at h
    · cases h
    · rename_i m' e2 r2
      simp only [Option.some.injEq, Prod.mk.injEq] at h
      obtain ⟨⟨rfl, rfl⟩, rfl⟩ := h
      have s1 := dsml_sound hb r1 (Nat.zero_le _)
      exact ⟨s1.1, (dsml_sound hb r2 s1.2.1).1⟩
theorem drdQ_of {l : List Nat} {A m many f e1 e2 e3 : Nat} (h1 : drdH l = some ((A, m), e1)) (h2 : dsml l e1 = some (many, e2)) (h3 : dnum 7 l e2 = some (f, e3)) :
    (drdP l many true 0 e3 [] = none → drdQ l = none) ∧ ∀ L e5, drdP l many true 0 e3 [] = some (L, e5) → drdQ l = some ((A, m, L, f), e5) := by
  constructor
  · intro h4
    unfold drdQ
    rw [h1]
    simp only
    rw [h2]
    simp only
    rw [h3]
    simp only
    rw [h4]
  · intro L e5 h4
    unfold drdQ
    rw [h1]
    simp only
    rw [h2]
    simp only
    rw [h3]
    simp only
    rw [h4]
def SkEnds (w w' : World) (g : Nat) (l : List Nat) (e : Ending) : Prop :=
  (∃ A m L f a gs h s, RdOk l A m L f ∧ e = .returned (.pointer (some ⟨gs, 0, none⟩)) ∧ SkIs w' gs h s A m a ∧ cutN a m = L ∧ cutA a m = f ∧ w.heap.size ≤ gs ∧ w.heap.size ≤ h ∧ h < w'.heap.size ∧ w.heap.size ≤ s ∧ Fr (· = g) w w') ∨ ((¬ ∃ A m L f, RdOk l A m L f) ∧ e = .panicked dgup ∧ Fr (· = g) w w')
theorem sketch_any (g c : Nat) (p : Option Addr) (l : List Nat) (w : World) (h : wRdIs w g p c l 0) :
    Calls Tryz.prog 34 #[srcV g] w fun e w' => SkEnds w w' g l e := by
  have hgl : g < w.heap.size := (Array.getElem?_eq_some_iff.1 h.blk).1
  have HGL := Lib.hid hgl
  have HH := Lib.hid (fun W t => head_two g c p l w W t)
  have HS := Lib.hid (fun a W t => small_two g a c p l w W t)
  have HC := Lib.hid (fun a W t => cnt_two g a c p l w W t)
  have T0 := Lib.hid ((h.self).on (Fr.alloc S0 w (.cells #[.pointer (some ⟨g, 0, none⟩)] 76)))
  have q0 : (w.alloc (.cells #[.pointer (some ⟨g, 0, none⟩)] 76)).cell? ⟨w.heap.size, 0, none⟩ = some (.pointer (some ⟨g, 0, none⟩)) := boxed1 (Fr.refl S0 _)
  have HN1 : ∀ W : World, (W.alloc (.cells #[.int .i64 0, .int .i64 0] 69)).cell? ⟨W.heap.size, 0, none⟩ = some (.int .i64 0) := fun W => (pair_facts (heap_alloc_new W _) .nilFunc).1
  have HN2 : ∀ W : World, (W.alloc (.cells #[.int .i64 0, .int .i64 0] 69)).frozen? ⟨W.heap.size, 0, none⟩ = false := fun W => (pair_facts (heap_alloc_new W _) .nilFunc).2.1
  have HN3 : ∀ (W : World) (x : Value), ((W.alloc (.cells #[.int .i64 0, .int .i64 0] 69)).setCell ⟨W.heap.size, 0, none⟩ x).cell? ⟨W.heap.size, 1, none⟩ = some (.int .i64 0) := fun W x => (pair_facts (heap_alloc_new W _) x).2.2.1
  have HN4 : ∀ (W : World) (x : Value), ((W.alloc (.cells #[.int .i64 0, .int .i64 0] 69)).setCell ⟨W.heap.size, 0, none⟩ x).frozen? ⟨W.heap.size, 1, none⟩ = false := fun W x => (pair_facts (heap_alloc_new W _) x).2.2.2
  have HNO1 : Hid (drdH l = none → ¬ ∃ A m L f, RdOk l A m L f) := Lib.hid (by
    rintro e ⟨A, m, L, f, h, -⟩
    rw [drdQ, e] at h
    cases h)
  have HNO2 : Hid (∀ A m e1, drdH l = some ((A, m), e1) → dsml l e1 = none → ¬ ∃ A m L f, RdOk l A m L f) := Lib.hid (by
    rintro A m e1 e e2 ⟨_, _, _, _, h, -⟩
    rw [drdQ, e] at h
    simp only at h
    rw [e2] at h
    cases h)
  have HNO3 : Hid (∀ A m e1 n e2, drdH l = some ((A, m), e1) → dsml l e1 = some (n, e2) → dnum 7 l e2 = none → ¬ ∃ A m L f, RdOk l A m L f) := Lib.hid (by
    rintro A m e1 n e2 e e3 e4 ⟨_, _, _, _, h, -⟩
    rw [drdQ, e] at h
    simp only at h
    rw [e3] at h
    simp only at h
    rw [e4] at h
    cases h)
  have HPS : Hid (l ≠ [] → ∀ a, p = some a → a.block < w.heap.size) := Lib.hid fun hl a ha => h.sl.lt hl a ha
  have H256 := Lib.hid h.bd
  have HPR := Lib.hid (fun many e W (t : wRdTo w W g p c l e) (hm : many ≤ 2097152) => rpairs_any g e c many p l W t.is hm)
  have HLF := Lib.hid (fun e W (t : wRdIs W g p c l e) => wleft_any g e c p l W t)
  have HLO := Lib.hid (fun A m n c2 f q L W (h1 : PrI W q L) (h2 : L.length = n) (h3 : q = none → c2 = 0) (h4 : Srt L) (h5 : ∀ x ∈ L, x.2 < 18446744073709551616) (h6 : A ≤ 2097152) (h7 : m ≤ 2097152) => ddload_any A m n c2 f q L W h1 h2 h3 h4 h5 (by omega) (by omega))
  clear h hgl
  unfold srcV at *
  unfold SkEnds
  go_enter Tryz.func34, Tryz.ntmps34
  go_wp2_with fail
  go_region_held2 (fun w' => w'.cell? ⟨w.heap.size, 0, none⟩ = some (.pointer (some ⟨g, 0, none⟩)))
    (first
      | exact q0
      | assumption
      | exact f9.cell (by assumption) (fun e => by have e2 : w.heap.size = g := e; have := HGL.out; omega)
      | exact (Fr.alloc S0 _ _).cell (by assumption) (fun h => h)
      | exact (Fr.alloc S0 _ _).cell b4 (fun h => h)
      | exact pair_keep (by assumption) (by omega)
      | fail)
    (first
      | (go_simp; go_at_call 59; (with_reducible refine (HH.out _ (by first | exact T0.out.on (Fr.drew S0 _) | exact (T0.out.on (Fr.alloc S0 _ _)).on (Fr.drew S0 _))).mono ?_); rintro _ w2 (⟨A, m, e1, hr1, rfl, t2, f9⟩ | ⟨hr, rfl, f9⟩); rotate_left; (exact ⟨rfl, .inr ⟨HNO1.out hr, rfl, f9⟩⟩); (have T2 := Lib.hid t2); (have HR1 := Lib.hid hr1); (have SZ2 : w.heap.size < w2.heap.size := by have := f9.size; simp at this; omega); (try (have hb2 := f9.row (heap_alloc_new (w.alloc (.cells #[.pointer (some ⟨g, 0, none⟩)] 76)) (.cells #[.int .i64 0, .int .i64 0] 69)) (fun e => by have e2 : (w.alloc (.cells #[.pointer (some ⟨g, 0, none⟩)] 76)).heap.size = g := e; have := HGL.out; rw [size_alloc] at e2; omega); rw [size_alloc] at hb2; have HB2 := Lib.hid hb2; clear hb2)); clear t2 hr1)
      | (go_simp; go_at_call 62; (with_reducible refine (HS.out _ _ (by first | exact T2.out | exact T2.out.on (Fr.alloc S0 _ _))).mono ?_); rintro _ w3 (⟨n, e2, hr2, rfl, t3, f9⟩ | ⟨hr, rfl, f9⟩); rotate_left; (exact ⟨rfl, .inr ⟨HNO2.out _ _ _ HR1.out hr, rfl, f9⟩⟩); (have T3 := Lib.hid t3); (have HR2 := Lib.hid hr2); (have SZ3 := f9.size); (try (have HB3 := Lib.hid (hb_carry (heap_alloc_new w2 (.cells #[.int .i64 0, .int .i64 0] 69)) f9 (by have := HGL.out; omega)))); (try (have HB3 := Lib.hid (hb_carry HB2.out f9 (by have := HGL.out; omega)))); clear t3 hr2)
      | (go_simp; go_at_call 63; (with_reducible refine (HC.out _ _ (by first | exact T3.out | exact T3.out.on (Fr.alloc S0 _ _))).mono ?_); rintro _ w4 (⟨f, e3, hr3, rfl, t4, f9⟩ | ⟨hr, rfl, f9⟩); rotate_left; (exact ⟨rfl, .inr ⟨HNO3.out _ _ _ _ _ HR1.out HR2.out hr, rfl, f9⟩⟩); (have T4 := Lib.hid t4); (have HR3 := Lib.hid hr3); (try (have HB4 := Lib.hid (hb_carry (heap_alloc_new w3 (.cells #[.int .i64 0, .int .i64 0] 69)) f9 (by have := HGL.out; first | omega | (simp at SZ3; omega))))); (try (have HB4 := Lib.hid (hb_carry HB3.out f9 (by have := HGL.out; omega)))); (try (have x0 := (pair_facts HB4.out (.int .i64 (A : Nat))).1; have z0 := (pair_facts HB4.out (.int .i64 (A : Nat))).2.1; have x1 := (pair_facts HB4.out (.int .i64 (A : Nat))).2.2.1; have z1 := (pair_facts HB4.out (.int .i64 (A : Nat))).2.2.2)); (have b4 : w4.cell? ⟨w.heap.size, 0, none⟩ = some (.pointer (some ⟨g, 0, none⟩)) := f9.cell (by assumption) (fun e => by have e2 : w.heap.size = g := e; have := HGL.out; omega)); clear t4 hr3)
      | fail)
  all_goals
    first
      | (have HX : Hid (Beg w ((w4.setCell ⟨w3.heap.size, 0, none⟩ (.int .i64 (A : Nat))).setCell ⟨w3.heap.size, 1, none⟩ (.int .i64 (m : Nat))) w3.heap.size g p c l e3 A m) := Lib.hid ⟨set_second2 (set_first2 HB4.out _) _, rd_store T4.out (by omega) HGL.out HPS.out _ _, pair_keep b4 (by omega), by omega⟩
         generalize ((w4.setCell ⟨w3.heap.size, 0, none⟩ (.int .i64 (A : Nat))).setCell ⟨w3.heap.size, 1, none⟩ (.int .i64 (m : Nat))) = WX at HX ⊢
         generalize w3.heap.size = bx at HX ⊢)
      | (have HX : Hid (Beg w ((w4.setCell ⟨w2.heap.size, 0, none⟩ (.int .i64 (A : Nat))).setCell ⟨w2.heap.size, 1, none⟩ (.int .i64 (m : Nat))) w2.heap.size g p c l e3 A m) := Lib.hid ⟨set_second2 (set_first2 HB4.out _) _, rd_store T4.out (by omega) HGL.out HPS.out _ _, pair_keep b4 (by omega), by omega⟩
         generalize ((w4.setCell ⟨w2.heap.size, 0, none⟩ (.int .i64 (A : Nat))).setCell ⟨w2.heap.size, 1, none⟩ (.int .i64 (m : Nat))) = WX at HX ⊢
         generalize w2.heap.size = bx at HX ⊢)
      | (have HX : Hid (Beg w ((w4.setCell ⟨w.heap.size + 1, 0, none⟩ (.int .i64 (A : Nat))).setCell ⟨w.heap.size + 1, 1, none⟩ (.int .i64 (m : Nat))) (w.heap.size + 1) g p c l e3 A m) := Lib.hid ⟨set_second2 (set_first2 HB4.out _) _, rd_store T4.out (by omega) HGL.out HPS.out _ _, pair_keep b4 (by omega), by omega⟩
         generalize ((w4.setCell ⟨w.heap.size + 1, 0, none⟩ (.int .i64 (A : Nat))).setCell ⟨w.heap.size + 1, 1, none⟩ (.int .i64 (m : Nat))) = WX at HX ⊢
         generalize w.heap.size + 1 = bx at HX ⊢)
      | (have HX : Hid (Beg w (w4.alloc (.cells #[.int .i64 (A : Nat), .int .i64 (m : Nat)] 69)) w4.heap.size g p c l e3 A m) := Lib.hid ⟨heap_alloc_new w4 _, T4.out.on (Fr.alloc S0 _ _), (Fr.alloc S0 _ _).cell b4 (fun h => h), World.block_lt_of_cell? _ _ b4⟩
         generalize w4.alloc (.cells #[.int .i64 (A : Nat), .int .i64 (m : Nat)] 69) = WX at HX ⊢
         generalize w4.heap.size = bx at HX ⊢)
  all_goals
    have hAm := drdH_le H256.out HR1.out
    have hn2 := (dsml_sound H256.out HR2.out T2.out.is.le).1
    have HQ := Lib.hid (drdQ_of HR1.out HR2.out HR3.out)
    have HP := Lib.hid (HPR.out n e3 _ HX.out.rd hn2)
    have bb := HX.out.box
    have HAM := Lib.hid (And.intro hAm.1 (And.intro hAm.2 hn2))
    have HXS := Lib.hid ((Array.getElem?_eq_some_iff.1 HX.out.rd.is.blk).1)
    clear HPR HNO1 HNO2 HNO3 HH HS HC HR1 HR2 HR3 T0 q0 hAm hn2 HN1 HN2 HN3 HN4
    try clear x0 z0 x1 z1
    clear b4 SZ2 SZ3 T2 T3 T4
    go_wp2_with fail
    refine HP.out.mono ?_
    rintro _ v1 (⟨L, e5, q, d, hd, rfl, ha, t1⟩ | ⟨hd, rfl, f1⟩)
    rotate_left
    · have HNO : Hid (¬ ∃ A m L f, RdOk l A m L f) := Lib.hid (by
        rintro ⟨A', m', L', f', h, -⟩
        rw [HQ.out.1 hd] at h
        cases h)
      exact ⟨rfl, .inr ⟨HNO.out, rfl, HX.out.rd.fr.trans f1 fun _ _ e => e⟩⟩
    · have hq5 := HQ.out.2 _ _ hd
      obtain ⟨-, h5, hsrt, h64⟩ := drdQ_sound H256.out hq5
      have HQ5 := Lib.hid hq5
      have HL := Lib.hid (And.intro h5 (And.intro hsrt h64))
      have HA := Lib.hid ha
      have T1 := Lib.hid t1
      have b1 : v1.cell? ⟨w.heap.size, 0, none⟩ = some (.pointer (some ⟨g, 0, none⟩)) := t1.fr.cell bb (fun e => by have e2 : w.heap.size = g := e; have := HGL.out; omega)
      have hrow := t1.fr.row HX.out.row (fun e => Nat.ne_of_gt (Nat.lt_trans HGL.out HX.out.b0) e)
      obtain ⟨c0, c1⟩ := cell_pair hrow
      have HLF1 := Lib.hid (HLF.out e5 v1 t1.is)
      clear ha t1 hd hq5 h5 hsrt h64 bb HP HQ hrow HLF
      go_wp2_with fail
      refine HLF1.out.mono ?_
      rintro _ v2 ⟨rfl, k, rfl⟩
      have FW := Lib.hid ((HX.out.rd.fr.trans T1.out.fr fun _ _ e => e).trans0 (Fr.drewN S0 v1 k))
      by_cases hend : e5 = l.length
      · have e6 : ((l.length : Int) - (e5 : Int) == 0) = true := by rw [beq_iff_eq]; omega
        have hlen : L.length = n := by have h6 := HA.out.own.1; rw [prs_len] at h6; omega
        have HLD := Lib.hid (HLO.out A m n d f q L (v1.drewN k) (PrI.fr0 (PrI.ofOwns HA.out.own (by have := HAM.out.2.2; unfold maxLen; omega)) (Fr.drewN S0 _ _)) hlen (own_cap HA.out.own) HL.out.2.1 HL.out.2.2 HAM.out.1 HAM.out.2.1)
        have HE := Lib.hid hend
        clear HLO hlen hend HLF1
        go_wp2_with fail
        refine (ddemand_yes _).mono ?_
        rintro _ v3 ⟨rfl, rfl⟩
        go_wp2_with fail
        refine HLD.out.mono ?_
        rintro _ v4 (⟨hok, a, gs, h, s, rfl, hk, hcn, hca⟩ | ⟨hok, rfl, f4⟩)
        · have HK := Lib.hid (And.intro hok (And.intro hk (And.intro hcn hca)))
          clear hok hk hcn hca HLD c0 c1 b1 e6
          go_wp2_with fail
          refine (ddemand_yes _).mono ?_
          rintro _ v5 ⟨rfl, rfl⟩
          go_wp2_with fail
          go_ret
          have hsz := FW.out.size
          have hk := HK.out.2.1
          have g1 := hk.g0
          have g2 := hk.h0
          have g3 := hk.s0
          exact .inl ⟨A, m, L, f, a, gs, h, s, ⟨by rw [HQ5.out, HE.out], HK.out.1⟩, rfl, hk.is, HK.out.2.2.1, HK.out.2.2.2, by omega, by omega, hk.hl, by omega, FW.out.trans0 hk.fr⟩
        · have HNO : Hid (¬ ∃ A m L f, RdOk l A m L f) := Lib.hid (by
            rintro ⟨A', m', L', f', h1, h2⟩
            rw [HQ5.out] at h1
            simp only [Option.some.injEq, Prod.mk.injEq] at h1
            obtain ⟨⟨rfl, rfl, rfl, rfl⟩, -⟩ := h1
            exact hok h2)
          have F4 := Lib.hid (FW.out.trans0 f4)
          clear hok f4 HLD c0 c1 b1 e6
          go_wp2_with fail
          refine (ddemand_no _).mono ?_
          rintro _ v5 ⟨rfl, rfl⟩
          exact ⟨rfl, .inr ⟨HNO.out, rfl, F4.out⟩⟩
      · have e6 : ((l.length : Int) - (e5 : Int) == 0) = false := by rw [beq_eq_false_iff_ne]; omega
        have HNO : Hid (¬ ∃ A m L f, RdOk l A m L f) := Lib.hid (by
          rintro ⟨A', m', L', f', h1, h2⟩
          rw [HQ5.out] at h1
          simp only [Option.some.injEq, Prod.mk.injEq] at h1
          exact hend h1.2)
        clear HLO HLF1 hend
        go_wp2_with fail
        refine (ddemand_no _).mono ?_
        rintro _ v3 ⟨rfl, rfl⟩
        exact ⟨rfl, .inr ⟨HNO.out, rfl, FW.out⟩⟩
end Go.Proofs.YtaemgflhgdlmiaaGreat

namespace Go.Proofs.YtaemgflhgdlmiaaGreat
open Go.RowKit Go.ChangeMaps
theorem set_first {w : World} {g : Nat} {x y : Value} {t : TypeId} (h : w.heap[g]? = some (.cells #[x] t (0, 0))) : (w.setCell ⟨g, 0, none⟩ y).heap[g]? = some (.cells #[y] t (0, 0)) := by rw [heap_setCell_same w g 0 _ _ _ h]; rfl
theorem scatch_given (q : Nat) (E : Int) (w : World) (hq : w.heap[q]? = some (.cells #[.int .i64 E] 31 (0, 0))) :
    CallsD Tryz.prog 61 #[.pointer (some ⟨q, 0, none⟩)] (.panicking dgup) w fun e u' w' => e = .returned (.tuple #[]) ∧ settle u' = .returning ∧ Fr (· = q) w w' ∧ w'.heap[q]? = some (.cells #[.int .i64 9] 31 (0, 0)) := by
  have hnn : ∀ (v : Value) w, (binOp .eql 20 (.iface 121 v) .nilIface).run Tryz.prog w = .ok (.bool false) w := fun v w => by kernel_rfl
  have hta : ∀ (v : Value) w, (Instr.typeAssert (.iface 121 v) 20 121 true).run Tryz.prog w = .ok (.tuple #[v, .bool true]) w := fun v w => by kernel_rfl
  unfold dgup
  refine callsD_of_wpS Tryz.func61 rfl fun c₀ cs hu => ?_
  apply wpS_seq
  apply wpS_region
  simp [wpOpsS, go_sem, recoverD, hu, Tryz.ntmps61, Exit.thenS]
  refine wpS_of_wp ?_
  have et : ∀ v : Value, (#[Value.pointer (some ⟨q, 0, none⟩)] ++ (Array.replicate 9 undef).setIfInBounds 3 v) = #[Value.pointer (some ⟨q, 0, none⟩), undef, undef, undef, v, undef, undef, undef, undef, undef] := fun v => rfl
  rw [et]
  have HU := Lib.hid hu
  have HFA := Lib.hid (Fr.alloc S0 w (.cells #[] 121))
  have bq := HFA.out.row hq (fun h => h)
  have HE := Lib.hid (set_first (y := .int .i64 9) bq)
  have HF9 := Lib.hid ((HFA.out.mono (fun _ _ e => e.elim)).trans (Fr.setCell (· = q) _ ⟨q, 0, none⟩ (.int .i64 9) rfl) (fun _ _ e => e))
  have c2 : (w.alloc (.cells #[] 121)).cell? ⟨q, 0, none⟩ = some (.int .i64 E) := by
    generalize w.alloc (.cells #[] 121) = W at bq
    simp [World.cell?, bq]
  have z2 : (w.alloc (.cells #[] 121)).frozen? ⟨q, 0, none⟩ = false := by
    clear c2
    generalize w.alloc (.cells #[] 121) = W at bq
    simp [World.frozen?, bq]
  clear hu bq hq
  go_wp2_with fail
  exact ⟨rfl, .panicking [{ v := .iface 121 (.agg #[]), recovered := true }], rfl, .tuple #[], by simp [results, Tryz.results61], rfl, rfl, HF9.out, HE.out⟩
theorem scatch_idle (q : Addr) (w : World) :
    CallsD Tryz.prog 61 #[.pointer (some q)] .returning w fun e u' w' => e = .returned (.tuple #[]) ∧ u' = .returning ∧ w' = w := by
  have hnn : ∀ w, (binOp .eql 20 .nilIface .nilIface).run Tryz.prog w = .ok (.bool true) w := fun w => by kernel_rfl
  refine callsD_of_wpS Tryz.func61 rfl fun c₀ cs hu => ?_
  apply wpS_seq
  apply wpS_region
  simp [wpOpsS, go_sem, recoverD, hu, Tryz.ntmps61, Exit.thenS]
  refine wpS_of_wp ?_
  have et : (#[Value.pointer (some q)] ++ (Array.replicate 9 undef).setIfInBounds 3 Value.nilIface) = #[Value.pointer (some q), undef, undef, undef, .nilIface, undef, undef, undef, undef, undef] := rfl
  rw [et]
  go_wp2_with fail
  exact ⟨rfl, .returning, by cases c₀; simp_all, .tuple #[], by simp [results, Tryz.results61], rfl, rfl, rfl⟩
theorem hcatch_given (q : Nat) (E : Int) (w : World) (hq : w.heap[q]? = some (.cells #[.int .i64 E] 31 (0, 0))) :
    CallsD Tryz.prog 57 #[.pointer (some ⟨q, 0, none⟩)] (.panicking dgup) w fun e u' w' => e = .returned (.tuple #[]) ∧ settle u' = .returning ∧ Fr (· = q) w w' ∧ w'.heap[q]? = some (.cells #[.int .i64 9] 31 (0, 0)) := by
  have hnn : ∀ (v : Value) w, (binOp .eql 20 (.iface 121 v) .nilIface).run Tryz.prog w = .ok (.bool false) w := fun v w => by kernel_rfl
  have hta : ∀ (v : Value) w, (Instr.typeAssert (.iface 121 v) 20 121 true).run Tryz.prog w = .ok (.tuple #[v, .bool true]) w := fun v w => by kernel_rfl
  unfold dgup
  refine callsD_of_wpS Tryz.func57 rfl fun c₀ cs hu => ?_
  apply wpS_seq
  apply wpS_region
  simp [wpOpsS, go_sem, recoverD, hu, Tryz.ntmps57, Exit.thenS]
  refine wpS_of_wp ?_
  have et : ∀ v : Value, (#[Value.pointer (some ⟨q, 0, none⟩)] ++ (Array.replicate 9 undef).setIfInBounds 3 v) = #[Value.pointer (some ⟨q, 0, none⟩), undef, undef, undef, v, undef, undef, undef, undef, undef] := fun v => rfl
  rw [et]
  have HU := Lib.hid hu
  have HFA := Lib.hid (Fr.alloc S0 w (.cells #[] 121))
  have bq := HFA.out.row hq (fun h => h)
  have HE := Lib.hid (set_first (y := .int .i64 9) bq)
  have HF9 := Lib.hid ((HFA.out.mono (fun _ _ e => e.elim)).trans (Fr.setCell (· = q) _ ⟨q, 0, none⟩ (.int .i64 9) rfl) (fun _ _ e => e))
  have c2 : (w.alloc (.cells #[] 121)).cell? ⟨q, 0, none⟩ = some (.int .i64 E) := by
    generalize w.alloc (.cells #[] 121) = W at bq
    simp [World.cell?, bq]
  have z2 : (w.alloc (.cells #[] 121)).frozen? ⟨q, 0, none⟩ = false := by
    clear c2
    generalize w.alloc (.cells #[] 121) = W at bq
    simp [World.frozen?, bq]
  clear hu bq hq
  go_wp2_with fail
  exact ⟨rfl, .panicking [{ v := .iface 121 (.agg #[]), recovered := true }], rfl, .tuple #[], by simp [results, Tryz.results57], rfl, rfl, HF9.out, HE.out⟩
theorem hcatch_idle (q : Addr) (w : World) :
    CallsD Tryz.prog 57 #[.pointer (some q)] .returning w fun e u' w' => e = .returned (.tuple #[]) ∧ u' = .returning ∧ w' = w := by
  have hnn : ∀ w, (binOp .eql 20 .nilIface .nilIface).run Tryz.prog w = .ok (.bool true) w := fun w => by kernel_rfl
  refine callsD_of_wpS Tryz.func57 rfl fun c₀ cs hu => ?_
  apply wpS_seq
  apply wpS_region
  simp [wpOpsS, go_sem, recoverD, hu, Tryz.ntmps57, Exit.thenS]
  refine wpS_of_wp ?_
  have et : (#[Value.pointer (some q)] ++ (Array.replicate 9 undef).setIfInBounds 3 Value.nilIface) = #[Value.pointer (some q), undef, undef, undef, .nilIface, undef, undef, undef, undef, undef] := rfl
  rw [et]
  go_wp2_with fail
  exact ⟨rfl, .returning, by cases c₀; simp_all, .tuple #[], by simp [results, Tryz.results57], rfl, rfl, rfl⟩
theorem sres {tmps : Array Value} {w : World} {q : Nat} {v : Value} {e : Int} (h4 : tmps.getD 4 undef = v) (h5 : tmps.getD 5 undef = .pointer (some ⟨q, 0, none⟩)) (hq : w.heap[q]? = some (.cells #[.int .i64 e] 31 (0, 0))) :
    (results Tryz.f33 tmps).run Tryz.prog w = .ok (.tuple #[v, .int .i64 e]) w := by
  have c2 : w.cell? ⟨q, 0, none⟩ = some (.int .i64 e) := by simp [World.cell?, hq]
  have h4' : tmps[4]?.getD undef = v := by simpa using h4
  have h5' : tmps[5]?.getD undef = .pointer (some ⟨q, 0, none⟩) := by simpa using h5
  simp [results, Tryz.results33, asAddr, h4', h5', go_sem, c2]
def RdEnds (w w' : World) (l : List Nat) (e : Ending) : Prop :=
  (∃ A m L f a gs h s, RdOk l A m L f ∧ e = .returned (.tuple #[.pointer (some ⟨gs, 0, none⟩), .int .i64 0]) ∧ NewSk w w' gs h s A m a ∧ cutN a m = L ∧ cutA a m = f) ∨ ((¬ ∃ A m L f, RdOk l A m L f) ∧ e = .returned (.tuple #[.pointer none, .int .i64 9]) ∧ Fr S0 w w')
theorem has_sketch : Has 34 := fun _ _ => by kernel_rfl
theorem stold_any (q : Option Addr) (d n : Nat) (l : List Nat) (w : World) (hn : l.length = n) (hl : SlI w .u8 q l) (h8 : ∀ x ∈ l, x < 256) (hq : q = none → d = 0) (hL : n ≤ 1000000) :
    Calls Tryz.prog 33 #[.slice q n d, .func (.func 34) #[] #[]] w fun e w' => RdEnds w w' l e := by
  have HN := Lib.hid (fun W (f : Fr S0 w W) => rnew_any q d n l W hn (hl.fr0 f) h8 hq hL)
  have HSK := Lib.hid (fun g p c W (h : wRdIs W g p c l 0) => sketch_any g c p l W h)
  have hcf := has_sketch
  have hmf : ∀ (fn : Fn) (first cap : Array Value) (w : World), (Instr.makeFunc fn first cap).run Tryz.prog w = .ok (.func fn first cap) w := fun _ _ _ _ => rfl
  have HT := Lib.hid (heap_alloc_new w (.cells #[.int .i64 0] 31))
  have F0 := Lib.hid (Fr.alloc S0 w (.cells #[.int .i64 0] 31))
  have HSZ : Hid ((w.alloc (.cells #[.int .i64 0] 31)).heap.size = w.heap.size + 1) := Lib.hid (size_alloc _ _)
  unfold srcV at HSK
  clear hl h8 hq hn
  go_enter_defers Tryz.func33, Tryz.ntmps33
  go_wp2_with fail
  refine (HN.out _ F0.out).mono ?_
  rintro e w2 ⟨g, p, c, rfl, hr, hg, f2⟩
  have HG := Lib.hid (And.intro True.intro (And.intro hg f2))
  have HS2 := Lib.hid (HSK.out g p c w2 hr)
  have HF := hcf #[.agg #[.pointer (some ⟨g, 0, none⟩)]] w2
  clear hr hg f2 HN HSK
  go_wp2_with fail
  refine HS2.out.mono ?_
  rintro e w3 h3
  unfold SkEnds at h3
  have hfr : Fr (· = g) w2 w3 := by
    rcases h3 with ⟨_, _, _, _, _, _, _, _, -, -, -, -, -, -, -, -, -, f⟩ | ⟨-, -, f⟩ <;> exact f
  have F3 : Hid (Fr S0 w w3) := Lib.hid (((F0.out.trans0 HG.out.2.2)).trans hfr fun j hj e => by have e2 : j = g := e; have := HG.out.2.1; have := HSZ.out; omega)
  have hrow : w3.heap[w.heap.size]? = some (.cells #[.int .i64 0] 31 (0, 0)) := hfr.row (HG.out.2.2.row HT.out fun h => h) (fun e => by have e2 : w.heap.size = g := e; have := HG.out.2.1; have := HSZ.out; omega)
  have HR := Lib.hid hrow
  have HS23 : Hid (w.heap.size + 1 ≤ w2.heap.size) := Lib.hid (by have := HG.out.2.2.size; rw [HSZ.out] at this; exact this)
  rcases h3 with ⟨A, m, L, f, a, gs, h, s, hok, rfl, hk, hcn, hca, g1, g2, g3, g4, -⟩ | ⟨hno, rfl, -⟩
  · have c2 : w3.cell? ⟨w.heap.size, 0, none⟩ = some (.int .i64 0) := cell_row hrow
    have z2 : w3.frozen? ⟨w.heap.size, 0, none⟩ = false := by simp [World.frozen?, hrow]
    have f9 : Fr (fun j => j = w.heap.size) w3 (w3.setCell ⟨w.heap.size, 0, none⟩ (.int .i64 0)) := Fr.setCell _ _ _ _ rfl
    have HE := Lib.hid (set_first (y := .int .i64 0) hrow)
    have HNEW : Hid (RdEnds w (w3.setCell ⟨w.heap.size, 0, none⟩ (.int .i64 0)) l (.returned (.tuple #[.pointer (some ⟨gs, 0, none⟩), .int .i64 0]))) := Lib.hid (.inl ⟨A, m, L, f, a, gs, h, s, hok, rfl, ⟨hk.fr f9 (fun e => by have := HS23.out; have e2 : gs = w.heap.size := e; omega) (fun e => by have := HS23.out; have e2 : h = w.heap.size := e; omega) (fun e => by have := HS23.out; have e2 : s = w.heap.size := e; omega), by have := HS23.out; omega, by have := HS23.out; omega, Nat.lt_of_lt_of_le g3 f9.size, by have := HS23.out; omega, F3.out.trans f9 fun j hj e => by have e2 : j = w.heap.size := e; omega⟩, hcn, hca⟩)
    clear hrow hok hk hcn hca g1 g2 g3 g4 f9 hfr HS2
    go_wp2_with fail
    refine leaves_cons (f := 61) (args := #[.pointer (some ⟨w.heap.size, 0, none⟩)]) (by simp) (by simp [go_sem]) ?_
    refine (scatch_idle ⟨w.heap.size, 0, none⟩ _).mono ?_
    rintro e u' wz ⟨rfl, rfl, rfl⟩
    exact ⟨_, sres rfl rfl HE.out, HNEW.out⟩
  · have HNO := Lib.hid hno
    clear hno hrow hfr HS2
    refine leaves_cons (f := 61) (args := #[.pointer (some ⟨w.heap.size, 0, none⟩)]) (by simp) (by simp [go_sem]) ?_
    refine (scatch_given w.heap.size _ _ HR.out).mono ?_
    rintro e u' wz ⟨rfl, hset, fz, z2⟩
    show Leaves _ _ _ _ [] (settle u') wz
    rw [hset]
    exact ⟨_, sres rfl rfl z2, .inr ⟨HNO.out, rfl, F3.out.trans fz fun j hj e => by have e2 : j = w.heap.size := e; omega⟩⟩
theorem dread_any (q : Option Addr) (d n : Nat) (l : List Nat) (w : World) (hn : l.length = n) (hl : SlI w .u8 q l) (h8 : ∀ x ∈ l, x < 256) (hq : q = none → d = 0) (hL : n ≤ 1000000) :
    Calls Tryz.prog 11 #[.slice q n d] w fun e w' => RdEnds w w' l e := by
  have H := Lib.hid (stold_any q d n l w hn hl h8 hq hL)
  clear hn hl h8 hq hL
  go_enter Tryz.func11, Tryz.ntmps11
  go_wp2_with fail
  refine H.out.mono ?_
  rintro e w1 (⟨A, m, L, f, a, gs, h, s, hok, rfl, hk⟩ | ⟨hno, rfl, f1⟩)
  · have HK := Lib.hid (And.intro hok hk)
    clear hok hk H
    go_wp2_with fail
    go_ret2
    exact .inl ⟨A, m, L, f, a, gs, h, s, HK.out.1, rfl, HK.out.2⟩
  · have HK := Lib.hid (And.intro hno f1)
    clear hno f1 H
    go_wp2_with fail
    go_ret2
    exact .inr ⟨HK.out.1, rfl, HK.out.2⟩
end Go.Proofs.YtaemgflhgdlmiaaGreat
