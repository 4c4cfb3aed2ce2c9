/- HwMath -/
import Derived.Test.YtnndgpggjlhhpaaGreatPt1
import Derived.Test.YtnndgpggjlhhpaaGreatPt2
import Derived.Test.YtnndgpggjlhhpaaGreatPt3
import Derived.Test.YtnndgpggjlhhpaaGreatPt4
import Derived.Test.YtnndgpggjlhhpaaGreatPt5
import Derived.Test.YtnndgpggjlhhpaaGreatPt6
import Derived.Test.YtnndgpggjlhhpaaGreatPt7
import Derived.Test.YtnndgpggjlhhpaaGreatPt8
import Derived.Test.YtnndgpggjlhhpaaGreatPt9
import Derived.Test.YtnndgpggjlhhpaaGreatPt10
import Derived.Test.YtnndgpggjlhhpaaGreatPt11
import Derived.Test.YtnndgpggjlhhpaaGreatPt12
import Derived.Test.YtnndgpggjlhhpaaGreatPt13
import Derived.Lib.Repeat
import Derived.StillTailTactics
import Derived.WalkKit
import Derived.Laws.BitsAllLaws
import Derived.Laws.BytesArg
import Derived.Lib.SlBytesConst
import Derived.Maps.AppendAt
import Derived.Laws.AppendOwnNone
import Derived.WalkSpells
import Derived.WalkLawsBesides
import Derived.Deep.QuietTactic
import Derived.BigQuiet
import Derived.RegionTactic
import Derived.Deep.AppendLies
import Derived.Deep.RegionLaw
import Derived.Laws.ResultCell
import Derived.Laws.EntriesVeiled
import Derived.Lib.Hide
import Derived.Test.YtnndgpggjlhhpaaGreatRows
import Derived.Maps.RangeWalk
import Derived.BigRegion
import Derived.Deep.RegionHeld3
import Derived.Deep.CutBlock
import Derived.Deep.DeepCutAuto
import Derived.Deep.CutRange
import Derived.Lib.BitFns
import Derived.Shelf.Small.Bits
import Derived.Shelf.Strconv.Itoa0
import Derived.Shelf.Bits.Mul64
import Derived.Laws.Externs
import Derived.Shelf.Spec.BitsCarry
import Derived.Shelf.SlSortCmp.WholeK
set_option maxRecDepth 100000
set_option maxHeartbeats 8000000
namespace Go.Proofs.YtnndgpggjlhhpaaGreat
open Go.RowKit
def zers (g : Nat) : List Nat := if g = 0 then [] else if g = 1 then [0] else [18446744073709551616 - g]
def numsAt : Nat → List Pr → List Nat
  | _, [] => []
  | a, x :: r => zers (x.1.toNat - a) ++ x.2 :: numsAt (x.1.toNat + 1) r
def nums (l : List Pr) : List Nat := if l = [] then [0] else numsAt 0 l
def encs (l : List Nat) : List Nat := l.flatMap (enc 9)
def headB (n D L R : Nat) : List Nat := enc 4 478450451 ++ (enc 4 n ++ (enc 4 0 ++ (enc 4 D ++ (enc 6 L ++ (enc 6 R ++ enc 6 4607182418800017408)))))
def plainB (M : Hm) : List Nat := headB (encs (nums M.l)).length M.D M.L M.reach ++ encs (nums M.l)
def Upw (a : Nat) : List Pr → Prop
  | [] => True
  | x :: r => 0 ≤ x.1 ∧ a ≤ x.1.toNat ∧ 0 < x.2 ∧ x.2 < 9223372036854775808 ∧ Upw (x.1.toNat + 1) r
theorem Upw.le {a b : Nat} (h : a ≤ b) : ∀ {l : List Pr}, Upw b l → Upw a l
  | [], _ => trivial
  | _ :: _, ⟨h0, h1, h2, h3, h4⟩ => ⟨h0, by omega, h2, h3, h4⟩
theorem upw_of : ∀ {l : List Pr} {a : Nat}, Srt l → Pos l → ltot l < 9223372036854775808 → (∀ x ∈ l, (a : Int) ≤ x.1) → Upw a l
  | [], _, _, _, _, _ => trivial
  | x :: r, a, hs, hp, ht, ha => by
    have h1 := ha x List.mem_cons_self
    have hs2 := List.pairwise_cons.1 hs
    have h2 : 0 < x.2 := hp x List.mem_cons_self
    simp only [ltot] at ht
    exact ⟨by omega, by omega, h2, by omega, upw_of hs2.2 (fun y hy => hp y (List.mem_cons_of_mem _ hy)) (by omega) fun y hy => by have := hs2.1 y hy; omega⟩
def stepN (n : Nat) : Nat := if 9223372036854775808 ≤ n then 18446744073709551616 - n else 1
def rdp (C : Nat) : Nat → Nat → List Nat → Option (List Pr)
  | 0, _, _ => none
  | f + 1, a, b => if b = [] then some [] else match dec 9 b with
    | .error _ => none
    | .ok (n, u) => if C < a + stepN n then none else if 0 < n ∧ n < 9223372036854775808 then (rdp C f (a + stepN n) (b.drop u)).map fun l => ((a : Int), n) :: l else rdp C f (a + stepN n) (b.drop u)
theorem rdp_up (C : Nat) : ∀ (f a : Nat) (b : List Nat) (l : List Pr), rdp C f a b = some l → Upw a l ∧ ∀ x ∈ l, x.1 < C
  | 0, _, _, _, h => by simp [rdp] at h
  | f + 1, a, b, l, h => by
    rw [rdp] at h
    split at h
    · simp only [Option.some.injEq] at h
      subst h
      exact ⟨trivial, fun x hx => by simp at hx⟩
    · split at h
      · simp at h
      · rename_i n u _
        split at h
        · simp at h
        · rename_i hC
          split at h
          · rename_i hp
            have e1 : stepN n = 1 := by unfold stepN; rw [if_neg (by omega)]
            rw [e1] at h hC
            obtain ⟨r, hr, rfl⟩ := Option.map_eq_some_iff.1 h
            obtain ⟨h1, h2⟩ := rdp_up C f (a + 1) _ r hr
            refine ⟨⟨by omega, by simp, hp.1, hp.2, by simpa using h1⟩, fun x hx => ?_⟩
            rcases List.mem_cons.1 hx with rfl | hx
            · simp only; omega
            · exact h2 x hx
          · obtain ⟨h1, h2⟩ := rdp_up C f _ _ l h
            exact ⟨h1.le (by omega), h2⟩
theorem Upw.facts : ∀ {l : List Pr} {a : Nat}, Upw a l → Srt l ∧ Pos l ∧ (∀ x ∈ l, (a : Int) ≤ x.1) ∧ ∀ x ∈ l, x.2 < 9223372036854775808
  | [], _, _ => ⟨List.Pairwise.nil, fun x hx => by simp at hx, fun x hx => by simp at hx, fun x hx => by simp at hx⟩
  | x :: r, a, ⟨h0, h1, h2, h3, h4⟩ => by
    obtain ⟨k1, k2, k3, k4⟩ := Upw.facts h4
    refine ⟨List.pairwise_cons.2 ⟨fun y hy => by have := k3 y hy; omega, k1⟩, fun y hy => ?_, fun y hy => ?_, fun y hy => ?_⟩
    · rcases List.mem_cons.1 hy with rfl | hy
      · exact h2
      · exact k2 y hy
    · rcases List.mem_cons.1 hy with rfl | hy
      · omega
      · have := k3 y hy; omega
    · rcases List.mem_cons.1 hy with rfl | hy
      · exact h3
      · exact k4 y hy
theorem vEnc_pos (m z : Nat) : 1 ≤ (vEnc (m + 1) z).length := by
  rw [vEnc]
  split
  · exact Nat.le_refl _
  · rw [List.length_cons]
    omega
theorem enc9_pos (n : Nat) : 1 ≤ (enc 9 n).length := by
  rw [enc_9]
  exact vEnc_pos 7 _
theorem dec9_pos {b : List Nat} {n u : Nat} (h8 : ∀ x ∈ b, x < 256) (h : dec 9 b = .ok (n, u)) : 1 ≤ u ∧ u ≤ b.length ∧ n < 18446744073709551616 := by
  obtain ⟨h1, h2, -, h4⟩ := enc_dec 9 n u b (by decide) h8 h
  have h3 := enc9_pos n
  rw [h2, List.length_take] at h3
  omega
theorem encs_cons (n : Nat) (l : List Nat) : encs (n :: l) = enc 9 n ++ encs l := rfl
theorem encs_app (a b : List Nat) : encs (a ++ b) = encs a ++ encs b := by simp [encs]
theorem encs_ne (n : Nat) (l : List Nat) : encs (n :: l) ≠ [] := fun e => by
  have h1 := enc9_pos n
  have h2 := congrArg List.length e
  rw [encs_cons, List.length_append] at h2
  simp only [List.length_nil] at h2
  omega
theorem dec9_enc (n : Nat) (r : List Nat) (hn : n < 18446744073709551616) : dec 9 (enc 9 n ++ r) = .ok (n, (enc 9 n).length) := dec_enc 9 n r (by decide) hn (fits_big hn (by decide))
theorem rdp_step (C f a n : Nat) (r : List Nat) (hn : n < 18446744073709551616) (hC : a + stepN n ≤ C) :
    rdp C (f + 1) a (encs (n :: r)) = if 0 < n ∧ n < 9223372036854775808 then (rdp C f (a + stepN n) (encs r)).map fun l => ((a : Int), n) :: l else rdp C f (a + stepN n) (encs r) := by
  rw [rdp, if_neg (encs_ne n r), encs_cons, dec9_enc n _ hn]
  simp only
  rw [if_neg (by omega), List.drop_left]
theorem rdp_nil (C f a : Nat) : rdp C (f + 1) a (encs []) = some [] := by rw [rdp, if_pos (show encs [] = [] from rfl)]
theorem encs_len (l : List Nat) : l.length ≤ (encs l).length := by
  induction l with
  | nil => exact Nat.le_refl _
  | cons n l ih => have := enc9_pos n; rw [encs_cons, List.length_append, List.length_cons]; omega
theorem rdp_nums (C : Nat) (hC : C ≤ 4611686018427387904) : ∀ (l : List Pr) (f a : Nat), Upw a l → (∀ x ∈ l, x.1 < C) → (numsAt a l).length < f → rdp C f a (encs (numsAt a l)) = some l
  | [], f, a, _, _, hf => by
    obtain ⟨f, rfl⟩ : ∃ g, f = g + 1 := ⟨f - 1, by omega⟩
    exact rdp_nil C f a
  | x :: r, f, a, ⟨h0, h1, h2, h3, h4⟩, hb, hf => by
    have hx := hb x List.mem_cons_self
    have hr : ∀ y ∈ r, y.1 < C := fun y hy => hb y (List.mem_cons_of_mem _ hy)
    obtain ⟨K, hK⟩ : ∃ K : Nat, x.1 = K := ⟨x.1.toNat, by omega⟩
    have hKn : x.1.toNat = K := by omega
    rw [numsAt, hKn] at hf ⊢
    rw [hKn] at h1 h4
    have e1 : stepN x.2 = 1 := by unfold stepN; rw [if_neg (by omega)]
    have one : ∀ g, (numsAt (K + 1) r).length < g → rdp C (g + 1) K (encs (x.2 :: numsAt (K + 1) r)) = some (x :: r) := fun g hg => by
      rw [rdp_step C g K x.2 _ (by omega) (by rw [e1]; omega), if_pos ⟨h2, h3⟩, e1, rdp_nums C hC r g (K + 1) h4 hr hg]
      simp only [Option.map_some]
      rw [← hK]
    unfold zers at hf ⊢
    by_cases g0 : K - a = 0
    · rw [if_pos g0, List.nil_append] at hf ⊢
      obtain rfl : K = a := by omega
      obtain ⟨f, rfl⟩ : ∃ g, f = g + 1 := ⟨f - 1, by omega⟩
      exact one f (by simp only [List.length_cons] at hf; omega)
    · rw [if_neg g0] at hf ⊢
      by_cases g1 : K - a = 1
      · rw [if_pos g1] at hf ⊢
        simp only [List.cons_append, List.nil_append, List.length_cons] at hf ⊢
        obtain ⟨f, rfl⟩ : ∃ g, f = g + 2 := ⟨f - 2, by omega⟩
        have e2 : stepN 0 = 1 := by unfold stepN; rw [if_neg (by omega)]
        rw [rdp_step C (f + 1) a 0 _ (by decide) (by rw [e2]; omega), if_neg (by omega), e2, show a + 1 = K by omega]
        exact one f (by omega)
      · rw [if_neg g1] at hf ⊢
        simp only [List.cons_append, List.nil_append, List.length_cons] at hf ⊢
        obtain ⟨f, rfl⟩ : ∃ g, f = g + 2 := ⟨f - 2, by omega⟩
        have e2 : stepN (18446744073709551616 - (K - a)) = K - a := by unfold stepN; rw [if_pos (by omega)]; omega
        rw [rdp_step C (f + 1) a _ _ (by omega) (by rw [e2]; omega), if_neg (by omega), e2, show a + (K - a) = K by omega]
        exact one f (by omega)
theorem rdp_all (C : Nat) (hC : C ≤ 4611686018427387904) (h1 : 1 ≤ C) (l : List Pr) (f : Nat) (hu : Upw 0 l) (hb : ∀ x ∈ l, x.1 < C) (hf : (nums l).length < f) : rdp C f 0 (encs (nums l)) = some l := by
  unfold nums at hf ⊢
  by_cases hl : l = []
  · subst hl
    rw [if_pos rfl] at hf ⊢
    simp only [List.length_cons, List.length_nil] at hf
    obtain ⟨f, rfl⟩ : ∃ g, f = g + 2 := ⟨f - 2, by omega⟩
    have e2 : stepN 0 = 1 := by unfold stepN; rw [if_neg (by omega)]
    rw [rdp_step C (f + 1) 0 0 _ (by decide) (by rw [e2]; omega), if_neg (by omega), e2, rdp_nil]
  · rw [if_neg hl] at hf ⊢
    exact rdp_nums C hC l f 0 hu hb hf
def sHead : ByteArray := ⟨#[87, 87, 87, 87, 81, 81, 81]⟩
def sPack : ByteArray := ⟨#[87, 87]⟩
def sMark : ByteArray := ⟨#[87]⟩
theorem forms_head : formsS (pat sHead) = some [4, 4, 4, 4, 6, 6, 6] := by kernel_rfl
theorem forms_pack : formsS (pat sPack) = some [4, 4] := by kernel_rfl
theorem forms_mark : formsS (pat sMark) = some [4] := by kernel_rfl
theorem fits4 {n : Nat} (h : n < 4294967296) : fits 4 n = true := fits_of (by rw [most_4]; exact h) (by rw [most_4]; decide)
theorem fits6 {n : Nat} (h : n < 18446744073709551616) : fits 6 n = true := fits_big h (by rw [most_6]; decide)
theorem put_head {n D L R : Nat} (hn : n < 4294967296) (hD : D < 4294967296) (hL : L < 18446744073709551616) (hR : R < 18446744073709551616) :
    putS (pat sHead) [478450451, n, 0, D, L, R, 4607182418800017408] = .ok (headB n D L R) := by
  unfold putS
  rw [forms_head]
  simp only
  rw [if_pos (by rfl)]
  simp only [putRows, fits4 (show 478450451 < 4294967296 by decide), fits4 hn, fits4 (show 0 < 4294967296 by decide), fits4 hD, fits6 hL, fits6 hR, fits6 (show 4607182418800017408 < 18446744073709551616 by decide), if_true, List.append_nil]
  rfl
theorem put_pack {n : Nat} (hn : n < 4294967296) : putS (pat sPack) [478450452, n] = .ok (enc 4 478450452 ++ enc 4 n) := by
  unfold putS
  rw [forms_pack]
  simp only
  rw [if_pos (by rfl)]
  simp only [putRows, fits4 (show 478450452 < 4294967296 by decide), fits4 hn, if_true, List.append_nil]
def sCnt (c : Nat) : ByteArray := ⟨(Lib.repeatL [110] c).toArray⟩
theorem pat_cnt (c : Nat) : pat (sCnt c) = List.replicate c 110 := by
  unfold pat sCnt
  rw [show ([110] : List UInt8) = List.replicate 1 110 from rfl, Lib.repeatL_replicate]
  simp
theorem rows_cnt : ∀ c, rowsOf (List.replicate c 110) = some (List.replicate c 9)
  | 0 => rfl
  | c + 1 => by
    rw [List.replicate_succ, rowsOf, rows_cnt c]
    rfl
theorem put_cnt : ∀ (l : List Nat), (∀ n ∈ l, n < 18446744073709551616) → putRows (List.replicate l.length 9) l = .ok (encs l)
  | [], _ => rfl
  | n :: l, h => by
    rw [List.length_cons, List.replicate_succ, putRows_cons, if_pos (fits_big (h n List.mem_cons_self) (by rw [most_9]; decide)), put_cnt l fun x hx => h x (List.mem_cons_of_mem _ hx)]
    rfl
theorem puts_cnt {l : List Nat} (h : ∀ n ∈ l, n < 18446744073709551616) (hl : l.length ≤ 64) : putS (pat (sCnt l.length)) l = .ok (encs l) := by
  unfold putS formsS
  rw [pat_cnt, List.length_replicate, if_neg (by omega), rows_cnt]
  simp only
  rw [List.length_replicate, if_pos rfl, put_cnt l h]
theorem sCnt_size (c : Nat) : (sCnt c).size = c := by
  have h := pat_length (sCnt c)
  rw [pat_cnt, List.length_replicate] at h
  exact h.symm
end Go.Proofs.YtnndgpggjlhhpaaGreat
