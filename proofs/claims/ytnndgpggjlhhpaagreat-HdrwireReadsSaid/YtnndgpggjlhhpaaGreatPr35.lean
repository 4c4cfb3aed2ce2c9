/- HwForm, HwRead -/
import Derived.Test.YtnndgpggjlhhpaaGreatPr1
import Derived.Test.YtnndgpggjlhhpaaGreatPr2
import Derived.Test.YtnndgpggjlhhpaaGreatPr3
import Derived.Test.YtnndgpggjlhhpaaGreatPr4
import Derived.Test.YtnndgpggjlhhpaaGreatPr5
import Derived.Test.YtnndgpggjlhhpaaGreatPr6
import Derived.Test.YtnndgpggjlhhpaaGreatPr7
import Derived.Test.YtnndgpggjlhhpaaGreatPr8
import Derived.Test.YtnndgpggjlhhpaaGreatPr9
import Derived.Test.YtnndgpggjlhhpaaGreatPr10
import Derived.Test.YtnndgpggjlhhpaaGreatPr11
import Derived.Test.YtnndgpggjlhhpaaGreatPr12
import Derived.Test.YtnndgpggjlhhpaaGreatPr13
import Derived.Test.YtnndgpggjlhhpaaGreatPr14
import Derived.Test.YtnndgpggjlhhpaaGreatPr15
import Derived.Test.YtnndgpggjlhhpaaGreatPr16
import Derived.Test.YtnndgpggjlhhpaaGreatPr17
import Derived.Test.YtnndgpggjlhhpaaGreatPr18
import Derived.Test.YtnndgpggjlhhpaaGreatPr19
import Derived.Test.YtnndgpggjlhhpaaGreatPr20
import Derived.Test.YtnndgpggjlhhpaaGreatPr21
import Derived.Test.YtnndgpggjlhhpaaGreatPr22
import Derived.Test.YtnndgpggjlhhpaaGreatPr23
import Derived.Test.YtnndgpggjlhhpaaGreatPr24
import Derived.Test.YtnndgpggjlhhpaaGreatPr25
import Derived.Test.YtnndgpggjlhhpaaGreatPr26
import Derived.Test.YtnndgpggjlhhpaaGreatPr27
import Derived.Test.YtnndgpggjlhhpaaGreatPr28
import Derived.Test.YtnndgpggjlhhpaaGreatPr29
import Derived.Test.YtnndgpggjlhhpaaGreatPr30
import Derived.Test.YtnndgpggjlhhpaaGreatPr31
import Derived.Test.YtnndgpggjlhhpaaGreatPr32
import Derived.Test.YtnndgpggjlhhpaaGreatPr33
import Derived.Test.YtnndgpggjlhhpaaGreatPr34
import Derived.BigRegion
import Derived.RangeFuncNested
import Derived.RangeFuncBound
import Derived.RangeFuncCalls
import Derived.RangeFuncLeaves
import Derived.Shelf.Abstract
import Derived.Shelf.RegionOpen
import Derived.WalkKit
import Derived.OwnWalkIn
import Derived.TacticsInMore
import Derived.LoopNIn
import Derived.LoopIn
import Derived.Sort.BigQuietIn
import Derived.Lib.Repeat
import Derived.StillTailTactics
import Derived.Laws.BitsAllLaws
import Derived.Laws.BytesArg
import Derived.Lib.SlBytesConst
import Derived.Maps.AppendAt
import Derived.Laws.AppendOwnNone
import Derived.WalkSpells
import Derived.WalkLawsBesides
import Derived.Deep.QuietTactic
import Derived.BigQuiet
import Derived.RegionTactic
import Derived.Deep.AppendLies
import Derived.Deep.RegionLaw
import Derived.Laws.ResultCell
import Derived.Laws.EntriesVeiled
import Derived.Lib.Hide
import Derived.Test.YtnndgpggjlhhpaaGreatRows
import Derived.Maps.RangeWalk
import Derived.Deep.RegionHeld3
import Derived.Deep.CutBlock
import Derived.Deep.DeepCutAuto
import Derived.Deep.CutRange
import Derived.Lib.BitFns
import Derived.Shelf.Small.Bits
import Derived.Shelf.Strconv.Itoa0
import Derived.Shelf.Bits.Mul64
import Derived.Laws.Externs
import Derived.Shelf.Spec.BitsCarry
import Derived.Shelf.SlSortCmp.WholeK
import Derived.Shelf.Strings.Repeat
import Derived.Lib.AppendZerosOnto
import Derived.Lib.SliceRun
import Derived.Lib.Walk
import Derived.Laws.MakeOwn
import Derived.Laws.OwnMore
import Derived.IntWalk
import Derived.Lib.MakeNoZero
import Derived.Laws.CopyOwn
import Derived.Laws.Tables
import Derived.Defers
import Derived.Recover
import Derived.DeepKeys4
import Derived.WideKeyPair
import Derived.MapKept
import Derived.ChangeMaps
import Derived.Laws.Cover3
set_option maxRecDepth 100000
set_option maxHeartbeats 8000000
namespace Go.Proofs.YtnndgpggjlhhpaaGreat
open Go.RowKit Go.ChangeMaps
structure Is19 (M : Hm) (l : List Nat) : Prop where
  good : M.Good
  own : Own M M.L M.H M.D false
  eq : plainB M = l
theorem Is19.reach {M : Hm} {l : List Nat} (h : Is19 M l) : M.reach = M.H := by
  unfold Hm.reach
  rw [if_pos (h.good.fix h.own.gr)]
theorem Is19.split {M : Hm} {l : List Nat} (h : Is19 M l) : l = headB (encs (nums M.l)).length M.D M.L M.H ++ encs (nums M.l) := by
  rw [← h.eq, plainB, h.reach]
theorem Is19.len {M : Hm} {l : List Nat} (h : Is19 M l) : l.length = 40 + (encs (nums M.l)).length := by rw [← h.eq, plainB_len]
theorem Is19.pairs {M : Hm} {l : List Nat} (h : Is19 M l) : M.l.length ≤ l.length := by
  rw [h.len]
  have h1 := encs_len (nums M.l)
  have h2 : M.l.length ≤ (nums M.l).length := by
    unfold nums
    split
    · rename_i e
      rw [e]
      exact Nat.zero_le _
    · have h3 : ∀ (l : List Pr) (a : Nat), l.length ≤ (numsAt a l).length := by
        intro l
        induction l with
        | nil => intro a; exact Nat.le_refl _
        | cons x r ih => intro a; have := ih (x.1.toNat + 1); rw [numsAt, List.length_append, List.length_cons, List.length_cons]; omega
      exact h3 _ _
  omega
theorem Is19.get {M : Hm} {l : List Nat} (h : Is19 M l) (hl : l.length ≤ 1000000) : getS (pat sHead) l = .ok ([478450451, (encs (nums M.l)).length, 0, M.D, M.L, M.H, 4607182418800017408], 40) := by
  have hlen := h.len
  have hp := put_head (n := (encs (nums M.l)).length) (D := M.D) (L := M.L) (R := M.H) (by omega) (by have := h.good.d; omega) (by have := h.good.lh; have := h.good.hh; omega) (by have := h.good.hh; omega)
  have hg := getS_putS (pat sHead) _ _ (encs (nums M.l)) (by
    intro n hn
    have h1 := h.good.d
    have h2 := h.good.lh
    have h3 := h.good.hh
    simp only [List.mem_cons, List.not_mem_nil, or_false] at hn
    rcases hn with e | e | e | e | e | e | e <;> omega) hp
  rw [headB_len, ← h.split] at hg
  exact hg
theorem Is19.rest {M : Hm} {l : List Nat} (h : Is19 M l) : l.drop 40 = encs (nums M.l) := by
  conv => lhs; rw [h.split]
  rw [List.drop_append_of_le_length (by rw [headB_len]; exact Nat.le_refl _), List.drop_of_length_le (by rw [headB_len]; exact Nat.le_refl _), List.nil_append]
theorem Is19.tells {M : Hm} {l : List Nat} (h : Is19 M l) : rdp (cellsN M.m M.b) ((l.drop 40).length + 1) 0 (l.drop 40) = some M.l := by
  rw [h.rest]
  have hc := h.good.cellb
  refine rdp_all _ (by omega) ?_ M.l _ h.good.upw h.good.klt (Nat.lt_succ_of_le (encs_len _))
  have hp := two_pos (M.m - 1)
  unfold cellsN
  exact Nat.mul_pos (Nat.succ_pos _) hp
theorem putRows_fix : ∀ (ks l bs : List Nat), putRows ks l = .ok bs → ks.length = l.length → (∀ k ∈ ks, k = 4 ∨ k = 6) → bs.length = (ks.map fun k => if k = 4 then 4 else 8).sum
  | [], [], bs, h, _, _ => by
    simp only [putRows, Except.ok.injEq] at h
    rw [← h]
    rfl
  | [], _ :: _, _, _, h, _ => by simp at h
  | _ :: _, [], _, _, h, _ => by simp at h
  | k :: ks, n :: ns, bs, h, hl, hk => by
    rw [putRows_cons] at h
    split at h
    · cases hr : putRows ks ns with
      | error e => rw [hr] at h; simp [wpre] at h
      | ok r =>
        rw [hr] at h
        simp only [wpre, Except.ok.injEq] at h
        have ih := putRows_fix ks ns r hr (by simpa using hl) fun k hk2 => hk k (List.mem_cons_of_mem _ hk2)
        rw [← h, List.length_append, List.map_cons, List.sum_cons, ih]
        rcases hk k List.mem_cons_self with rfl | rfl
        · rw [enc4_len]; rfl
        · rw [enc6_len]; rfl
    · simp at h
theorem get_head {l ns : List Nat} {u : Nat} (h8 : ∀ x ∈ l, x < 256) (h : getS (pat sHead) l = .ok (ns, u)) : u = 40 ∧ 40 ≤ l.length ∧ ∃ a0 a1 a2 a3 a4 a5 a6, ns = [a0, a1, a2, a3, a4, a5, a6] := by
  obtain ⟨h1, h2⟩ := putS_getS _ _ _ _ h8 h
  unfold putS at h2
  rw [forms_head] at h2
  simp only at h2
  split at h2
  · rename_i hl
    have h3 := putRows_fix _ _ _ h2 hl (by decide)
    rw [List.length_take] at h3
    have h4 : ([4, 4, 4, 4, 6, 6, 6].map fun k => if k = 4 then 4 else 8).sum = 40 := by decide
    rw [h4] at h3
    refine ⟨by omega, by omega, ?_⟩
    match ns, hl with
    | [a0, a1, a2, a3, a4, a5, a6], _ => exact ⟨a0, a1, a2, a3, a4, a5, a6, rfl⟩
  · simp at h2
theorem SlI.cells {w : World} {k : IntKind} {b o : Nat} {l : List Nat} (h : SlI w k (some ⟨b, o, none⟩) l) (i : Nat) (hi : i < l.length) : w.cell? ⟨b, o + i, none⟩ = some (.int k (l[i] : Nat)) := by
  obtain ⟨b', o', e, hc⟩ := h.at i hi
  obtain rfl : b = b' := by have := Option.some.inj e; simp only [Addr.mk.injEq] at this; exact this.1
  obtain rfl : o = o' := by have := Option.some.inj e; simp only [Addr.mk.injEq] at this; exact this.2.1
  exact hc
theorem equal_any (p q : Option Addr) (n m c d : Nat) (a b : List Nat) (w : World) (ha : a.length = n) (hb : b.length = m) (sa : SlI w .u8 p a) (sb : SlI w .u8 q b) (h8 : ∀ x ∈ a, x < 256) (k8 : ∀ x ∈ b, x < 256) :
    Calls Tryz.prog 66 #[.slice p n c, .slice q m d] w fun e w' => e = .returned (.bool (decide (a = b))) ∧ w' = w := by
  have h1 := conv_sl sa n c (by omega)
  have h2 := conv_sl sb m d (by omega)
  rw [List.take_of_length_le (by omega)] at h1 h2
  have h3 := strB_beq a b h8 k8
  go_enter Tryz.func66, Tryz.ntmps66
  go_wp2_with fail
  go_ret
  exact ⟨rfl, rfl⟩
end Go.Proofs.YtnndgpggjlhhpaaGreat

namespace Go.Proofs.YtnndgpggjlhhpaaGreat
open Go.RowKit Go.ChangeMaps
theorem encs_256 (l : List Nat) : ∀ x ∈ encs l, x < 256 := fun x hx => by
  obtain ⟨n, -, h⟩ := List.mem_flatMap.1 hx
  exact enc_lt 9 n (by decide) x h
theorem plainB_256 (M : Hm) : ∀ x ∈ plainB M, x < 256 := fun x hx => by
  unfold plainB headB at hx
  simp only [List.mem_append] at hx
  rcases hx with (h | h | h | h | h | h | h) | h
  · exact enc_lt 4 _ (by decide) x h
  · exact enc_lt 4 _ (by decide) x h
  · exact enc_lt 4 _ (by decide) x h
  · exact enc_lt 4 _ (by decide) x h
  · exact enc_lt 6 _ (by decide) x h
  · exact enc_lt 6 _ (by decide) x h
  · exact enc_lt 6 _ (by decide) x h
  · exact encs_256 _ x h
def OfEnds (w w' : World) (e : Ending) (l : List Nat) : Prop :=
  Fr S0 w w' ∧ ((∃ M g hm, e = .returned (.pointer (some ⟨g, 0, none⟩)) ∧ HistIs w' g hm M ∧ Is19 M l ∧ w.heap.size ≤ g ∧ w.heap.size ≤ hm) ∨ ((¬ ∃ M, Is19 M l) ∧ e = .panicked gup))
theorem May.of {L H D : Int} (h : May L H D) (hH : H < 9223372036854775808) : ∃ l h2 d : Nat, L = l ∧ H = h2 ∧ D = d ∧ 1 ≤ d ∧ d ≤ 5 ∧ 0 < l ∧ 2 * l ≤ h2 ∧ h2 < 9223372036854775808 := by
  obtain ⟨⟨h1, h2⟩, h3, h4⟩ := h
  exact ⟨L.toNat, H.toNat, D.toNat, by omega, by omega, by omega, by omega, by omega, by omega, by omega, by omega⟩
theorem mapnew_any (L H D : Int) (hH : -9223372036854775808 ≤ H ∧ H ≤ 9223372036854775807) (W : World) :
    Calls Tryz.prog 43 #[.agg #[.int .i64 L, .int .i64 H, .int .i64 D]] W fun e w' => Fr S0 W w' ∧
      ((∃ l h d g, L = (l : Nat) ∧ H = (h : Nat) ∧ D = (d : Nat) ∧ (1 ≤ d ∧ d ≤ 5 ∧ 0 < l ∧ 2 * l ≤ h ∧ h < 9223372036854775808 ∧ unt l + mag d ≤ 62) ∧ e = .returned (.tuple #[.pointer (some ⟨g, 0, none⟩), .int .i64 0]) ∧ MapIs w' g (l : Nat) (h : Nat) (d : Nat) (unt l) (mag d)) ∨
      ((¬ ∃ M : Hm, M.Good ∧ (M.L : Int) = L ∧ (M.H : Int) = H ∧ (M.D : Int) = D) ∧ e = .returned (.tuple #[.pointer none, .int .i64 1]))) := by
  by_cases hm : May L H D
  · obtain ⟨l, h, d, rfl, rfl, rfl, h1, h5, h0, hh, hb⟩ := hm.of (by omega)
    by_cases hs : unt l + mag d ≤ 62
    · exact (new_yes l h d W h1 h5 h0 hh hb hs).mono fun e w' ⟨g, he, nm⟩ => ⟨nm.fr, .inl ⟨l, h, d, g, rfl, rfl, rfl, ⟨h1, h5, h0, hh, hb, hs⟩, he, nm.map⟩⟩
    · refine (new_big l h d W h1 h5 h0 hh hb (by omega)).mono fun e w' ⟨he, f⟩ => ⟨f, .inr ⟨?_, he⟩⟩
      rintro ⟨M, hg, e1, e2, e3⟩
      have h1 := hg.s
      rw [hg.eu, hg.em, show M.L = l by omega, show M.D = d by omega] at h1
      exact hs h1
  · refine (new_no L H D W hm hH).mono fun e w' ⟨he, f⟩ => ⟨f, .inr ⟨?_, he⟩⟩
    rintro ⟨M, hg, e1, e2, e3⟩
    have h1 := hg.d
    have h2 := hg.l0
    have h3 := hg.lh
    exact hm ⟨⟨by omega, by omega⟩, by omega, by omega⟩
theorem rdp_len (C : Nat) : ∀ (f a : Nat) (b : List Nat) (l : List Pr), (∀ x ∈ b, x < 256) → rdp C f a b = some l → l.length ≤ b.length
  | 0, _, _, _, _, h => by simp [rdp] at h
  | f + 1, a, b, l, h8, h => by
    rw [rdp] at h
    split at h
    · simp only [Option.some.injEq] at h
      subst h
      exact Nat.zero_le _
    · split at h
      · simp at h
      · rename_i n u hd
        have hu := dec9_pos h8 hd
        have h8' : ∀ x ∈ b.drop u, x < 256 := fun x hx => h8 x (List.mem_of_mem_drop hx)
        split at h
        · simp at h
        · split at h
          · obtain ⟨r, hr, rfl⟩ := Option.map_eq_some_iff.1 h
            have ih := rdp_len C f _ _ r h8' hr
            rw [List.length_drop] at ih
            rw [List.length_cons]
            omega
          · have ih := rdp_len C f _ _ l h8' h
            rw [List.length_drop] at ih
            omega
def LoadEnds (W w' : World) (PV : Value) (EV : Int) (l : List Nat) (K : Nat) : Prop :=
  Fr S0 W w' ∧ ((∃ M g hm, PV = .pointer (some ⟨g, 0, none⟩) ∧ EV = 0 ∧ HistIs w' g hm M ∧ Own M M.L M.H M.D false ∧ M.l.length ≤ K ∧ W.heap.size ≤ g ∧ W.heap.size ≤ hm ∧ ∀ M', Is19 M' l → M = M') ∨ ((¬ ∃ M, Is19 M l) ∧ PV = .pointer none ∧ EV = 1))
theorem Own.self {M : Hm} {L H D : Nat} {gr : Bool} (o : Own M L H D gr) : Own M M.L M.H M.D gr := ⟨o.bq, rfl, rfl, rfl, o.gr⟩
theorem ofload_any {L H D : Nat} (h1 : 1 ≤ D) (h5 : D ≤ 5) (h0 : 0 < L) (hh : 2 * L ≤ H) (hb : H < 9223372036854775808) (hs : unt L + mag D ≤ 62) (l : List Nat) (P : List Pr) (n c : Nat) (p : Option Addr) (W : World)
    (hP : PrI W p P) (hn : P.length = n) (hsm : n ≤ 40000) (hu : Upw 0 P) (hk : ∀ x ∈ P, x.1 < 8519680) (hM : ∀ M, Is19 M l → M.L = L ∧ M.H = H ∧ M.D = D ∧ M.l = P) :
    Calls Tryz.prog 62 #[.agg #[.int .i64 (L : Nat), .int .i64 (H : Nat), .int .i64 (D : Nat)], .bool false, .int .i64 (1 + bkt (unt L + mag D) H : Nat), .slice p n c] W fun e w' => ∃ PV EV, e = .returned (.tuple #[PV, .int .i64 EV]) ∧ LoadEnds W w' PV EV l n := by
  by_cases hE : ∃ M, Is19 M l
  · obtain ⟨M, hI⟩ := hE
    obtain ⟨e1, e2, e3, e4⟩ := hM M hI
    have hbb : M.b = 1 + bkt (unt L + mag D) H := by
      rw [hI.good.fix hI.own.gr, Hm.first, hI.good.eu, hI.good.em, e1, e2, e3]
    have ho : Own M L H D false := ⟨hI.own.bq, e1, e2, e3, hI.own.gr⟩
    have h := load_yes ho hI.good (by rw [e4, hn]; omega) p n c (by rw [e4]; exact hn) W (by rw [e4]; exact hP)
    rw [hbb] at h
    exact h.mono fun e w' ⟨g, hm, he, hist, hg, hhm, f⟩ => ⟨_, _, he, f, .inl ⟨M, g, hm, rfl, rfl, hist, hI.own, by rw [e4, hn]; exact Nat.le_refl _, hg, hhm, fun M' h' => by
      obtain ⟨q1, q2, q3, q4⟩ := hM M' h'
      have b' : M'.b = M.b := by rw [hbb, h'.good.fix h'.own.gr, Hm.first, h'.good.eu, h'.good.em, q1, q2, q3]
      have u' : M'.u = M.u := by rw [h'.good.eu, hI.good.eu, q1, e1]
      have m' : M'.m = M.m := by rw [h'.good.em, hI.good.em, q3, e3]
      obtain ⟨x1, x2, x3, x4, x5, x6, x7, x8⟩ := M
      obtain ⟨y1, y2, y3, y4, y5, y6, y7, y8⟩ := M'
      have g1 := hI.own.gr
      have g2 := h'.own.gr
      simp only at e1 e2 e3 e4 q1 q2 q3 q4 b' u' m' g1 g2
      rw [e1, e2, e3, e4, q1, q2, q3, q4, b', u', m', g1, g2]⟩⟩
  · refine (xload_gen L H D false W h1 h5 h0 hh hb hs p n c P hP hn (by omega) (fun x hx => by have := hu.facts.2.2.2 x hx; omega) (fun x hx => ⟨hu.facts.2.2.1 x hx, by have := hk x hx; omega⟩) _).mono fun e w' ⟨f, h⟩ => ?_
    rcases h with ⟨M, g, hm, he, hist, ho, hl, hg, hhm⟩ | he
    · exact ⟨_, _, he, f, .inl ⟨M, g, hm, rfl, rfl, hist, ho.self, hl, hg, hhm, fun M' h' => absurd ⟨M', h'⟩ hE⟩⟩
    · exact ⟨_, _, he, f, .inr ⟨hE, rfl, rfl⟩⟩
theorem ofPlain_any (p : Option Addr) (n d : Nat) (l : List Nat) (w : World) (hn : l.length = n) (hl : SlI w .u8 p l) (h8 : ∀ x ∈ l, x < 256) (hp : p = none → d = 0) (hd : n ≤ d) (hdm : d ≤ maxLen) (hL : n ≤ 40000) :
    Calls Tryz.prog 40 #[.slice p n d] w fun e w' => OfEnds w w' e l := by
  have HGET := Lib.hid (wget_any sHead p d l w (by decide) hl h8)
  rw [hn] at HGET
  have HS := Lib.hid hl
  have H8 := Lib.hid h8
  have HN := Lib.hid (And.intro hn (And.intro hp (And.intro hd (And.intro hdm hL))))
  obtain ⟨R, hR⟩ : ∃ R, getS (pat sHead) l = R := ⟨_, rfl⟩
  have HR := Lib.hid hR
  rw [hR] at HGET
  simp only [sHead] at HGET
  clear hR hn hl h8 hp hdm hL
  go_enter Tryz.func40, Tryz.ntmps40
  go_wp2_with fail
  refine HGET.out.mono ?_
  rintro e w1 ⟨f1, h1⟩
  have F1 := Lib.hid f1
  clear f1 HGET
  cases R with
  | error x =>
    dsimp only at h1
    subst h1
    have e1 : ((x : Int) == 0) = false := by
      have := getS_ne _ _ _ HR.out
      rw [beq_eq_false_iff_ne]
      omega
    go_wp2_with fail
    refine (hdemand_no _).mono ?_
    rintro e w2 ⟨rfl, rfl⟩
    refine ⟨rfl, F1.out, .inr ⟨?_, rfl⟩⟩
    rintro ⟨M, hM⟩
    have h1 := hM.get (by have := HN.out; omega)
    rw [HR.out] at h1
    cases h1
  | ok a =>
    obtain ⟨ns, u⟩ := a
    obtain ⟨v, rfl, own, fresh, hlt⟩ := h1
    obtain ⟨rfl, h40, a0, a1, a2, a3, a4, a5, a6, rfl⟩ := get_head H8.out HR.out
    obtain ⟨pr, cr, rfl, -⟩ := slForm own
    have hs1 : SlI w1 .u64 pr [a0, a1, a2, a3, a4, a5, a6] := SlI.ofOwns own
    obtain ⟨br, orr, rfl, -⟩ := hs1.at 0 (by simp)
    have k3 := hs1.cells 3 (by simp)
    have k4 := hs1.cells 4 (by simp)
    have k5 := hs1.cells 5 (by simp)
    simp only [List.getElem_cons_succ, List.getElem_cons_zero] at k3 k4 k5
    have hb3 : a3 < 18446744073709551616 := hlt a3 (by simp)
    have hb4 : a4 < 18446744073709551616 := hlt a4 (by simp)
    have hb5 : a5 < 18446744073709551616 := hlt a5 (by simp)
    obtain ⟨I3, hI3⟩ : ∃ I, IntKind.i64.wrap (a3 : Int) = I := ⟨_, rfl⟩
    obtain ⟨I4, hI4⟩ : ∃ I, IntKind.i64.wrap (a4 : Int) = I := ⟨_, rfl⟩
    obtain ⟨I5, hI5⟩ : ∃ I, IntKind.i64.wrap (a5 : Int) = I := ⟨_, rfl⟩
    have HII := Lib.hid (And.intro hI3 (And.intro hI4 hI5))
    have hlen7 : [a0, a1, a2, a3, a4, a5, a6].length = 7 := rfl
    have hIb : -9223372036854775808 ≤ I5 ∧ I5 ≤ 9223372036854775807 := by rw [← hI5, IntKind.wrap_i64]; omega
    have HMN := Lib.hid (fun W => mapnew_any I4 I5 I3 hIb W)
    clear own fresh hlt hs1
    go_wp2_with fail
    refine (hdemand_yes _).mono ?_
    rintro e w2 ⟨rfl, rfl⟩
    go_upto_region 15 with fail
    go_region_held3 (fun w' => w'.cell? ⟨br, orr + 3, none⟩ = some (.int .u64 (a3 : Nat)) ∧ w'.cell? ⟨br, orr + 4, none⟩ = some (.int .u64 (a4 : Nat)) ∧ w'.cell? ⟨br, orr + 5, none⟩ = some (.int .u64 (a5 : Nat)))
      (first
        | (go_split_ands; exact ⟨by assumption, by assumption, by assumption⟩)
        | exact ⟨k3, k4, k5⟩
        | (go_split_ands; exact ⟨(Fr.alloc S0 _ _).cell (by assumption) (fun h => h), (Fr.alloc S0 _ _).cell (by assumption) (fun h => h), (Fr.alloc S0 _ _).cell (by assumption) (fun h => h)⟩)
        | fail)
      (fail)
    have F2 := Lib.hid ((F1.out.trans0 (Fr.alloc S0 w1 (.cells #[.int .i64 I4, .int .i64 I5, .int .i64 I3] 27))).trans0 (Fr.drew S0 _))
    have HBX := Lib.hid (box3a w1 (.int .i64 I4) (.int .i64 I5) (.int .i64 I3) 27)
    obtain ⟨y0, y1, y2⟩ := HBX.out
    have y0 : (w1.alloc (.cells #[.int .i64 I4, .int .i64 I5, .int .i64 I3] 27)).drew.cell? ⟨w1.heap.size, 0, none⟩ = some (.int .i64 I4) := y0
    have y1 : (w1.alloc (.cells #[.int .i64 I4, .int .i64 I5, .int .i64 I3] 27)).drew.cell? ⟨w1.heap.size, 1, none⟩ = some (.int .i64 I5) := y1
    have y2 : (w1.alloc (.cells #[.int .i64 I4, .int .i64 I5, .int .i64 I3] 27)).drew.cell? ⟨w1.heap.size, 2, none⟩ = some (.int .i64 I3) := y2
    generalize (w1.alloc (.cells #[.int .i64 I4, .int .i64 I5, .int .i64 I3] 27)).drew = W2 at y0 y1 y2 F2 ⊢
    generalize w1.heap.size = X at y0 y1 y2 ⊢
    clear k3 k4 k5 hb3 hb4 hb5 hlen7 HBX F1 hI3 hI4 hI5
    go_wp2_with fail
    refine (HMN.out _).mono ?_
    rintro e w3 ⟨f3, h3⟩
    have F3 := Lib.hid (F2.out.trans0 f3)
    have HY := Lib.hid (And.intro (f3.cell y0 (fun h => h)) (And.intro (f3.cell y1 (fun h => h)) (f3.cell y2 (fun h => h))))
    clear HMN F2 f3 y0 y1 y2
    rcases h3 with ⟨L, H, D, gm, rfl, rfl, rfl, hs, rfl, hmap⟩ | ⟨hno, rfl⟩
    · have hs62 := hs.2.2.2.2.2
      have hbm := bkt_most (unt L + mag D) H (by omega) hs.2.2.2.2.1
      obtain ⟨BK, eBK⟩ : ∃ BK, 1 + bkt (unt L + mag D) H = BK := ⟨_, rfl⟩
      have hm18 := (mag_bd D hs.1 hs.2.1).2
      have HFE : Hid (∀ M, Is19 M l → M.L = L ∧ M.H = H ∧ M.D = D ∧ rdp (cellsN (mag D) BK) ((l.drop 40).length + 1) 0 (l.drop 40) = some M.l) := Lib.hid (fun M hM => by
        have h1 := hM.get (by have := HN.out; omega)
        rw [HR.out] at h1
        simp only [Except.ok.injEq, Prod.mk.injEq, List.cons.injEq, and_true] at h1
        obtain ⟨e0, e1, e2, e3, e4, e5, e6⟩ := h1
        have g1 := hM.good.d
        have g2 := hM.good.lh
        have g3 := hM.good.hh
        have q1 := HII.out.1
        have q2 := HII.out.2.1
        have q3 := HII.out.2.2
        rw [e3, IntKind.wrap_i64] at q1
        rw [e4, IntKind.wrap_i64] at q2
        rw [e5, IntKind.wrap_i64] at q3
        have r1 : M.L = L := by omega
        have r2 : M.H = H := by omega
        have r3 : M.D = D := by omega
        have ht := hM.tells
        rw [hM.good.fix hM.own.gr, Hm.first, hM.good.eu, hM.good.em, r1, r2, r3, eBK] at ht
        exact ⟨r1, r2, r3, ht⟩)
      have HB := Lib.hid (buckets_any gm (L : Nat) (H : Nat) (D : Nat) (unt L) (mag D) w3 hmap (H : Nat) (by omega))
      have HC := Lib.hid (fun W (f : Fr S0 w3 W) => cells_any gm (L : Nat) (H : Nat) (D : Nat) (unt L) (mag D) W (hmap.fr0 f) (BK : Nat))
      rw [show ((H : Nat) : Int).toNat = H by omega, eBK] at HB
      rw [show cntB (BK : Nat) = BK by unfold cntB; omega] at HC
      have hCC := cellsN_le (b := BK) hm18 (by omega)
      have HLD := Lib.hid (fun P n c p W (hP : PrI W p P) (hn : P.length = n) (hsm : n ≤ 40000) (hu : Upw 0 P) (hk : ∀ x ∈ P, x.1 < 8519680) (hM : ∀ M, Is19 M l → M.L = L ∧ M.H = H ∧ M.D = D ∧ M.l = P) => ofload_any hs.1 hs.2.1 hs.2.2.1 hs.2.2.2.1 hs.2.2.2.2.1 hs.2.2.2.2.2 l P n c p W hP hn hsm hu hk hM)
      simp only [eBK] at HLD
      obtain ⟨CC, eCC⟩ : ∃ CC, cellsN (mag D) BK = CC := ⟨_, rfl⟩
      have eCC2 : (BK + 1) * 2 ^ (mag D - 1) = CC := eCC
      rw [eCC] at HFE hCC
      simp only [eCC2] at HC
      obtain ⟨b, o, rfl, -⟩ := HS.out.at 0 (by omega)
      have HX2 := Lib.hid hs
      have hBKb : BK ≤ 64 := by omega
      clear hs hs62 hbm eBK hm18 eCC eCC2 hmap
      have hH2 : (H : Int) ≤ 9223372036854775807 := hIb.2
      obtain ⟨y0, y1, y2⟩ := HY.out
      go_wp2_with fail
      refine (hdemand_yes _).mono ?_
      rintro e w4 ⟨rfl, rfl⟩
      go_wp2_with fail
      refine HB.out.mono ?_
      rintro e w4 ⟨rfl, f4⟩
      have F4 := Lib.hid (F3.out.trans0 f4)
      have F34 := Lib.hid f4
      have y0' := f4.cell y0 (fun h => h)
      have y1' := f4.cell y1 (fun h => h)
      have y2' := f4.cell y2 (fun h => h)
      clear y0 y1 y2 f4 HB
      have hn40 : ((40 : Int)) ≤ (n : Int) := by have := HN.out; omega
      have hd40 : ((40 : Int)) ≤ (d : Int) := by omega
      obtain ⟨T, hT⟩ : ∃ T, rdp CC ((l.drop 40).length + 1) 0 (l.drop 40) = T := ⟨_, rfl⟩
      have HT := Lib.hid hT
      by_cases hdd : d = 40
      · subst hdd
        obtain rfl : n = 40 := by omega
        have HNEW : Hid (∀ W, Fr S0 w4 W → Calls Tryz.prog 64 #[.slice (some ⟨b, o, none⟩) 0 0] W fun e w' => ∃ g p c, e = .returned (.pointer (some ⟨g, 0, none⟩)) ∧ wRdIs w' g p c (l.drop 40) 0 ∧ W.heap.size ≤ g ∧ Fr S0 W w') := Lib.hid fun W f => rnew_any _ _ _ (l.drop 40) W (by rw [List.length_drop, HN.out.1]) (by rw [List.drop_of_length_le (by have := HN.out; omega)]; exact SlI.nil _ _ _) (fun x hx => H8.out x (List.mem_of_mem_drop hx)) (fun h => by cases h) (by have := HN.out; omega)
        cases T with
        | none =>
          have HNO : Hid (¬ ∃ M, Is19 M l) := Lib.hid (by
            rintro ⟨M, hM⟩
            have h1 := (HFE.out M hM).2.2.2
            rw [HT.out] at h1
            cases h1)
          have HPX : Hid (∀ g p c W, wRdIs W g p c (l.drop 40) 0 → Fr S0 w4 W → w4.heap.size ≤ g → Calls Tryz.prog 63 #[.pointer (some ⟨g, 0, none⟩), .int .i64 (CC : Nat)] W fun e w' => (e = .returned (.slice none 0 0) ∧ False) ∨ (e = .panicked gup ∧ Fr S0 w4 w')) := Lib.hid fun g p c W h1 h2 h3 => (hpairs_any w4 W g c CC p (l.drop 40) h1 h2 h3 hCC (by rw [List.length_drop]; have := HN.out; omega)).mono fun e w' h => by
            rw [HT.out] at h
            exact .inr h
          have HLX : Hid (False → ∀ args W, Calls Tryz.prog 62 args W fun e w' => e = .returned (.tuple #[.pointer none, .int .i64 1]) ∧ w' = W) := Lib.hid fun h => h.elim
          clear hT
          go_upto_region 16 with fail
          go_region_law (first
            | (go_simp; go_at_call 64; ((with_reducible refine (HNEW.out _ (by first | exact Fr.drew S0 _ | exact Fr.refl S0 _)).mono ?_); rintro _ u1 ⟨gr, pr, cr1, rfl, hr1, hg1, f9⟩; have HR1 := Lib.hid hr1; have HG1 := Lib.hid (show w4.heap.size ≤ gr from hg1); have HF1 := Lib.hid ((Fr.drew S0 w4).trans0 f9); (have x0 := f9.cell (show (World.drew w4).cell? _ = _ from y0') (fun h => h)); (have x1 := f9.cell (show (World.drew w4).cell? _ = _ from y1') (fun h => h)); (have x2 := f9.cell (show (World.drew w4).cell? _ = _ from y2') (fun h => h)); clear hr1 hg1))
            | (go_simp; go_at_call 65; ((with_reducible refine (HC.out _ (F34.out.trans0 HF1.out)).mono ?_); rintro _ u2 ⟨rfl, f9'⟩; have HR2 := Lib.hid (HR1.out.fr f9' (fun h => h) (fun _ => Off.s0 _)); have HF2 := Lib.hid (HF1.out.trans0 f9'); (have z0 := f9'.cell x0 (fun h => h)); (have z1 := f9'.cell x1 (fun h => h)); (have z2 := f9'.cell x2 (fun h => h))))
            | (go_simp; go_at_call 63; (with_reducible refine (HPX.out _ _ _ _ HR2.out HF2.out HG1.out).mono ?_); rintro _ u3 (⟨rfl, hF⟩ | ⟨rfl, f3⟩); (have HBAD := Lib.hid hF); (have p0 : u3.cell? ⟨X, 0, none⟩ = some (.int .i64 (L : Nat)) := hF.elim); (have p1 : u3.cell? ⟨X, 1, none⟩ = some (.int .i64 (H : Nat)) := hF.elim); (have p2 : u3.cell? ⟨X, 2, none⟩ = some (.int .i64 (D : Nat)) := hF.elim); clear hF; rotate_left; exact ⟨rfl, F4.out.trans0 f3, .inr ⟨HNO.out, rfl⟩⟩)
            | (go_simp; go_at_call 62; ((with_reducible refine (HLX.out HBAD.out _ _).mono ?_); rintro _ u4 ⟨rfl, rfl⟩))
            | fail)
          all_goals exact HBAD.out.elim
        | some P =>
          have hup := rdp_up CC _ 0 _ P hT
          have HPB : Hid (P.length ≤ 40000 ∧ Upw 0 P ∧ ∀ x ∈ P, x.1 < 8519680) := Lib.hid (by
            have h1 := rdp_len CC _ 0 _ P (fun x hx => H8.out x (List.mem_of_mem_drop hx)) hT
            rw [List.length_drop] at h1
            refine ⟨by have := HN.out; omega, hup.1, fun x hx => by have := hup.2 x hx; omega⟩)
          have HPR : Hid (∀ g p c W, wRdIs W g p c (l.drop 40) 0 → Fr S0 w4 W → w4.heap.size ≤ g → Calls Tryz.prog 63 #[.pointer (some ⟨g, 0, none⟩), .int .i64 (CC : Nat)] W fun e w' => ∃ q N d, e = .returned (.slice q N d) ∧ Acc w4 w' (.slice q N d) N P) := Lib.hid fun g p c W h1 h2 h3 => (hpairs_any w4 W g c CC p (l.drop 40) h1 h2 h3 hCC (by rw [List.length_drop]; have := HN.out; omega)).mono fun e w' h => by
            rw [HT.out] at h
            exact h
          have HLO : Hid (∀ q N d W, Acc w4 W (.slice q N d) N P → Calls Tryz.prog 62 #[.agg #[.int .i64 (L : Nat), .int .i64 (H : Nat), .int .i64 (D : Nat)], .bool false, .int .i64 (BK : Nat), .slice q N d] W fun e w' => ∃ PV EV, e = .returned (.tuple #[PV, .int .i64 EV]) ∧ LoadEnds W w' PV EV l N) := Lib.hid fun q N d W ha => HLD.out P N d q W (PrI.ofOwns ha.own (by have h1 := ha.len; have h2 := HPB.out.1; unfold maxLen; omega)) ha.len (by have h1 := ha.len; have h2 := HPB.out.1; omega) HPB.out.2.1 HPB.out.2.2 fun M hM => by
            obtain ⟨r1, r2, r3, r4⟩ := HFE.out M hM
            rw [HT.out] at r4
            exact ⟨r1, r2, r3, (Option.some.inj r4).symm⟩
          clear hT hup HLD
          go_upto_region 16 with fail
          go_region_held3 (fun w' => w'.cell? ⟨X, 0, none⟩ = some (.int .i64 (L : Nat)) ∧ w'.cell? ⟨X, 1, none⟩ = some (.int .i64 (H : Nat)) ∧ w'.cell? ⟨X, 2, none⟩ = some (.int .i64 (D : Nat)) ∧ Fr S0 w4 w')
            (first
              | (go_split_ands; exact ⟨by assumption, by assumption, by assumption, by assumption⟩)
              | exact ⟨y0', y1', y2', Fr.drew _ _⟩
              | (go_split_ands; exact ⟨f9.cell (by assumption) (fun h => h), f9.cell (by assumption) (fun h => h), f9.cell (by assumption) (fun h => h), Fr.trans0 (by assumption) f9⟩)
              | exact ⟨f9.cell y0' (fun h => h), f9.cell y1' (fun h => h), f9.cell y2' (fun h => h), f9⟩
              | exact HBAD.out.elim
              | fail)
            (first
              | (go_at_call 64; (have HF8 := Lib.hid (show Fr S0 w4 _ by go_split_ands; assumption)); ((with_reducible refine (HNEW.out _ HF8.out).mono ?_); rintro _ u1 ⟨gr, pr, cr1, rfl, hr1, hg1, f9⟩; have HR1 := Lib.hid hr1; have HG1 := Lib.hid (Nat.le_trans HF8.out.size hg1); have HF1 := Lib.hid (HF8.out.trans0 f9); clear hr1 hg1))
              | (go_at_call 65; ((with_reducible refine (HC.out _ (F34.out.trans0 HF1.out)).mono ?_); rintro _ u2 ⟨rfl, f9⟩; have HR2 := Lib.hid (HR1.out.fr f9 (fun h => h) (fun _ => Off.s0 _)); have HF2 := Lib.hid (HF1.out.trans0 f9)))
              | (go_at_call 63; ((with_reducible refine (HPR.out _ _ _ _ HR2.out HF2.out HG1.out).mono ?_); rintro _ u3 ⟨q3, N3, d3, rfl, ha3⟩; have f9 := ha3.fr; have HA3 := Lib.hid ha3; clear ha3))
              | (go_at_call 62; ((with_reducible refine (HLO.out _ _ _ _ HA3.out).mono ?_); rintro _ u4 ⟨PV, EV, rfl, hl4⟩; have f9 := hl4.1; have HL4 := Lib.hid hl4; have HF4 := Lib.hid (HA3.out.fr.trans0 hl4.1); clear hl4))
              | fail)
          have HE4 := Lib.hid HL4.out.2
          have HA4 := Lib.hid (And.intro HA3.out.len HA3.out.fr.size)
          clear HL4 HA3 HLO HPR HC HNEW
          rcases HE4.out with ⟨M, gM, hM, rfl, rfl, hist, hown, hml, hg, hhm, huni⟩ | ⟨hno, rfl, rfl⟩
          · have HHI := Lib.hid hist
            have HOW := Lib.hid hown
            have HUN := Lib.hid huni
            have HML : Hid (M.l.length ≤ 40000) := Lib.hid (by have h1 := HA4.out.1; have h2 := HPB.out.1; omega)
            have HGG : Hid (w.heap.size ≤ gM ∧ w.heap.size ≤ hM) := Lib.hid (by have h1 := HA4.out.2; have h2 := F4.out.size; omega)
            clear hist hown huni hml hg hhm HE4
            have HPN := Lib.hid (plain_any gM hM M _ HHI.out HML.out)
            have HPM := Lib.hid (plainB_len M)
            go_wp2_with fail
            refine (hdemand_yes _).mono ?_
            rintro e w6 ⟨rfl, rfl⟩
            go_wp2_with fail
            refine HPN.out.mono ?_
            rintro e w7 ⟨q7, d7, rfl, hr7, f7⟩
            have F7 := Lib.hid ((F4.out.trans0 HF4.out).trans0 f7)
            have HH7 := Lib.hid (HHI.out.fr0 f7)
            have HEQ := Lib.hid (equal_any q7 (some ⟨b, o, none⟩) (plainB M).length 40 d7 40 (plainB M) l w7 rfl HN.out.1 (SlI.ofOwns hr7.own) (HS.out.fr0 F7.out) (plainB_256 M) H8.out)
            obtain ⟨PB, ePB⟩ : ∃ PB, plainB M = PB := ⟨_, rfl⟩
            have HPB2 := Lib.hid ePB
            rw [ePB] at HEQ HPM ⊢
            clear f7 hr7 HPN ePB
            by_cases he : PB = l
            · rw [decide_eq_true he] at HEQ
              have HE := Lib.hid he
              clear he
              go_wp2_with fail
              refine HEQ.out.mono ?_
              rintro e w8 ⟨rfl, rfl⟩
              go_wp2_with fail
              refine (hdemand_yes _).mono ?_
              rintro e w9 ⟨rfl, rfl⟩
              go_wp2_with fail
              go_ret
              exact ⟨F7.out, .inl ⟨M, gM, hM, rfl, HH7.out, ⟨HHI.out.good, HOW.out, HPB2.out.trans HE.out⟩, HGG.out.1, HGG.out.2⟩⟩
            · rw [decide_eq_false he] at HEQ
              have HE := Lib.hid he
              clear he
              go_wp2_with fail
              refine HEQ.out.mono ?_
              rintro e w8 ⟨rfl, rfl⟩
              go_wp2_with fail
              refine (hdemand_no _).mono ?_
              rintro e w9 ⟨rfl, rfl⟩
              refine ⟨rfl, F7.out, .inr ⟨?_, rfl⟩⟩
              rintro ⟨M', hM'⟩
              have h1 := HUN.out M' hM'
              rw [← h1] at hM'
              exact HE.out (HPB2.out.symm.trans hM'.eq)
          · have HNO := Lib.hid hno
            clear hno HE4
            go_wp2_with fail
            refine (hdemand_no _).mono ?_
            rintro e w6 ⟨rfl, rfl⟩
            exact ⟨rfl, F4.out.trans0 HF4.out, .inr ⟨HNO.out, rfl⟩⟩
      · have HNEW : Hid (∀ W, Fr S0 w4 W → Calls Tryz.prog 64 #[.slice (some ⟨b, o + 40, none⟩) (n - 40) (d - 40)] W fun e w' => ∃ g p c, e = .returned (.pointer (some ⟨g, 0, none⟩)) ∧ wRdIs w' g p c (l.drop 40) 0 ∧ W.heap.size ≤ g ∧ Fr S0 W w') := Lib.hid fun W f => rnew_any _ _ _ (l.drop 40) W (by rw [List.length_drop, HN.out.1]) ((HS.out.fr0 (F4.out.trans0 f)).drop 40) (fun x hx => H8.out x (List.mem_of_mem_drop hx)) (fun h => by cases h) (by have := HN.out; omega)
        cases T with
        | none =>
          have HNO : Hid (¬ ∃ M, Is19 M l) := Lib.hid (by
            rintro ⟨M, hM⟩
            have h1 := (HFE.out M hM).2.2.2
            rw [HT.out] at h1
            cases h1)
          have HPX : Hid (∀ g p c W, wRdIs W g p c (l.drop 40) 0 → Fr S0 w4 W → w4.heap.size ≤ g → Calls Tryz.prog 63 #[.pointer (some ⟨g, 0, none⟩), .int .i64 (CC : Nat)] W fun e w' => (e = .returned (.slice none 0 0) ∧ False) ∨ (e = .panicked gup ∧ Fr S0 w4 w')) := Lib.hid fun g p c W h1 h2 h3 => (hpairs_any w4 W g c CC p (l.drop 40) h1 h2 h3 hCC (by rw [List.length_drop]; have := HN.out; omega)).mono fun e w' h => by
            rw [HT.out] at h
            exact .inr h
          have HLX : Hid (False → ∀ args W, Calls Tryz.prog 62 args W fun e w' => e = .returned (.tuple #[.pointer none, .int .i64 1]) ∧ w' = W) := Lib.hid fun h => h.elim
          clear hT
          go_upto_region 16 with fail
          go_region_law (first
            | (go_simp; go_at_call 64; ((with_reducible refine (HNEW.out _ (by first | exact Fr.drew S0 _ | exact Fr.refl S0 _)).mono ?_); rintro _ u1 ⟨gr, pr, cr1, rfl, hr1, hg1, f9⟩; have HR1 := Lib.hid hr1; have HG1 := Lib.hid (show w4.heap.size ≤ gr from hg1); have HF1 := Lib.hid ((Fr.drew S0 w4).trans0 f9); (have x0 := f9.cell (show (World.drew w4).cell? _ = _ from y0') (fun h => h)); (have x1 := f9.cell (show (World.drew w4).cell? _ = _ from y1') (fun h => h)); (have x2 := f9.cell (show (World.drew w4).cell? _ = _ from y2') (fun h => h)); clear hr1 hg1))
            | (go_simp; go_at_call 65; ((with_reducible refine (HC.out _ (F34.out.trans0 HF1.out)).mono ?_); rintro _ u2 ⟨rfl, f9'⟩; have HR2 := Lib.hid (HR1.out.fr f9' (fun h => h) (fun _ => Off.s0 _)); have HF2 := Lib.hid (HF1.out.trans0 f9'); (have z0 := f9'.cell x0 (fun h => h)); (have z1 := f9'.cell x1 (fun h => h)); (have z2 := f9'.cell x2 (fun h => h))))
            | (go_simp; go_at_call 63; (with_reducible refine (HPX.out _ _ _ _ HR2.out HF2.out HG1.out).mono ?_); rintro _ u3 (⟨rfl, hF⟩ | ⟨rfl, f3⟩); (have HBAD := Lib.hid hF); (have p0 : u3.cell? ⟨X, 0, none⟩ = some (.int .i64 (L : Nat)) := hF.elim); (have p1 : u3.cell? ⟨X, 1, none⟩ = some (.int .i64 (H : Nat)) := hF.elim); (have p2 : u3.cell? ⟨X, 2, none⟩ = some (.int .i64 (D : Nat)) := hF.elim); clear hF; rotate_left; exact ⟨rfl, F4.out.trans0 f3, .inr ⟨HNO.out, rfl⟩⟩)
            | (go_simp; go_at_call 62; ((with_reducible refine (HLX.out HBAD.out _ _).mono ?_); rintro _ u4 ⟨rfl, rfl⟩))
            | fail)
          all_goals exact HBAD.out.elim
        | some P =>
          have hup := rdp_up CC _ 0 _ P hT
          have HPB : Hid (P.length ≤ 40000 ∧ Upw 0 P ∧ ∀ x ∈ P, x.1 < 8519680) := Lib.hid (by
            have h1 := rdp_len CC _ 0 _ P (fun x hx => H8.out x (List.mem_of_mem_drop hx)) hT
            rw [List.length_drop] at h1
            refine ⟨by have := HN.out; omega, hup.1, fun x hx => by have := hup.2 x hx; omega⟩)
          have HPR : Hid (∀ g p c W, wRdIs W g p c (l.drop 40) 0 → Fr S0 w4 W → w4.heap.size ≤ g → Calls Tryz.prog 63 #[.pointer (some ⟨g, 0, none⟩), .int .i64 (CC : Nat)] W fun e w' => ∃ q N d, e = .returned (.slice q N d) ∧ Acc w4 w' (.slice q N d) N P) := Lib.hid fun g p c W h1 h2 h3 => (hpairs_any w4 W g c CC p (l.drop 40) h1 h2 h3 hCC (by rw [List.length_drop]; have := HN.out; omega)).mono fun e w' h => by
            rw [HT.out] at h
            exact h
          have HLO : Hid (∀ q N d W, Acc w4 W (.slice q N d) N P → Calls Tryz.prog 62 #[.agg #[.int .i64 (L : Nat), .int .i64 (H : Nat), .int .i64 (D : Nat)], .bool false, .int .i64 (BK : Nat), .slice q N d] W fun e w' => ∃ PV EV, e = .returned (.tuple #[PV, .int .i64 EV]) ∧ LoadEnds W w' PV EV l N) := Lib.hid fun q N d W ha => HLD.out P N d q W (PrI.ofOwns ha.own (by have h1 := ha.len; have h2 := HPB.out.1; unfold maxLen; omega)) ha.len (by have h1 := ha.len; have h2 := HPB.out.1; omega) HPB.out.2.1 HPB.out.2.2 fun M hM => by
            obtain ⟨r1, r2, r3, r4⟩ := HFE.out M hM
            rw [HT.out] at r4
            exact ⟨r1, r2, r3, (Option.some.inj r4).symm⟩
          clear hT hup HLD
          go_upto_region 16 with fail
          go_region_held3 (fun w' => w'.cell? ⟨X, 0, none⟩ = some (.int .i64 (L : Nat)) ∧ w'.cell? ⟨X, 1, none⟩ = some (.int .i64 (H : Nat)) ∧ w'.cell? ⟨X, 2, none⟩ = some (.int .i64 (D : Nat)) ∧ Fr S0 w4 w')
            (first
              | (go_split_ands; exact ⟨by assumption, by assumption, by assumption, by assumption⟩)
              | exact ⟨y0', y1', y2', Fr.drew _ _⟩
              | (go_split_ands; exact ⟨f9.cell (by assumption) (fun h => h), f9.cell (by assumption) (fun h => h), f9.cell (by assumption) (fun h => h), Fr.trans0 (by assumption) f9⟩)
              | exact ⟨f9.cell y0' (fun h => h), f9.cell y1' (fun h => h), f9.cell y2' (fun h => h), f9⟩
              | exact HBAD.out.elim
              | fail)
            (first
              | (go_at_call 64; (have HF8 := Lib.hid (show Fr S0 w4 _ by go_split_ands; assumption)); ((with_reducible refine (HNEW.out _ HF8.out).mono ?_); rintro _ u1 ⟨gr, pr, cr1, rfl, hr1, hg1, f9⟩; have HR1 := Lib.hid hr1; have HG1 := Lib.hid (Nat.le_trans HF8.out.size hg1); have HF1 := Lib.hid (HF8.out.trans0 f9); clear hr1 hg1))
              | (go_at_call 65; ((with_reducible refine (HC.out _ (F34.out.trans0 HF1.out)).mono ?_); rintro _ u2 ⟨rfl, f9⟩; have HR2 := Lib.hid (HR1.out.fr f9 (fun h => h) (fun _ => Off.s0 _)); have HF2 := Lib.hid (HF1.out.trans0 f9)))
              | (go_at_call 63; ((with_reducible refine (HPR.out _ _ _ _ HR2.out HF2.out HG1.out).mono ?_); rintro _ u3 ⟨q3, N3, d3, rfl, ha3⟩; have f9 := ha3.fr; have HA3 := Lib.hid ha3; clear ha3))
              | (go_at_call 62; ((with_reducible refine (HLO.out _ _ _ _ HA3.out).mono ?_); rintro _ u4 ⟨PV, EV, rfl, hl4⟩; have f9 := hl4.1; have HL4 := Lib.hid hl4; have HF4 := Lib.hid (HA3.out.fr.trans0 hl4.1); clear hl4))
              | fail)
          have HE4 := Lib.hid HL4.out.2
          have HA4 := Lib.hid (And.intro HA3.out.len HA3.out.fr.size)
          clear HL4 HA3 HLO HPR HC HNEW
          rcases HE4.out with ⟨M, gM, hM, rfl, rfl, hist, hown, hml, hg, hhm, huni⟩ | ⟨hno, rfl, rfl⟩
          · have HHI := Lib.hid hist
            have HOW := Lib.hid hown
            have HUN := Lib.hid huni
            have HML : Hid (M.l.length ≤ 40000) := Lib.hid (by have h1 := HA4.out.1; have h2 := HPB.out.1; omega)
            have HGG : Hid (w.heap.size ≤ gM ∧ w.heap.size ≤ hM) := Lib.hid (by have h1 := HA4.out.2; have h2 := F4.out.size; omega)
            clear hist hown huni hml hg hhm HE4
            have HPN := Lib.hid (plain_any gM hM M _ HHI.out HML.out)
            have HPM := Lib.hid (plainB_len M)
            go_wp2_with fail
            refine (hdemand_yes _).mono ?_
            rintro e w6 ⟨rfl, rfl⟩
            go_wp2_with fail
            refine HPN.out.mono ?_
            rintro e w7 ⟨q7, d7, rfl, hr7, f7⟩
            have F7 := Lib.hid ((F4.out.trans0 HF4.out).trans0 f7)
            have HH7 := Lib.hid (HHI.out.fr0 f7)
            have HEQ := Lib.hid (equal_any q7 (some ⟨b, o, none⟩) (plainB M).length n d7 d (plainB M) l w7 rfl HN.out.1 (SlI.ofOwns hr7.own) (HS.out.fr0 F7.out) (plainB_256 M) H8.out)
            obtain ⟨PB, ePB⟩ : ∃ PB, plainB M = PB := ⟨_, rfl⟩
            have HPB2 := Lib.hid ePB
            rw [ePB] at HEQ HPM ⊢
            clear f7 hr7 HPN ePB
            by_cases he : PB = l
            · rw [decide_eq_true he] at HEQ
              have HE := Lib.hid he
              clear he
              go_wp2_with fail
              refine HEQ.out.mono ?_
              rintro e w8 ⟨rfl, rfl⟩
              go_wp2_with fail
              refine (hdemand_yes _).mono ?_
              rintro e w9 ⟨rfl, rfl⟩
              go_wp2_with fail
              go_ret
              exact ⟨F7.out, .inl ⟨M, gM, hM, rfl, HH7.out, ⟨HHI.out.good, HOW.out, HPB2.out.trans HE.out⟩, HGG.out.1, HGG.out.2⟩⟩
            · rw [decide_eq_false he] at HEQ
              have HE := Lib.hid he
              clear he
              go_wp2_with fail
              refine HEQ.out.mono ?_
              rintro e w8 ⟨rfl, rfl⟩
              go_wp2_with fail
              refine (hdemand_no _).mono ?_
              rintro e w9 ⟨rfl, rfl⟩
              refine ⟨rfl, F7.out, .inr ⟨?_, rfl⟩⟩
              rintro ⟨M', hM'⟩
              have h1 := HUN.out M' hM'
              rw [← h1] at hM'
              exact HE.out (HPB2.out.symm.trans hM'.eq)
          · have HNO := Lib.hid hno
            clear hno HE4
            go_wp2_with fail
            refine (hdemand_no _).mono ?_
            rintro e w6 ⟨rfl, rfl⟩
            exact ⟨rfl, F4.out.trans0 HF4.out, .inr ⟨HNO.out, rfl⟩⟩
    · go_wp2_with fail
      refine (hdemand_no _).mono ?_
      rintro e w4 ⟨rfl, rfl⟩
      refine ⟨rfl, F3.out, .inr ⟨?_, rfl⟩⟩
      rintro ⟨M, hM⟩
      have h1 := hM.get (by have := HN.out; omega)
      rw [HR.out] at h1
      simp only [Except.ok.injEq, Prod.mk.injEq, List.cons.injEq, and_true] at h1
      obtain ⟨e0, e1, e2, e3, e4, e5, e6⟩ := h1
      have g1 := hM.good.d
      have g2 := hM.good.lh
      have g3 := hM.good.hh
      refine hno ⟨M, hM.good, ?_, ?_, ?_⟩
      · rw [← HII.out.2.1, e4, IntKind.wrap_i64]; omega
      · rw [← HII.out.2.2, e5, IntKind.wrap_i64]; omega
      · rw [← HII.out.1, e3, IntKind.wrap_i64]; omega
end Go.Proofs.YtnndgpggjlhhpaaGreat
