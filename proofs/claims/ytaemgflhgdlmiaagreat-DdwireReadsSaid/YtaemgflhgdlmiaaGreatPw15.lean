/- SpAct, SpAdd -/
import Derived.Test.YtaemgflhgdlmiaaGreatPw1
import Derived.Test.YtaemgflhgdlmiaaGreatPw2
import Derived.Test.YtaemgflhgdlmiaaGreatPw4
import Derived.Test.YtaemgflhgdlmiaaGreatPw5
import Derived.Test.YtaemgflhgdlmiaaGreatPw6
import Derived.Test.YtaemgflhgdlmiaaGreatPw7
import Derived.Test.YtaemgflhgdlmiaaGreatPw8
import Derived.Test.YtaemgflhgdlmiaaGreatPw14
import Derived.Deep.RegionLaw
import Derived.Deep.RegionHeld3
import Derived.Maps.AppendAt
import Derived.Lib.SliceRun
import Derived.StillTailTactics
import Derived.BigRegion
import Derived.WalkKit
import Derived.WalkSpells
import Derived.WalkLawsBesides
import Derived.Deep.QuietTactic
import Derived.BigQuiet
import Derived.RegionTactic
import Derived.Deep.AppendLies
import Derived.Laws.ResultCell
import Derived.Laws.EntriesVeiled
import Derived.Lib.Hide
import Derived.Test.YtaemgflhgdlmiaaGreatRows
import Derived.Laws.BytesArg
import Derived.Lib.SlBytesConst
import Derived.Laws.AppendOwnNone
import Derived.Lib.AppendZeros
import Derived.Laws.CopyOwn
import Derived.Lib.Overlaps
import Derived.Laws.Externs
import Derived.Lib.AppendZerosOnto
import Derived.Laws.OwnMore
set_option maxRecDepth 100000
set_option maxHeartbeats 8000000
namespace Go.Proofs.YtaemgflhgdlmiaaGreat
open Go.RowKit
variable {X : Sx}
section
variable (g h n : Nat) (k : Int) (l : List Pr) (w : World)
theorem refusal_any (hn : n < 18446744073709551616) (s : StIs X w g h l) :
    Calls Tryz.prog 105 #[.pointer (some ⟨g, 3, none⟩), .int .i64 k, .int .u64 (n : Nat)] w fun e w' => e = .returned (.int .i64 (addE0 l k n : Nat)) ∧ Fr S0 w w' := by
  by_cases h0 : n = 0
  · subst h0
    have e : addE0 l k 0 = 4 := by unfold addE0; rw [if_pos rfl]
    rw [e]
    clear e s hn
    go_enter Tryz.func105, Tryz.ntmps105
    go_wp2_with fail
    go_ret
    exact ⟨rfl, Fr.refl _ _⟩
  have hn0 : ((n : Int) == 0) = false := by rw [beq_eq_false_iff_ne]; omega
  by_cases hk : k < -1048576 ∨ 1048576 < k
  · have e : addE0 l k n = 5 := by unfold addE0; rw [if_neg h0, if_pos hk]
    rw [e]
    by_cases h1 : k < -1048576
    · clear e s hn hk h0
      go_enter Tryz.func105, Tryz.ntmps105
      go_wp2_with fail
      go_ret
      exact ⟨rfl, Fr.refl _ _⟩
    · have h2 : (1048576 : Int) < k := by omega
      have h3 : decide (k < -1048576) = false := decide_eq_false h1
      clear e s hn hk h0 h1
      go_enter Tryz.func105, Tryz.ntmps105
      go_wp2_with fail
      go_ret
      exact ⟨rfl, Fr.refl _ _⟩
  have h3 : decide (k < -1048576) = false := decide_eq_false (by omega)
  have h4 : decide (1048576 < k) = false := decide_eq_false (by omega)
  have HB := Lib.hid (beyond_any g h l w n s)
  by_cases hc : 4611686018427387904 - ltot l < n
  · have e : addE0 l k n = 6 := by unfold addE0; rw [if_neg h0, if_neg hk, if_pos hc]
    rw [e]
    rw [decide_eq_true hc] at HB
    clear e s hn hk h0 hc
    go_enter Tryz.func105, Tryz.ntmps105
    go_wp2_with fail
    refine HB.out.mono ?_
    rintro e w1 ⟨rfl, rfl⟩
    go_wp2_with fail
    go_ret
    exact ⟨rfl, Fr.refl _ _⟩
  · have e : addE0 l k n = 0 := by unfold addE0; rw [if_neg h0, if_neg hk, if_neg hc]
    rw [e]
    rw [decide_eq_false hc] at HB
    clear e s hn hk h0 hc
    go_enter Tryz.func105, Tryz.ntmps105
    go_wp2_with fail
    refine HB.out.mono ?_
    rintro e w1 ⟨rfl, rfl⟩
    go_wp2_with fail
    go_ret
    exact ⟨rfl, Fr.refl _ _⟩
end
theorem keyW_drop {l : List Pr} {i r : Nat} (h : i < l.length) : keyW (l.drop i) r = if r ≤ l[i].2 then l[i].1 else keyW (l.drop (i + 1)) (r - l[i].2) := by
  rw [List.drop_eq_getElem_cons h, keyW]
theorem ltot_drop {l : List Pr} {i : Nat} (h : i < l.length) : ltot (l.drop i) = l[i].2 + ltot (l.drop (i + 1)) := by
  rw [List.drop_eq_getElem_cons h, ltot]
def keyE (l : List Pr) (r : Nat) : Nat := if l = [] then 8 else if r = 0 ∨ ltot l < r then 1 else 0
def keyV (l : List Pr) (r : Nat) : Int := if keyE l r = 0 then keyW l r else 0
section
variable (g h r : Nat) (l : List Pr) (w : World)
theorem key_any (s : StIs X w g h l) (hr64 : r < 18446744073709551616) :
    Calls Tryz.prog 104 #[.pointer (some ⟨g, 3, none⟩), .int .u64 (r : Nat)] w fun e w' => e = .returned (.tuple #[.int .i64 (keyV l r), .int .i64 (keyE l r : Nat)]) ∧ Fr S0 w w' := by
  obtain ⟨p, n, c, s⟩ := s
  by_cases hl : l = []
  · have e : keyE l r = 8 := by unfold keyE; rw [if_pos hl]
    have e2 : keyV l r = 0 := by unfold keyV; rw [e, if_neg (by decide)]
    rw [e, e2]
    have c1 := s.raw.c1
    rw [hl] at c1
    have c1 : w.cell? ⟨g, 4, none⟩ = some (.int .u64 0) := c1
    clear s e e2 hl
    go_enter Tryz.func104, Tryz.ntmps104
    go_wp2_with fail
    go_ret2
    exact ⟨rfl, Fr.refl _ _⟩
  have c0 := s.raw.c0
  have c1 := s.raw.c1
  have htp : 0 < ltot l := by
    cases l with
    | nil => exact absurd rfl hl
    | cons x t => have := (pos_cons.1 s.ok.pos).1; rw [ltot]; omega
  obtain ⟨T, hT⟩ : ∃ T, ltot l = T := ⟨_, rfl⟩
  rw [hT] at c1
  have ht0 : ((T : Int) == 0) = false := by rw [beq_eq_false_iff_ne]; omega
  by_cases hr : r = 0
  · have e : keyE l r = 1 := by unfold keyE; rw [if_neg hl, if_pos (.inl hr)]
    have e2 : keyV l r = 0 := by unfold keyV; rw [e, if_neg (by decide)]
    rw [e, e2]
    subst hr
    clear s e e2 hl hT htp
    go_enter Tryz.func104, Tryz.ntmps104
    go_wp2_with fail
    go_ret2
    exact ⟨rfl, Fr.refl _ _⟩
  have hr0 : ((r : Int) == 0) = false := by rw [beq_eq_false_iff_ne]; omega
  have HE : Hid (∀ x, 1 ≤ x → keyE l r = if ltot l < r then 1 else 0) := Lib.hid fun _ _ => by
    unfold keyE
    rw [if_neg hl]
    by_cases h : ltot l < r
    · rw [if_pos (.inr h), if_pos h]
    · rw [if_neg (by rintro (h' | h') <;> omega), if_neg h]
  have HP := Lib.hid s.pri
  have HN := Lib.hid s.len
  have hsm := s.small
  have HR : Hid (1 ≤ r) := Lib.hid (by omega)
  clear s hl htp hT hr
  go_enter Tryz.func104, Tryz.ntmps104
  go_wp2_with fail
  clear c0 c1
  go_loopw [1, 4, 5, 7, 22] (fun x _ _ _ i wr => ∃ j R : Nat, j ≤ n ∧ 1 ≤ R ∧ R < 18446744073709551616 ∧ i = .int .i64 j ∧ x = .int .u64 R ∧ Hid (keyW l r = keyW (l.drop j) R ∧ (ltot l < r ↔ ltot (l.drop j) < R)) ∧ Hid (Fr S0 w wr)) (fun _ _ _ _ i _ => n - (intOf i).toNat)
  case atStart => exact ⟨0, r, by omega, HR.out, hr64, rfl, rfl, Lib.hid ⟨rfl, Iff.rfl⟩, Lib.hid (Fr.refl _ _)⟩
  case round =>
    obtain ⟨j, R, hj, hR, hR64, rfl, rfl, hW, hfr⟩ := hrel
    by_cases hjn : (j : Int) < (n : Int)
    · have hjl : j < l.length := by rw [HN.out]; omega
      obtain ⟨b, o, rfl, d0, d1⟩ := (HP.out.fr0 hfr.out).at j hjl
      have e1 := keyW_drop (r := R) hjl
      have e2 := ltot_drop hjl
      obtain ⟨⟨tk, tn⟩, ht⟩ : ∃ t, l[j] = t := ⟨_, rfl⟩
      rw [ht] at d0 d1 e1 e2
      simp only at d0 d1 e1 e2
      by_cases hle : R ≤ tn
      · have HV : Hid (keyV l r = tk ∧ keyE l r = 0) := Lib.hid (by
          have h1 : ¬ ltot l < r := fun h => by have := hW.out.2.1 h; omega
          have h2 : keyE l r = 0 := by rw [HE.out 1 (Nat.le_refl _), if_neg h1]
          refine ⟨?_, h2⟩
          unfold keyV
          rw [h2, if_pos rfl, hW.out.1, e1, if_pos hle])
        clear ht e1 e2 hW
        go_wp2_with fail
        go_ret2
        exact ⟨by rw [HV.out.1, HV.out.2]; rfl, hfr.out.trans0 (Fr.alloc _ _ _)⟩
      · obtain ⟨R', hR'⟩ : ∃ R', R - tn = R' := ⟨_, rfl⟩
        have esub : (R : Int) - (tn : Int) = (R' : Int) := by omega
        have hnle : decide (R ≤ tn) = false := decide_eq_false hle
        have HW2 : Hid (keyW l r = keyW (l.drop (j + 1)) R' ∧ (ltot l < r ↔ ltot (l.drop (j + 1)) < R')) := Lib.hid ⟨by rw [hW.out.1, e1, if_neg hle, hR'], by rw [hW.out.2, e2]; omega⟩
        have hR1 : 1 ≤ R' := by omega
        have hR2 : R' < 18446744073709551616 := by omega
        clear ht e1 e2 hW hR' hle
        go_wp2_with fail
        go_roundw
        case rel => exact ⟨j + 1, R', by omega, hR1, hR2, by go_num, by go_num, HW2, Lib.hid (hfr.out.trans0 (Fr.alloc _ _ _))⟩
        case measure => simp [intOf]; omega
    · obtain rfl : j = n := by omega
      have HV : Hid (keyV l r = 0 ∧ keyE l r = 1) := Lib.hid (by
        have h1 : ltot l < r := hW.out.2.2 (by rw [← HN.out, List.drop_length]; exact hR)
        have h2 : keyE l r = 1 := by rw [HE.out 1 (Nat.le_refl _), if_pos h1]
        exact ⟨by unfold keyV; rw [h2, if_neg (by decide)], h2⟩)
      clear hW
      go_wp2_with fail
      go_ret2
      exact ⟨by rw [HV.out.1, HV.out.2]; rfl, hfr.out⟩
end
end Go.Proofs.YtaemgflhgdlmiaaGreat

namespace Go.Proofs.YtaemgflhgdlmiaaGreat
open Go.RowKit
variable {X : Sx}
def blk (q : Option Addr) (h : Nat) : Nat := match q with
  | some a => a.block
  | none => h
theorem fin {w : World} {g : Nat} {p q : Option Addr} {n c m d T : Nat} {l : List Pr} (h : Nat) (r : Raw X w g p n c T) (own : w.ownsRow 0 67 2 (.slice q m d) m (prs l)) (hq : ∀ a, q = some a → a.block ≠ g) (hT : T = ltot l) (ok : Good l) :
    StIs X (w.setCell ⟨g, 3, none⟩ (.slice q m d)) g (blk q h) l := by
  subst hT
  refine ⟨q, m, d, r.set0 q m d, (Fr.setCell (· = g) w ⟨g, 3, none⟩ _ rfl).owns own fun k hk e => ?_, fun a ha => by rw [ha]; rfl, fun hn => ?_, ok⟩
  · cases q with
    | none => cases hk
    | some a => exact hq a rfl ((Option.some.inj hk).trans e)
  · cases q with
    | none => exact absurd rfl hn
    | some a => exact hq a rfl
theorem addE0_zero {l : List Pr} {k : Int} {n : Nat} (h : addE0 l k n = 0) : 0 < n ∧ (-1048576 ≤ k ∧ k ≤ 1048576) ∧ (ltot l ≤ 4611686018427387904 → ltot l + n ≤ 4611686018427387904) := by
  unfold addE0 at h
  split at h
  · cases h
  · split at h
    · cases h
    · split at h
      · cases h
      · rename_i h1 h2 h3
        exact ⟨by omega, by omega, fun h => by omega⟩
structure Ins1 (W w' : World) (p : Option Addr) (h m : Nat) (L : List Pr) (q : Option Addr) (d : Nat) : Prop where
  own : w'.ownsRow 0 67 2 (.slice q (m + 1) d) (m + 1) (prs L)
  fr : Fr (fun x => ∃ a, p = some a ∧ a.block = x) W w'
  pl : ∃ a, q = some a ∧ ((a.block = h ∧ p ≠ none) ∨ (W.heap.size ≤ a.block ∧ a.block < w'.heap.size))
theorem ins_row (p : Option Addr) (m c i h n vb : Nat) (k : Int) (l : List Pr) (w4 W1 : World) (own : w4.ownsRow 0 67 2 (.slice p m c) m (prs l)) (hm : m ≤ 2097153) (hi : i ≤ m) (hrow : ∀ a, p = some a → a.block = h) (f : Fr S0 w4 W1) (hvb : w4.heap.size ≤ vb)
    (hb : W1.heap[vb]? = some (.cells #[.int .i64 k, .int .u64 (n : Int)] 67 (0, 0))) :
    Calls Tryz.prog 108 #[.slice p m c, .int .i64 (i : Nat), .slice (some ⟨vb, 0, none⟩) 1 1] W1 fun e w' => ∃ q d, e = .returned (.slice q (m + 1) d) ∧ Ins1 W1 w' p h m (l.take i ++ (k, n) :: l.drop i) q d := by
  have hps : ∀ a, p = some a → vb ≠ a.block := fun a ha => by have := (own.lt a.block (by rw [ha]; rfl)).2; omega
  refine (ins_any p m c i vb k n l W1 (f.owns own fun _ _ h => h) hm hi hps hb).mono fun e w' he => ?_
  obtain ⟨q, d, e1, e2, e3, e4⟩ := he
  refine ⟨q, d, e1, e2, (Fr.grown e3).mono fun x _ hx => ?_, ?_⟩
  · cases p with
    | none => cases hx
    | some a => exact ⟨a, rfl, Option.some.inj hx⟩
  · cases q with
    | none =>
      rcases e2.2 with ⟨h1, h2⟩ | ⟨g', cap, cur, h1, -⟩
      · omega
      · cases h1
    | some a =>
      refine ⟨a, rfl, ?_⟩
      rcases e4 with e4 | e4
      · cases p with
        | none => cases e4
        | some a' => exact .inl ⟨(Option.some.inj e4).trans (hrow a' rfl), by simp⟩
      · have h5 : a.block = W1.heap.size := Option.some.inj e4
        exact .inr ⟨by omega, (e2.lt a.block rfl).2⟩
section
variable (g h n : Nat) (k : Int) (l : List Pr) (w : World)
theorem add_any (hn : n < 18446744073709551616) (s : StIs X w g h l) :
    Calls Tryz.prog 81 #[.pointer (some ⟨g, 3, none⟩), .int .i64 k, .int .u64 (n : Nat)] w fun e w' => e = .returned (.int .i64 (addE0 l k n : Nat)) ∧ ∃ h', Turned X w w' g h h' (addL0 l k n) := by
  have f1 := Fr.alloc S0 w (.cells #[.int .i64 k] 3)
  have s1 := s.fr0 f1
  have hbx := heap_alloc_new w (.cells #[.int .i64 k] 3)
  have x0 : (w.alloc (.cells #[.int .i64 k] 3)).cell? ⟨w.heap.size, 0, none⟩ = some (.int .i64 k) := by simp only [World.cell?, hbx]; rfl
  have HRF := Lib.hid (refusal_any g h n k l _ hn s1)
  have HS := Lib.hid s
  have HF1 := Lib.hid f1
  have HBX := Lib.hid hbx
  by_cases hE : addE0 l k n = 0
  · rw [hE] at HRF ⊢
    have e2 : addL0 l k n = lput l k n := by unfold addL0; rw [hE, if_pos rfl]
    rw [e2]
    obtain ⟨hn0, hk, htot⟩ := addE0_zero hE
    have HG : Hid (Good (lput l k n)) := Lib.hid (s.ok.put hn0 (htot s.ok.tot) hk)
    have HTT : Hid (ltot (lput l k n) = ltot l + n) := Lib.hid (tot_put l k n)
    have ht2 := htot s.ok.tot
    obtain ⟨T, hT⟩ : ∃ T, ltot l = T := ⟨_, rfl⟩
    obtain ⟨U, hU⟩ : ∃ U, T + n = U := ⟨_, rfl⟩
    rw [hT] at HTT ht2
    rw [hU] at HTT ht2
    have esum : (T : Int) + (n : Int) = (U : Int) := by omega
    have hUm : (U : Int) ≤ 4611686018427387904 := by omega
    have HT := Lib.hid hT
    clear s s1 f1 hbx e2 hE hn0 hk htot hT hU
    go_enter Tryz.func81, Tryz.ntmps81
    go_wp2_with fail
    refine HRF.out.mono ?_
    rintro e w2 ⟨rfl, f2⟩
    have HF2 := Lib.hid (HF1.out.trans0 f2)
    have HBX2 := Lib.hid (f2.row HBX.out (fun h => h))
    obtain ⟨p, m, c, s2⟩ := HS.out.fr0 HF2.out
    have HS2 := Lib.hid s2
    have y1 := s2.raw.c1
    have y2 := s2.raw.fz 4
    rw [HT.out] at y1
    clear f2 HRF HF1 HBX s2 x0
    go_wp2_with fail
    obtain ⟨W3, hW3⟩ : ∃ W3, w2.setCell ⟨g, 4, none⟩ (.int .u64 (U : Int)) = W3 := ⟨_, rfl⟩
    have f23 : Fr (· = g) w2 W3 := by rw [← hW3]; exact Fr.setCell _ _ _ _ rfl
    have raw3 : Raw X W3 g p m c U := by rw [← hW3]; exact HS2.out.raw.set1 U
    have own3 : W3.ownsRow 0 67 2 (.slice p m c) m (prs l) := f23.owns HS2.out.own fun b hb e => by
      cases p with
      | none => cases hb
      | some a => exact HS2.out.apart (by simp) ((HS2.out.row a rfl).symm.trans ((Option.some.inj hb).trans e))
    have hgw := HS.out.lt
    have pri3 : PrI W3 p l := PrI.ofOwns own3 (by have := HS2.out.small; unfold maxLen; omega)
    have box3 : W3.cell? ⟨w.heap.size, 0, none⟩ = some (.int .i64 k) := by
      have := f23.row HBX2.out (show ¬ w.heap.size = g by omega)
      simp only [World.cell?, this]; rfl
    have hf3 : Fr (fun x => x = g ∨ x = h) w W3 := (HF2.out.mono fun _ _ h => h.elim).trans f23 fun _ _ e => .inl e
    rw [hW3]
    refine (place_any 107 w.heap.size g k _ l W3 has_ad (asks_add k) box3 ⟨p, m, c, raw3.c0, pri3, HS2.out.len, HS2.out.ok.srt, HS2.out.small⟩ (fun x y hxy hx => by simp at hx ⊢; omega)).mono ?_
    rintro e w4 ⟨i, rfl, hi, h1, h2, f4⟩
    have HLT : Hid (∀ j, (hj : j < l.length) → j < i → l[j].1 < k) := Lib.hid fun j hj hji => by have := h1 j hj hji; simp at this; omega
    have HGE : Hid (∀ j, (hj : j < l.length) → i ≤ j → k ≤ l[j].1) := Lib.hid fun j hj hji => by have := h2 j hj hji; simp at this; omega
    have HR4 := Lib.hid (raw3.fr0 f4)
    have HO4 := Lib.hid (f4.owns own3 fun _ _ h => h)
    have HP4 := Lib.hid (pri3.fr0 f4)
    have HF4 := Lib.hid (hf3.trans0 f4)
    have c0 := HR4.out.c0
    have b0 := f4.cell box3 (fun h => h)
    have HLN := Lib.hid HS2.out.len
    have HSM := Lib.hid HS2.out.small
    have HSR := Lib.hid HS2.out.ok.srt
    have HRW := Lib.hid HS2.out.row
    have HAP : Hid (∀ a, p = some a → a.block ≠ g) := Lib.hid fun a ha => by rw [HS2.out.row a ha]; exact HS2.out.apart (by rw [ha]; simp)
    have HBL : Hid (∀ a, p = some a → a.block < w.heap.size) := Lib.hid fun a ha => by
      obtain ⟨p', m', c', s'⟩ := HS.out
      have e := HS.out
      obtain ⟨p'', m'', c'', s''⟩ := e
      have h1 := (s''.fr0 HF2.out).raw.c0
      rw [HS2.out.raw.c0] at h1
      obtain ⟨rfl, -, -⟩ := Value.slice.inj (Option.some.inj h1)
      exact (s''.own.lt a.block (by rw [ha]; rfl)).2
    have hcm := HS2.out.cap
    unfold maxLen at hcm
    clear f23 raw3 own3 pri3 box3 hf3 f4 h1 h2 hgw y1 y2 HS2 HF2 HBX2 hW3
    by_cases hil : i < l.length
    · have hlt : (i : Int) < (m : Int) := by have := HLN.out; omega
      by_cases hkk : l[i].1 = k
      · have HPI := Lib.hid (put_in (n := n) hil HSR.out HLT.out hkk)
        have htn : l[i].2 + n < 18446744073709551616 := by
          have h1 := tot_take hil
          have h2 := tot_take_le l (i + 1)
          have := HT.out
          omega
        obtain ⟨b, o, rfl, d0, d1⟩ := HP4.out.at i hil
        obtain ⟨tn, ht⟩ : ∃ t, l[i].2 = t := ⟨_, rfl⟩
        rw [hkk] at d0
        rw [ht] at d1 HPI htn
        obtain ⟨V, hV⟩ : ∃ V, tn + n = V := ⟨_, rfl⟩
        rw [hV] at HPI htn
        have esum2 : (tn : Int) + (n : Int) = (V : Int) := by omega
        have hVm : (V : Int) < 18446744073709551616 := by omega
        have hLL : l = l.take i ++ (k, tn) :: l.drop (i + 1) := by
          have := List.take_append_drop i l
          rw [List.drop_eq_getElem_cons hil] at this
          rw [← ht, ← hkk]
          exact this.symm
        have HLL := Lib.hid hLL
        have hbo : b = blk (some ⟨b, o, none⟩) h ∧ o = 0 ∧ b = h := by
          rcases HO4.out.2 with ⟨hh, -⟩ | ⟨g', cap', cur', hh, -⟩
          · cases hh
          · obtain ⟨h3, -, -⟩ := Value.slice.inj hh
            have h5 : o = 0 := congrArg Addr.off (Option.some.inj h3)
            exact ⟨rfl, h5, HRW.out _ rfl⟩
        obtain ⟨-, rfl, rfl⟩ := hbo
        rw [Nat.zero_add] at d0 d1
        have hin : (i : Int) < (m : Int) := by have := HLN.out; omega
        have d3 := HO4.out.frozenAt (i * 2 + 1)
        clear hLL hkk hil ht hV HP4
        go_wp2_with fail
        go_quiet (fail)
        have HOQ := Lib.hid ((Fr.drewN S0 w4 nq).owns HO4.out fun _ _ h => h)
        have HRQ := Lib.hid (HR4.out.fr0 (Fr.drewN S0 w4 nq))
        have HFQ := Lib.hid (HF4.out.trans0 (Fr.drewN S0 w4 nq))
        have q0 := HRQ.out.c0
        have q1 : (w4.drewN nq).cell? ⟨b, i * 2 + 1, none⟩ = some (.int .u64 (tn : Int)) := d1
        have q3 := HOQ.out.frozenAt (i * 2 + 1)
        clear c0 b0 d0 d1 d3 HR4 HO4 HF4
        generalize w4.drewN nq = WQ at *
        go_wp2_with fail
        go_ret
        have st := HOQ.out.stored (i * 2 + 1) (.int .u64 (V : Int))
        have fs : Fr (· = b) WQ (WQ.setCell ⟨b, i * 2 + 1, none⟩ (.int .u64 (V : Int))) := Fr.setCell _ _ _ _ rfl
        refine ⟨rfl, b, ⟨⟨some ⟨b, 0, none⟩, m, c, ⟨?_, ?_, HRW.out, fun _ => HAP.out _ rfl, HG.out⟩⟩, .inl rfl, HFQ.out.trans fs fun _ _ e => .inr e⟩⟩
        · rw [HTT.out]
          exact HRQ.out.fr fs fun e => HAP.out _ rfl e.symm
        · have e := prs_set (l.take i) k tn V (l.drop (i + 1)) i (by rw [List.length_take]; have := HLN.out; omega)
          rw [← HLL.out] at e
          rw [HPI.out, ← e]
          exact st.1
      · have HPO : Hid (lput l k n = l.take i ++ (k, n) :: l.drop i) := Lib.hid (put_out hi HLT.out fun h => by have := HGE.out i h (Nat.le_refl _); omega)
        obtain ⟨b, o, hpe, d0, -⟩ := HP4.out.at i hil
        obtain ⟨tk, ht⟩ : ∃ t, l[i].1 = t := ⟨_, rfl⟩
        rw [ht] at d0 hkk
        have hkf : (tk == k) = false := by rw [beq_eq_false_iff_ne]; exact hkk
        clear ht hkk
        have hin2 : i ≤ m := by have := HLN.out; omega
        have HGO : Hid (∀ W W1, Fr S0 w4 W → Fr S0 W W1 → W1.heap[W.heap.size]? = some (.cells #[.int .i64 k, .int .u64 (n : Int)] 67 (0, 0)) → Calls Tryz.prog 108 #[.slice p m c, .int .i64 (i : Nat), .slice (some ⟨W.heap.size, 0, none⟩) 1 1] W1 fun e w' => ∃ q d, e = .returned (.slice q (m + 1) d) ∧ Ins1 W1 w' p h m (lput l k n) q d) := Lib.hid fun W W1 fW fW1 hb => by
          rw [HPO.out]
          exact ins_row p m c i h n W.heap.size k l w4 W1 HO4.out HSM.out hin2 HRW.out (fW.trans0 fW1) fW.size hb
        clear HPO hil HLT HGE HP4 hin2
        subst hpe
        go_wp2_with fail
        go_quiet (fail)
        have HRQ := Lib.hid (HR4.out.fr0 (Fr.drewN S0 w4 nq))
        have HFQ := Lib.hid (HF4.out.trans0 (Fr.drewN S0 w4 nq))
        have HGQ := Lib.hid (fun W1 => HGO.out (w4.drewN nq) W1 (Fr.drewN S0 w4 nq))
        have hbb : (w4.drewN nq).cell? ⟨w.heap.size, 0, none⟩ = some (.int .i64 k) := b0
        clear c0 b0 d0 HR4 HF4 HGO HO4
        generalize w4.drewN nq = WQ at *
        have ff := Fr.alloc S0 WQ (.cells #[.int .i64 k, .int .u64 (n : Int)] 67)
        have q0 := HRQ.out.c0
        have q1 := (HRQ.out.fr0 ff).c0
        have q2 := ff.cell hbb (fun h => h)
        have HG6 := Lib.hid (HGQ.out (WQ.alloc (.cells #[.int .i64 k, .int .u64 (n : Int)] 67)).drew (ff.trans0 (Fr.drew _ _)) (heap_alloc_new _ _))
        have HRA := Lib.hid (HRQ.out.fr0 (ff.trans0 (Fr.drew S0 _)))
        have HFA := Lib.hid (HFQ.out.trans0 (ff.trans0 (Fr.drew S0 _)))
        clear ff HGQ
        go_wp2_with fail
        go_region_law (first
          | (go_simp; go_at_call 108; (with_reducible refine HG6.out.mono ?_); rintro _ w6 ⟨q, d, rfl, hi6⟩; have HI6 := Lib.hid hi6; have hr6 := HRA.out.fr hi6.fr (fun ⟨a, ha, e⟩ => HAP.out a ha e); have HR6 := Lib.hid hr6; have u0 := hr6.c0; have u1 := hr6.fz 3; clear hi6 hr6; dsimp only))
        all_goals
          go_wp2_with fail
          go_ret
          have hgw := HS.out.lt
          have hsA := HFA.out.size
          obtain ⟨a, rfl, hat⟩ := HI6.out.pl
          have hqg : a.block ≠ g := by
            rcases hat with ⟨h1, h2⟩ | ⟨h1, -⟩
            · obtain ⟨a', ha'⟩ := Option.ne_none_iff_exists'.1 h2
              rw [h1, ← HRW.out a' ha']
              exact HAP.out a' ha'
            · omega
          refine ⟨rfl, a.block, ⟨fin h HR6.out HI6.out.own (fun b hb => by obtain rfl := Option.some.inj hb; exact hqg) HTT.out.symm HG.out, ?_, (HFA.out.trans HI6.out.fr fun x _ ⟨b, hb, e⟩ => .inr (e.symm.trans (HRW.out b hb))).trans (Fr.setCell (· = g) _ _ _ rfl) fun x _ e => .inl e⟩⟩
          rcases hat with ⟨h1, -⟩ | ⟨h1, h2⟩
          · exact .inl h1
          · exact .inr ⟨by omega, by simpa [World.setCell] using h2⟩
    · have HPO : Hid (lput l k n = l.take i ++ (k, n) :: l.drop i) := Lib.hid (put_out hi HLT.out fun h => absurd h hil)
      obtain rfl : i = m := by have := HLN.out; omega
      have hin2 : i ≤ i := by have := HLN.out; omega
      have HGO : Hid (∀ W W1, Fr S0 w4 W → Fr S0 W W1 → W1.heap[W.heap.size]? = some (.cells #[.int .i64 k, .int .u64 (n : Int)] 67 (0, 0)) → Calls Tryz.prog 108 #[.slice p i c, .int .i64 (i : Nat), .slice (some ⟨W.heap.size, 0, none⟩) 1 1] W1 fun e w' => ∃ q d, e = .returned (.slice q (i + 1) d) ∧ Ins1 W1 w' p h i (lput l k n) q d) := Lib.hid fun W W1 fW fW1 hb => by
        rw [HPO.out]
        exact ins_row p i c i h n W.heap.size k l w4 W1 HO4.out HSM.out hin2 HRW.out (fW.trans0 fW1) fW.size hb
      clear HPO hil HLT HGE HP4 hin2
      go_wp2_with fail
      go_quiet (fail)
      have HRQ := Lib.hid (HR4.out.fr0 (Fr.drewN S0 w4 nq))
      have HFQ := Lib.hid (HF4.out.trans0 (Fr.drewN S0 w4 nq))
      have HGQ := Lib.hid (fun W1 => HGO.out (w4.drewN nq) W1 (Fr.drewN S0 w4 nq))
      have hbb : (w4.drewN nq).cell? ⟨w.heap.size, 0, none⟩ = some (.int .i64 k) := b0
      clear c0 b0 HR4 HF4 HGO HO4
      generalize w4.drewN nq = WQ at *
      have ff := Fr.alloc S0 WQ (.cells #[.int .i64 k, .int .u64 (n : Int)] 67)
      have q0 := HRQ.out.c0
      have q1 := (HRQ.out.fr0 ff).c0
      have q2 := ff.cell hbb (fun h => h)
      have HG6 := Lib.hid (HGQ.out (WQ.alloc (.cells #[.int .i64 k, .int .u64 (n : Int)] 67)).drew (ff.trans0 (Fr.drew _ _)) (heap_alloc_new _ _))
      have HRA := Lib.hid (HRQ.out.fr0 (ff.trans0 (Fr.drew S0 _)))
      have HFA := Lib.hid (HFQ.out.trans0 (ff.trans0 (Fr.drew S0 _)))
      clear ff HGQ
      go_wp2_with fail
      go_region_law (first
        | (go_simp; go_at_call 108; (with_reducible refine HG6.out.mono ?_); rintro _ w6 ⟨q, d, rfl, hi6⟩; have HI6 := Lib.hid hi6; have hr6 := HRA.out.fr hi6.fr (fun ⟨a, ha, e⟩ => HAP.out a ha e); have HR6 := Lib.hid hr6; have u0 := hr6.c0; have u1 := hr6.fz 3; clear hi6 hr6; dsimp only))
      all_goals
        go_wp2_with fail
        go_ret
        have hgw := HS.out.lt
        have hsA := HFA.out.size
        obtain ⟨a, rfl, hat⟩ := HI6.out.pl
        have hqg : a.block ≠ g := by
          rcases hat with ⟨h1, h2⟩ | ⟨h1, -⟩
          · obtain ⟨a', ha'⟩ := Option.ne_none_iff_exists'.1 h2
            rw [h1, ← HRW.out a' ha']
            exact HAP.out a' ha'
          · omega
        refine ⟨rfl, a.block, ⟨fin h HR6.out HI6.out.own (fun b hb => by obtain rfl := Option.some.inj hb; exact hqg) HTT.out.symm HG.out, ?_, (HFA.out.trans HI6.out.fr fun x _ ⟨b, hb, e⟩ => .inr (e.symm.trans (HRW.out b hb))).trans (Fr.setCell (· = g) _ _ _ rfl) fun x _ e => .inl e⟩⟩
        rcases hat with ⟨h1, -⟩ | ⟨h1, h2⟩
        · exact .inl h1
        · exact .inr ⟨by omega, by simpa [World.setCell] using h2⟩
  · have e2 : addL0 l k n = l := by unfold addL0; rw [if_neg hE]
    rw [e2]
    obtain ⟨E, hEE⟩ : ∃ E, addE0 l k n = E := ⟨_, rfl⟩
    rw [hEE] at HRF hE ⊢
    have hE0 : ((E : Int) == 0) = false := by rw [beq_eq_false_iff_ne]; omega
    have hEn : ((E : Int) != 0) = true := by simp; omega
    clear s s1 f1 hbx e2 hEE
    go_enter Tryz.func81, Tryz.ntmps81
    go_wp2_with fail
    refine HRF.out.mono ?_
    rintro e w2 ⟨rfl, f2⟩
    have HF2 := Lib.hid (HF1.out.trans0 f2)
    clear f2 HRF
    go_wp2_with fail
    go_ret
    exact ⟨rfl, h, Turned.same HS.out HF2.out⟩
end
end Go.Proofs.YtaemgflhgdlmiaaGreat
