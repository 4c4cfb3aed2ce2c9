/- SpOf -/
import Derived.Test.YtaemgflhgdlmiaaGreatPw1
import Derived.Test.YtaemgflhgdlmiaaGreatPw2
import Derived.Test.YtaemgflhgdlmiaaGreatPw4
import Derived.Test.YtaemgflhgdlmiaaGreatPw5
import Derived.Test.YtaemgflhgdlmiaaGreatPw6
import Derived.Test.YtaemgflhgdlmiaaGreatPw7
import Derived.Test.YtaemgflhgdlmiaaGreatPw8
import Derived.Test.YtaemgflhgdlmiaaGreatPw14
import Derived.Test.YtaemgflhgdlmiaaGreatPw15
import Derived.Test.YtaemgflhgdlmiaaGreatPw17
import Derived.Test.YtaemgflhgdlmiaaGreatPw22
import Derived.Test.YtaemgflhgdlmiaaGreatPw23
import Derived.Deep.RegionLaw
import Derived.Deep.RegionHeld3
import Derived.Maps.AppendAt
import Derived.Lib.SliceRun
import Derived.StillTailTactics
import Derived.BigRegion
import Derived.WalkKit
import Derived.WalkSpells
import Derived.WalkLawsBesides
import Derived.Deep.QuietTactic
import Derived.BigQuiet
import Derived.RegionTactic
import Derived.Deep.AppendLies
import Derived.Laws.ResultCell
import Derived.Laws.EntriesVeiled
import Derived.Lib.Hide
import Derived.Test.YtaemgflhgdlmiaaGreatRows
import Derived.Laws.BytesArg
import Derived.Lib.SlBytesConst
import Derived.Laws.AppendOwnNone
import Derived.Lib.AppendZeros
import Derived.Laws.CopyOwn
import Derived.Lib.Overlaps
import Derived.Laws.Externs
import Derived.Lib.AppendZerosOnto
import Derived.Laws.OwnMore
import Derived.Shelf.SlSortCmp.WholeK
set_option maxRecDepth 100000
set_option maxHeartbeats 8000000
namespace Go.Proofs.YtaemgflhgdlmiaaGreat
namespace O
open Go.RowKit
structure Raw (w : World) (g : Nat) (p : Option Addr) (n c T : Nat) : Prop where
  blk : w.heap[g]? = some (.cells #[.slice p n c, .int .u64 (T : Int)] 95 (0, 0))
section
variable {w w' : World} {g : Nat} {p : Option Addr} {n c T : Nat} {S : Nat → Prop}
theorem Raw.c0 (h : Raw w g p n c T) : w.cell? ⟨g, 0, none⟩ = some (.slice p n c) := by simp [World.cell?, h.blk]
theorem Raw.c1 (h : Raw w g p n c T) : w.cell? ⟨g, 1, none⟩ = some (.int .u64 (T : Int)) := by simp [World.cell?, h.blk]
theorem Raw.fz (h : Raw w g p n c T) (i : Nat) : w.frozen? ⟨g, i, none⟩ = false := by simp [World.frozen?, h.blk]
theorem Raw.fr (h : Raw w g p n c T) (f : Fr S w w') (hs : ¬ S g) : Raw w' g p n c T := ⟨f.row h.blk hs⟩
theorem Raw.fr0 (h : Raw w g p n c T) (f : Fr S0 w w') : Raw w' g p n c T := h.fr f fun h => h
theorem Raw.set0 (h : Raw w g p n c T) (q : Option Addr) (m d : Nat) : Raw (w.setCell ⟨g, 0, none⟩ (.slice q m d)) g q m d T := ⟨by rw [heap_setCell_same w g 0 _ _ _ h.blk]; rfl⟩
theorem Raw.set1 (h : Raw w g p n c T) (U : Nat) : Raw (w.setCell ⟨g, 1, none⟩ (.int .u64 (U : Int))) g p n c U := ⟨by rw [heap_setCell_same w g 1 _ _ _ h.blk]; rfl⟩
theorem Raw.lt (h : Raw w g p n c T) : g < w.heap.size := (Array.getElem?_eq_some_iff.1 h.blk).1
end
structure Sto (w : World) (g h : Nat) (p : Option Addr) (n c : Nat) (l : List Pr) : Prop where
  raw : Raw w g p n c (ltot l)
  own : w.ownsRow 0 67 2 (.slice p n c) n (prs l)
  row : ∀ a, p = some a → a.block = h
  apart : p ≠ none → h ≠ g
  ok : Good l
def StIs (w : World) (g h : Nat) (l : List Pr) : Prop := ∃ p n c, Sto w g h p n c l
theorem fin {w : World} {g : Nat} {p q : Option Addr} {n c m d T : Nat} {l : List Pr} (h : Nat) (r : Raw w g p n c T) (own : w.ownsRow 0 67 2 (.slice q m d) m (prs l)) (hq : ∀ a, q = some a → a.block ≠ g) (hT : T = ltot l) (ok : Good l) :
    StIs (w.setCell ⟨g, 0, none⟩ (.slice q m d)) g (blk q h) l := by
  subst hT
  refine ⟨q, m, d, r.set0 q m d, (Fr.setCell (· = g) w ⟨g, 0, none⟩ _ rfl).owns own fun k hk e => ?_, fun a ha => by rw [ha]; rfl, fun hn => ?_, ok⟩
  · cases q with
    | none => cases hk
    | some a => exact hq a rfl ((Option.some.inj hk).trans e)
  · cases q with
    | none => exact absurd rfl hn
    | some a => exact hq a rfl
section
variable (g m c n : Nat) (p : Option Addr) (l : List Pr) (w : World)
theorem beyond_raw (s : Raw w g p m c (ltot l)) (ht : ltot l ≤ 4611686018427387904) : Calls Tryz.prog 119 #[.pointer (some ⟨g, 0, none⟩), .int .u64 (n : Nat)] w fun e w' => e = .returned (.bool (decide (4611686018427387904 - ltot l < n))) ∧ w' = w := by
  have c1 := s.c1
  obtain ⟨T, hT⟩ : ∃ T, ltot l = T := ⟨_, rfl⟩
  obtain ⟨K, hK⟩ : ∃ K, 4611686018427387904 - T = K := ⟨_, rfl⟩
  rw [hT] at c1 ht ⊢
  rw [hK]
  have eK : (4611686018427387904 : Int) - (T : Int) = (K : Int) := by omega
  have hkm : (K : Int) ≤ 4611686018427387904 := by omega
  clear s hT hK
  go_enter Tryz.func119, Tryz.ntmps119
  go_wp2_with fail
  go_ret
  exact ⟨by simp, rfl⟩
end
section
variable (g m c n : Nat) (p : Option Addr) (k : Int) (l : List Pr) (w : World)
theorem refusal_raw (hn : n < 18446744073709551616) (s : Raw w g p m c (ltot l)) (ht : ltot l ≤ 4611686018427387904) :
    Calls Tryz.prog 105 #[.pointer (some ⟨g, 0, none⟩), .int .i64 k, .int .u64 (n : Nat)] w fun e w' => e = .returned (.int .i64 (addE0 l k n : Nat)) ∧ Fr S0 w w' := by
  by_cases h0 : n = 0
  · subst h0
    have e : addE0 l k 0 = 4 := by unfold addE0; rw [if_pos rfl]
    rw [e]
    clear e s ht hn
    go_enter Tryz.func105, Tryz.ntmps105
    go_wp2_with fail
    go_ret
    exact ⟨rfl, Fr.refl _ _⟩
  have hn0 : ((n : Int) == 0) = false := by rw [beq_eq_false_iff_ne]; omega
  by_cases hk : k < -1048576 ∨ 1048576 < k
  · have e : addE0 l k n = 5 := by unfold addE0; rw [if_neg h0, if_pos hk]
    rw [e]
    by_cases h1 : k < -1048576
    · clear e s ht hn hk h0
      go_enter Tryz.func105, Tryz.ntmps105
      go_wp2_with fail
      go_ret
      exact ⟨rfl, Fr.refl _ _⟩
    · have h2 : (1048576 : Int) < k := by omega
      have h3 : decide (k < -1048576) = false := decide_eq_false h1
      clear e s ht hn hk h0 h1
      go_enter Tryz.func105, Tryz.ntmps105
      go_wp2_with fail
      go_ret
      exact ⟨rfl, Fr.refl _ _⟩
  have h3 : decide (k < -1048576) = false := decide_eq_false (by omega)
  have h4 : decide (1048576 < k) = false := decide_eq_false (by omega)
  have HB := Lib.hid (beyond_raw g m c n p l w s ht)
  by_cases hc : 4611686018427387904 - ltot l < n
  · have e : addE0 l k n = 6 := by unfold addE0; rw [if_neg h0, if_neg hk, if_pos hc]
    rw [e]
    rw [decide_eq_true hc] at HB
    clear e s ht hn hk h0 hc
    go_enter Tryz.func105, Tryz.ntmps105
    go_wp2_with fail
    refine HB.out.mono ?_
    rintro e w1 ⟨rfl, rfl⟩
    go_wp2_with fail
    go_ret
    exact ⟨rfl, Fr.refl _ _⟩
  · have e : addE0 l k n = 0 := by unfold addE0; rw [if_neg h0, if_neg hk, if_neg hc]
    rw [e]
    rw [decide_eq_false hc] at HB
    clear e s ht hn hk h0 hc
    go_enter Tryz.func105, Tryz.ntmps105
    go_wp2_with fail
    refine HB.out.mono ?_
    rintro e w1 ⟨rfl, rfl⟩
    go_wp2_with fail
    go_ret
    exact ⟨rfl, Fr.refl _ _⟩
end
def ofE (L : List Pr) : List Pr → Nat
  | [] => 0
  | x :: r => if addE0 L x.1 x.2 = 0 then ofE (lput L x.1 x.2) r else addE0 L x.1 x.2
theorem ofE_drop {L l : List Pr} {j : Nat} (h : j < l.length) : ofE L (l.drop j) = if addE0 L l[j].1 l[j].2 = 0 then ofE (lput L l[j].1 l[j].2) (l.drop (j + 1)) else addE0 L l[j].1 l[j].2 := by
  rw [List.drop_eq_getElem_cons h, ofE]
def NewL (w w' : World) (g : Nat) (l : List Pr) : Prop := ∃ h, StIs w' g h l ∧ w.heap.size ≤ g ∧ w.heap.size ≤ h ∧ h < w'.heap.size
section
variable (p : Option Addr) (n c : Nat) (l : List Pr) (w : World)
theorem of_any (hp : PrI w p l) (hn : l.length = n) (hm : n ≤ 1000000) (hc : p = none → c = 0) (h64 : ∀ x ∈ l, x.2 < 18446744073709551616) :
    Calls Tryz.prog 114 #[.slice p n c] w fun e w' => Fr S0 w w' ∧ ((ofE [] l ≠ 0 ∧ e = .returned (.tuple #[.pointer none, .int .i64 (ofE [] l : Nat)])) ∨ (ofE [] l = 0 ∧ ∃ g, e = .returned (.tuple #[.pointer (some ⟨g, 0, none⟩), .int .i64 0]) ∧ NewL w w' g (lputs [] l))) := by
  have HP := Lib.hid hp
  have HN := Lib.hid hn
  have HC := Lib.hid hc
  have H64 := Lib.hid h64
  clear hp hn hc h64
  have f0 := Fr.alloc S0 w (.cells #[.slice none 0 0, .int .u64 0] 95)
  have r0 : Raw (w.alloc (.cells #[.slice none 0 0, .int .u64 0] 95)) w.heap.size none 0 0 (ltot (lputs [] (l.take 0))) := ⟨heap_alloc_new w _⟩
  have HF0 := Lib.hid f0
  have HR0 := Lib.hid r0
  clear f0 r0
  obtain ⟨g, hg⟩ : ∃ g, w.heap.size = g := ⟨_, rfl⟩
  have HG := Lib.hid hg
  rw [hg] at HR0
  go_enter Tryz.func114, Tryz.ntmps114
  go_wp2_with fail
  clear hg
  generalize w.alloc (.cells #[.slice none 0 0, .int .u64 0] 95) = w1 at HF0 HR0 ⊢
  go_loopw [2, 3, 6, 7, 12] (fun _ _ _ _ i wr => ∃ j : Nat, j ≤ n ∧ i = .int .i64 j ∧ Hid (Raw wr g none 0 0 (ltot (lputs [] (l.take j)))) ∧ Hid (Fr S0 w wr) ∧ Hid (ofE [] l = ofE (lputs [] (l.take j)) (l.drop j)) ∧ Hid (Good (lputs [] (l.take j)) ∧ Pos (l.take j))) (fun _ _ _ _ i _ => n - (intOf i).toNat)
  case atStart => exact ⟨0, by omega, rfl, HR0, HF0, (by first | exact Lib.hid rfl | exact Lib.hid trivial), Lib.hid ⟨Good.nil, pos_nil⟩⟩
  case round =>
    clear HR0 HF0
    obtain ⟨j, hj, rfl, hraw, hfr, hE, hgd⟩ := hrel
    by_cases hjn : (j : Int) < (n : Int)
    · have hjl : j < l.length := by rw [HN.out]; omega
      have hx64 := H64.out _ (List.getElem_mem hjl)
      obtain ⟨b, o, rfl, d0, d1⟩ := (HP.out.fr0 hfr.out).at j hjl
      have e1 := ofE_drop (L := lputs [] (l.take j)) hjl
      have e2 := lputs_take [] l j hjl
      have e3 : l.take (j + 1) = l.take j ++ [l[j]] := List.take_succ_eq_append_getElem hjl
      obtain ⟨⟨tk, tn⟩, ht⟩ : ∃ t, l[j] = t := ⟨_, rfl⟩
      rw [ht] at d0 d1 e1 e2 e3 hx64
      simp only at d0 d1 e1 e2 hx64
      have hb := heap_alloc_new wr (.cells #[.int .i64 tk, .int .u64 (tn : Int)] 67)
      have fa := Fr.alloc S0 wr (.cells #[.int .i64 tk, .int .u64 (tn : Int)] 67)
      have HRF := Lib.hid (refusal_raw g 0 0 tn none tk (lputs [] (l.take j)) _ hx64 (hraw.out.fr0 fa) hgd.out.1.tot)
      have HB := Lib.hid hb
      have HFA := Lib.hid fa
      obtain ⟨E, hEE⟩ : ∃ E, addE0 (lputs [] (l.take j)) tk tn = E := ⟨_, rfl⟩
      rw [hEE] at HRF e1
      by_cases h0 : E = 0
      · subst h0
        rw [if_pos rfl, ← e2] at e1
        have HE2 : Hid (ofE [] l = ofE (lputs [] (l.take (j + 1))) (l.drop (j + 1))) := Lib.hid (hE.out.trans e1)
        obtain ⟨hn0, hk, htot⟩ := addE0_zero hEE
        have hgd2 := hgd.out.1.put hn0 (htot hgd.out.1.tot) hk
        rw [← e2] at hgd2
        have HGD2 : Hid (Good (lputs [] (l.take (j + 1))) ∧ Pos (l.take (j + 1))) := Lib.hid ⟨hgd2, by
          rw [e3]
          intro x hx
          rcases List.mem_append.1 hx with hx | hx
          · exact hgd.out.2 x hx
          · rw [List.mem_singleton.1 hx]; exact hn0⟩
        have et : ltot (lputs [] (l.take (j + 1))) = ltot (lputs [] (l.take j)) + tn := by rw [e2, tot_put]
        have HT := Lib.hid et
        have htb := hgd2.tot
        rw [et] at htb
        obtain ⟨T, hT⟩ : ∃ T, ltot (lputs [] (l.take j)) = T := ⟨_, rfl⟩
        rw [hT] at htb HT hraw
        obtain ⟨U, hU⟩ : ∃ U, T + tn = U := ⟨_, rfl⟩
        rw [hU] at htb HT
        have esum : (T : Int) + (tn : Int) = (U : Int) := by omega
        have hUm : (U : Int) ≤ 4611686018427387904 := by omega
        clear e1 e2 e3 hb fa hEE hE hgd hgd2 hn0 hk htot ht hx64 et hT hU
        go_wp2_with fail
        refine HRF.out.mono ?_
        rintro e w4 ⟨rfl, f4⟩
        have r4 := (hraw.out.fr0 HFA.out).fr0 f4
        have HR4 := Lib.hid r4
        have HF4 := Lib.hid ((hfr.out.trans0 HFA.out).trans0 f4)
        have hb4 := f4.row HB.out (fun h => h)
        have q1 : w4.drew.cell? ⟨wr.heap.size, 1, none⟩ = some (.int .u64 (tn : Int)) := by
          show w4.cell? ⟨wr.heap.size, 1, none⟩ = some (.int .u64 (tn : Int))
          simp only [World.cell?, hb4]; rfl
        have q2 : w4.drew.cell? ⟨g, 1, none⟩ = some (.int .u64 (T : Int)) := r4.c1
        have q3 : w4.drew.frozen? ⟨g, 1, none⟩ = false := r4.fz 1
        clear f4 r4 hb4 HRF HB HFA hraw hfr d0 d1
        go_wp2_with fail
        go_region
        all_goals
          go_wp2_with fail
          go_roundw
          case rel => exact ⟨j + 1, by omega, by go_num, Lib.hid (by rw [HT.out]; exact (HR4.out.fr0 (Fr.drew S0 w4)).set1 U), Lib.hid (HF4.out.trans ((Fr.drew (· = g) w4).trans (Fr.setCell (· = g) _ _ _ rfl) fun _ _ h => h) fun x hx e => by have := HG.out; omega), HE2, HGD2⟩
          case measure => simp [intOf]; omega
      · rw [if_neg h0] at e1
        have HE2 : Hid (ofE [] l = E) := Lib.hid (hE.out.trans e1)
        have hEb : ((E : Int) == 0) = false := by rw [beq_eq_false_iff_ne]; omega
        clear e1 e2 e3 hb fa hEE hE hgd ht hx64
        go_wp2_with fail
        refine HRF.out.mono ?_
        rintro e w4 ⟨rfl, f4⟩
        have HF4 := Lib.hid ((hfr.out.trans0 HFA.out).trans0 f4)
        clear f4 HRF HB HFA hraw hfr d0 d1
        go_wp2_with fail
        go_ret2
        exact ⟨HF4.out, .inl ⟨by rw [HE2.out]; exact h0, by rw [HE2.out]; rfl⟩⟩
    · obtain rfl : j = n := by omega
      have htk : l.take j = l := by rw [← HN.out, List.take_length]
      have hE2 := hE.out
      rw [htk, ← HN.out, List.drop_length] at hE2
      have HE2 : Hid (ofE [] l = 0) := Lib.hid hE2
      have hgd2 := hgd.out
      rw [htk] at hgd2
      have htt := tot_putAll l []
      simp only [ltot] at htt
      have HSO := Lib.hid (sorted_any p j c l wr (HP.out.fr0 hfr.out) HN.out hm HC.out hgd2.2 (by have := hgd2.1.tot; omega))
      have HGD := Lib.hid hgd2.1
      rw [htk] at hraw
      clear hE2 hgd2 htt htk hE hgd
      go_wp2_with fail
      refine HSO.out.mono ?_
      rintro e w4 ⟨v, N, rfl, ha⟩
      obtain ⟨q, d, rfl⟩ := slFormN ha.own
      have HA := Lib.hid ha
      have r4 := hraw.out.fr0 ha.fr
      have HR4 := Lib.hid r4
      have u0 := r4.c0
      have u1 := r4.fz 0
      have HF4 := Lib.hid (hfr.out.trans0 ha.fr)
      clear ha r4 HSO
      go_wp2_with fail
      go_ret2
      have hgw : g < w.heap.size + 1 := by have := HG.out; omega
      have hgr := hraw.out.lt
      have hq : ∀ a, q = some a → a.block ≠ g := fun a ha' => by have := HA.out.fresh a.block (by rw [ha']; rfl); omega
      have hst := fin w4.heap.size HR4.out HA.out.own hq rfl HGD.out
      refine ⟨HF4.out.trans (Fr.setCell (· = g) _ _ _ rfl) fun x hx e => (by have := HG.out; omega), .inr ⟨HE2.out, g, rfl, ?_⟩⟩
      cases q with
      | none =>
        refine ⟨g, ?_, by have := HG.out; omega, by have := HG.out; omega, by have := HF4.out.size; have := HR4.out.lt; simpa [World.setCell] using this⟩
        obtain ⟨p', n', c', s'⟩ := hst
        have hc0 := s'.raw.c0
        have hc1 := (HR4.out.set0 none N d).c0
        rw [hc0] at hc1
        obtain ⟨rfl, rfl, rfl⟩ := Value.slice.inj (Option.some.inj hc1)
        exact ⟨none, _, _, s'.raw, s'.own, (fun _ h => by cases h), fun h => absurd rfl h, s'.ok⟩
      | some a =>
        refine ⟨a.block, hst, by have := HG.out; omega, ?_, ?_⟩
        · have := HA.out.fresh a.block rfl
          have := hfr.out.size
          omega
        · have := (HA.out.own.lt a.block rfl).2
          simpa [World.setCell] using this
end
end O
end Go.Proofs.YtaemgflhgdlmiaaGreat
