/- HrPairs, HrBase, HrNew -/
import Derived.Test.YtnndgpggjlhhpaaGreatPt1
import Derived.Test.YtnndgpggjlhhpaaGreatPt2
import Derived.Test.YtnndgpggjlhhpaaGreatPt4
import Derived.Test.YtnndgpggjlhhpaaGreatPt5
import Derived.Test.YtnndgpggjlhhpaaGreatPt6
import Derived.Test.YtnndgpggjlhhpaaGreatPt7
import Derived.Test.YtnndgpggjlhhpaaGreatPt8
import Derived.Test.YtnndgpggjlhhpaaGreatPt9
import Derived.Test.YtnndgpggjlhhpaaGreatPt10
import Derived.Maps.RangeWalk
import Derived.StillTailTactics
import Derived.BigRegion
import Derived.Deep.RegionLaw
import Derived.Deep.RegionHeld3
import Derived.Deep.CutBlock
import Derived.Deep.DeepCutAuto
import Derived.Deep.CutRange
import Derived.WalkKit
import Derived.WalkSpells
import Derived.WalkLawsBesides
import Derived.Deep.QuietTactic
import Derived.BigQuiet
import Derived.RegionTactic
import Derived.Deep.AppendLies
import Derived.Laws.ResultCell
import Derived.Laws.EntriesVeiled
import Derived.Lib.Hide
import Derived.Test.YtnndgpggjlhhpaaGreatRows
import Derived.Laws.BytesArg
import Derived.Lib.SlBytesConst
import Derived.Maps.AppendAt
import Derived.Laws.AppendOwnNone
import Derived.Lib.BitFns
import Derived.Shelf.Small.Bits
import Derived.Shelf.Strconv.Itoa0
import Derived.Shelf.Bits.Mul64
import Derived.Laws.Externs
import Derived.Shelf.Spec.BitsCarry
import Derived.Shelf.SlSortCmp.WholeK
set_option maxRecDepth 100000
set_option maxHeartbeats 8000000
namespace Go.Proofs.YtnndgpggjlhhpaaGreat
open Go.RowKit Go.ChangeMaps
structure PrsSee (w w' : World) (p : Option Addr) (c n : Nat) (l : List Pr) : Prop where
  pri : PrI w' p l
  len : l.length = n
  fresh : ∀ a, p = some a → w.heap.size ≤ a.block
  fr : Fr S0 w w'
theorem Acc.new {w wr : World} {v : Value} {N : Nat} {L : List Pr} (a : Acc w wr v N L) : ∃ q d, v = .slice q N d ∧ PrsNew w wr q d N L := by
  obtain ⟨q, d, rfl⟩ := slFormN a.own
  refine ⟨q, d, rfl, a.own, a.len, fun x hx => ?_, a.fr⟩
  subst hx
  rcases a.own.2 with ⟨h1, -⟩ | ⟨g', cap, cur, h1, -⟩
  · cases h1
  · obtain ⟨h2, -, -⟩ := Value.slice.inj h1
    obtain rfl := Option.some.inj h2
    exact a.fresh g' rfl
theorem sorted_eq {l l' : List Pr} (hs : Srt l) (hp : l'.Perm l) (ho : ∀ i j, (hj : j < l'.length) → (hi : i < j) → (l'[i]'(by omega)).1 ≤ l'[j].1) : l' = l := by
  have h1 : l'.Pairwise fun a b => a.1 ≤ b.1 := List.pairwise_iff_getElem.2 fun i j hi hj hij => ho i j hj hij
  have h2 : l.Pairwise fun a b => a.1 ≤ b.1 := hs.imp fun h => by omega
  refine List.Perm.eq_of_pairwise (fun a b ha hb h3 h4 => ?_) h1 h2 hp
  have ha := hp.mem_iff.1 ha
  have := cnt_mem hs ha
  rw [show a.1 = b.1 by omega, cnt_mem hs hb] at this
  exact Prod.ext (by omega) this.symm
section
variable (g h : Nat) (M : Hm) (w : World) (s : HistIs w g h M)
include s
theorem xpairs_any (hl : M.l.length ≤ 100000) : Calls Tryz.prog 13 #[.pointer (some ⟨g, 0, none⟩)] w fun e w' => ∃ p c n, e = .returned (.slice p n c) ∧ PrsSee w w' p c n M.l := by
  have MP := Lib.hid s.mp
  have HSRT := Lib.hid s.good.srt
  have HHL := Lib.hid s.mp.lt
  obtain ⟨es, clock, hb, E⟩ := s.mp
  have HLEN := E.size_run h w hb
  have c7 := s.c7
  obtain ⟨l, el⟩ : ∃ l, M.l = l := ⟨_, rfl⟩
  rw [el] at MP HSRT HLEN hl ⊢
  obtain ⟨N, hN⟩ : ∃ N, l.length = N := ⟨_, rfl⟩
  rw [hN] at HLEN hl
  have HN := Lib.hid hN
  have HR : Hid (∀ k, k ≤ 100000 → Room k) := Lib.hid fun k hk => Room.mk (by omega)
  clear s E el hN
  go_enter Tryz.func13, Tryz.ntmps13
  go_wp2_with (first
    | (at_make; refine make_room elPr (.const (.int .i64 0)) (.tmp 10) rfl rfl rfl rfl (HR.out _ hl) ?_; intro w1 hown hf1; have HO := Lib.hid hown; have HF1 := Lib.hid hf1; have d7 := hf1.cell c7 (fun h => h); clear hown hf1 c7 hb)
    | (at_range; refine wpList_range_mp _ rfl _ rfl h l rfl (MP.out.fr HF1.out fun h => h) ?_; intro w2 it2 f2; have IT2 := Lib.hid it2; have F2 := Lib.hid f2; clear it2 f2))
  obtain ⟨r, hr⟩ : ∃ r, w1.heap.size = r := ⟨_, rfl⟩
  have HRW : Hid (w.heap.size < r) := Lib.hid (by rw [← hr]; exact (HO.out.lt w.heap.size rfl).2)
  rw [hr] at IT2
  rw [hr]
  clear hr
  go_frame
  go_loopw [3] (fun a wr => ∃ (D R : List Pr) (v : Value), a = v ∧ Hid (Acc w wr v D.length D ∧ Itr wr r h l D R ∧ ∀ k, v.ownBlock = some k → k ≠ r)) (fun _ wr => N - came wr r)
  case atStart => exact ⟨[], l, _, rfl, Lib.hid ⟨⟨F2.out.owns HO.out fun _ _ h => h, fun y hy => by obtain rfl := Option.some.inj hy; exact Nat.le_refl _, HF1.out.trans0 F2.out⟩, IT2.out, fun y hy => (Option.some.inj hy) ▸ Nat.ne_of_lt HRW.out⟩⟩
  case round =>
    obtain ⟨D, R, v, rfl, HK⟩ := hrel
    go_wp2_with (at_next; refine wpList_next_mp _ rfl _ rfl _ _ _ _ _ rfl HK.out.2.1 ?_ ?_)
    · intro hperm hR
      obtain ⟨q, d, rfl, hnew⟩ := HK.out.1.new
      have hpl := hperm.length_eq
      have hDn : D.length ≤ 1000000 := by have := HN.out; omega
      have HSO := Lib.hid (sort_any w wr q D.length d D hnew hDn)
      have HP := Lib.hid hperm
      have HFH := Lib.hid hnew.fresh
      clear hnew hperm hR
      obtain ⟨n, hn⟩ : ∃ n, D.length = n := ⟨_, rfl⟩
      rw [hn] at HSO hpl
      rw [hn]
      have HPL := Lib.hid hpl
      clear hpl hDn hn
      go_wp2_with fail
      refine HSO.out.mono ?_
      rintro e w5 ⟨rfl, l', hp', hle, hpri, hf⟩
      have hll : l' = l := sorted_eq HSRT.out (hp'.trans HP.out) hle
      have HE := Lib.hid (show PrsSee w w5 q d n l from ⟨hll ▸ hpri, HPL.out.symm, HFH.out, hf⟩)
      clear hp' hle hpri hf hll HSO
      go_wp2_with fail
      go_ret
      exact ⟨q, d, n, rfl, HE.out⟩
    · intro a b R' w3 hx it3 f3 hen
      have hir := it3.lt
      have hcm := it3.came
      have hcm0 := HK.out.2.1.came
      rw [List.length_append, List.length_singleton] at hcm
      have hN := HN.out
      have HA3 : Hid (Acc w w3 u3 D.length D) := Lib.hid ⟨f3.owns HK.out.1.own fun k hk e => HK.out.2.2 k hk e, HK.out.1.fresh, HK.out.1.fr.trans f3 fun j hj e => by have h1 := HRW.out; have h2 : j = r := e; omega⟩
      have HIT := Lib.hid it3
      have HRD : Hid (Room (D.length + 1)) := HR.out _ (by omega)
      have HCM := Lib.hid (show came wr r < N ∧ came wr r = D.length from ⟨by omega, hcm0.1⟩)
      have HIR := Lib.hid hir
      clear hx it3 f3 hir hcm hcm0 hN
      go_wp2_with ((with_reducible show wpList _ _ _ (Oper.mk (some 27) _ _ _ _ _ :: _) _ _); refine app_one elPr (.tmp 22) (.tmp 26) rfl HA3.out.own rfl rfl rfl rfl rfl (one_pr a b) HRD.out ?_; intro g1 cap1 w4 hown hgrow hat hlt; have HA4 := Lib.hid (HA3.out.app hown hgrow hat); have HIT4 := Lib.hid (HIT.out.fr ((Fr.alloc (fun k => u3.ownBlock = some k) w3 _).trans (Fr.grown hgrow) fun _ _ e => e) (fun e => HK.out.2.2 _ e rfl) (fun e => absurd (HK.out.1.fresh _ e) (Nat.not_le_of_lt HHL.out))); have HG4 : Hid (g1 ≠ r) := Lib.hid (hat.elim (fun e => HK.out.2.2 _ e) fun e => (by have := HIR.out; omega)); clear hown hgrow hat hlt)
      go_roundw
      case rel => exact ⟨D ++ [(a, b)], R', _, rfl, Lib.hid ⟨by rw [List.length_append]; exact HA4.out, HIT4.out, fun k hk => by obtain rfl := Option.some.inj hk; exact HG4.out⟩⟩
      case measure =>
        have h1 := HIT4.out.came
        rw [List.length_append, List.length_singleton] at h1
        have h2 := HCM.out
        omega
end
end Go.Proofs.YtnndgpggjlhhpaaGreat

namespace Go.Proofs.YtnndgpggjlhhpaaGreat
open Go.RowKit Go.ChangeMaps
def Hm.new (L H D : Nat) (gr : Bool) : Hm := ⟨L, H, D, gr, unt L, mag D, 1 + bkt (unt L + mag D) H, []⟩
theorem Hm.new_good (L H D : Nat) (gr : Bool) (h1 : 1 ≤ D) (h5 : D ≤ 5) (h0 : 0 < L) (hh : 2 * L ≤ H) (hb : H < 9223372036854775808) (hs : unt L + mag D ≤ 62) : (Hm.new L H D gr).Good :=
  ⟨⟨h1, h5⟩, h0, hh, hb, rfl, rfl, hs, srt_nil, pos_nil, (show ltot [] ≤ 4611686018427387904 by decide), (fun _ h => by cases h), Nat.le_refl _, (by have := bkt_most (unt L + mag D) H (by omega) hb; simp only [Hm.new]; omega), fun _ => rfl⟩
theorem Hm.Good.tb {M : Hm} (g : M.Good) : Tb M.l := ⟨g.srt, g.pos, g.tot⟩
theorem Hm.Good.cell {M : Hm} (g : M.Good) {x : Pr} (hx : x ∈ M.l) : ∃ i : Nat, x.1 = i ∧ i < 9223372036854775808 ∧ ibk M.m i ≤ 63 - (M.u + M.m) := by
  have h1 := g.keys x hx
  have h2 := g.b1
  refine ⟨x.1.toNat, by omega, ?_, by omega⟩
  by_cases hc : x.1.toNat < 9223372036854775808
  · exact hc
  · exfalso
    have h3 := idx_vof M.u M.m x.1.toNat g.m1 (by have := g.s; omega) (by omega)
    have h4 := vof_lt M.u M.m x.1.toNat g.m1 (by have := g.s; omega) (by omega)
    have h5 := idx_small M.u M.m (vof M.u M.m x.1.toNat) g.m1 g.m5.2 g.s (by have := two_pos (M.u + ibk M.m x.1.toNat); omega)
    omega
theorem len_put_le : ∀ (l : List Pr) (k : Int) (n : Nat), (lput l k n).length ≤ l.length + 1
  | [], _, _ => by simp [lput]
  | x :: r, k, n => by
    have := len_put_le r k n
    rw [lput]
    split
    · rw [List.length_cons, List.length_cons]; omega
    · split <;> simp
theorem record_len (M : Hm) (v : Int) (n : Nat) : (M.record v n).l.length ≤ M.l.length + 1 := by
  unfold Hm.record
  split
  · exact len_put_le _ _ _
  · omega
theorem box3a (w : World) (a b c : Value) (t : TypeId) : (w.alloc (.cells #[a, b, c] t)).cell? ⟨w.heap.size, 0, none⟩ = some a ∧ (w.alloc (.cells #[a, b, c] t)).cell? ⟨w.heap.size, 1, none⟩ = some b ∧ (w.alloc (.cells #[a, b, c] t)).cell? ⟨w.heap.size, 2, none⟩ = some c := by
  have hb0 := heap_alloc_new w (.cells #[a, b, c] t)
  exact ⟨by rw [World.cell?, hb0]; rfl, by rw [World.cell?, hb0]; rfl, by rw [World.cell?, hb0]; rfl⟩
end Go.Proofs.YtnndgpggjlhhpaaGreat

namespace Go.Proofs.YtnndgpggjlhhpaaGreat
open Go.RowKit Go.ChangeMaps
theorem make_counts (W : World) : (Instr.makeMap 59 none).run Tryz.prog W = .ok (.map (some W.heap.size)) (W.alloc (.map #[] 0)) := by
  simp [Instr.makeMap]
theorem box3c (w : World) (a b c : Value) (t : TypeId) : (w.alloc (.cells #[a, b, c] t)).cell? ⟨w.heap.size, 1, none⟩ = some b := by rw [World.cell?, heap_alloc_new]; rfl
theorem xnew_yes (l h D : Nat) (gr : Bool) (W : World) (h1 : 1 ≤ D) (h5 : D ≤ 5) (h0 : 0 < l) (hh : 2 * l ≤ h) (hb : h < 9223372036854775808) (hs : unt l + mag D ≤ 62) :
    Calls Tryz.prog 26 #[.agg #[.int .i64 (l : Nat), .int .i64 (h : Nat), .int .i64 (D : Nat)], .bool gr] W fun e w' => ∃ g hm, e = .returned (.tuple #[.pointer (some ⟨g, 0, none⟩), .int .i64 0]) ∧ HistIs w' g hm (Hm.new l h D gr) ∧ W.heap.size ≤ g ∧ W.heap.size ≤ hm ∧ Fr S0 W w' := by
  have HN := Lib.hid (fun W => new_yes l h D W h1 h5 h0 hh hb hs)
  have HB := Lib.hid (fun g W (m : MapIs W g (l : Nat) (h : Nat) (D : Nat) (unt l) (mag D)) => buckets_any g (l : Nat) (h : Nat) (D : Nat) (unt l) (mag D) W m (h : Nat) (by omega))
  rw [show ((h : Nat) : Int).toNat = h by omega] at HB
  have hmk := make_counts
  have HGOOD := Lib.hid (Hm.new_good l h D gr h1 h5 h0 hh hb hs)
  have HBOX := Lib.hid (box3c W (.int .i64 (l : Nat)) (.int .i64 (h : Nat)) (.int .i64 (D : Nat)) 27)
  obtain ⟨U, eU⟩ : ∃ U, unt l = U := ⟨_, rfl⟩
  obtain ⟨M, eM⟩ : ∃ M, mag D = M := ⟨_, rfl⟩
  obtain ⟨K, eK⟩ : ∃ K, 1 + bkt (U + M) h = K := ⟨_, rfl⟩
  have HE := Lib.hid (And.intro eU (And.intro eM (show 1 + bkt (unt l + mag D) h = K by rw [eU, eM, eK])))
  rw [eU, eM] at HN
  simp only [eU, eM, eK] at HB
  clear h1 h5 h0 hh hb hs
  go_enter Tryz.func26, Tryz.ntmps26
  go_wp2_with fail
  refine (HN.out _).mono ?_
  rintro e w1 ⟨gm, rfl, nm⟩
  have F1 := Lib.hid ((Fr.alloc S0 _ _).trans0 nm.fr)
  have HM1 := Lib.hid nm.map
  have b1 := nm.fr.cell HBOX.out fun h => h
  clear nm
  go_upto_region 13 with fail
  obtain ⟨-, m0, m1, m2, m3, m4, -, -, -⟩ := HM1.out
  go_region_held3 (fun w' => w'.cell? ⟨W.heap.size, 1, none⟩ = some (.int .i64 (h : Nat)) ∧ w'.cell? ⟨gm, 0, none⟩ = some (.int .i64 (l : Nat)) ∧ w'.cell? ⟨gm, 1, none⟩ = some (.int .i64 (h : Nat)) ∧ w'.cell? ⟨gm, 2, none⟩ = some (.int .i64 (D : Nat)) ∧ w'.cell? ⟨gm, 3, none⟩ = some (.int .i64 (U : Nat)) ∧ w'.cell? ⟨gm, 4, none⟩ = some (.int .i64 (M : Nat)) ∧ Fr S0 w1 w')
    (first
      | (go_split_ands; exact ⟨by assumption, by assumption, by assumption, by assumption, by assumption, by assumption, by assumption⟩)
      | exact ⟨b1, m0, m1, m2, m3, m4, Fr.drew _ _⟩
      | (go_split_ands; exact ⟨f9.cell (by assumption) (fun h => h), f9.cell (by assumption) (fun h => h), f9.cell (by assumption) (fun h => h), f9.cell (by assumption) (fun h => h), f9.cell (by assumption) (fun h => h), f9.cell (by assumption) (fun h => h), Fr.trans0 (by assumption) f9⟩)
      | (go_split_ands; exact ⟨(Fr.alloc S0 _ _).cell (by assumption) (fun h => h), (Fr.alloc S0 _ _).cell (by assumption) (fun h => h), (Fr.alloc S0 _ _).cell (by assumption) (fun h => h), (Fr.alloc S0 _ _).cell (by assumption) (fun h => h), (Fr.alloc S0 _ _).cell (by assumption) (fun h => h), (Fr.alloc S0 _ _).cell (by assumption) (fun h => h), Fr.trans0 (by assumption) (Fr.alloc S0 _ _)⟩))
    (first
      | (go_at_call 30; ((with_reducible refine (HB.out gm _ (HM1.out.fr0 (by go_split_ands; assumption))).mono ?_); rintro _ w2 ⟨rfl, f9⟩; have F9 := Lib.hid f9; have F2 := Lib.hid (show Fr S0 w1 w2 from Fr.trans0 (by go_split_ands; assumption) f9))))
  all_goals
    go_wp2_with fail
    go_ret2
    first
      | (refine ⟨w2.heap.size + 1, w2.heap.size, rfl, ⟨?_, ⟨#[], 0, ?_, MpE.empty⟩, HGOOD.out⟩, ?_, ?_, ?_⟩
         · have h1 := heap_alloc_new (w2.alloc (.map #[] 0)) (.cells #[.int .i64 (l : Nat), .int .i64 (h : Nat), .int .i64 (D : Nat), .int .i64 (U : Nat), .int .i64 (M : Nat), .bool gr, .int .i64 (K : Nat), .map (some w2.heap.size), .int .u64 0] 61)
           rw [size_alloc] at h1
           rw [h1, ← HE.out.2.2, ← HE.out.2.1, ← HE.out.1]
           rfl
         · exact (Fr.alloc S0 _ _).row (heap_alloc_new w2 _) fun h => h
         · exact Nat.le_trans (F1.out.trans0 F2.out).size (Nat.le_succ _)
         · exact (F1.out.trans0 F2.out).size
         · exact ((F1.out.trans0 F2.out).trans0 (Fr.alloc _ _ _)).trans0 (Fr.alloc _ _ _))
      | (refine ⟨w2.heap.size, w1.heap.size, rfl, ⟨?_, ⟨#[], 0, ?_, MpE.empty⟩, HGOOD.out⟩, ?_, ?_, ?_⟩
         · rw [heap_alloc_new, ← HE.out.2.2, ← HE.out.2.1, ← HE.out.1]
           rfl
         · exact (Fr.alloc S0 _ _).row (F9.out.row (heap_alloc_new w1.drew (.map #[] 0)) fun h => h) fun h => h
         · exact (F1.out.trans0 F2.out).size
         · exact F1.out.size
         · exact (F1.out.trans0 F2.out).trans0 (Fr.alloc _ _ _))
end Go.Proofs.YtnndgpggjlhhpaaGreat
