/- HrLoad, HrLoadMath, HwLoad -/
import Derived.Test.YtnndgpggjlhhpaaGreatPr1
import Derived.Test.YtnndgpggjlhhpaaGreatPr2
import Derived.Test.YtnndgpggjlhhpaaGreatPr4
import Derived.Test.YtnndgpggjlhhpaaGreatPr5
import Derived.Test.YtnndgpggjlhhpaaGreatPr6
import Derived.Test.YtnndgpggjlhhpaaGreatPr7
import Derived.Test.YtnndgpggjlhhpaaGreatPr8
import Derived.Test.YtnndgpggjlhhpaaGreatPr9
import Derived.Test.YtnndgpggjlhhpaaGreatPr10
import Derived.Test.YtnndgpggjlhhpaaGreatPr11
import Derived.Test.YtnndgpggjlhhpaaGreatPr12
import Derived.Maps.RangeWalk
import Derived.StillTailTactics
import Derived.BigRegion
import Derived.Deep.RegionLaw
import Derived.Deep.RegionHeld3
import Derived.Deep.CutBlock
import Derived.Deep.DeepCutAuto
import Derived.Deep.CutRange
import Derived.WalkKit
import Derived.WalkSpells
import Derived.WalkLawsBesides
import Derived.Deep.QuietTactic
import Derived.BigQuiet
import Derived.RegionTactic
import Derived.Deep.AppendLies
import Derived.Laws.ResultCell
import Derived.Laws.EntriesVeiled
import Derived.Lib.Hide
import Derived.Test.YtnndgpggjlhhpaaGreatRows
import Derived.Laws.BytesArg
import Derived.Lib.SlBytesConst
import Derived.Maps.AppendAt
import Derived.Laws.AppendOwnNone
import Derived.Lib.BitFns
import Derived.Shelf.Small.Bits
import Derived.Shelf.Strconv.Itoa0
import Derived.Shelf.Bits.Mul64
import Derived.Laws.Externs
import Derived.Shelf.Spec.BitsCarry
import Derived.Shelf.SlSortCmp.WholeK
set_option maxRecDepth 100000
set_option maxHeartbeats 8000000
namespace Go.Proofs.YtnndgpggjlhhpaaGreat
open Go.RowKit Go.ChangeMaps
def Chain (S : Nat → Hm) (l : List Pr) : Prop := ∀ i, (h : i < l.length) → ∃ K : Nat, l[i].1 = K ∧ K < 9223372036854775808 ∧ ibk (S i).m K ≤ 63 - ((S i).u + (S i).m) ∧ (S i).check (vof (S i).u (S i).m K : Nat) l[i].2 = 0 ∧ S (i + 1) = (S i).record (vof (S i).u (S i).m K : Nat) l[i].2
theorem box2b (w : World) (a b : Value) (t : TypeId) : (w.alloc (.cells #[a, b] t)).cell? ⟨w.heap.size, 0, none⟩ = some a ∧ (w.alloc (.cells #[a, b] t)).cell? ⟨w.heap.size, 1, none⟩ = some b := by
  have hb0 := heap_alloc_new w (.cells #[a, b] t)
  exact ⟨by rw [World.cell?, hb0]; rfl, by rw [World.cell?, hb0]; rfl⟩
section
variable (L H D : Nat) (gr : Bool) (w : World) (h1 : 1 ≤ D) (h5 : D ≤ 5) (h0 : 0 < L) (hh : 2 * L ≤ H) (hb : H < 9223372036854775808) (hs : unt L + mag D ≤ 62)
include h1 h5 h0 hh hb hs
theorem xload_any (p : Option Addr) (n c : Nat) (l : List Pr) (hl : PrI w p l) (hn : l.length = n) (hsm : n ≤ 100000) (htb : Tb l) (S : Nat → Hm) (hS0 : S 0 = Hm.new L H D gr) (hS : Chain S l) (bk : Int) :
    Calls Tryz.prog 62 #[.agg #[.int .i64 (L : Nat), .int .i64 (H : Nat), .int .i64 (D : Nat)], .bool gr, .int .i64 bk, .slice p n c] w fun e w' => Fr S0 w w' ∧ ((bk = (S n).b ∧ ∃ g hm, e = .returned (.tuple #[.pointer (some ⟨g, 0, none⟩), .int .i64 0]) ∧ HistIs w' g hm (S n) ∧ w.heap.size ≤ g ∧ w.heap.size ≤ hm) ∨ (bk ≠ (S n).b ∧ e = .returned (.tuple #[.pointer none, .int .i64 1]))) := by
  have HN := Lib.hid (fun W => xnew_yes L H D gr W h1 h5 h0 hh hb hs)
  have HWN := Lib.hid (fun W (f : Fr S0 w W) => new_any p n c l W (hl.fr0 f) hn hsm (fun x hx => by have h1 := cnt_mem htb.srt hx; have h2 := cnt_tot l x.1; have h3 := htb.tot; omega))
  have HTB := Lib.hid htb
  have HL := Lib.hid hl
  have HLN := Lib.hid hn
  have HS := Lib.hid hS
  rw [← hS0] at HN
  have HBOX := Lib.hid (box3a w (.int .i64 (L : Nat)) (.int .i64 (H : Nat)) (.int .i64 (D : Nat)) 27)
  clear h1 h5 h0 hh hb hs hl hn htb hS hS0
  go_enter Tryz.func62, Tryz.ntmps62
  go_wp2_with fail
  refine (HN.out _).mono ?_
  rintro e w1 ⟨g, hm, rfl, s1, z1, z2, f1⟩
  have F1 := Lib.hid ((Fr.alloc S0 w _).trans0 f1)
  have HX1 := Lib.hid s1
  have HZ : Hid (w.heap.size ≤ g ∧ w.heap.size ≤ hm) := Lib.hid (by rw [size_alloc] at z1 z2; omega)
  clear s1 z1 z2 f1 HN HBOX
  go_wp2_with fail
  refine (HWN.out _ F1.out).mono ?_
  rintro e w2 ⟨f2, hres⟩
  obtain ⟨-, gt, rfl, -, -⟩ := hres.resolve_right fun h => h.1 HTB.out
  have F2 := Lib.hid (F1.out.trans0 f2)
  have HX2 := Lib.hid (HX1.out.fr0 f2)
  clear f2 hres HWN HX1
  go_wp2_with fail
  go_loopw [37] (fun z wr => ∃ i : Nat, z = .int .i64 (i : Nat) ∧ i ≤ n ∧ Hid (HistIs wr g hm (S i) ∧ Fr S0 w wr)) (fun z _ => n - (intOf z).toNat)
  case atStart => exact ⟨0, rfl, Nat.zero_le _, Lib.hid ⟨HX2.out, F2.out⟩⟩
  case round =>
    obtain ⟨i, rfl, hin, HK⟩ := hrel
    by_cases hlt : i < n
    · have hil : i < l.length := by rw [HLN.out]; exact hlt
      obtain ⟨K, hK, hK2, hK3, hck, hnx⟩ := HS.out i hil
      obtain ⟨b, o, rfl, k0, k1⟩ := HL.out.at i hil
      rw [hK] at k0
      obtain ⟨Nn, eN⟩ : ∃ N, l[i].2 = N := ⟨_, rfl⟩
      rw [eN] at k1 hck hnx
      have hNb : Nn < 18446744073709551616 := by
        have h1 := cnt_mem HTB.out.srt (List.getElem_mem hil)
        have h2 := cnt_tot l (l[i]).1
        have h3 := HTB.out.tot
        omega
      have k0 := HK.out.2.cell k0 (fun h => h)
      have k1 := HK.out.2.cell k1 (fun h => h)
      have hgd := HK.out.1.good
      have hvl := vof_lt (S i).u (S i).m K hgd.m1 (by have := hgd.s; omega) hK3
      have hp2 := two_pos ((S i).u + ibk (S i).m K)
      have HV := Lib.hid (fun W (f : Fr S0 wr W) => value_yes g ((S i).L : Nat) ((S i).H : Nat) ((S i).D : Nat) (S i).u (S i).m W (HK.out.1.fr0 f).map K hK2 hK3)
      obtain ⟨V, eV⟩ : ∃ V, vof (S i).u (S i).m K = V := ⟨_, rfl⟩
      simp only [eV] at HV hck hnx hvl
      have HRE := Lib.hid (fun W (f : Fr S0 wr W) => xrecord_any g hm (S i) W (HK.out.1.fr0 f) (V : Nat) Nn (by omega) (by omega) hNb)
      rw [hck] at HRE
      have HNX := Lib.hid hnx
      have hin2 : (i : Int) < (n : Int) := by omega
      have e3 : decide (i < n) = true := decide_eq_true hlt
      have HB2 := Lib.hid (box2b wr (.int .i64 (K : Nat)) (.int .u64 (Nn : Nat)) 65)
      clear hil hK hck hnx eN hgd hvl hp2 eV hNb
      go_wp2_with fail
      obtain ⟨y0, y1⟩ := HB2.out
      go_upto_region 11 with fail
      go_region_held3 (fun w' => w'.cell? ⟨wr.heap.size, 0, none⟩ = some (.int .i64 (K : Nat)) ∧ w'.cell? ⟨wr.heap.size, 1, none⟩ = some (.int .u64 (Nn : Nat)))
        (first | (go_split_ands; exact ⟨by assumption, by assumption⟩) | exact ⟨y0, y1⟩ | (go_split_ands; exact ⟨f9.cell (by assumption) (fun h => h), f9.cell (by assumption) (fun h => h)⟩))
        (first | (go_at_call 98; ((with_reducible refine (HV.out _ ((Fr.alloc S0 wr _).trans0 (Fr.drew S0 _))).mono ?_); rintro _ w3 ⟨rfl, f9⟩; have F3 := Lib.hid (((Fr.alloc S0 wr _).trans0 (Fr.drew S0 _)).trans0 f9); have y1n := f9.cell (show (World.drew _).cell? ⟨wr.heap.size, 1, none⟩ = _ from y1) (fun h => h))))
      all_goals
        clear y0 y1
        go_wp2_with fail
        refine (HRE.out _ F3.out).mono ?_
        rintro e w4 ⟨rfl, s4, f4⟩
        rw [← HNX.out] at s4
        have HK4 : Hid (HistIs w4 g hm (S (i + 1)) ∧ Fr S0 w w4) := Lib.hid ⟨s4, (HK.out.2.trans0 F3.out).trans f4 fun j hj e => by
          have h1 := HZ.out
          rcases e with e | e <;> omega⟩
        clear s4 f4
        go_wp2_with fail
        go_roundw
        case rel => exact ⟨i + 1, by first | rfl | go_num, by omega, HK4⟩
        case measure => simp [intOf] <;> omega
    · obtain rfl : i = n := by omega
      have c6 := HK.out.1.c6
      obtain ⟨B, eB⟩ : ∃ B, (S i).b = B := ⟨_, rfl⟩
      have HB := Lib.hid eB
      rw [eB] at c6
      clear eB
      by_cases hbk : (B : Int) = bk
      · have e1 : ((B : Int) == bk) = true := by rw [hbk]; simp
        go_wp2_with fail
        go_ret2
        exact ⟨HK.out.2, .inl ⟨by rw [HB.out]; exact hbk.symm, g, hm, rfl, HK.out.1, HZ.out⟩⟩
      · have e1 : ((B : Int) == bk) = false := by rw [beq_eq_false_iff_ne]; exact hbk
        go_wp2_with fail
        go_ret2
        exact ⟨HK.out.2, .inr ⟨by rw [HB.out]; exact fun h => hbk h.symm, rfl⟩⟩
end
end Go.Proofs.YtnndgpggjlhhpaaGreat

namespace Go.Proofs.YtnndgpggjlhhpaaGreat
open Go.RowKit
def kb (m : Nat) : List Pr → Nat
  | [] => 0
  | x :: r => max (1 + ibk m x.1.toNat) (kb m r)
theorem kb_app (m : Nat) (a b : List Pr) : kb m (a ++ b) = max (kb m a) (kb m b) := by
  induction a with
  | nil => simp [kb]
  | cons x r ih => rw [List.cons_append, kb, kb, ih]; omega
theorem kb_put (m : Nat) (l : List Pr) (k : Int) (n : Nat) : kb m (lput l k n) = max (kb m l) (1 + ibk m k.toNat) := by
  induction l with
  | nil => simp [lput, kb]
  | cons x r ih =>
    rw [lput]
    split
    · rw [kb, kb, ih]; omega
    · split
      · rename_i h
        rw [kb, kb, h]
        simp only
        omega
      · simp only [kb]
        omega
theorem put_end : ∀ (l : List Pr) (k : Int) (n : Nat), (∀ x ∈ l, x.1 < k) → lput l k n = l ++ [(k, n)]
  | [], _, _, _ => rfl
  | x :: r, k, n, h => by
    rw [lput, if_pos (h x List.mem_cons_self), put_end r k n fun y hy => h y (List.mem_cons_of_mem _ hy)]
    rfl
def Bq (M : Hm) : Prop := M.b = max M.first (kb M.m M.l)
theorem Bq.record {M : Hm} (hg : M.Good) (h : Bq M) (v : Int) (n : Nat) (hv : v < 9223372036854775808) : Bq (M.record v n) := by
  unfold Hm.record
  split
  · rename_i hc
    have h0 := (hg.of_check hc).2.1
    unfold Bq at h ⊢
    have e := ibk_idx M.u M.m v.toNat hg.m1 (by omega)
    show max M.b (1 + bkt (M.u + M.m) v.toNat) = max M.first (kb M.m (lput M.l (idx M.u M.m v.toNat : Nat) n))
    rw [kb_put, h, show ((idx M.u M.m v.toNat : Nat) : Int).toNat = idx M.u M.m v.toNat by omega, e]
    omega
  · exact h
def part (M : Hm) (i : Nat) : Hm := { M with b := max M.first (kb M.m (M.l.take i)), l := M.l.take i }
theorem part_zero {L H D : Nat} {gr : Bool} {M : Hm} (h1 : M.L = L) (h2 : M.H = H) (h3 : M.D = D) (h4 : M.gr = gr) (h5 : M.u = unt L) (h6 : M.m = mag D) : part M 0 = Hm.new L H D gr := by
  unfold part Hm.new
  rw [List.take_zero]
  simp [kb, Hm.first, h1, h2, h3, h4, h5, h6]
theorem part_all {M : Hm} (h : Bq M) : part M M.l.length = M := by
  unfold Bq at h
  unfold part
  rw [List.take_length, ← h]
theorem part_chain {M : Hm} (hg : M.Good) : Chain (part M) M.l := fun i hi => by
  have hmem : M.l[i] ∈ M.l := List.getElem_mem hi
  obtain ⟨K, hK, hK2, hK3⟩ := hg.cell hmem
  have e1 : M.l.take (i + 1) = M.l.take i ++ [M.l[i]] := List.take_succ_eq_append_getElem hi
  have hlt : ∀ x ∈ M.l.take i, x.1 < M.l[i].1 := fun x hx => by
    obtain ⟨j, hj, rfl⟩ := List.getElem_of_mem hx
    rw [List.getElem_take]
    rw [List.length_take] at hj
    exact List.pairwise_iff_getElem.1 hg.srt j i (by omega) hi (by omega)
  have hn := hg.pos _ hmem
  have hvl := vof_lt M.u M.m K hg.m1 (by have := hg.s; omega) hK3
  have hp2 := two_pos (M.u + ibk M.m K)
  have hix := idx_vof M.u M.m K hg.m1 (by have := hg.s; omega) hK3
  have hbk := bkt_vof M.u M.m K hg.m1 (by have := hg.s; omega) hK3
  have htot : ltot (M.l.take i) + M.l[i].2 ≤ 4611686018427387904 := by
    have h1 := hg.tot
    have h2 : ltot (M.l.take (i + 1)) ≤ ltot M.l := by
      conv => rhs; rw [← List.take_append_drop (i + 1) M.l, tot_app]
      omega
    rw [e1, tot_app] at h2
    simp only [ltot] at h2
    omega
  have hck : (part M i).check (vof M.u M.m K : Nat) M.l[i].2 = 0 := by
    unfold Hm.check part
    simp only
    rw [if_neg (by omega), if_neg, if_neg (by omega)]
    rintro (h | ⟨h, h2⟩)
    · omega
    · have hb := hg.fix h
      have hkb := (hg.keys _ hmem).2
      rw [hK, show ((K : Nat) : Int).toNat = K by omega, hb] at hkb
      have h3 := top_ge M.u M.m (vof M.u M.m K) hg.s (by omega)
      have h4 : top M.u M.m (1 + bkt (M.u + M.m) (vof M.u M.m K)) ≤ top M.u M.m (max M.first (kb M.m (M.l.take i))) := by
        have h5 : 2 ^ min (M.u + M.m + (1 + bkt (M.u + M.m) (vof M.u M.m K)) - 1) 63 ≤ 2 ^ min (M.u + M.m + (max M.first (kb M.m (M.l.take i))) - 1) 63 := Nat.pow_le_pow_right (by decide) (by rw [hbk]; omega)
        unfold top
        omega
      omega
  refine ⟨K, hK, hK2, hK3, hck, ?_⟩
  show part M (i + 1) = (part M i).record (vof M.u M.m K : Nat) M.l[i].2
  unfold Hm.record
  rw [if_pos hck]
  unfold Hm.count part
  simp only
  rw [show ((vof M.u M.m K : Nat) : Int).toNat = vof M.u M.m K by omega, hix, hbk, e1, put_end _ _ _ (by rw [← hK]; exact hlt), kb_app]
  simp only [kb]
  rw [hK, show ((K : Nat) : Int).toNat = K by omega]
  congr 1
  · omega
  · rw [show M.l[i] = (((K : Nat) : Int), M.l[i].2) from Prod.ext hK rfl]
theorem bq_new (L H D : Nat) (gr : Bool) : Bq (Hm.new L H D gr) := by
  unfold Bq Hm.new
  simp [kb, Hm.first]
structure Own (M : Hm) (L H D : Nat) (gr : Bool) : Prop where
  bq : Bq M
  l : M.L = L
  h : M.H = H
  d : M.D = D
  gr : M.gr = gr
section
variable {M : Hm} {L H D : Nat} {gr : Bool} (o : Own M L H D gr) (hg : M.Good) (hlen : M.l.length ≤ 100000)
include o hg hlen
theorem load_own (p : Option Addr) (n c : Nat) (hn : M.l.length = n) (w : World) (hl : PrI w p M.l) (bk : Int) :
    Calls Tryz.prog 62 #[.agg #[.int .i64 (L : Nat), .int .i64 (H : Nat), .int .i64 (D : Nat)], .bool gr, .int .i64 bk, .slice p n c] w fun e w' => Fr S0 w w' ∧ ((bk = M.b ∧ ∃ g hm, e = .returned (.tuple #[.pointer (some ⟨g, 0, none⟩), .int .i64 0]) ∧ HistIs w' g hm M ∧ w.heap.size ≤ g ∧ w.heap.size ≤ hm) ∨ (bk ≠ M.b ∧ e = .returned (.tuple #[.pointer none, .int .i64 1]))) := by
  have eu : M.u = unt L := by rw [hg.eu, o.l]
  have em : M.m = mag D := by rw [hg.em, o.d]
  have h1 := xload_any L H D gr w (o.d ▸ hg.d.1) (o.d ▸ hg.d.2) (o.l ▸ hg.l0) (by rw [← o.l, ← o.h]; exact hg.lh) (o.h ▸ hg.hh) (by rw [← eu, ← em]; exact hg.s) p n c M.l hl hn (by omega) hg.tb (part M) (part_zero o.l o.h o.d o.gr eu em) (part_chain hg) bk
  rw [← hn, part_all o.bq, hn] at h1
  exact h1
theorem load_yes (p : Option Addr) (n c : Nat) (hn : M.l.length = n) (w : World) (hl : PrI w p M.l) :
    Calls Tryz.prog 62 #[.agg #[.int .i64 (L : Nat), .int .i64 (H : Nat), .int .i64 (D : Nat)], .bool gr, .int .i64 (M.b : Nat), .slice p n c] w fun e w' => ∃ g hm, e = .returned (.tuple #[.pointer (some ⟨g, 0, none⟩), .int .i64 0]) ∧ HistIs w' g hm M ∧ w.heap.size ≤ g ∧ w.heap.size ≤ hm ∧ Fr S0 w w' :=
  (load_own o hg hlen p n c hn w hl (M.b : Nat)).mono fun e w' he => by
    obtain ⟨f, ⟨-, g, hm, h1, h2, h3, h4⟩ | ⟨hne, -⟩⟩ := he
    · exact ⟨g, hm, h1, h2, h3, h4, f⟩
    · exact absurd rfl hne
end
end Go.Proofs.YtnndgpggjlhhpaaGreat

namespace Go.Proofs.YtnndgpggjlhhpaaGreat
open Go.RowKit Go.ChangeMaps
theorem Own.record {M : Hm} {L H D : Nat} {gr : Bool} (o : Own M L H D gr) (hg : M.Good) (v : Int) (n : Nat) (hv : v < 9223372036854775808) : Own (M.record v n) L H D gr := by
  refine ⟨o.bq.record hg v n hv, ?_, ?_, ?_, ?_⟩ <;> unfold Hm.record <;> split
  · exact o.l
  · exact o.l
  · exact o.h
  · exact o.h
  · exact o.d
  · exact o.d
  · exact o.gr
  · exact o.gr
theorem Own.new (L H D : Nat) (gr : Bool) : Own (Hm.new L H D gr) L H D gr := ⟨bq_new L H D gr, rfl, rfl, rfl, rfl⟩
section
variable (L H D : Nat) (gr : Bool) (w : World) (h1 : 1 ≤ D) (h5 : D ≤ 5) (h0 : 0 < L) (hh : 2 * L ≤ H) (hb : H < 9223372036854775808) (hs : unt L + mag D ≤ 62)
include h1 h5 h0 hh hb hs
theorem xload_gen (p : Option Addr) (n c : Nat) (l : List Pr) (hl : PrI w p l) (hn : l.length = n) (hsm : n ≤ 100000) (h64 : ∀ x ∈ l, x.2 < 18446744073709551616) (hk : ∀ x ∈ l, 0 ≤ x.1 ∧ x.1 < 1099511627776) (bk : Int) :
    Calls Tryz.prog 62 #[.agg #[.int .i64 (L : Nat), .int .i64 (H : Nat), .int .i64 (D : Nat)], .bool gr, .int .i64 bk, .slice p n c] w fun e w' => Fr S0 w w' ∧ ((∃ M g hm, e = .returned (.tuple #[.pointer (some ⟨g, 0, none⟩), .int .i64 0]) ∧ HistIs w' g hm M ∧ Own M L H D gr ∧ M.l.length ≤ n ∧ w.heap.size ≤ g ∧ w.heap.size ≤ hm) ∨ e = .returned (.tuple #[.pointer none, .int .i64 1])) := by
  have HN := Lib.hid (fun W => xnew_yes L H D gr W h1 h5 h0 hh hb hs)
  have HWN := Lib.hid (fun W (f : Fr S0 w W) => new_any p n c l W (hl.fr0 f) hn hsm h64)
  have HL := Lib.hid hl
  have HLN := Lib.hid hn
  have HK := Lib.hid hk
  have H64 := Lib.hid h64
  have HBOX := Lib.hid (box3a w (.int .i64 (L : Nat)) (.int .i64 (H : Nat)) (.int .i64 (D : Nat)) 27)
  clear h1 h5 h0 hh hb hs hl hn hk h64
  go_enter Tryz.func62, Tryz.ntmps62
  go_wp2_with fail
  refine (HN.out _).mono ?_
  rintro e w1 ⟨g, hm, rfl, s1, z1, z2, f1⟩
  have F1 := Lib.hid ((Fr.alloc S0 w _).trans0 f1)
  have HX1 := Lib.hid s1
  have HZ : Hid (w.heap.size ≤ g ∧ w.heap.size ≤ hm) := Lib.hid (by rw [size_alloc] at z1 z2; omega)
  clear s1 z1 z2 f1 HN HBOX
  go_wp2_with fail
  refine (HWN.out _ F1.out).mono ?_
  rintro e w2 ⟨f2, hres⟩
  have F2 := Lib.hid (F1.out.trans0 f2)
  have HX2 := Lib.hid (HX1.out.fr0 f2)
  clear f2 HWN HX1
  rcases hres with ⟨-, gt, rfl, -, -⟩ | ⟨-, rfl⟩
  · go_wp2_with fail
    go_loopw [37] (fun z wr => ∃ i : Nat, z = .int .i64 (i : Nat) ∧ i ≤ n ∧ Hid (Fr S0 w wr ∧ ∃ M, HistIs wr g hm M ∧ Own M L H D gr ∧ M.l.length ≤ i)) (fun z _ => n - (intOf z).toNat)
    case atStart => exact ⟨0, rfl, Nat.zero_le _, Lib.hid ⟨F2.out, _, HX2.out, Own.new L H D gr, Nat.le_refl _⟩⟩
    case round =>
      obtain ⟨i, rfl, hin, HI⟩ := hrel
      by_cases hlt : i < n
      · have hil : i < l.length := by rw [HLN.out]; exact hlt
        obtain ⟨M, hM, hO, hMl⟩ := HI.out.2
        have HIS := Lib.hid hM
        have HOW := Lib.hid hO
        have HML := Lib.hid hMl
        have HFR := Lib.hid HI.out.1
        clear hM hO hMl HI
        obtain ⟨b, o, rfl, k0, k1⟩ := HL.out.at i hil
        have hki := HK.out _ (List.getElem_mem hil)
        have hni := H64.out _ (List.getElem_mem hil)
        obtain ⟨Nn, eN⟩ : ∃ N, l[i].2 = N := ⟨_, rfl⟩
        obtain ⟨K, eK⟩ : ∃ K : Nat, l[i].1 = K := ⟨l[i].1.toNat, by omega⟩
        rw [eK] at k0 hki
        rw [eN] at k1 hni
        have k0 := HFR.out.cell k0 (fun h => h)
        have k1 := HFR.out.cell k1 (fun h => h)
        have hin2 : (i : Int) < (n : Int) := by omega
        have e3 : decide (i < n) = true := decide_eq_true hlt
        have HB2 := Lib.hid (box2b wr (.int .i64 (K : Nat)) (.int .u64 (Nn : Nat)) 65)
        have hKb : K < 1099511627776 := by omega
        by_cases hK3 : ibk M.m K ≤ 63 - (M.u + M.m)
        · have hgd := HIS.out.good
          have hvl := vof_lt M.u M.m K hgd.m1 (by have := hgd.s; omega) hK3
          have hp2 := two_pos (M.u + ibk M.m K)
          have HV := Lib.hid (fun W (f : Fr S0 wr W) => value_yes g (M.L : Nat) (M.H : Nat) (M.D : Nat) M.u M.m W (HIS.out.fr0 f).map K (by omega) hK3)
          obtain ⟨V, eV⟩ : ∃ V, vof M.u M.m K = V := ⟨_, rfl⟩
          simp only [eV] at HV hvl
          have HRE := Lib.hid (fun W (f : Fr S0 wr W) => xrecord_any g hm M W (HIS.out.fr0 f) (V : Nat) Nn (by omega) (by omega) hni)
          have HOR := Lib.hid (HOW.out.record hgd (V : Nat) Nn (by omega))
          have HRL := Lib.hid (record_len M (V : Nat) Nn)
          obtain ⟨CK, eCK⟩ : ∃ CK, M.check (V : Nat) Nn = CK := ⟨_, rfl⟩
          simp only [eCK] at HRE
          clear hil eN eK hgd hvl hp2 eV eCK hki hni
          go_wp2_with fail
          obtain ⟨y0, y1⟩ := HB2.out
          go_upto_region 11 with fail
          go_region_held3 (fun w' => w'.cell? ⟨wr.heap.size, 0, none⟩ = some (.int .i64 (K : Nat)) ∧ w'.cell? ⟨wr.heap.size, 1, none⟩ = some (.int .u64 (Nn : Nat)))
            (first | (go_split_ands; exact ⟨by assumption, by assumption⟩) | exact ⟨y0, y1⟩ | (go_split_ands; exact ⟨f9.cell (by assumption) (fun h => h), f9.cell (by assumption) (fun h => h)⟩))
            (first | (go_at_call 98; ((with_reducible refine (HV.out _ ((Fr.alloc S0 wr _).trans0 (Fr.drew S0 _))).mono ?_); rintro _ w3 ⟨rfl, f9⟩; have F3 := Lib.hid (((Fr.alloc S0 wr _).trans0 (Fr.drew S0 _)).trans0 f9); have y1n := f9.cell (show (World.drew _).cell? ⟨wr.heap.size, 1, none⟩ = _ from y1) (fun h => h))))
          all_goals
            clear y0 y1
            go_wp2_with fail
            refine (HRE.out _ F3.out).mono ?_
            rintro e w4 ⟨rfl, s4, f4⟩
            have F4 := Lib.hid ((HFR.out.trans0 F3.out).trans f4 fun j hj e => by
              have h1 := HZ.out
              rcases e with e | e <;> omega)
            have HS4 := Lib.hid s4
            clear s4 f4 HRE
            by_cases hck : CK = 0
            · subst hck
              go_wp2_with fail
              go_roundw
              case rel => exact ⟨i + 1, by first | rfl | go_num, by omega, Lib.hid ⟨F4.out, _, HS4.out, HOR.out, by have h1 := HRL.out; have h2 := HML.out; omega⟩⟩
              case measure => simp [intOf] <;> omega
            · have e9 : ((CK : Int) != 0) = true := by rw [bne_iff_ne]; omega
              have e10 : ((CK : Int) == 0) = false := by rw [beq_eq_false_iff_ne]; omega
              go_wp2_with fail
              go_ret2
              exact ⟨F4.out, .inr rfl⟩
        · have HVV := Lib.hid (fun W (f : Fr S0 wr W) => value_no g (M.L : Nat) (M.H : Nat) (M.D : Nat) M.u M.m W (HIS.out.fr0 f).map K (by omega) (by omega))
          clear hil eN eK hki hni
          go_wp2_with fail
          obtain ⟨y0, y1⟩ := HB2.out
          go_upto_region 11 with fail
          go_region_held3 (fun w' => w'.cell? ⟨wr.heap.size, 0, none⟩ = some (.int .i64 (K : Nat)) ∧ w'.cell? ⟨wr.heap.size, 1, none⟩ = some (.int .u64 (Nn : Nat)))
            (first | (go_split_ands; exact ⟨by assumption, by assumption⟩) | exact ⟨y0, y1⟩ | (go_split_ands; exact ⟨f9.cell (by assumption) (fun h => h), f9.cell (by assumption) (fun h => h)⟩))
            (first | (go_at_call 98; ((with_reducible refine (HVV.out _ ((Fr.alloc S0 wr _).trans0 (Fr.drew S0 _))).mono ?_); rintro _ w3 ⟨rfl, f9⟩; have F3 := Lib.hid (((Fr.alloc S0 wr _).trans0 (Fr.drew S0 _)).trans0 f9))))
          all_goals
            clear y0 y1
            go_wp2_with fail
            go_ret2
            exact ⟨HFR.out.trans0 F3.out, .inr rfl⟩
      · obtain rfl : i = n := by omega
        obtain ⟨M, hM, hO, hMl⟩ := HI.out.2
        have c6 := hM.c6
        obtain ⟨B, eB⟩ : ∃ B, M.b = B := ⟨_, rfl⟩
        rw [eB] at c6
        have HM := Lib.hid (And.intro hM (And.intro hO hMl))
        have HFR := Lib.hid HI.out.1
        clear eB hM hO hMl HI
        by_cases hbk : (B : Int) = bk
        · have e1 : ((B : Int) == bk) = true := by rw [hbk]; simp
          go_wp2_with fail
          go_ret2
          exact ⟨HFR.out, .inl ⟨M, g, hm, rfl, HM.out.1, HM.out.2.1, HM.out.2.2, HZ.out⟩⟩
        · have e1 : ((B : Int) == bk) = false := by rw [beq_eq_false_iff_ne]; exact hbk
          go_wp2_with fail
          go_ret2
          exact ⟨HFR.out, .inr rfl⟩
  · go_wp2_with fail
    go_ret2
    exact ⟨F2.out, .inr rfl⟩
end
end Go.Proofs.YtnndgpggjlhhpaaGreat
