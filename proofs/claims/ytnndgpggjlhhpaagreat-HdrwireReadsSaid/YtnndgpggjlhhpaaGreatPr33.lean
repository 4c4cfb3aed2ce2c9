/- HwPlain -/
import Derived.Test.YtnndgpggjlhhpaaGreatPr1
import Derived.Test.YtnndgpggjlhhpaaGreatPr2
import Derived.Test.YtnndgpggjlhhpaaGreatPr3
import Derived.Test.YtnndgpggjlhhpaaGreatPr4
import Derived.Test.YtnndgpggjlhhpaaGreatPr5
import Derived.Test.YtnndgpggjlhhpaaGreatPr6
import Derived.Test.YtnndgpggjlhhpaaGreatPr7
import Derived.Test.YtnndgpggjlhhpaaGreatPr8
import Derived.Test.YtnndgpggjlhhpaaGreatPr9
import Derived.Test.YtnndgpggjlhhpaaGreatPr10
import Derived.Test.YtnndgpggjlhhpaaGreatPr11
import Derived.Test.YtnndgpggjlhhpaaGreatPr12
import Derived.Test.YtnndgpggjlhhpaaGreatPr13
import Derived.Test.YtnndgpggjlhhpaaGreatPr14
import Derived.Test.YtnndgpggjlhhpaaGreatPr15
import Derived.Test.YtnndgpggjlhhpaaGreatPr16
import Derived.Test.YtnndgpggjlhhpaaGreatPr17
import Derived.Test.YtnndgpggjlhhpaaGreatPr18
import Derived.Test.YtnndgpggjlhhpaaGreatPr19
import Derived.Test.YtnndgpggjlhhpaaGreatPr20
import Derived.Test.YtnndgpggjlhhpaaGreatPr21
import Derived.Test.YtnndgpggjlhhpaaGreatPr22
import Derived.Test.YtnndgpggjlhhpaaGreatPr23
import Derived.Test.YtnndgpggjlhhpaaGreatPr24
import Derived.Test.YtnndgpggjlhhpaaGreatPr25
import Derived.Test.YtnndgpggjlhhpaaGreatPr26
import Derived.Test.YtnndgpggjlhhpaaGreatPr27
import Derived.Test.YtnndgpggjlhhpaaGreatPr28
import Derived.Test.YtnndgpggjlhhpaaGreatPr29
import Derived.Test.YtnndgpggjlhhpaaGreatPr30
import Derived.Test.YtnndgpggjlhhpaaGreatPr31
import Derived.Test.YtnndgpggjlhhpaaGreatPr32
import Derived.BigRegion
import Derived.RangeFuncNested
import Derived.RangeFuncBound
import Derived.RangeFuncCalls
import Derived.RangeFuncLeaves
import Derived.Shelf.Abstract
import Derived.Shelf.RegionOpen
import Derived.WalkKit
import Derived.OwnWalkIn
import Derived.TacticsInMore
import Derived.LoopNIn
import Derived.LoopIn
import Derived.Sort.BigQuietIn
import Derived.Lib.Repeat
import Derived.StillTailTactics
import Derived.Laws.BitsAllLaws
import Derived.Laws.BytesArg
import Derived.Lib.SlBytesConst
import Derived.Maps.AppendAt
import Derived.Laws.AppendOwnNone
import Derived.WalkSpells
import Derived.WalkLawsBesides
import Derived.Deep.QuietTactic
import Derived.BigQuiet
import Derived.RegionTactic
import Derived.Deep.AppendLies
import Derived.Deep.RegionLaw
import Derived.Laws.ResultCell
import Derived.Laws.EntriesVeiled
import Derived.Lib.Hide
import Derived.Test.YtnndgpggjlhhpaaGreatRows
import Derived.Maps.RangeWalk
import Derived.Deep.RegionHeld3
import Derived.Deep.CutBlock
import Derived.Deep.DeepCutAuto
import Derived.Deep.CutRange
import Derived.Lib.BitFns
import Derived.Shelf.Small.Bits
import Derived.Shelf.Strconv.Itoa0
import Derived.Shelf.Bits.Mul64
import Derived.Laws.Externs
import Derived.Shelf.Spec.BitsCarry
import Derived.Shelf.SlSortCmp.WholeK
import Derived.Shelf.Strings.Repeat
import Derived.Lib.AppendZerosOnto
import Derived.Lib.SliceRun
import Derived.Lib.Walk
import Derived.Laws.MakeOwn
import Derived.Laws.OwnMore
import Derived.IntWalk
import Derived.Lib.MakeNoZero
import Derived.Laws.CopyOwn
import Derived.Laws.Tables
import Derived.Defers
import Derived.Recover
import Derived.DeepKeys4
import Derived.WideKeyPair
import Derived.MapKept
import Derived.ChangeMaps
import Derived.Laws.Cover3
set_option maxRecDepth 100000
set_option maxHeartbeats 8000000
namespace Go.Proofs.YtnndgpggjlhhpaaGreat
open Go.RowKit Go.ChangeMaps
def cellsN (m b : Nat) : Nat := (b + 1) * 2 ^ (m - 1)
theorem ibk_lt {m b i : Nat} (h : ibk m i < b) : i < cellsN m b := by
  have hp := two_pos (m - 1)
  unfold ibk at h
  unfold cellsN
  exact (Nat.div_lt_iff_lt_mul hp).1 (by omega)
theorem cellsN_le {m b : Nat} (hm : m ≤ 18) (hb : b ≤ 64) : cellsN m b ≤ 8519680 := by
  have h1 : 2 ^ (m - 1) ≤ 2 ^ 17 := Nat.pow_le_pow_right (by decide) (by omega)
  have h2 := Nat.mul_le_mul (show b + 1 ≤ 65 by omega) h1
  exact h2
namespace Hm.Good
variable {M : Hm}
theorem cellb (g : M.Good) : cellsN M.m M.b ≤ 8519680 := cellsN_le g.m5.2 (by have := g.b1; omega)
theorem klt (g : M.Good) : ∀ x ∈ M.l, x.1 < (cellsN M.m M.b : Nat) := fun x hx => by
  obtain ⟨h0, h1⟩ := g.keys x hx
  have := ibk_lt h1
  omega
theorem klt2 (g : M.Good) : ∀ x ∈ M.l, x.1 < 1099511627776 := fun x hx => by
  have h1 := g.klt x hx
  have h2 := g.cellb
  omega
theorem upw (g : M.Good) : Upw 0 M.l := upw_of g.srt g.pos (by have := g.tot; omega) fun x hx => (g.keys x hx).1
end Hm.Good
theorem zers_lt (g : Nat) (hg : g < 18446744073709551616) : ∀ n ∈ zers g, n < 18446744073709551616 := fun n hn => by
  unfold zers at hn
  split at hn
  · simp at hn
  · split at hn
    · simp at hn; omega
    · simp at hn; omega
theorem numsAt_lt : ∀ (l : List Pr) (a : Nat), (∀ x ∈ l, x.1 < 1099511627776) → (∀ x ∈ l, x.2 < 9223372036854775808) → ∀ n ∈ numsAt a l, n < 18446744073709551616
  | [], _, _, _, n, hn => by simp [numsAt] at hn
  | x :: r, a, h1, h2, n, hn => by
    have hx := h1 x List.mem_cons_self
    have hx2 := h2 x List.mem_cons_self
    rw [numsAt, List.mem_append, List.mem_cons] at hn
    rcases hn with h | h | h
    · exact zers_lt _ (by omega) n h
    · omega
    · exact numsAt_lt r _ (fun y hy => h1 y (List.mem_cons_of_mem _ hy)) (fun y hy => h2 y (List.mem_cons_of_mem _ hy)) n h
theorem nums_lt {M : Hm} (g : M.Good) : ∀ n ∈ nums M.l, n < 18446744073709551616 := fun n hn => by
  unfold nums at hn
  split at hn
  · simp at hn; omega
  · exact numsAt_lt M.l 0 g.klt2 g.upw.facts.2.2.2 n hn
theorem nums_len (l : List Pr) : 1 ≤ (nums l).length ∧ (nums l).length ≤ 2 * l.length + 1 := by
  unfold nums
  split
  · simp
  · rename_i h
    have h1 := numsAt_len l 0
    refine ⟨?_, by omega⟩
    cases l with
    | nil => exact absurd rfl h
    | cons x r => rw [numsAt, List.length_append, List.length_cons]; omega
theorem enc4_len (n : Nat) : (enc 4 n).length = 4 := by rw [enc_4, List.length_reverse, lEnc_length]
theorem enc6_len (n : Nat) : (enc 6 n).length = 8 := by rw [enc_6, List.length_reverse, lEnc_length]
theorem headB_len (n D L R : Nat) : (headB n D L R).length = 40 := by
  unfold headB
  simp only [List.length_append, enc4_len, enc6_len]
theorem plainB_len (M : Hm) : (plainB M).length = 40 + (encs (nums M.l)).length := by rw [plainB, List.length_append, headB_len]
def V2 (a b : Option Addr × Nat × Nat) : Nat → Option Addr × Nat × Nat
  | 0 => a
  | _ => b
def L2 (a b : List Nat) : Nat → List Nat
  | 0 => a
  | _ => b
theorem concat2 {W : World} {G N c K d : Nat} {p q : Option Addr} {t : TypeId} {S T : List Nat} (hG : W.heap[G]? = some (.cells #[.slice p K d, .slice q N c] t (0, 0)))
    (s0 : W.ownsRow 0 5 1 (.slice p K d) K (u8s S)) (s1 : W.ownsRow 0 5 1 (.slice q N c) N (u8s T)) (h0 : 0 < S.length) (hS : S.length = K) (hT : T.length = N) (hle : K + N ≤ 100000000) :
    Calls Tryz.prog 55 #[.slice (some ⟨G, 0, none⟩) 2 2] W fun e w' => ∃ q d, e = .returned (.slice q (S ++ T).length d) ∧ RowNew W w' (.slice q (S ++ T).length d) (S ++ T) ∧ Fr S0 W w' := by
  have hc : cat (L2 S T) 2 = S ++ T := by
    show ([] ++ S) ++ T = _
    rw [List.nil_append]
  have k := concat_any G 2 (V2 (p, K, d) (q, N, c)) (L2 S T) W (fun j hj => by
    have hcell : ∀ v, (#[Value.slice p K d, .slice q N c])[j]? = some v → W.cell? ⟨G, j, none⟩ = some v := fun v hv => by simp only [World.cell?, hG]; exact hv
    match j, hj, hcell with
    | 0, _, hcell => exact ⟨hcell _ rfl, SrcIs.ofOwns s0, hS⟩
    | 1, _, hcell => exact ⟨hcell _ rfl, SrcIs.ofOwns s1, hT⟩) (by decide) (by rw [hc, List.length_append]; omega) (by rw [hc, List.length_append]; omega)
  rw [hc] at k
  refine k.mono fun e w' ⟨v, he, f, r⟩ => ?_
  obtain ⟨q, d, rfl, -⟩ := slForm r.own
  exact ⟨q, d, he, r, f⟩
section
variable (g h : Nat) (M : Hm) (w : World) (s : HistIs w g h M)
include s
theorem plain_any (hl : M.l.length ≤ 40000) : Calls Tryz.prog 35 #[.pointer (some ⟨g, 0, none⟩)] w fun e w' => ∃ q d, e = .returned (.slice q (plainB M).length d) ∧ RowNew w w' (.slice q (plainB M).length d) (plainB M) ∧ Fr S0 w w' := by
  have HS := Lib.hid (xshape_any g h M w s)
  have HP := Lib.hid (fun W (f : Fr S0 w W) => xpairs_any g h M W (s.fr0 f) (by omega))
  have HR := Lib.hid (fun W (f : Fr S0 w W) => xreach_any g h M W (s.fr0 f))
  have HNU := Lib.hid (fun W W2 p c n (hp : PrsSee W W2 p c n M.l) => numbers_any p n c M.l W2 hp.len hp.pri (by have := hp.len; omega) s.good.upw s.good.klt2)
  have HLN := Lib.hid (nums_len M.l)
  have HLT := Lib.hid (nums_lt s.good)
  have hD := s.good.d
  have hLH := And.intro s.good.lh s.good.hh
  have hrl : M.reach < 9223372036854775808 := by
    unfold Hm.reach
    split
    · exact s.good.hh
    · exact top_lt _ _ _
  have HPL := Lib.hid (plainB_len M)
  unfold plainB at HPL ⊢
  obtain ⟨NU, eNU⟩ : ∃ NU, nums M.l = NU := ⟨_, rfl⟩
  rw [eNU] at HNU HLN HLT HPL ⊢
  obtain ⟨L, eL⟩ : ∃ L, M.L = L := ⟨_, rfl⟩
  obtain ⟨H, eH⟩ : ∃ H, M.H = H := ⟨_, rfl⟩
  obtain ⟨D, eD⟩ : ∃ D, M.D = D := ⟨_, rfl⟩
  obtain ⟨R, eR⟩ : ∃ R, M.reach = R := ⟨_, rfl⟩
  rw [eL, eH, eD] at HS
  rw [eR] at HR hrl HPL ⊢
  rw [eL, eH] at hLH
  rw [eD] at hD
  rw [eL, eD] at HPL ⊢
  have HLE := Lib.hid (encs_le NU)
  obtain ⟨E, eE⟩ : ∃ E, encs NU = E := ⟨_, rfl⟩
  have HCO := Lib.hid (fun W b o c (hm : NU.length ≤ c) (hs : SlI W .u64 (some ⟨b, o, none⟩) NU) (hb : b < W.heap.size) => counts_any b o NU.length c NU W rfl hs HLT.out hb hm (by have := HLN.out; omega))
  simp only [eE] at HCO
  rw [eE] at HLE HPL ⊢
  obtain ⟨K, eK⟩ : ∃ K, E.length = K := ⟨_, rfl⟩
  simp only [eK] at HCO
  rw [eK] at HLE HPL ⊢
  have hKb : K < 10000000 := by have h1 := HLE.out; have h2 := HLN.out; omega
  have HPT := Lib.hid (fun W p c (hs : SlI W .u64 p [478450451, K, 0, D, L, R, 4607182418800017408]) => hput_any sHead p c 7 [478450451, K, 0, D, L, R, 4607182418800017408] (headB K D L R) W (by decide) rfl hs (by simp; omega) (put_head (by omega) (by omega) (by omega) (by omega)))
  rw [headB_len] at HPT
  simp only [sHead] at HPT
  have HSL := Lib.hid (fun (W : World) => SlI.ofBlock (k := .u64) (l := [478450451, K, 0, D, L, R, 4607182418800017408]) (heap_alloc_new W (.cells #[.int .u64 478450451, .int .u64 (K : Nat), .int .u64 0, .int .u64 (D : Nat), .int .u64 (L : Nat), .int .u64 (R : Nat), .int .u64 4607182418800017408] 22)) rfl (by simp [maxLen]))
  obtain ⟨HB, eHB⟩ : ∃ HB, headB K D L R = HB := ⟨_, rfl⟩
  have HBL := Lib.hid (headB_len K D L R)
  rw [eHB] at HPT HBL ⊢
  have HKE := Lib.hid eK
  have HBOX := Lib.hid (fun W => box3a W (.int .i64 (L : Nat)) (.int .i64 (H : Nat)) (.int .i64 (D : Nat)) 27)
  clear s eNU eL eH eD eR eE eK eHB hl
  go_enter Tryz.func35, Tryz.ntmps35
  go_wp2_with fail
  refine HS.out.mono ?_
  rintro e w1 ⟨rfl, f1⟩
  have F1 := Lib.hid f1
  clear f1 HS
  go_wp2_with fail
  refine (HP.out _ F1.out).mono ?_
  rintro e w2 ⟨p2, c2, n2, rfl, hp2⟩
  have HP2 := Lib.hid hp2
  have F2 := Lib.hid (F1.out.trans0 hp2.fr)
  clear hp2 HP
  go_wp2_with fail
  refine (HNU.out _ _ _ _ _ HP2.out).mono ?_
  rintro e w3 ⟨v3, N3, rfl, ha3⟩
  obtain rfl : NU.length = N3 := ha3.len
  obtain ⟨p3, c3, rfl, hs3, -, hc3, -⟩ := ha3.form
  have F3 := Lib.hid (F2.out.trans0 ha3.fr)
  obtain ⟨b3, o3, rfl, -⟩ := hs3.at 0 (by have := HLN.out; omega)
  have HS3 := Lib.hid (And.intro hs3 (And.intro hc3 (hs3.lt (by intro e; have := HLN.out; rw [e] at this; simp at this) _ rfl)))
  clear ha3 hs3 hc3 HNU HP2
  go_wp2_with fail
  refine (HCO.out _ _ _ _ HS3.out.2.1 HS3.out.1 HS3.out.2.2).mono ?_
  rintro e w4 ⟨q4, d4, rfl, hr4, f4⟩
  have HR4 := Lib.hid hr4
  have F4 := Lib.hid (F3.out.trans0 f4)
  clear hr4 f4 HCO
  have F5 := Lib.hid (F4.out.trans0 (Fr.alloc S0 w4 (.cells #[.int .i64 (L : Nat), .int .i64 (H : Nat), .int .i64 (D : Nat)] 27)))
  obtain ⟨c0, -, c2'⟩ := HBOX.out w4
  have k1 : IntKind.u64.wrap (K : Int) = (K : Int) := by rw [IntKind.wrap_u64]; omega
  have k2 : IntKind.u64.wrap (D : Int) = (D : Int) := by rw [IntKind.wrap_u64]; omega
  have k3 : IntKind.u64.wrap (L : Int) = (L : Int) := by rw [IntKind.wrap_u64]; omega
  have k4 : IntKind.u64.wrap (R : Int) = (R : Int) := by rw [IntKind.wrap_u64]; omega
  go_upto_region 15 with fail
  go_region_held3 (fun w' => w'.cell? ⟨w4.heap.size, 0, none⟩ = some (.int .i64 (L : Nat)) ∧ w'.cell? ⟨w4.heap.size, 2, none⟩ = some (.int .i64 (D : Nat)) ∧ Fr S0 (w4.alloc (.cells #[.int .i64 (L : Nat), .int .i64 (H : Nat), .int .i64 (D : Nat)] 27)) w')
    (first
      | (go_split_ands; exact ⟨by assumption, by assumption, by assumption⟩)
      | exact ⟨c0, c2', Fr.drew _ _⟩
      | (go_split_ands; exact ⟨f9.cell (by assumption) (fun h => h), f9.cell (by assumption) (fun h => h), Fr.trans0 (by assumption) f9⟩)
      | (go_split_ands; exact ⟨(Fr.alloc S0 _ _).cell (by assumption) (fun h => h), (Fr.alloc S0 _ _).cell (by assumption) (fun h => h), Fr.trans0 (by assumption) (Fr.alloc S0 _ _)⟩)
      | fail)
    (first
      | (go_at_call 12; ((with_reducible refine (HR.out _ (F5.out.trans0 (by go_split_ands; assumption))).mono ?_); rintro _ u1 ⟨rfl, f9⟩))
      | (go_at_call 54; (have HF8 := Lib.hid (show Fr S0 (w4.alloc (.cells #[.int .i64 (L : Nat), .int .i64 (H : Nat), .int .i64 (D : Nat)] 27)) _ by go_split_ands; assumption)); ((with_reducible refine (HPT.out _ _ _ (HSL.out _)).mono ?_); rintro _ u2 ⟨q6, d6, rfl, hr6, f9⟩; have HR6 := Lib.hid hr6; have F6 := Lib.hid ((F5.out.trans0 HF8.out).trans0 f9); have FB := Lib.hid (HF8.out.trans0 f9); clear hr6))
      | fail)
  have HCC := Lib.hid (concat2 (N := K) (c := d4) (K := 40) (d := d6) (p := q6) (q := q4) (S := HB) (T := E) (heap_alloc_new u2 (.cells #[.slice q6 40 d6, .slice q4 K d4] 31)) ((Fr.alloc S0 _ _).owns (by have h := HR6.out.own; rw [HBL.out] at h; exact h) (fun _ _ h => h)) ((Fr.alloc S0 _ _).owns ((FB.out.owns ((Fr.alloc S0 _ _).owns (by have h := HR4.out.own; rw [HKE.out] at h; exact h) (fun _ _ h => h)) (fun _ _ h => h))) (fun _ _ h => h)) (by rw [HBL.out]; decide) HBL.out HKE.out (by omega))
  have F7 := Lib.hid (F6.out.trans0 (Fr.alloc S0 u2 (.cells #[.slice q6 40 d6, .slice q4 K d4] 31)))
  clear k1 k2 k3 k4 HPT HR
  go_wp2_with fail
  refine HCC.out.mono ?_
  rintro e w8 ⟨q8, d8, rfl, hr8, f8⟩
  have HR8 := Lib.hid (show RowNew w w8 _ _ from ⟨hr8.own, fresh_fr F7.out hr8.fresh⟩)
  have F8 := Lib.hid (F7.out.trans0 f8)
  clear hr8 f8 HCC
  go_wp2_with fail
  go_ret
  exact ⟨q8, d8, by rw [List.length_append]; rfl, HR8.out, F8.out⟩
end
def packB (T : List Nat) : List Nat := (enc 4 478450452 ++ enc 4 (wrap9 (zbst T) T).length) ++ wrap9 (zbst T) T
theorem packed_any (p : Option Addr) (n d : Nat) (b : List Nat) (w : World) (hn : b.length = n) (hb : SlI w .u8 p b) (h8 : ∀ x ∈ b, x < 256) (hp : p = none → d = 0) (hd : n ≤ d) (hL : n ≤ 1000000) :
    Calls Tryz.prog 36 #[.slice p n d] w fun e w' => ∃ q c, e = .returned (.slice q (packB b).length c) ∧ RowNew w w' (.slice q (packB b).length c) (packB b) ∧ Fr S0 w w' := by
  have HPK := Lib.hid (pack_any p n d b w hn hb h8 hp hd (by omega))
  have hbl := bst_length b h8
  have hwl := wrap9_length (zbst b) b
  unfold packB
  obtain ⟨Z, eZ⟩ : ∃ Z, wrap9 (zbst b) b = Z := ⟨_, rfl⟩
  rw [eZ] at HPK hwl ⊢
  obtain ⟨K, eK⟩ : ∃ K, Z.length = K := ⟨_, rfl⟩
  have hKb : K < 10000000 := by omega
  have HPT := Lib.hid (fun W p c (hs : SlI W .u64 p [478450452, K]) => hput_any sPack p c 2 [478450452, K] (enc 4 478450452 ++ enc 4 K) W (by decide) rfl hs (by simp; omega) (put_pack (by omega)))
  have HHL : Hid ((enc 4 478450452 ++ enc 4 K).length = 8) := Lib.hid (by rw [List.length_append, enc4_len, enc4_len])
  rw [HHL.out] at HPT
  simp only [sPack] at HPT
  have HSL := Lib.hid (fun (W : World) => SlI.ofBlock (k := .u64) (l := [478450452, K]) (heap_alloc_new W (.cells #[.int .u64 478450452, .int .u64 (K : Nat)] 22)) rfl (by simp [maxLen]))
  rw [eK]
  obtain ⟨HB, eHB⟩ : ∃ HB, enc 4 478450452 ++ enc 4 K = HB := ⟨_, rfl⟩
  rw [eHB] at HPT HHL ⊢
  have HKE := Lib.hid eK
  have k1 : IntKind.u64.wrap (K : Int) = (K : Int) := by rw [IntKind.wrap_u64]; omega
  clear hn hb h8 hp hd hL hbl hwl eZ eK eHB
  go_enter Tryz.func36, Tryz.ntmps36
  go_wp2_with fail
  refine HPK.out.mono ?_
  rintro e w1 ⟨v1, rfl, f1, r1⟩
  obtain ⟨q1, d1, rfl, -⟩ := slForm r1.own
  have HR1 := Lib.hid (show w1.ownsRow 0 5 1 (.slice q1 Z.length d1) Z.length (u8s Z) from r1.own)
  rw [HKE.out] at HR1 ⊢
  have F1 := Lib.hid f1
  clear r1 f1 HPK
  go_wp2_with fail
  refine (HPT.out _ _ _ (HSL.out _)).mono ?_
  rintro e w2 ⟨q2, d2, rfl, r2, f2⟩
  have HR2 := Lib.hid r2
  have F2 := Lib.hid (F1.out.trans0 ((Fr.alloc S0 _ _).trans0 f2))
  have F12 := Lib.hid ((Fr.alloc S0 w1 _).trans0 f2)
  clear r2 f2 HPT HSL
  have HCC := Lib.hid (concat2 (N := K) (c := d1) (K := 8) (d := d2) (p := q2) (q := q1) (S := HB) (T := Z) (heap_alloc_new w2 (.cells #[.slice q2 8 d2, .slice q1 K d1] 31)) ((Fr.alloc S0 _ _).owns (by have h := HR2.out.own; rw [HHL.out] at h; exact h) (fun _ _ h => h)) ((Fr.alloc S0 _ _).owns (F12.out.owns HR1.out (fun _ _ h => h)) (fun _ _ h => h)) (by rw [HHL.out]; decide) HHL.out HKE.out (by omega))
  have F7 := Lib.hid (F2.out.trans0 (Fr.alloc S0 w2 (.cells #[.slice q2 8 d2, .slice q1 K d1] 31)))
  go_wp2_with fail
  refine HCC.out.mono ?_
  rintro e w8 ⟨q8, d8, rfl, hr8, f8⟩
  have HR8 := Lib.hid (show RowNew w w8 _ _ from ⟨hr8.own, fresh_fr F7.out hr8.fresh⟩)
  have F8 := Lib.hid (F7.out.trans0 f8)
  clear hr8 f8 HCC
  go_wp2_with fail
  go_ret
  exact ⟨q8, d8, by rw [List.length_append]; rfl, HR8.out, F8.out⟩
end Go.Proofs.YtnndgpggjlhhpaaGreat
