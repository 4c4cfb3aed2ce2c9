/- HwTop, HwRec, HwAlive -/
import Derived.Test.YtnndgpggjlhhpaaGreatPr1
import Derived.Test.YtnndgpggjlhhpaaGreatPr2
import Derived.Test.YtnndgpggjlhhpaaGreatPr3
import Derived.Test.YtnndgpggjlhhpaaGreatPr4
import Derived.Test.YtnndgpggjlhhpaaGreatPr5
import Derived.Test.YtnndgpggjlhhpaaGreatPr6
import Derived.Test.YtnndgpggjlhhpaaGreatPr7
import Derived.Test.YtnndgpggjlhhpaaGreatPr8
import Derived.Test.YtnndgpggjlhhpaaGreatPr9
import Derived.Test.YtnndgpggjlhhpaaGreatPr10
import Derived.Test.YtnndgpggjlhhpaaGreatPr11
import Derived.Test.YtnndgpggjlhhpaaGreatPr12
import Derived.Test.YtnndgpggjlhhpaaGreatPr13
import Derived.Test.YtnndgpggjlhhpaaGreatPr14
import Derived.Test.YtnndgpggjlhhpaaGreatPr15
import Derived.Test.YtnndgpggjlhhpaaGreatPr16
import Derived.Test.YtnndgpggjlhhpaaGreatPr17
import Derived.Test.YtnndgpggjlhhpaaGreatPr18
import Derived.Test.YtnndgpggjlhhpaaGreatPr19
import Derived.Test.YtnndgpggjlhhpaaGreatPr20
import Derived.Test.YtnndgpggjlhhpaaGreatPr21
import Derived.Test.YtnndgpggjlhhpaaGreatPr22
import Derived.Test.YtnndgpggjlhhpaaGreatPr23
import Derived.Test.YtnndgpggjlhhpaaGreatPr24
import Derived.Test.YtnndgpggjlhhpaaGreatPr25
import Derived.Test.YtnndgpggjlhhpaaGreatPr26
import Derived.Test.YtnndgpggjlhhpaaGreatPr27
import Derived.Test.YtnndgpggjlhhpaaGreatPr28
import Derived.Test.YtnndgpggjlhhpaaGreatPr29
import Derived.Test.YtnndgpggjlhhpaaGreatPr30
import Derived.Test.YtnndgpggjlhhpaaGreatPr31
import Derived.Test.YtnndgpggjlhhpaaGreatPr32
import Derived.Test.YtnndgpggjlhhpaaGreatPr33
import Derived.Test.YtnndgpggjlhhpaaGreatPr34
import Derived.Test.YtnndgpggjlhhpaaGreatPr35
import Derived.Test.YtnndgpggjlhhpaaGreatPr36
import Derived.Test.YtnndgpggjlhhpaaGreatPr37
import Derived.Test.YtnndgpggjlhhpaaGreatPr38
import Derived.Test.YtnndgpggjlhhpaaGreatPr39
import Derived.Test.YtnndgpggjlhhpaaGreatPr40
import Derived.BigRegion
import Derived.RangeFuncNested
import Derived.RangeFuncBound
import Derived.RangeFuncCalls
import Derived.RangeFuncLeaves
import Derived.Shelf.Abstract
import Derived.Shelf.RegionOpen
import Derived.WalkKit
import Derived.OwnWalkIn
import Derived.TacticsInMore
import Derived.LoopNIn
import Derived.LoopIn
import Derived.Sort.BigQuietIn
import Derived.Lib.Repeat
import Derived.StillTailTactics
import Derived.Laws.BitsAllLaws
import Derived.Laws.BytesArg
import Derived.Lib.SlBytesConst
import Derived.Maps.AppendAt
import Derived.Laws.AppendOwnNone
import Derived.WalkSpells
import Derived.WalkLawsBesides
import Derived.Deep.QuietTactic
import Derived.BigQuiet
import Derived.RegionTactic
import Derived.Deep.AppendLies
import Derived.Deep.RegionLaw
import Derived.Laws.ResultCell
import Derived.Laws.EntriesVeiled
import Derived.Lib.Hide
import Derived.Test.YtnndgpggjlhhpaaGreatRows
import Derived.Maps.RangeWalk
import Derived.Deep.RegionHeld3
import Derived.Deep.CutBlock
import Derived.Deep.DeepCutAuto
import Derived.Deep.CutRange
import Derived.Lib.BitFns
import Derived.Shelf.Small.Bits
import Derived.Shelf.Strconv.Itoa0
import Derived.Shelf.Bits.Mul64
import Derived.Laws.Externs
import Derived.Shelf.Spec.BitsCarry
import Derived.Shelf.SlSortCmp.WholeK
import Derived.Shelf.Strings.Repeat
import Derived.Lib.AppendZerosOnto
import Derived.Lib.SliceRun
import Derived.Lib.Walk
import Derived.Laws.MakeOwn
import Derived.Laws.OwnMore
import Derived.IntWalk
import Derived.Lib.MakeNoZero
import Derived.Laws.CopyOwn
import Derived.Laws.Tables
import Derived.Defers
import Derived.Recover
import Derived.DeepKeys4
import Derived.WideKeyPair
import Derived.MapKept
import Derived.ChangeMaps
import Derived.Laws.Cover3
import Derived.Stop.BytesEq
set_option maxRecDepth 100000
set_option maxHeartbeats 8000000
namespace Go.Proofs.YtnndgpggjlhhpaaGreat
open Go.RowKit Go.ChangeMaps
theorem Is19.uniq {M M' : Hm} {l : List Nat} (h : Is19 M l) (h' : Is19 M' l) (hl : l.length ≤ 1000000) : M = M' := by
  have h1 := congrArg (fun r : Except Nat (List Nat × Nat) => match r with | .ok a => a.1 | .error _ => []) ((h.get hl).symm.trans (h'.get hl))
  have e3 : M.D = M'.D := congrArg (fun l : List Nat => l.getD 3 0) h1
  have e4 : M.L = M'.L := congrArg (fun l : List Nat => l.getD 4 0) h1
  have e5 : M.H = M'.H := congrArg (fun l : List Nat => l.getD 5 0) h1
  have b' : M'.b = M.b := by rw [h.good.fix h.own.gr, h'.good.fix h'.own.gr, Hm.first, Hm.first, h'.good.eu, h'.good.em, h.good.eu, h.good.em, e3, e4, e5]
  have u' : M'.u = M.u := by rw [h'.good.eu, h.good.eu, e4]
  have m' : M'.m = M.m := by rw [h'.good.em, h.good.em, e3]
  have t1 := h.tells
  have t2 := h'.tells
  rw [m', b', t1] at t2
  have ll := Option.some.inj t2
  have g1 := h.own.gr
  have g2 := h'.own.gr
  obtain ⟨x1, x2, x3, x4, x5, x6, x7, x8⟩ := M
  obtain ⟨y1, y2, y3, y4, y5, y6, y7, y8⟩ := M'
  simp only at e3 e4 e5 b' u' m' g1 g2 ll
  rw [e3, e4, e5, b', u', m', g1, g2, ll]
theorem packB_256 (T : List Nat) (h8 : ∀ x ∈ T, x < 256) : ∀ x ∈ packB T, x < 256 := fun x hx => by
  unfold packB at hx
  simp only [List.mem_append] at hx
  rcases hx with (h | h) | h
  · exact enc_lt 4 _ (by decide) x h
  · exact enc_lt 4 _ (by decide) x h
  · exact wrap9_256 (bst_256 T h8) x h
section
variable (g h : Nat) (M : Hm) (w : World) (s : HistIs w g h M)
include s
theorem write_any (hl : M.l.length ≤ 40000) : Calls Tryz.prog 14 #[.pointer (some ⟨g, 0, none⟩)] w fun e w' => ∃ q d, e = .returned (.tuple #[.slice q (plainB M).length d, .int .i64 0]) ∧ RowNew w w' (.slice q (plainB M).length d) (plainB M) ∧ Fr S0 w w' := by
  have HP := Lib.hid (plain_any g h M w s hl)
  clear s hl
  go_enter Tryz.func14, Tryz.ntmps14
  go_wp2_with fail
  refine HP.out.mono ?_
  rintro e w1 ⟨q, d, rfl, hr, f⟩
  have HR := Lib.hid (And.intro hr f)
  clear hr f HP
  go_wp2_with fail
  go_ret2
  exact ⟨q, d, rfl, HR.out⟩
end
theorem put_mark {n : Nat} (hn : n < 4294967296) : putS (pat sMark) [n] = .ok (enc 4 n) := by
  unfold putS
  rw [forms_mark]
  simp only
  rw [if_pos (by rfl)]
  simp only [putRows, fits4 hn, if_true, List.append_nil]
theorem get_mark {n : Nat} (hn : n < 4294967296) (r : List Nat) : getS (pat sMark) (enc 4 n ++ r) = .ok ([n], 4) := by
  have h := getS_putS (pat sMark) [n] (enc 4 n) r (fun x hx => by simp at hx; omega) (put_mark hn)
  rw [enc4_len] at h
  exact h
theorem hkind_any (N : Nat) (hN : (N = 478450451 ∨ N = 478450452)) (r : List Nat) (p : Option Addr) (n d : Nat) (l : List Nat) (w : World) (he : l = enc 4 N ++ r) (hn : l.length = n) (hl : SlI w .u8 p l) (h8 : ∀ x ∈ l, x < 256) :
    Calls Tryz.prog 18 #[.slice p n d] w fun e w' => e = .returned (.int .i64 (if N = 478450451 then 1 else 2)) ∧ Fr S0 w w' := by
  have HG := Lib.hid (wget_any sMark p d l w (by decide) hl h8)
  rw [hn, he, get_mark (by omega)] at HG
  simp only [sMark] at HG
  clear he hn hl h8
  rcases hN with rfl | rfl
  all_goals
    go_enter Tryz.func18, Tryz.ntmps18
    go_wp2_with fail
    refine HG.out.mono ?_
    rintro e w1 ⟨f1, v, rfl, own, -⟩
    obtain ⟨q, c, rfl, -⟩ := slForm own
    have hs := SlI.ofOwns (p := q) (c := c) own
    obtain ⟨b, o, rfl, -⟩ := hs.at 0 (by simp)
    have k0 := hs.cells 0 (by simp)
    rw [Nat.add_zero] at k0
    simp only [List.getElem_cons_zero] at k0
    have F1 := Lib.hid f1
    have hl1 : ∀ n : Nat, [n].length = 1 := fun _ => rfl
    clear f1 own hs HG
    go_wp2_with fail
    go_ret
    exact ⟨rfl, F1.out⟩
theorem get_pack {n : Nat} (hn : n < 4294967296) (r : List Nat) : getS (pat sPack) ((enc 4 478450452 ++ enc 4 n) ++ r) = .ok ([478450452, n], 8) := by
  have h := getS_putS (pat sPack) [478450452, n] (enc 4 478450452 ++ enc 4 n) r (fun x hx => by simp at hx; omega) (put_pack hn)
  rw [List.length_append, enc4_len, enc4_len] at h
  exact h
theorem packB_len (T : List Nat) : (packB T).length = 8 + (wrap9 (zbst T) T).length := by
  unfold packB
  rw [List.length_append, List.length_append, enc4_len, enc4_len]
theorem packB_drop (T : List Nat) : (packB T).drop 8 = wrap9 (zbst T) T := by
  unfold packB
  rw [List.drop_append_of_le_length (by rw [List.length_append, enc4_len, enc4_len]; exact Nat.le_refl _), List.drop_of_length_le (by rw [List.length_append, enc4_len, enc4_len]; exact Nat.le_refl _), List.nil_append]
theorem wrap_small (T : List Nat) (h8 : ∀ x ∈ T, x < 256) (hT : T.length ≤ 40000) : (wrap9 (zbst T) T).length ≤ 400000 := by
  have h1 := bst_length T h8
  have h2 := wrap9_length (zbst T) T
  omega
theorem zopen_wrap (T : List Nat) (h8 : ∀ x ∈ T, x < 256) (hT : T.length ≤ 40000) : zopen (wrap9 (zbst T) T) 1048576 = .ok T 0 := by
  rw [wrap9_cons]
  exact zopen_yes (reads_bst T h8) 120 1 1048576 (by decide) (by omega)
theorem ofPacked_pack (T : List Nat) (t8 : ∀ x ∈ T, x < 256) (hT : T.length ≤ 40000) (p : Option Addr) (n d : Nat) (w : World) (hn : (packB T).length = n) (hl : SlI w .u8 p (packB T)) (hp : p = none → d = 0) (hd : n ≤ d) (hdm : d ≤ maxLen) :
    Calls Tryz.prog 41 #[.slice p n d] w fun e w' => HRdEnds (fun M => Is19 M T) w w' e := by
  have hPL := packB_len T
  have hWL := wrap_small T t8 hT
  have h8 := packB_256 T t8
  have hw6 := wrap9_length (zbst T) T
  have HG := Lib.hid (wget_any sPack p d (packB T) w (by decide) hl h8)
  rw [hn, show getS (pat sPack) (packB T) = .ok ([478450452, (wrap9 (zbst T) T).length], 8) from get_pack (by omega) _] at HG
  simp only [sPack] at HG
  obtain ⟨b, o, rfl, -⟩ := hl.at 0 (by omega)
  have HS := Lib.hid hl
  have HOP := Lib.hid (fun W (f : Fr S0 w W) => open_any (x := .ok T 0) (some ⟨b, o + 8, none⟩) (n - 8) (d - 8) 1048576 ((packB T).drop 8) W (by rw [List.length_drop, hn]) ((hl.fr0 f).drop 8) (fun x hx => h8 x (List.mem_of_mem_drop hx)) (by omega) (by omega) (by omega) (by decide) (by rw [packB_drop]; exact zopen_wrap T t8 hT))
  have HPL := Lib.hid (fun q c W (hs : SlI W .u8 q T) (hq : q = none → c = 0) (hc : T.length ≤ c) (hcm : c ≤ maxLen) => And.intro (ofPlain_any q T.length c T W rfl hs t8 hq hc hcm hT) (packed_any q T.length c T W rfl hs t8 hq hc (by omega)))
  have HEQ := Lib.hid (fun q c W (f : Fr S0 w W) (hs : SlI W .u8 q (packB T)) => equal_any q (some ⟨b, o, none⟩) (packB T).length n c d (packB T) (packB T) W rfl hn hs (hl.fr0 f) h8 h8)
  simp only [decide_true] at HEQ
  have hd8 : (8 : Int) ≤ (n : Int) := by omega
  have hd9 : ¬ d = 8 := by omega
  have hd10 : (8 : Int) ≤ (d : Int) := by omega
  clear hPL hWL hw6 hn hl hp hdm h8
  go_enter Tryz.func41, Tryz.ntmps41
  go_wp2_with fail
  refine HG.out.mono ?_
  rintro e w1 ⟨f1, v, rfl, own, -⟩
  obtain ⟨q, c, rfl, -⟩ := slForm own
  have F1 := Lib.hid f1
  clear f1 own HG
  go_wp2_with fail
  refine (hdemand_yes _).mono ?_
  rintro e w2 ⟨rfl, rfl⟩
  go_wp2_with fail
  refine (HOP.out _ F1.out).mono ?_
  rintro e w2 ⟨f2, v2, rfl, hr2⟩
  obtain ⟨q2, c2, rfl, hq2, hc2, hm2⟩ := slForm hr2.own
  have F2 := Lib.hid (F1.out.trans0 f2)
  have HS2 := Lib.hid (And.intro (show SlI w2 .u8 q2 T from SlI.ofOwns hr2.own) (And.intro hq2 (And.intro hc2 hm2)))
  clear f2 hr2 hq2 hc2 hm2 HOP
  go_wp2_with fail
  refine (hdemand_yes _).mono ?_
  rintro e w3 ⟨rfl, rfl⟩
  go_wp2_with fail
  refine (HPL.out _ _ _ HS2.out.1 HS2.out.2.1 HS2.out.2.2.1 HS2.out.2.2.2).1.mono ?_
  rintro e w3 ⟨f3, h3⟩
  have F3 := Lib.hid (F2.out.trans0 f3)
  rcases h3 with ⟨M, g, hm, rfl, hist, hpf, hg, hh⟩ | ⟨hno, rfl⟩
  · have HH := Lib.hid hist
    have HGG : Hid ((w.heap.size ≤ g ∧ w.heap.size ≤ hm) ∧ Is19 M T) := Lib.hid ⟨by have := F2.out.size; omega, hpf⟩
    have HPK := Lib.hid (HPL.out _ _ _ (HS2.out.1.fr0 f3) HS2.out.2.1 HS2.out.2.2.1 HS2.out.2.2.2).2
    clear hist hpf hg hh f3 HPL
    go_wp2_with fail
    refine HPK.out.mono ?_
    rintro e w4 ⟨q4, c4, rfl, hr4, f4⟩
    have F4 := Lib.hid (F3.out.trans0 f4)
    have HH4 := Lib.hid (HH.out.fr0 f4)
    have HE4 := Lib.hid (HEQ.out q4 c4 w4 F4.out (SlI.ofOwns hr4.own))
    clear f4 hr4 HPK HEQ
    go_wp2_with fail
    refine HE4.out.mono ?_
    rintro e w5 ⟨rfl, rfl⟩
    go_wp2_with fail
    refine (hdemand_yes _).mono ?_
    rintro e w6 ⟨rfl, rfl⟩
    go_wp2_with fail
    go_ret
    exact ⟨F4.out, .inl ⟨M, g, hm, rfl, HH4.out, HGG.out.2, HGG.out.1.1, HGG.out.1.2⟩⟩
  · exact ⟨rfl, F3.out, .inr ⟨hno, rfl⟩⟩
theorem hread_any (p : Option Addr) (n d : Nat) (l : List Nat) (w : World) (hn : l.length = n) (hl : SlI w .u8 p l) (h8 : ∀ x ∈ l, x < 256) (hp : p = none → d = 0) (hd : n ≤ d) (hdm : d ≤ maxLen) (hL : n ≤ 40000) :
    Calls Tryz.prog 19 #[.slice p n d] w fun e w' => TdEnds (fun M => Is19 M l) w w' e := by
  have HT := Lib.hid (told_any 40 (fun args w => by kernel_rfl) (fun M => Is19 M l) p n d w fun W f => (ofPlain_any p n d l W hn (hl.fr0 f) h8 hp hd hdm hL).mono fun e w' h => h)
  clear hn hl h8 hp hd hdm hL
  go_enter Tryz.func19, Tryz.ntmps19
  go_wp2_with fail
  refine HT.out.mono ?_
  rintro e w1 ⟨f1, h1⟩
  have F1 := Lib.hid f1
  rcases h1 with ⟨M, g, hm, rfl, hh⟩ | ⟨hno, rfl⟩
  · have HH := Lib.hid hh
    clear f1 hh HT
    go_wp2_with fail
    go_ret2
    exact ⟨F1.out, .inl ⟨M, g, hm, rfl, HH.out⟩⟩
  · have HH := Lib.hid hno
    clear f1 hno HT
    go_wp2_with fail
    go_ret2
    exact ⟨F1.out, .inr ⟨HH.out, rfl⟩⟩
theorem hopen_any (Pf : Hm → Prop) (p : Option Addr) (n d : Nat) (w : World) (h : ∀ W, Fr S0 w W → Calls Tryz.prog 41 #[.slice p n d] W fun e w' => HRdEnds Pf W w' e) :
    Calls Tryz.prog 20 #[.slice p n d] w fun e w' => TdEnds Pf w w' e := by
  have HT := Lib.hid (told_any 41 (fun args w => by kernel_rfl) Pf p n d w h)
  clear h
  go_enter Tryz.func20, Tryz.ntmps20
  go_wp2_with fail
  refine HT.out.mono ?_
  rintro e w1 ⟨f1, h1⟩
  have F1 := Lib.hid f1
  rcases h1 with ⟨M, g, hm, rfl, hh⟩ | ⟨hno, rfl⟩
  · have HH := Lib.hid hh
    clear f1 hh HT
    go_wp2_with fail
    go_ret2
    exact ⟨F1.out, .inl ⟨M, g, hm, rfl, HH.out⟩⟩
  · have HH := Lib.hid hno
    clear f1 hno HT
    go_wp2_with fail
    go_ret2
    exact ⟨F1.out, .inr ⟨HH.out, rfl⟩⟩
end Go.Proofs.YtnndgpggjlhhpaaGreat

namespace Go.Proofs.YtnndgpggjlhhpaaGreat
open Go.RowKit Go.ChangeMaps
def ZI (w : World) (p : Option Addr) (vs : List Int) : Prop := ∀ i, (h : i < vs.length) → ∃ b o, p = some ⟨b, o, none⟩ ∧ w.cell? ⟨b, o + i, none⟩ = some (.int .i64 vs[i])
theorem ZI.fr0 {w w' : World} {p : Option Addr} {vs : List Int} (h : ZI w p vs) (f : Fr S0 w w') : ZI w' p vs := fun i hi => let ⟨b, o, e, hc⟩ := h i hi; ⟨b, o, e, f.cell hc (fun h => h)⟩
end Go.Proofs.YtnndgpggjlhhpaaGreat

namespace Go.Proofs.YtnndgpggjlhhpaaGreat
open Go.RowKit Go.ChangeMaps
def exX : Hm := Hm.new 1 2000 3 false
def exX1 : Hm := exX.record 2 3
def exP0 : List Nat := [28, 132, 147, 19, 0, 0, 0, 1, 0, 0, 0, 0, 0, 0, 0, 3, 0, 0, 0, 0, 0, 0, 0, 1, 0, 0, 0, 0, 0, 0, 7, 208, 63, 240, 0, 0, 0, 0, 0, 0, 0]
def exP1 : List Nat := [28, 132, 147, 19, 0, 0, 0, 2, 0, 0, 0, 0, 0, 0, 0, 3, 0, 0, 0, 0, 0, 0, 0, 1, 0, 0, 0, 0, 0, 0, 7, 208, 63, 240, 0, 0, 0, 0, 0, 0, 3, 6]
theorem ex_c1 : exX.check 2 3 = 0 := by kernel_rfl
theorem ex_p0 : plainB exX = exP0 := by kernel_rfl
theorem ex_p1 : plainB exX1 = exP1 := by kernel_rfl
theorem ex_t1 : ltot exX1.l = 3 := by kernel_rfl
theorem ex_good : exX.Good := Hm.new_good 1 2000 3 false (by decide) (by decide) (by decide) (by decide) (by decide) (by decide)
theorem ex_is : Is19 exX1 exP1 := ⟨ex_good.record 2 3 (by decide), (Own.new 1 2000 3 false).record ex_good 2 3 (by decide), ex_p1⟩
theorem ex_l1 : exX1.l.length ≤ 40000 := by rw [show exX1.l.length = 1 by kernel_rfl]; decide
theorem ex_new (W : World) : Calls Tryz.prog 26 #[.agg #[.int .i64 1, .int .i64 2000, .int .i64 3], .bool false] W fun e w' => ∃ g hm, e = .returned (.tuple #[.pointer (some ⟨g, 0, none⟩), .int .i64 0]) ∧ HistIs w' g hm exX ∧ W.heap.size ≤ g ∧ W.heap.size ≤ hm ∧ Fr S0 W w' :=
  xnew_yes 1 2000 3 false W (by decide) (by decide) (by decide) (by decide) (by decide) (by decide)
theorem ex_rec {g h : Nat} {W : World} (s : HistIs W g h exX) :
    Calls Tryz.prog 27 #[.pointer (some ⟨g, 0, none⟩), .int .i64 2, .int .u64 3] W fun e w' => e = .returned (.int .i64 0) ∧ HistIs w' g h exX1 ∧ Fr (fun k => k = g ∨ k = h) W w' := by
  have := xrecord_any g h exX W s 2 3 (by decide) (by decide) (by decide)
  rwa [ex_c1] at this
theorem ex_write {g h : Nat} {M : Hm} {W : World} {l : List Nat} {n : Nat} (s : HistIs W g h M) (hl : M.l.length ≤ 40000) (hp : plainB M = l) (hn : l.length = n) : Calls Tryz.prog 14 #[.pointer (some ⟨g, 0, none⟩)] W fun e w' => ∃ q d, e = .returned (.tuple #[.slice q n d, .int .i64 0]) ∧ (w'.ownsRow 0 5 1 (.slice q n d) n (u8s l) ∧ Fresh W (.slice q n d)) ∧ Fr S0 W w' := by
  have := write_any g h M W s hl
  rw [hp, hn] at this
  exact this.mono fun e w' ⟨q, d, h1, h2, h3⟩ => ⟨q, d, h1, ⟨by have := h2.own; rwa [hn] at this, h2.fresh⟩, h3⟩
theorem read_own {q : Option Addr} {n d : Nat} {l : List Nat} {M : Hm} {W : World} (hn : l.length = n) (own : W.ownsRow 0 5 1 (.slice q n d) n (u8s l)) (h8 : ∀ x ∈ l, x < 256) (hL : n ≤ 40000) (h : Is19 M l) :
    Calls Tryz.prog 19 #[.slice q n d] W fun e w' => ∃ g hm, e = .returned (.tuple #[.pointer (some ⟨g, 0, none⟩), .int .i64 0]) ∧ HistIs w' g hm M ∧ W.heap.size ≤ g ∧ W.heap.size ≤ hm ∧ Fr S0 W w' := by
  obtain ⟨p, c, e, h0, h1, h2⟩ := slForm own
  simp only [Value.slice.injEq, true_and] at e
  obtain ⟨rfl, rfl⟩ := e
  refine (hread_any q n d l W hn (SlI.ofOwns own) h8 (by first | exact h0 | exact h1) h1 h2 hL).mono ?_
  rintro e w' ⟨f, ⟨M', g, hm, rfl, s, hi, a, b⟩ | ⟨hno, rfl⟩⟩
  · obtain rfl := hi.uniq h (by omega)
    exact ⟨g, hm, rfl, s, a, b, f⟩
  · exact absurd ⟨M, h⟩ hno
theorem own_some {w : World} {q : Option Addr} {n d : Nat} {l : List Nat} (h : w.ownsRow 0 5 1 (.slice q n d) n (u8s l)) (h0 : n ≠ 0) : ∃ g, q = some ⟨g, 0, none⟩ ∧ SlI w .u8 (some ⟨g, 0, none⟩) l ∧ n ≤ d ∧ d ≤ maxLen := by
  have hs := SlI.ofOwns h
  obtain ⟨p, c, e, -, h1, h2⟩ := slForm h
  simp only [Value.slice.injEq, true_and] at e
  obtain ⟨rfl, rfl⟩ := e
  rcases h.2 with ⟨e, e0⟩ | ⟨g, cap, cur, e, _⟩
  · exact absurd e0 h0
  · simp only [Value.slice.injEq, true_and] at e
    obtain ⟨rfl, rfl⟩ := e
    exact ⟨g, rfl, hs, h1, h2⟩
theorem alive19_any (w : World) : Calls Tryz.prog 8 #[] w fun e w' => e = .returned (.bool true) ∧ Fr S0 w w' := by
  have HN := Lib.hid ex_new
  go_enter Tryz.func8, Tryz.ntmps8
  go_wp2_with fail
  refine (HN.out _).mono ?_
  rintro e w1 ⟨gx, hx, rfl, s1, h1, h2, f1⟩
  have HX1 := Lib.hid s1
  have HF1 : Hid (Fr S0 w w1) := Lib.hid f1
  have HA : Hid (w.heap.size ≤ gx ∧ w.heap.size ≤ hx) := Lib.hid ⟨h1, h2⟩
  have HW1 := Lib.hid (ex_write s1 (by decide) ex_p0 (n := 41) rfl)
  clear s1 h1 h2 f1
  go_wp2_with fail
  refine HW1.out.mono ?_
  rintro e w2 ⟨qa, da, rfl, ⟨ra, fa⟩, f2⟩
  have HFA := Lib.hid fa
  have HRA := Lib.hid ra
  have HF2 := Lib.hid f2
  have HR := Lib.hid (ex_rec (HX1.out.fr0 f2))
  clear ra fa f2 HW1
  go_wp2_with fail
  refine HR.out.mono ?_
  rintro e w3 ⟨rfl, s3, f3⟩
  have HX3 := Lib.hid s3
  have HF3 := Lib.hid f3
  have HW2 := Lib.hid (ex_write s3 ex_l1 ex_p1 (n := 42) rfl)
  clear s3 f3 HR
  go_wp2_with fail
  refine HW2.out.mono ?_
  rintro e w4 ⟨qb, db, rfl, ⟨rb, -⟩, f4⟩
  have HRB := Lib.hid rb
  have HF4 := Lib.hid f4
  have HRD := Lib.hid (read_own (M := exX1) (n := 42) rfl rb (by decide) (by decide) ex_is)
  clear rb f4 HW2
  go_wp2_with fail
  refine HRD.out.mono ?_
  rintro e w5 ⟨gy, hy, rfl, s5, h5, k5, f5⟩
  have HY := Lib.hid s5
  have HF5 := Lib.hid f5
  obtain ⟨ga, rfl, sa, da1, da2⟩ := own_some HRA.out (by decide)
  obtain ⟨gb, rfl, sb, db1, db2⟩ := own_some HRB.out (by decide)
  have sa5 := (sa.fr HF3.out (fun _ a ha e => by
    have h1 := HFA.out ga rfl
    have h2 := HX1.out.lt
    have h3 := HX1.out.mp.lt
    obtain rfl := Option.some.inj ha
    simp only at e
    omega)).fr0 (HF4.out.trans0 f5)
  have sb5 := sb.fr0 f5
  have ca : w5.cell? ⟨ga, 40, none⟩ = some (.int .u8 0) := by have h := sa5.cells 40 (by decide); rw [Nat.zero_add] at h; exact h
  have cva : ∀ c, (convert 31 9 (.slice (some ⟨ga, 0, none⟩) 4 c)).run Tryz.prog w5 = .ok (.string { data := #[28, 132, 147, 19] }) w5 := fun c => conv_sl sa5 4 c (by decide)
  have cvb : ∀ c, (convert 31 9 (.slice (some ⟨gb, 40, none⟩) 2 c)).run Tryz.prog w5 = .ok (.string { data := #[3, 6] }) w5 := fun c => by
    have h := conv_sl (sb5.drop 40) 2 c (by decide)
    rw [Nat.zero_add] at h
    exact h
  have HKD := Lib.hid (fun W (f : Fr S0 w5 W) => show Calls Tryz.prog 18 #[.slice (some ⟨gb, 0, none⟩) 42 db] W fun e w' => e = .returned (.int .i64 1) ∧ Fr S0 W w' from hkind_any 478450451 (.inl rfl) (exP1.drop 4) _ 42 db exP1 W (by decide) rfl (sb5.fr0 f) (by decide))
  have HTO := Lib.hid (fun W (f : Fr S0 w5 W) => show Calls Tryz.prog 23 #[.pointer (some ⟨gy, 0, none⟩)] W fun e w' => e = .returned (.int .u64 3) ∧ Fr S0 W w' from by
    have h := xtotal_any gy hy exX1 W (HY.out.fr0 f)
    rwa [ex_t1] at h)
  clear s5 f5 HRD sa sb sa5 sb5
  go_wp2_with fail
  refine (HTO.out _ (Fr.refl _ _)).mono ?_
  rintro e w6 ⟨rfl, f6⟩
  have HF6 := Lib.hid f6
  clear f6
  go_wp2_with fail
  refine (HKD.out _ HF6.out).mono ?_
  rintro e w7 ⟨rfl, f7⟩
  have HF7 : Hid (Fr S0 w w7) := Lib.hid (((((HF1.out.trans0 HF2.out).trans HF3.out fun k hk e => by have := HA.out; omega).trans0 (HF4.out.trans0 HF5.out)).trans0 HF6.out).trans0 f7)
  clear f7
  go_wp2_with fail
  go_ret
  exact ⟨rfl, HF7.out⟩
end Go.Proofs.YtnndgpggjlhhpaaGreat
