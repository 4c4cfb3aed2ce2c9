/- HwTop, HwRec, HwAlive, HwLawWrites, HwTorn, HwLawTorn -/
import Derived.Test.YtnndgpggjlhhpaaGreatPt1
import Derived.Test.YtnndgpggjlhhpaaGreatPt2
import Derived.Test.YtnndgpggjlhhpaaGreatPt3
import Derived.Test.YtnndgpggjlhhpaaGreatPt4
import Derived.Test.YtnndgpggjlhhpaaGreatPt5
import Derived.Test.YtnndgpggjlhhpaaGreatPt6
import Derived.Test.YtnndgpggjlhhpaaGreatPt7
import Derived.Test.YtnndgpggjlhhpaaGreatPt8
import Derived.Test.YtnndgpggjlhhpaaGreatPt9
import Derived.Test.YtnndgpggjlhhpaaGreatPt10
import Derived.Test.YtnndgpggjlhhpaaGreatPt11
import Derived.Test.YtnndgpggjlhhpaaGreatPt12
import Derived.Test.YtnndgpggjlhhpaaGreatPt13
import Derived.Test.YtnndgpggjlhhpaaGreatPt14
import Derived.Test.YtnndgpggjlhhpaaGreatPt15
import Derived.Test.YtnndgpggjlhhpaaGreatPt16
import Derived.Test.YtnndgpggjlhhpaaGreatPt17
import Derived.Test.YtnndgpggjlhhpaaGreatPt18
import Derived.Test.YtnndgpggjlhhpaaGreatPt19
import Derived.Test.YtnndgpggjlhhpaaGreatPt20
import Derived.Test.YtnndgpggjlhhpaaGreatPt21
import Derived.Test.YtnndgpggjlhhpaaGreatPt22
import Derived.Test.YtnndgpggjlhhpaaGreatPt23
import Derived.Test.YtnndgpggjlhhpaaGreatPt24
import Derived.Test.YtnndgpggjlhhpaaGreatPt25
import Derived.Test.YtnndgpggjlhhpaaGreatPt26
import Derived.Test.YtnndgpggjlhhpaaGreatPt27
import Derived.Test.YtnndgpggjlhhpaaGreatPt28
import Derived.Test.YtnndgpggjlhhpaaGreatPt29
import Derived.Test.YtnndgpggjlhhpaaGreatPt30
import Derived.Test.YtnndgpggjlhhpaaGreatPt31
import Derived.Test.YtnndgpggjlhhpaaGreatPt32
import Derived.Test.YtnndgpggjlhhpaaGreatPt33
import Derived.Test.YtnndgpggjlhhpaaGreatPt34
import Derived.Test.YtnndgpggjlhhpaaGreatPt35
import Derived.Test.YtnndgpggjlhhpaaGreatPt36
import Derived.Test.YtnndgpggjlhhpaaGreatPt37
import Derived.Test.YtnndgpggjlhhpaaGreatPt38
import Derived.BigRegion
import Derived.RangeFuncNested
import Derived.RangeFuncBound
import Derived.RangeFuncCalls
import Derived.RangeFuncLeaves
import Derived.Shelf.Abstract
import Derived.Shelf.RegionOpen
import Derived.WalkKit
import Derived.OwnWalkIn
import Derived.TacticsInMore
import Derived.LoopNIn
import Derived.LoopIn
import Derived.Sort.BigQuietIn
import Derived.Lib.Repeat
import Derived.StillTailTactics
import Derived.Laws.BitsAllLaws
import Derived.Laws.BytesArg
import Derived.Lib.SlBytesConst
import Derived.Maps.AppendAt
import Derived.Laws.AppendOwnNone
import Derived.WalkSpells
import Derived.WalkLawsBesides
import Derived.Deep.QuietTactic
import Derived.BigQuiet
import Derived.RegionTactic
import Derived.Deep.AppendLies
import Derived.Deep.RegionLaw
import Derived.Laws.ResultCell
import Derived.Laws.EntriesVeiled
import Derived.Lib.Hide
import Derived.Test.YtnndgpggjlhhpaaGreatRows
import Derived.Maps.RangeWalk
import Derived.Deep.RegionHeld3
import Derived.Deep.CutBlock
import Derived.Deep.DeepCutAuto
import Derived.Deep.CutRange
import Derived.Lib.BitFns
import Derived.Shelf.Small.Bits
import Derived.Shelf.Strconv.Itoa0
import Derived.Shelf.Bits.Mul64
import Derived.Laws.Externs
import Derived.Shelf.Spec.BitsCarry
import Derived.Shelf.SlSortCmp.WholeK
import Derived.Shelf.Strings.Repeat
import Derived.Lib.AppendZerosOnto
import Derived.Lib.SliceRun
import Derived.Lib.Walk
import Derived.Laws.MakeOwn
import Derived.Laws.OwnMore
import Derived.IntWalk
import Derived.Lib.MakeNoZero
import Derived.Laws.CopyOwn
import Derived.Laws.Tables
import Derived.Defers
import Derived.Recover
import Derived.DeepKeys4
import Derived.WideKeyPair
import Derived.MapKept
import Derived.ChangeMaps
import Derived.Laws.Cover3
import Derived.Stop.BytesEq
set_option maxRecDepth 100000
set_option maxHeartbeats 8000000
namespace Go.Proofs.YtnndgpggjlhhpaaGreat
open Go.RowKit Go.ChangeMaps
theorem Is19.uniq {M M' : Hm} {l : List Nat} (h : Is19 M l) (h' : Is19 M' l) (hl : l.length ≤ 1000000) : M = M' := by
  have h1 := congrArg (fun r : Except Nat (List Nat × Nat) => match r with | .ok a => a.1 | .error _ => []) ((h.get hl).symm.trans (h'.get hl))
  have e3 : M.D = M'.D := congrArg (fun l : List Nat => l.getD 3 0) h1
  have e4 : M.L = M'.L := congrArg (fun l : List Nat => l.getD 4 0) h1
  have e5 : M.H = M'.H := congrArg (fun l : List Nat => l.getD 5 0) h1
  have b' : M'.b = M.b := by rw [h.good.fix h.own.gr, h'.good.fix h'.own.gr, Hm.first, Hm.first, h'.good.eu, h'.good.em, h.good.eu, h.good.em, e3, e4, e5]
  have u' : M'.u = M.u := by rw [h'.good.eu, h.good.eu, e4]
  have m' : M'.m = M.m := by rw [h'.good.em, h.good.em, e3]
  have t1 := h.tells
  have t2 := h'.tells
  rw [m', b', t1] at t2
  have ll := Option.some.inj t2
  have g1 := h.own.gr
  have g2 := h'.own.gr
  obtain ⟨x1, x2, x3, x4, x5, x6, x7, x8⟩ := M
  obtain ⟨y1, y2, y3, y4, y5, y6, y7, y8⟩ := M'
  simp only at e3 e4 e5 b' u' m' g1 g2 ll
  rw [e3, e4, e5, b', u', m', g1, g2, ll]
theorem packB_256 (T : List Nat) (h8 : ∀ x ∈ T, x < 256) : ∀ x ∈ packB T, x < 256 := fun x hx => by
  unfold packB at hx
  simp only [List.mem_append] at hx
  rcases hx with (h | h) | h
  · exact enc_lt 4 _ (by decide) x h
  · exact enc_lt 4 _ (by decide) x h
  · exact wrap9_256 (bst_256 T h8) x h
section
variable (g h : Nat) (M : Hm) (w : World) (s : HistIs w g h M)
include s
theorem write_any (hl : M.l.length ≤ 40000) : Calls Tryz.prog 14 #[.pointer (some ⟨g, 0, none⟩)] w fun e w' => ∃ q d, e = .returned (.tuple #[.slice q (plainB M).length d, .int .i64 0]) ∧ RowNew w w' (.slice q (plainB M).length d) (plainB M) ∧ Fr S0 w w' := by
  have HP := Lib.hid (plain_any g h M w s hl)
  clear s hl
  go_enter Tryz.func14, Tryz.ntmps14
  go_wp2_with fail
  refine HP.out.mono ?_
  rintro e w1 ⟨q, d, rfl, hr, f⟩
  have HR := Lib.hid (And.intro hr f)
  clear hr f HP
  go_wp2_with fail
  go_ret2
  exact ⟨q, d, rfl, HR.out⟩
theorem pack19_any (hl : M.l.length ≤ 40000) : Calls Tryz.prog 15 #[.pointer (some ⟨g, 0, none⟩)] w fun e w' => ∃ q d, e = .returned (.tuple #[.slice q (packB (plainB M)).length d, .int .i64 0]) ∧ RowNew w w' (.slice q (packB (plainB M)).length d) (packB (plainB M)) ∧ Fr S0 w w' := by
  have HP := Lib.hid (plain_any g h M w s hl)
  have H8 := Lib.hid (plainB_256 M)
  have hPL : (plainB M).length ≤ 1000000 := by
    rw [plainB_len]
    have h1 := encs_le (nums M.l)
    have h2 := nums_len M.l
    omega
  obtain ⟨PB, ePB⟩ : ∃ PB, plainB M = PB := ⟨_, rfl⟩
  rw [ePB] at HP H8 hPL ⊢
  have HK := Lib.hid (fun p d W (hs : SlI W .u8 p PB) (hp : p = none → d = 0) (hd : PB.length ≤ d) => packed_any p PB.length d PB W rfl hs H8.out hp hd hPL)
  clear s hl ePB hPL
  go_enter Tryz.func15, Tryz.ntmps15
  go_wp2_with fail
  refine HP.out.mono ?_
  rintro e w1 ⟨q, d, rfl, hr, f⟩
  have HF := Lib.hid f
  obtain ⟨q', d', e', hq, hd, -⟩ := slForm hr.own
  simp only [Value.slice.injEq] at e'
  obtain ⟨rfl, -, rfl⟩ := e'
  have HS := Lib.hid (And.intro (show SlI w1 .u8 q PB from SlI.ofOwns hr.own) (And.intro hq hd))
  clear hr f HP hq hd
  go_wp2_with fail
  refine (HK.out _ _ _ HS.out.1 HS.out.2.1 HS.out.2.2).mono ?_
  rintro e w2 ⟨q2, d2, rfl, hr2, f2⟩
  have HR := Lib.hid (And.intro (show RowNew w w2 _ _ from ⟨hr2.own, fresh_fr HF.out hr2.fresh⟩) (HF.out.trans0 f2))
  clear hr2 f2 HK
  go_wp2_with fail
  go_ret2
  exact ⟨q2, d2, rfl, HR.out⟩
end
theorem put_mark {n : Nat} (hn : n < 4294967296) : putS (pat sMark) [n] = .ok (enc 4 n) := by
  unfold putS
  rw [forms_mark]
  simp only
  rw [if_pos (by rfl)]
  simp only [putRows, fits4 hn, if_true, List.append_nil]
theorem get_mark {n : Nat} (hn : n < 4294967296) (r : List Nat) : getS (pat sMark) (enc 4 n ++ r) = .ok ([n], 4) := by
  have h := getS_putS (pat sMark) [n] (enc 4 n) r (fun x hx => by simp at hx; omega) (put_mark hn)
  rw [enc4_len] at h
  exact h
theorem hkind_any (N : Nat) (hN : (N = 478450451 ∨ N = 478450452)) (r : List Nat) (p : Option Addr) (n d : Nat) (l : List Nat) (w : World) (he : l = enc 4 N ++ r) (hn : l.length = n) (hl : SlI w .u8 p l) (h8 : ∀ x ∈ l, x < 256) :
    Calls Tryz.prog 18 #[.slice p n d] w fun e w' => e = .returned (.int .i64 (if N = 478450451 then 1 else 2)) ∧ Fr S0 w w' := by
  have HG := Lib.hid (wget_any sMark p d l w (by decide) hl h8)
  rw [hn, he, get_mark (by omega)] at HG
  simp only [sMark] at HG
  clear he hn hl h8
  rcases hN with rfl | rfl
  all_goals
    go_enter Tryz.func18, Tryz.ntmps18
    go_wp2_with fail
    refine HG.out.mono ?_
    rintro e w1 ⟨f1, v, rfl, own, -⟩
    obtain ⟨q, c, rfl, -⟩ := slForm own
    have hs := SlI.ofOwns (p := q) (c := c) own
    obtain ⟨b, o, rfl, -⟩ := hs.at 0 (by simp)
    have k0 := hs.cells 0 (by simp)
    rw [Nat.add_zero] at k0
    simp only [List.getElem_cons_zero] at k0
    have F1 := Lib.hid f1
    have hl1 : ∀ n : Nat, [n].length = 1 := fun _ => rfl
    clear f1 own hs HG
    go_wp2_with fail
    go_ret
    exact ⟨rfl, F1.out⟩
theorem get_pack {n : Nat} (hn : n < 4294967296) (r : List Nat) : getS (pat sPack) ((enc 4 478450452 ++ enc 4 n) ++ r) = .ok ([478450452, n], 8) := by
  have h := getS_putS (pat sPack) [478450452, n] (enc 4 478450452 ++ enc 4 n) r (fun x hx => by simp at hx; omega) (put_pack hn)
  rw [List.length_append, enc4_len, enc4_len] at h
  exact h
theorem packB_len (T : List Nat) : (packB T).length = 8 + (wrap9 (zbst T) T).length := by
  unfold packB
  rw [List.length_append, List.length_append, enc4_len, enc4_len]
theorem packB_drop (T : List Nat) : (packB T).drop 8 = wrap9 (zbst T) T := by
  unfold packB
  rw [List.drop_append_of_le_length (by rw [List.length_append, enc4_len, enc4_len]; exact Nat.le_refl _), List.drop_of_length_le (by rw [List.length_append, enc4_len, enc4_len]; exact Nat.le_refl _), List.nil_append]
theorem wrap_small (T : List Nat) (h8 : ∀ x ∈ T, x < 256) (hT : T.length ≤ 40000) : (wrap9 (zbst T) T).length ≤ 400000 := by
  have h1 := bst_length T h8
  have h2 := wrap9_length (zbst T) T
  omega
theorem zopen_wrap (T : List Nat) (h8 : ∀ x ∈ T, x < 256) (hT : T.length ≤ 40000) : zopen (wrap9 (zbst T) T) 1048576 = .ok T 0 := by
  rw [wrap9_cons]
  exact zopen_yes (reads_bst T h8) 120 1 1048576 (by decide) (by omega)
theorem ofPacked_pack (T : List Nat) (t8 : ∀ x ∈ T, x < 256) (hT : T.length ≤ 40000) (p : Option Addr) (n d : Nat) (w : World) (hn : (packB T).length = n) (hl : SlI w .u8 p (packB T)) (hp : p = none → d = 0) (hd : n ≤ d) (hdm : d ≤ maxLen) :
    Calls Tryz.prog 41 #[.slice p n d] w fun e w' => HRdEnds (fun M => Is19 M T) w w' e := by
  have hPL := packB_len T
  have hWL := wrap_small T t8 hT
  have h8 := packB_256 T t8
  have hw6 := wrap9_length (zbst T) T
  have HG := Lib.hid (wget_any sPack p d (packB T) w (by decide) hl h8)
  rw [hn, show getS (pat sPack) (packB T) = .ok ([478450452, (wrap9 (zbst T) T).length], 8) from get_pack (by omega) _] at HG
  simp only [sPack] at HG
  obtain ⟨b, o, rfl, -⟩ := hl.at 0 (by omega)
  have HS := Lib.hid hl
  have HOP := Lib.hid (fun W (f : Fr S0 w W) => open_any (x := .ok T 0) (some ⟨b, o + 8, none⟩) (n - 8) (d - 8) 1048576 ((packB T).drop 8) W (by rw [List.length_drop, hn]) ((hl.fr0 f).drop 8) (fun x hx => h8 x (List.mem_of_mem_drop hx)) (by omega) (by omega) (by omega) (by decide) (by rw [packB_drop]; exact zopen_wrap T t8 hT))
  have HPL := Lib.hid (fun q c W (hs : SlI W .u8 q T) (hq : q = none → c = 0) (hc : T.length ≤ c) (hcm : c ≤ maxLen) => And.intro (ofPlain_any q T.length c T W rfl hs t8 hq hc hcm hT) (packed_any q T.length c T W rfl hs t8 hq hc (by omega)))
  have HEQ := Lib.hid (fun q c W (f : Fr S0 w W) (hs : SlI W .u8 q (packB T)) => equal_any q (some ⟨b, o, none⟩) (packB T).length n c d (packB T) (packB T) W rfl hn hs (hl.fr0 f) h8 h8)
  simp only [decide_true] at HEQ
  have hd8 : (8 : Int) ≤ (n : Int) := by omega
  have hd9 : ¬ d = 8 := by omega
  have hd10 : (8 : Int) ≤ (d : Int) := by omega
  clear hPL hWL hw6 hn hl hp hdm h8
  go_enter Tryz.func41, Tryz.ntmps41
  go_wp2_with fail
  refine HG.out.mono ?_
  rintro e w1 ⟨f1, v, rfl, own, -⟩
  obtain ⟨q, c, rfl, -⟩ := slForm own
  have F1 := Lib.hid f1
  clear f1 own HG
  go_wp2_with fail
  refine (hdemand_yes _).mono ?_
  rintro e w2 ⟨rfl, rfl⟩
  go_wp2_with fail
  refine (HOP.out _ F1.out).mono ?_
  rintro e w2 ⟨f2, v2, rfl, hr2⟩
  obtain ⟨q2, c2, rfl, hq2, hc2, hm2⟩ := slForm hr2.own
  have F2 := Lib.hid (F1.out.trans0 f2)
  have HS2 := Lib.hid (And.intro (show SlI w2 .u8 q2 T from SlI.ofOwns hr2.own) (And.intro hq2 (And.intro hc2 hm2)))
  clear f2 hr2 hq2 hc2 hm2 HOP
  go_wp2_with fail
  refine (hdemand_yes _).mono ?_
  rintro e w3 ⟨rfl, rfl⟩
  go_wp2_with fail
  refine (HPL.out _ _ _ HS2.out.1 HS2.out.2.1 HS2.out.2.2.1 HS2.out.2.2.2).1.mono ?_
  rintro e w3 ⟨f3, h3⟩
  have F3 := Lib.hid (F2.out.trans0 f3)
  rcases h3 with ⟨M, g, hm, rfl, hist, hpf, hg, hh⟩ | ⟨hno, rfl⟩
  · have HH := Lib.hid hist
    have HGG : Hid ((w.heap.size ≤ g ∧ w.heap.size ≤ hm) ∧ Is19 M T) := Lib.hid ⟨by have := F2.out.size; omega, hpf⟩
    have HPK := Lib.hid (HPL.out _ _ _ (HS2.out.1.fr0 f3) HS2.out.2.1 HS2.out.2.2.1 HS2.out.2.2.2).2
    clear hist hpf hg hh f3 HPL
    go_wp2_with fail
    refine HPK.out.mono ?_
    rintro e w4 ⟨q4, c4, rfl, hr4, f4⟩
    have F4 := Lib.hid (F3.out.trans0 f4)
    have HH4 := Lib.hid (HH.out.fr0 f4)
    have HE4 := Lib.hid (HEQ.out q4 c4 w4 F4.out (SlI.ofOwns hr4.own))
    clear f4 hr4 HPK HEQ
    go_wp2_with fail
    refine HE4.out.mono ?_
    rintro e w5 ⟨rfl, rfl⟩
    go_wp2_with fail
    refine (hdemand_yes _).mono ?_
    rintro e w6 ⟨rfl, rfl⟩
    go_wp2_with fail
    go_ret
    exact ⟨F4.out, .inl ⟨M, g, hm, rfl, HH4.out, HGG.out.2, HGG.out.1.1, HGG.out.1.2⟩⟩
  · exact ⟨rfl, F3.out, .inr ⟨hno, rfl⟩⟩
theorem ofPacked_bad (l : List Nat) (p : Option Addr) (n d : Nat) (w : World) (hn : l.length = n) (hl : SlI w .u8 p l) (h8 : ∀ x ∈ l, x < 256) (hd : n ≤ d) (hdm : d ≤ maxLen) (hL : n ≤ 1000000) (hd8 : 8 < d)
    (hbad : (∃ x, getS (pat sPack) l = .error x) ∨ ∃ ns m, getS (pat sPack) l = .ok (ns, 8) ∧ zopen (l.drop 8) 1048576 = .no m ∧ m ≠ 0) :
    Calls Tryz.prog 41 #[.slice p n d] w fun e w' => HRdEnds (fun _ => False) w w' e := by
  have HG := Lib.hid (wget_any sPack p d l w (by decide) hl h8)
  rw [hn] at HG
  have hno : ¬ ∃ M : Hm, False := fun ⟨_, h⟩ => h
  rcases hbad with ⟨x, hx⟩ | ⟨ns, m, hg, hz, hm0⟩
  · rw [hx] at HG
    have hx0 := getS_ne _ _ _ hx
    have e1 : ((x : Int) == 0) = false := by rw [beq_eq_false_iff_ne]; omega
    simp only [sPack] at HG
    clear hx hx0 hl h8 hdm hL hd8
    go_enter Tryz.func41, Tryz.ntmps41
    go_wp2_with fail
    refine HG.out.mono ?_
    rintro e w1 ⟨f1, h1⟩
    dsimp only at h1
    subst h1
    have F1 := Lib.hid f1
    clear f1 HG
    go_wp2_with fail
    refine (hdemand_no _).mono ?_
    rintro e w2 ⟨rfl, rfl⟩
    exact ⟨rfl, F1.out, .inr ⟨hno, rfl⟩⟩
  · rw [hg] at HG
    have h88 := (putS_getS _ _ _ _ h8 hg).1
    have HQ : Hid (∀ W, Fr S0 w W → ∃ q c, p = p ∧ q = q ∧ c = c) := Lib.hid fun W f => ⟨p, d, rfl, rfl, rfl⟩
    obtain ⟨b, o, rfl, -⟩ := hl.at 0 (by omega)
    have HOP := Lib.hid (fun W (f : Fr S0 w W) => open_any (x := .no m) (some ⟨b, o + 8, none⟩) (n - 8) (d - 8) 1048576 (l.drop 8) W (by rw [List.length_drop, hn]) ((hl.fr0 f).drop 8) (fun x hx => h8 x (List.mem_of_mem_drop hx)) (by omega) (by omega) (by omega) (by decide) hz)
    have e1 : ((m : Int) == 0) = false := by rw [beq_eq_false_iff_ne]; omega
    have hd9 : ¬ d = 8 := by omega
    have hd10 : (8 : Int) ≤ (d : Int) := by omega
    have hd11 : (8 : Int) ≤ (n : Int) := by omega
    simp only [sPack] at HG
    clear hz hg hl h8 hdm hL hd8 HQ h88 hm0
    go_enter Tryz.func41, Tryz.ntmps41
    go_wp2_with fail
    refine HG.out.mono ?_
    rintro e w1 ⟨f1, v, rfl, own, -⟩
    obtain ⟨q, c, rfl, -⟩ := slForm own
    have F1 := Lib.hid f1
    clear f1 own HG
    go_wp2_with fail
    refine (hdemand_yes _).mono ?_
    rintro e w2 ⟨rfl, rfl⟩
    go_wp2_with fail
    refine (HOP.out _ F1.out).mono ?_
    rintro e w2 ⟨f2, h2⟩
    dsimp only at h2
    subst h2
    have F2 := Lib.hid (F1.out.trans0 f2)
    clear f2 HOP
    go_wp2_with fail
    refine (hdemand_no _).mono ?_
    rintro e w3 ⟨rfl, rfl⟩
    exact ⟨rfl, F2.out, .inr ⟨hno, rfl⟩⟩
theorem hread_any (p : Option Addr) (n d : Nat) (l : List Nat) (w : World) (hn : l.length = n) (hl : SlI w .u8 p l) (h8 : ∀ x ∈ l, x < 256) (hp : p = none → d = 0) (hd : n ≤ d) (hdm : d ≤ maxLen) (hL : n ≤ 40000) :
    Calls Tryz.prog 19 #[.slice p n d] w fun e w' => TdEnds (fun M => Is19 M l) w w' e := by
  have HT := Lib.hid (told_any 40 (fun args w => by kernel_rfl) (fun M => Is19 M l) p n d w fun W f => (ofPlain_any p n d l W hn (hl.fr0 f) h8 hp hd hdm hL).mono fun e w' h => h)
  clear hn hl h8 hp hd hdm hL
  go_enter Tryz.func19, Tryz.ntmps19
  go_wp2_with fail
  refine HT.out.mono ?_
  rintro e w1 ⟨f1, h1⟩
  have F1 := Lib.hid f1
  rcases h1 with ⟨M, g, hm, rfl, hh⟩ | ⟨hno, rfl⟩
  · have HH := Lib.hid hh
    clear f1 hh HT
    go_wp2_with fail
    go_ret2
    exact ⟨F1.out, .inl ⟨M, g, hm, rfl, HH.out⟩⟩
  · have HH := Lib.hid hno
    clear f1 hno HT
    go_wp2_with fail
    go_ret2
    exact ⟨F1.out, .inr ⟨HH.out, rfl⟩⟩
theorem hopen_any (Pf : Hm → Prop) (p : Option Addr) (n d : Nat) (w : World) (h : ∀ W, Fr S0 w W → Calls Tryz.prog 41 #[.slice p n d] W fun e w' => HRdEnds Pf W w' e) :
    Calls Tryz.prog 20 #[.slice p n d] w fun e w' => TdEnds Pf w w' e := by
  have HT := Lib.hid (told_any 41 (fun args w => by kernel_rfl) Pf p n d w h)
  clear h
  go_enter Tryz.func20, Tryz.ntmps20
  go_wp2_with fail
  refine HT.out.mono ?_
  rintro e w1 ⟨f1, h1⟩
  have F1 := Lib.hid f1
  rcases h1 with ⟨M, g, hm, rfl, hh⟩ | ⟨hno, rfl⟩
  · have HH := Lib.hid hh
    clear f1 hh HT
    go_wp2_with fail
    go_ret2
    exact ⟨F1.out, .inl ⟨M, g, hm, rfl, HH.out⟩⟩
  · have HH := Lib.hid hno
    clear f1 hno HT
    go_wp2_with fail
    go_ret2
    exact ⟨F1.out, .inr ⟨HH.out, rfl⟩⟩
end Go.Proofs.YtnndgpggjlhhpaaGreat

namespace Go.Proofs.YtnndgpggjlhhpaaGreat
open Go.RowKit Go.ChangeMaps
theorem wshape_any (a d y : Nat) : ∃ L H D : Nat, (0 < L ∧ 2 * L ≤ H ∧ H < 9223372036854775808) ∧ (1 ≤ D ∧ D ≤ 5) ∧ unt L + mag D ≤ 62 ∧
    ∀ w, Calls Tryz.prog 9 #[.int .u64 (a : Nat), .int .u8 (d : Nat), .int .u64 (y : Nat)] w fun e w' => e = .returned (.agg #[.int .i64 (L : Nat), .int .i64 (H : Nat), .int .i64 (D : Nat)]) ∧ Fr S0 w w' := by
  obtain ⟨A, hA⟩ : ∃ A, a % 100000 = A := ⟨_, rfl⟩
  obtain ⟨E, hE⟩ : ∃ E, d % 5 = E := ⟨_, rfl⟩
  obtain ⟨Y, hY⟩ : ∃ Y, y % 4611686018427387904 = Y := ⟨_, rfl⟩
  have e1 : (a : Int) % 100000 = (A : Int) := by omega
  have e2 : (d : Int) % 5 = (E : Int) := by omega
  have e6 : (y : Int) % 4611686018427387904 = (Y : Int) := by omega
  obtain ⟨L, hL⟩ : ∃ L, 1 + A = L := ⟨_, rfl⟩
  obtain ⟨D, hD⟩ : ∃ D, 1 + E = D := ⟨_, rfl⟩
  have e3 : 1 + (A : Int) = (L : Int) := by omega
  have e4 : 1 + (E : Int) = (D : Int) := by omega
  obtain ⟨H0, hH0⟩ : ∃ H, 2 * L = H := ⟨_, rfl⟩
  obtain ⟨H, hH⟩ : ∃ H, H0 + Y = H := ⟨_, rfl⟩
  have e5 : 2 * (L : Int) = (H0 : Int) := by omega
  have e7 : (H0 : Int) + (Y : Int) = (H : Int) := by omega
  have hA2 : A ≤ 99999 := by omega
  have hE2 : E ≤ 4 := by omega
  have hL2 : L ≤ 100000 := by omega
  have hD2 : D ≤ 5 := by omega
  have hH2 : H0 ≤ 200000 := by omega
  have hY2 : Y ≤ 4611686018427387903 := by omega
  have hH3 : H ≤ 4611686018427587903 := by omega
  have hu : unt L ≤ 16 := by
    have := (bits_iff L 17 (by omega)).2 (by omega)
    rw [unt]; omega
  have hm := mag_bd D (by omega) (by omega)
  refine ⟨L, H, D, ⟨by omega, by omega, by omega⟩, ⟨by omega, by omega⟩, by omega, fun w => ?_⟩
  clear hA hE hL hD hH hu hm hY hH0
  go_enter Tryz.func9, Tryz.ntmps9
  go_wp2_with fail
  exact bodyPost_ret (v := .agg #[.int .i64 (L : Nat), .int .i64 (H : Nat), .int .i64 (D : Nat)]) (by simp [results, Tryz.results9, go_sem]) rfl ⟨rfl, (Fr.alloc _ _ _).trans0 (Fr.alloc _ _ _)⟩
def ZI (w : World) (p : Option Addr) (vs : List Int) : Prop := ∀ i, (h : i < vs.length) → ∃ b o, p = some ⟨b, o, none⟩ ∧ w.cell? ⟨b, o + i, none⟩ = some (.int .i64 vs[i])
theorem ZI.fr0 {w w' : World} {p : Option Addr} {vs : List Int} (h : ZI w p vs) (f : Fr S0 w w') : ZI w' p vs := fun i hi => let ⟨b, o, e, hc⟩ := h i hi; ⟨b, o, e, f.cell hc (fun h => h)⟩
def wt19 (ns : List Nat) (i : Nat) : Nat := if h : i < ns.length then (1 + ns[i] % 1000) * 2 ^ (ns[i] % 40) else 1
def recs19 (M : Hm) (vs : List Int) (ns : List Nat) : Nat → Hm
  | 0 => M
  | i + 1 => (recs19 M vs ns i).record (vs.getD i 0) (wt19 ns i)
theorem recs19_own {L H D : Nat} {gr : Bool} (d1 : 1 ≤ D) (d5 : D ≤ 5) (l0 : 0 < L) (lh : 2 * L ≤ H) (hh : H < 9223372036854775808) (hs : unt L + mag D ≤ 62) (vs : List Int) (ns : List Nat) (hv : ∀ v ∈ vs, v ≤ 9223372036854775807) : ∀ i, i ≤ vs.length →
    (recs19 (Hm.new L H D gr) vs ns i).Good ∧ Own (recs19 (Hm.new L H D gr) vs ns i) L H D gr ∧ (recs19 (Hm.new L H D gr) vs ns i).l.length ≤ i
  | 0, _ => ⟨Hm.new_good L H D gr d1 d5 l0 lh hh hs, Own.new L H D gr, Nat.le_refl _⟩
  | i + 1, hi => by
    obtain ⟨h1, h2, h3⟩ := recs19_own d1 d5 l0 lh hh hs vs ns hv i (by omega)
    have hvi : vs.getD i 0 ≤ 9223372036854775807 := by
      rw [List.getD_eq_getElem?_getD, List.getElem?_eq_getElem (by omega)]
      exact hv _ (List.getElem_mem _)
    have h4 := record_len (recs19 (Hm.new L H D gr) vs ns i) (vs.getD i 0) (wt19 ns i)
    rw [recs19]
    exact ⟨h1.record _ _ (by omega), h2.record h1 _ _ (by omega), by omega⟩
theorem recorded19_any (L H D : Nat) (gr : Bool) (p : Option Addr) (m c : Nat) (vs : List Int) (q : Option Addr) (k c2 : Nat) (ns : List Nat) (w : World) (d1 : 1 ≤ D) (d5 : D ≤ 5) (l0 : 0 < L) (lh : 2 * L ≤ H) (hh : H < 9223372036854775808) (hs : unt L + mag D ≤ 62)
    (hm : vs.length = m) (hz : ZI w p vs) (hvb : ∀ v ∈ vs, -9223372036854775808 ≤ v ∧ v ≤ 9223372036854775807) (hk : ns.length = k) (hq : SlI w .u32 q ns) (hnb : ∀ n ∈ ns, n < 4294967296) :
    Calls Tryz.prog 10 #[.agg #[.int .i64 (L : Nat), .int .i64 (H : Nat), .int .i64 (D : Nat)], .bool gr, .slice p m c, .slice q k c2] w fun e w' => ∃ x h, e = .returned (.pointer (some ⟨x, 0, none⟩)) ∧ HistIs w' x h (recs19 (Hm.new L H D gr) vs ns (min m 40)) ∧ w.heap.size ≤ x ∧ w.heap.size ≤ h ∧ Fr S0 w w' := by
  have HN := Lib.hid (fun W => xnew_yes L H D gr W d1 d5 l0 lh hh hs)
  obtain ⟨N, eN⟩ : ∃ N, Hm.new L H D gr = N := ⟨_, rfl⟩
  rw [eN] at HN ⊢
  have HZ := Lib.hid hz
  have HQS := Lib.hid hq
  have HM := Lib.hid hm
  have HK := Lib.hid hk
  have HVB := Lib.hid hvb
  have HNB := Lib.hid hnb
  have HBOX := Lib.hid (box3a w (.int .i64 (L : Nat)) (.int .i64 (H : Nat)) (.int .i64 (D : Nat)) 27)
  clear d1 d5 l0 lh hh hs hm hz hvb hk hq hnb eN
  go_enter Tryz.func10, Tryz.ntmps10
  go_wp2_with fail
  refine (HN.out _).mono ?_
  rintro e w1 ⟨x, h, rfl, s1, z1, z2, f1⟩
  have F1 := Lib.hid ((Fr.alloc S0 w _).trans0 f1)
  have HX := Lib.hid s1
  have HZ2 : Hid (w.heap.size ≤ x ∧ w.heap.size ≤ h) := Lib.hid (by rw [size_alloc] at z1 z2; omega)
  clear s1 z1 z2 f1 HN HBOX
  go_wp2_with fail
  go_loopw [11] (fun z wr => ∃ i : Nat, z = .int .i64 (i : Int) ∧ i ≤ m ∧ i ≤ 40 ∧ Hid (HistIs wr x h (recs19 N vs ns i) ∧ Fr S0 w wr)) (fun z _ => 40 - (intOf z).toNat)
  case atStart => exact ⟨0, rfl, by omega, by omega, Lib.hid ⟨HX.out, F1.out⟩⟩
  case round =>
    obtain ⟨i, rfl, him, hi40, HI⟩ := hrel
    by_cases hik : i < m
    · by_cases hi4 : (i : Int) < 40
      · have hil : i < vs.length := by rw [HM.out]; exact hik
        obtain ⟨b, o, rfl, k0⟩ := (HZ.out.fr0 HI.out.2) i hil
        have hvi := HVB.out _ (List.getElem_mem hil)
        have hgd : vs.getD i 0 = vs[i] := by simp [hil]
        obtain ⟨v, ev⟩ : ∃ v, vs[i] = v := ⟨_, rfl⟩
        rw [ev] at k0 hvi hgd
        have HNX : Hid (∀ W, HistIs W x h ((recs19 N vs ns i).record v (wt19 ns i)) → HistIs W x h (recs19 N vs ns (i + 1))) := Lib.hid (fun W q => by rw [recs19, hgd]; exact q)
        have HWV : Hid ((h : i < ns.length) → wt19 ns i = (1 + ns[i] % 1000) * 2 ^ (ns[i] % 40)) := Lib.hid (fun h => by unfold wt19; rw [dif_pos h])
        have HWN : Hid (¬ i < ns.length → wt19 ns i = 1) := Lib.hid (fun h => by unfold wt19; rw [dif_neg h])
        obtain ⟨Y, eY⟩ : ∃ Y, wt19 ns i = Y := ⟨_, rfl⟩
        rw [eY] at HNX HWV HWN
        obtain ⟨M, eM⟩ : ∃ M, recs19 N vs ns i = M := ⟨_, rfl⟩
        rw [eM] at HI HNX
        have HRC := Lib.hid (fun (hY : Y < 18446744073709551616) W (f : Fr S0 wr W) => xrecord_any x h M W (HI.out.1.fr0 f) v Y hvi.1 hvi.2 hY)
        have HFX : Hid (∀ W, Fr (fun k => k = x ∨ k = h) wr W → Fr S0 w W) := Lib.hid (fun W f => HI.out.2.trans f fun k hk q => by have := HZ2.out; rcases q with rfl | rfl <;> omega)
        have hin : (i : Int) < (m : Int) := by omega
        clear hgd hvi ev eY eM
        by_cases hw : i < k
        · have hil2 : i < ns.length := by rw [HK.out]; exact hw
          obtain ⟨b2, o2, rfl, k2⟩ := SlI.at HQS.out i hil2
          have k3 := HI.out.2.cell k2 (fun h => h)
          have hyv := HWV.out hil2
          have hnb := HNB.out _ (List.getElem_mem hil2)
          obtain ⟨V, eV⟩ : ∃ V, ns[i] = V := ⟨_, rfl⟩
          rw [eV] at k3 hyv hnb
          obtain ⟨R, eR⟩ : ∃ R, V % 1000 = R := ⟨_, rfl⟩
          have eR2 : (V : Int) % 1000 = (R : Int) := by omega
          have eR3 : (V : Int).tmod 1000 = (R : Int) := by rw [Int.tmod_eq_emod_of_nonneg (by omega)]; exact eR2
          have hR : R < 1000 := by omega
          obtain ⟨S, eS⟩ : ∃ S, V % 40 = S := ⟨_, rfl⟩
          have eS2 : (V : Int) % 40 = (S : Int) := by omega
          have eS3 : (V : Int).tmod 40 = (S : Int) := by rw [Int.tmod_eq_emod_of_nonneg (by omega)]; exact eS2
          have hS : S < 40 := by omega
          rw [eR, eS] at hyv
          obtain ⟨T, eT⟩ : ∃ T, 1 + R = T := ⟨_, rfl⟩
          have eT2 : 1 + (R : Int) = (T : Int) := by omega
          rw [eT] at hyv
          have hT : T ≤ 1000 := by omega
          have hY : Y < 18446744073709551616 := by
            rw [hyv]
            calc T * 2 ^ S ≤ 1000 * 2 ^ 39 := Nat.mul_le_mul hT (Nat.pow_le_pow_right (by omega) (by omega))
              _ < 18446744073709551616 := by decide
          obtain ⟨P, eP⟩ : ∃ P : Nat, 2 ^ S = P := ⟨_, rfl⟩
          have eP2 : (2 : Int) ^ S = (P : Int) := by rw [← eP]; simp
          have eY2 : (T : Int) * (P : Int) = (Y : Int) := by rw [hyv, eP]; simp
          have HR2 := Lib.hid (HRC.out hY)
          clear k2 eV eR eS eT hyv hil2 HWV HWN HRC eP
          go_wp2_with fail
          go_quiet (fail)
          go_wp2_with fail
          refine (HR2.out _ (Fr.drewN S0 wr _)).mono ?_
          rintro _ w5 ⟨rfl, q5, f5⟩
          have H5 : Hid (HistIs w5 x h (recs19 N vs ns (i + 1)) ∧ Fr S0 w w5) := Lib.hid ⟨HNX.out _ q5, HFX.out _ ((Fr.drewN _ wr _).trans f5 fun k _ q => q)⟩
          clear q5 f5
          go_wp2_with fail
          go_roundw
          case rel => exact ⟨i + 1, by go_num, by omega, by omega, H5⟩
          case measure => simp [intOf]; omega
        · have hil2 : ¬ i < ns.length := by rw [HK.out]; exact hw
          obtain rfl := HWN.out hil2
          have HR2 := Lib.hid (HRC.out (by decide))
          clear HWV HWN HRC
          have e1 : ((1 : Nat) : Int) = 1 := rfl
          rw [e1] at HR2
          clear e1
          have dk : decide ((i : Int) < (k : Int)) = false := decide_eq_false (by omega)
          have dk2 : decide (i < k) = false := decide_eq_false hw
          go_wp2_with fail
          refine (HR2.out _ (by first | exact Fr.refl S0 _ | exact Fr.drew S0 wr)).mono ?_
          rintro _ w5 ⟨rfl, q5, f5⟩
          have H5 : Hid (HistIs w5 x h (recs19 N vs ns (i + 1)) ∧ Fr S0 w w5) := Lib.hid ⟨HNX.out _ q5, HFX.out _ f5⟩
          clear q5 f5
          go_wp2_with fail
          go_roundw
          case rel => exact ⟨i + 1, by go_num, by omega, by omega, H5⟩
          case measure => simp [intOf]; omega
      · have dg : decide ((i : Int) < 40) = false := decide_eq_false hi4
        go_wp2_with fail
        go_ret
        refine ⟨x, rfl, h, ?_, HZ2.out.1, HZ2.out.2, HI.out.2⟩
        rw [show min m 40 = i by omega]
        exact HI.out.1
    · have dg : decide (i < m) = false := decide_eq_false hik
      go_wp2_with fail
      go_ret
      refine ⟨x, h, rfl, ?_, HZ2.out.1, HZ2.out.2, HI.out.2⟩
      rw [show min m 40 = i by omega]
      exact HI.out.1
end Go.Proofs.YtnndgpggjlhhpaaGreat

namespace Go.Proofs.YtnndgpggjlhhpaaGreat
open Go.RowKit Go.ChangeMaps
def exX : Hm := Hm.new 1 2000 3 false
def exX1 : Hm := exX.record 2 3
def exP0 : List Nat := [28, 132, 147, 19, 0, 0, 0, 1, 0, 0, 0, 0, 0, 0, 0, 3, 0, 0, 0, 0, 0, 0, 0, 1, 0, 0, 0, 0, 0, 0, 7, 208, 63, 240, 0, 0, 0, 0, 0, 0, 0]
def exP1 : List Nat := [28, 132, 147, 19, 0, 0, 0, 2, 0, 0, 0, 0, 0, 0, 0, 3, 0, 0, 0, 0, 0, 0, 0, 1, 0, 0, 0, 0, 0, 0, 7, 208, 63, 240, 0, 0, 0, 0, 0, 0, 3, 6]
theorem ex_c1 : exX.check 2 3 = 0 := by kernel_rfl
theorem ex_p0 : plainB exX = exP0 := by kernel_rfl
theorem ex_p1 : plainB exX1 = exP1 := by kernel_rfl
theorem ex_t1 : ltot exX1.l = 3 := by kernel_rfl
theorem ex_good : exX.Good := Hm.new_good 1 2000 3 false (by decide) (by decide) (by decide) (by decide) (by decide) (by decide)
theorem ex_is : Is19 exX1 exP1 := ⟨ex_good.record 2 3 (by decide), (Own.new 1 2000 3 false).record ex_good 2 3 (by decide), ex_p1⟩
theorem ex_l1 : exX1.l.length ≤ 40000 := by rw [show exX1.l.length = 1 by kernel_rfl]; decide
theorem ex_new (W : World) : Calls Tryz.prog 26 #[.agg #[.int .i64 1, .int .i64 2000, .int .i64 3], .bool false] W fun e w' => ∃ g hm, e = .returned (.tuple #[.pointer (some ⟨g, 0, none⟩), .int .i64 0]) ∧ HistIs w' g hm exX ∧ W.heap.size ≤ g ∧ W.heap.size ≤ hm ∧ Fr S0 W w' :=
  xnew_yes 1 2000 3 false W (by decide) (by decide) (by decide) (by decide) (by decide) (by decide)
theorem ex_rec {g h : Nat} {W : World} (s : HistIs W g h exX) :
    Calls Tryz.prog 27 #[.pointer (some ⟨g, 0, none⟩), .int .i64 2, .int .u64 3] W fun e w' => e = .returned (.int .i64 0) ∧ HistIs w' g h exX1 ∧ Fr (fun k => k = g ∨ k = h) W w' := by
  have := xrecord_any g h exX W s 2 3 (by decide) (by decide) (by decide)
  rwa [ex_c1] at this
theorem ex_write {g h : Nat} {M : Hm} {W : World} {l : List Nat} {n : Nat} (s : HistIs W g h M) (hl : M.l.length ≤ 40000) (hp : plainB M = l) (hn : l.length = n) : Calls Tryz.prog 14 #[.pointer (some ⟨g, 0, none⟩)] W fun e w' => ∃ q d, e = .returned (.tuple #[.slice q n d, .int .i64 0]) ∧ (w'.ownsRow 0 5 1 (.slice q n d) n (u8s l) ∧ Fresh W (.slice q n d)) ∧ Fr S0 W w' := by
  have := write_any g h M W s hl
  rw [hp, hn] at this
  exact this.mono fun e w' ⟨q, d, h1, h2, h3⟩ => ⟨q, d, h1, ⟨by have := h2.own; rwa [hn] at this, h2.fresh⟩, h3⟩
theorem read_own {q : Option Addr} {n d : Nat} {l : List Nat} {M : Hm} {W : World} (hn : l.length = n) (own : W.ownsRow 0 5 1 (.slice q n d) n (u8s l)) (h8 : ∀ x ∈ l, x < 256) (hL : n ≤ 40000) (h : Is19 M l) :
    Calls Tryz.prog 19 #[.slice q n d] W fun e w' => ∃ g hm, e = .returned (.tuple #[.pointer (some ⟨g, 0, none⟩), .int .i64 0]) ∧ HistIs w' g hm M ∧ W.heap.size ≤ g ∧ W.heap.size ≤ hm ∧ Fr S0 W w' := by
  obtain ⟨p, c, e, h0, h1, h2⟩ := slForm own
  simp only [Value.slice.injEq, true_and] at e
  obtain ⟨rfl, rfl⟩ := e
  refine (hread_any q n d l W hn (SlI.ofOwns own) h8 (by first | exact h0 | exact h1) h1 h2 hL).mono ?_
  rintro e w' ⟨f, ⟨M', g, hm, rfl, s, hi, a, b⟩ | ⟨hno, rfl⟩⟩
  · obtain rfl := hi.uniq h (by omega)
    exact ⟨g, hm, rfl, s, a, b, f⟩
  · exact absurd ⟨M, h⟩ hno
theorem own_some {w : World} {q : Option Addr} {n d : Nat} {l : List Nat} (h : w.ownsRow 0 5 1 (.slice q n d) n (u8s l)) (h0 : n ≠ 0) : ∃ g, q = some ⟨g, 0, none⟩ ∧ SlI w .u8 (some ⟨g, 0, none⟩) l ∧ n ≤ d ∧ d ≤ maxLen := by
  have hs := SlI.ofOwns h
  obtain ⟨p, c, e, -, h1, h2⟩ := slForm h
  simp only [Value.slice.injEq, true_and] at e
  obtain ⟨rfl, rfl⟩ := e
  rcases h.2 with ⟨e, e0⟩ | ⟨g, cap, cur, e, _⟩
  · exact absurd e0 h0
  · simp only [Value.slice.injEq, true_and] at e
    obtain ⟨rfl, rfl⟩ := e
    exact ⟨g, rfl, hs, h1, h2⟩
theorem alive19_any (w : World) : Calls Tryz.prog 8 #[] w fun e w' => e = .returned (.bool true) ∧ Fr S0 w w' := by
  have HN := Lib.hid ex_new
  go_enter Tryz.func8, Tryz.ntmps8
  go_wp2_with fail
  refine (HN.out _).mono ?_
  rintro e w1 ⟨gx, hx, rfl, s1, h1, h2, f1⟩
  have HX1 := Lib.hid s1
  have HF1 : Hid (Fr S0 w w1) := Lib.hid f1
  have HA : Hid (w.heap.size ≤ gx ∧ w.heap.size ≤ hx) := Lib.hid ⟨h1, h2⟩
  have HW1 := Lib.hid (ex_write s1 (by decide) ex_p0 (n := 41) rfl)
  clear s1 h1 h2 f1
  go_wp2_with fail
  refine HW1.out.mono ?_
  rintro e w2 ⟨qa, da, rfl, ⟨ra, fa⟩, f2⟩
  have HFA := Lib.hid fa
  have HRA := Lib.hid ra
  have HF2 := Lib.hid f2
  have HR := Lib.hid (ex_rec (HX1.out.fr0 f2))
  clear ra fa f2 HW1
  go_wp2_with fail
  refine HR.out.mono ?_
  rintro e w3 ⟨rfl, s3, f3⟩
  have HX3 := Lib.hid s3
  have HF3 := Lib.hid f3
  have HW2 := Lib.hid (ex_write s3 ex_l1 ex_p1 (n := 42) rfl)
  clear s3 f3 HR
  go_wp2_with fail
  refine HW2.out.mono ?_
  rintro e w4 ⟨qb, db, rfl, ⟨rb, -⟩, f4⟩
  have HRB := Lib.hid rb
  have HF4 := Lib.hid f4
  have HRD := Lib.hid (read_own (M := exX1) (n := 42) rfl rb (by decide) (by decide) ex_is)
  clear rb f4 HW2
  go_wp2_with fail
  refine HRD.out.mono ?_
  rintro e w5 ⟨gy, hy, rfl, s5, h5, k5, f5⟩
  have HY := Lib.hid s5
  have HF5 := Lib.hid f5
  obtain ⟨ga, rfl, sa, da1, da2⟩ := own_some HRA.out (by decide)
  obtain ⟨gb, rfl, sb, db1, db2⟩ := own_some HRB.out (by decide)
  have sa5 := (sa.fr HF3.out (fun _ a ha e => by
    have h1 := HFA.out ga rfl
    have h2 := HX1.out.lt
    have h3 := HX1.out.mp.lt
    obtain rfl := Option.some.inj ha
    simp only at e
    omega)).fr0 (HF4.out.trans0 f5)
  have sb5 := sb.fr0 f5
  have ca : w5.cell? ⟨ga, 40, none⟩ = some (.int .u8 0) := by have h := sa5.cells 40 (by decide); rw [Nat.zero_add] at h; exact h
  have cva : ∀ c, (convert 31 9 (.slice (some ⟨ga, 0, none⟩) 4 c)).run Tryz.prog w5 = .ok (.string { data := #[28, 132, 147, 19] }) w5 := fun c => conv_sl sa5 4 c (by decide)
  have cvb : ∀ c, (convert 31 9 (.slice (some ⟨gb, 40, none⟩) 2 c)).run Tryz.prog w5 = .ok (.string { data := #[3, 6] }) w5 := fun c => by
    have h := conv_sl (sb5.drop 40) 2 c (by decide)
    rw [Nat.zero_add] at h
    exact h
  have HKD := Lib.hid (fun W (f : Fr S0 w5 W) => show Calls Tryz.prog 18 #[.slice (some ⟨gb, 0, none⟩) 42 db] W fun e w' => e = .returned (.int .i64 1) ∧ Fr S0 W w' from hkind_any 478450451 (.inl rfl) (exP1.drop 4) _ 42 db exP1 W (by decide) rfl (sb5.fr0 f) (by decide))
  have HTO := Lib.hid (fun W (f : Fr S0 w5 W) => show Calls Tryz.prog 23 #[.pointer (some ⟨gy, 0, none⟩)] W fun e w' => e = .returned (.int .u64 3) ∧ Fr S0 W w' from by
    have h := xtotal_any gy hy exX1 W (HY.out.fr0 f)
    rwa [ex_t1] at h)
  clear s5 f5 HRD sa sb sa5 sb5
  go_wp2_with fail
  refine (HTO.out _ (Fr.refl _ _)).mono ?_
  rintro e w6 ⟨rfl, f6⟩
  have HF6 := Lib.hid f6
  clear f6
  go_wp2_with fail
  refine (HKD.out _ HF6.out).mono ?_
  rintro e w7 ⟨rfl, f7⟩
  have HF7 : Hid (Fr S0 w w7) := Lib.hid (((((HF1.out.trans0 HF2.out).trans HF3.out fun k hk e => by have := HA.out; omega).trans0 (HF4.out.trans0 HF5.out)).trans0 HF6.out).trans0 f7)
  clear f7
  go_wp2_with fail
  go_ret
  exact ⟨rfl, HF7.out⟩
end Go.Proofs.YtnndgpggjlhhpaaGreat

namespace Go.Proofs.YtnndgpggjlhhpaaGreat
open Go.RowKit Go.ChangeMaps
theorem recs19_is {L H D : Nat} {gr : Bool} (d1 : 1 ≤ D) (d5 : D ≤ 5) (l0 : 0 < L) (lh : 2 * L ≤ H) (hh : H < 9223372036854775808) (hs : unt L + mag D ≤ 62) (vs : List Int) (ns : List Nat) (hv : ∀ v ∈ vs, -9223372036854775808 ≤ v ∧ v ≤ 9223372036854775807) {m : Nat} (hm : vs.length = m) :
    ∃ M : Hm, recs19 (Hm.new L H D gr) vs ns (min m 40) = M ∧ M.Good ∧ Own M L H D gr ∧ M.l.length ≤ 40 := by
  obtain ⟨h1, h2, h3⟩ := recs19_own (gr := gr) d1 d5 l0 lh hh hs vs ns (fun v h => (hv v h).2) (min m 40) (by omega)
  exact ⟨_, rfl, h1, h2, by omega⟩
theorem plain_len40 {M : Hm} (hl : M.l.length ≤ 40) : (plainB M).length ≤ 850 := by
  rw [plainB_len]
  have h1 := encs_le (nums M.l)
  have h2 := (nums_len M.l).2
  omega
section
variable (a d y : Nat) (gr : Bool) (p : Option Addr) (m c : Nat) (vs : List Int) (q : Option Addr) (k c2 : Nat) (ns : List Nat) (w : World)
end
end Go.Proofs.YtnndgpggjlhhpaaGreat

namespace Go.Proofs.YtnndgpggjlhhpaaGreat
open Go.RowKit Go.ChangeMaps
def BadP (l : List Nat) : Prop := (∃ x, getS (pat sPack) l = .error x) ∨ ∃ ns m, getS (pat sPack) l = .ok (ns, 8) ∧ zopen (l.drop 8) 1048576 = .no m ∧ m ≠ 0
theorem bad_of {n : Nat} (hn : n < 4294967296) {r : List Nat} {m : Nat} (hz : zopen r 1048576 = .no m) (hm : m ≠ 0) : BadP ((enc 4 478450452 ++ enc 4 n) ++ r) := by
  refine .inr ⟨_, m, get_pack hn r, ?_, hm⟩
  rw [List.drop_left' (by rw [List.length_append, enc4_len, enc4_len])]
  exact hz
theorem wrap_lt (T : List Nat) (h8 : ∀ x ∈ T, x < 256) (hT : T.length ≤ 40000) : (wrap9 (zbst T) T).length < 4294967296 := by
  have := wrap_small T h8 hT
  omega
theorem torn_cut {T : List Nat} (h8 : ∀ x ∈ T, x < 256) (hT : T.length ≤ 40000) (C : Nat) (hC : C < (packB T).length) : BadP ((packB T).take C) := by
  have hw := wrap_lt T h8 hT
  rw [packB_len] at hC
  have hl8 : (enc 4 478450452 ++ enc 4 (wrap9 (zbst T) T).length).length = 8 := by rw [List.length_append, enc4_len, enc4_len]
  by_cases h : C < 8
  · refine .inl ⟨20, ?_⟩
    have h2 := getS_cut (pat sPack) [478450452, (wrap9 (zbst T) T).length] _ C (fun x hx => by simp at hx; omega) (put_pack hw) (by rw [hl8]; exact h)
    unfold packB
    rw [List.take_append_of_le_length (by rw [hl8]; omega)]
    exact h2
  · have e : (packB T).take C = (enc 4 478450452 ++ enc 4 (wrap9 (zbst T) T).length) ++ (wrap9 (zbst T) T).take (C - 8) := by
      unfold packB
      rw [List.take_append, hl8, List.take_of_length_le (by rw [hl8]; omega)]
    rw [e]
    refine bad_of hw (m := 20) ?_ (by decide)
    have h3 := wrap9_length (zbst T) T
    exact zopen_cut (reads_bst T h8) 1048576 (C - 8) (by omega) (by omega)
theorem torn_more {T : List Nat} (h8 : ∀ x ∈ T, x < 256) (hT : T.length ≤ 40000) (z : Nat) : BadP (packB T ++ [z]) := by
  have hw := wrap_lt T h8 hT
  unfold packB
  rw [List.append_assoc]
  refine bad_of hw (m := 92) ?_ (by decide)
  rw [wrap9_cons]
  have := zopen_more (reads_bst T h8) 120 1 1048576 z (by decide) (by omega)
  simpa [List.append_assoc] using this
theorem set_ne19 {l : List Nat} {i x : Nat} (h : l[i]? ≠ some x) (hi : i < l.length) : l.set i x ≠ l := by
  intro e
  have : (l.set i x)[i]? = some x := by rw [List.getElem?_set_self hi]
  rw [e] at this
  exact h this
theorem torn_last {T : List Nat} (h8 : ∀ x ∈ T, x < 256) (hT : T.length ≤ 40000) (K X : Nat) (hK : K + 1 = (packB T).length) (hne : (packB T)[K]? ≠ some X) : BadP ((packB T).set K X) := by
  have hw := wrap_lt T h8 hT
  have hl8 : (enc 4 478450452 ++ enc 4 (wrap9 (zbst T) T).length).length = 8 := by rw [List.length_append, enc4_len, enc4_len]
  have hwl := wrap9_length (zbst T) T
  rw [packB_len, hwl] at hK
  have hs : (packB T).set K X = (enc 4 478450452 ++ enc 4 (wrap9 (zbst T) T).length) ++ (120 :: 1 :: (zbst T ++ (sum4 T).set 3 X)) := by
    unfold packB
    rw [List.set_append_right _ _ (by rw [hl8]; omega), hl8]
    congr 1
    rw [wrap9_cons, show K - 8 = (zbst T).length + 3 + 1 + 1 by omega, List.set_cons_succ, List.set_cons_succ, List.set_append_right _ _ (by omega)]
    congr 3
    simp
  have hg : (packB T)[K]? = (sum4 T)[3]? := by
    unfold packB
    rw [List.getElem?_append_right (by rw [hl8]; omega), hl8, wrap9_cons, show K - 8 = (zbst T).length + 3 + 1 + 1 by omega, List.getElem?_cons_succ, List.getElem?_cons_succ, List.getElem?_append_right (by omega)]
    congr 1
    omega
  rw [hg] at hne
  rw [hs]
  exact bad_of hw (zopen_sum (reads_bst T h8) 120 1 1048576 _ (by rw [List.length_set]; rfl) (set_ne19 hne (by rw [sum4_length]; omega)) (by decide) (by omega)) (by decide)
theorem open_bad19 {l : List Nat} (hb : BadP l) (p : Option Addr) (n d : Nat) (W : World) (hn : l.length = n) (hl : SlI W .u8 p l) (h8 : ∀ x ∈ l, x < 256) (hd : n ≤ d) (hdm : d ≤ maxLen) (hL : n ≤ 1000000) (hd8 : 8 < d) :
    Calls Tryz.prog 20 #[.slice p n d] W fun e w' => e = .returned (.tuple #[.pointer none, .int .i64 9]) ∧ Fr S0 W w' :=
  (hopen_any (fun _ => False) p n d W fun W2 f => ofPacked_bad l p n d W2 hn (hl.fr0 f) h8 hd hdm hL hd8 hb).mono fun e w' ⟨f, h⟩ => by
    rcases h with ⟨M, g, hm, -, -, hF, -⟩ | ⟨-, he⟩
    · exact hF.elim
    · exact ⟨he, f⟩
end Go.Proofs.YtnndgpggjlhhpaaGreat

namespace Go.Proofs.YtnndgpggjlhhpaaGreat
open Go.RowKit Go.ChangeMaps
section
variable (a d : Nat) (p : Option Addr) (m c : Nat) (vs : List Int) (cut : Int) (bt : Nat) (w : World)
theorem law_torn (hm : vs.length = m) (hz : ZI w p vs) (hvb : ∀ v ∈ vs, -9223372036854775808 ≤ v ∧ v ≤ 9223372036854775807) (hbt : bt < 256) :
    Calls Tryz.prog 7 #[.int .u64 (a : Nat), .int .u8 (d : Nat), .slice p m c, .int .i64 cut, .int .u8 (bt : Nat)] w fun e w' => e = .returned (.bool true) ∧ Fr S0 w w' := by
  have HA := Lib.hid (alive19_any w)
  obtain ⟨L, H, D, ⟨l0, lh, hh⟩, ⟨d1, d5⟩, hs, hsh⟩ := wshape_any a d 5000
  have HSH := Lib.hid hsh
  have HR := Lib.hid (fun W (f : Fr S0 w W) => recorded19_any L H D true p m c vs none 0 0 [] W d1 d5 l0 lh hh hs hm (hz.fr0 f) hvb rfl (SlI.nil _ _ _) (fun n h => by cases h))
  obtain ⟨M, eM, hg, ho, hl⟩ := recs19_is (gr := true) d1 d5 l0 lh hh hs vs [] hvb hm
  rw [eM] at HR
  have HPL := Lib.hid (And.intro (plain_len40 hl) (plainB_256 M))
  have HLL := Lib.hid hl
  clear hsh l0 lh hh hm hz hvb eM hs d1 d5 ho
  go_enter Tryz.func7, Tryz.ntmps7
  go_wp2_with fail
  refine HA.out.mono ?_
  rintro e w1 ⟨rfl, f1⟩
  have F1 := Lib.hid f1
  clear f1 HA
  go_wp2_with fail
  refine (HSH.out _).mono ?_
  rintro e w2 ⟨rfl, f2⟩
  have F2 := Lib.hid (F1.out.trans0 f2)
  clear f2 F1 HSH
  go_wp2_with fail
  refine (HR.out _ F2.out).mono ?_
  rintro e w3 ⟨x, h, rfl, s3, -, -, f3⟩
  have F3 := Lib.hid (F2.out.trans0 f3)
  have HPK := Lib.hid (fun W (f : Fr S0 w3 W) => pack19_any x h M W (s3.fr0 f) (by have := HLL.out; omega))
  obtain ⟨P, eP⟩ : ∃ P, plainB M = P := ⟨_, rfl⟩
  rw [eP] at HPL HPK
  have hw := wrap_small P HPL.out.2 (by have := HPL.out.1; omega)
  have hpl := packB_len P
  have HB8 := Lib.hid (packB_256 P HPL.out.2)
  have h9 := wrap9_length (zbst P) P
  have HBL : Hid (9 ≤ (packB P).length ∧ (packB P).length ≤ 400008) := Lib.hid (by omega)
  clear hw hpl h9
  have HCUT := Lib.hid (fun C hC => torn_cut HPL.out.2 (by have := HPL.out.1; omega) C hC)
  have HMORE := Lib.hid (fun z => torn_more HPL.out.2 (by have := HPL.out.1; omega) z)
  have HLAST := Lib.hid (fun K X hK hne => torn_last HPL.out.2 (by have := HPL.out.1; omega) K X hK hne)
  have HOPEN := Lib.hid (fun (q : Option Addr) (n d : Nat) (W : World) (hn : (packB P).length = n) (hs : SlI W .u8 q (packB P)) (h0 : q = none → d = 0) (h1 : n ≤ d) (h2 : d ≤ maxLen) => hopen_any (fun M => Is19 M P) q n d W fun W3 f => ofPacked_pack P HPL.out.2 (by have := HPL.out.1; omega) q n d W3 hn (hs.fr0 f) h0 h1 h2)
  obtain ⟨B, hB⟩ : ∃ B, packB P = B := ⟨_, rfl⟩
  rw [hB] at HB8 HBL HCUT HMORE HLAST HOPEN HPK
  clear s3 f3 F2 HR hl hg eP hB HLL HPL
  go_wp2_with fail
  refine (HPK.out _ (Fr.refl S0 w3)).mono ?_
  rintro _ w4 ⟨qb, db, rfl, rb, f4⟩
  obtain ⟨N, hN⟩ : ∃ n, B.length = n := ⟨_, rfl⟩
  have hrb := rb.own
  rw [hN] at HBL HCUT HLAST HOPEN hrb ⊢
  have HN := Lib.hid hN
  have FN := Lib.hid (F3.out.trans0 f4)
  have HB := Lib.hid hrb
  clear rb f4 HPK hrb hN F3
  obtain ⟨gb, rfl, -, hbd, hbm⟩ := own_some HB.out (by have := HBL.out.1; omega)
  have SR : Hid (SrcIs (w4.alloc (.cells #[] 5)) (.slice (some ⟨gb, 0, none⟩) N db) N (u8s B)) := Lib.hid ((SrcIs.ofOwns HB.out).fr (Fr.alloc S0 w4 _) (fun _ _ h => h))
  have HRM : Hid (Room N ∧ Room (N + 1)) := Lib.hid (by have := HBL.out.2; exact ⟨Room.mk (by omega), Room.mk (by omega)⟩)
  obtain ⟨K, hK⟩ : ∃ K, K + 1 = N := ⟨N - 1, by have := HBL.out.1; omega⟩
  have e1 : (N : Int) - 1 = (K : Int) := by omega
  have jK : K < 400008 := by have := HBL.out.2; omega
  have jKN : (K : Int) < (N : Int) := by omega
  obtain ⟨v, hv⟩ : ∃ v, B[K]'(by rw [HN.out]; omega) = v := ⟨_, rfl⟩
  have hv8 : v < 256 := by rw [← hv]; exact HB8.out _ (List.getElem_mem _)
  obtain ⟨X, hX⟩ : ∃ X, v ^^^ bt = X := ⟨_, rfl⟩
  have hx : bits .xor .u8 (v : Int) (bt : Int) = ((X : Nat) : Int) := by rw [← hX]; exact u8_xor_nat _ _ hv8 hbt
  have hX8 : X < 256 := by rw [← hX]; exact Nat.xor_lt_two_pow (n := 8) hv8 hbt
  have HKN := Lib.hid hK
  have HV := Lib.hid (show B[K]? = some v by rw [List.getElem?_eq_getElem (by rw [HN.out]; omega), hv])
  have HXV := Lib.hid hX
  have HCV := Lib.hid (fun (W : World) (gg : Nat) (h : SlI W .u8 (some ⟨gg, 0, none⟩) B) => show W.cell? ⟨gg, K, none⟩ = some (.int .u8 (v : Nat)) from by
    have hc := h.cells K (by rw [HN.out]; omega)
    rwa [hv, Nat.zero_add] at hc)
  clear hK hv hX
  go_wp2_with (first
    | ((with_reducible show wpList _ _ _ (Oper.mk (some 37) _ _ _ _ _ :: _) _ _); refine app_many el8 (.tmp 35) (.tmp 36) (own_none w4 _) SR.out (Nat.zero_add _) rfl rfl rfl rfl (one8s _) HRM.out.1 ?_; intro p5 c5 w5 own5 g5 at5; (have G5 : Hid (RowG w4 w5 (.slice p5 N c5) N B) := Lib.hid ⟨by rw [List.nil_append] at own5; exact own5, fr_made (Fr.refl S0 w4) g5, fresh_many (fresh_made (n := 0) (c := 0) (Fr.refl S0 w4)) (size_le (Fr.refl S0 w4)) at5⟩); clear own5 g5 at5 SR; (obtain ⟨gc, hgc, -, hcd, hcm⟩ := own_some G5.out.own (by have := HBL.out.1; omega)); subst hgc; (have hcell := HCV.out w5 gc (SlI.ofOwns G5.out.own)); (have hfro := G5.out.own.frozenAt K))
    | fail)
  have HO6 : Hid (∃ w6, w5.setCell ⟨gc, K, none⟩ (.int .u8 (X : Nat)) = w6 ∧ Fr S0 w4 w6 ∧ Calls Tryz.prog 20 #[.slice (some ⟨gc, 0, none⟩) N c5] w6 fun e w' => ∃ yy E, e = .returned (.tuple #[.pointer yy, .int .i64 E]) ∧ (bt ≠ 0 → yy = none ∧ E = 9) ∧ Fr S0 w6 w') := Lib.hid (by
    obtain ⟨ho, hgr⟩ := G5.out.own.stored K (.int .u8 (X : Nat))
    have h6 := G5.out.fr.append hgr G5.out.fresh
    have hs6 : SlI (w5.setCell ⟨gc, K, none⟩ (.int .u8 (X : Nat))) .u8 (some ⟨gc, 0, none⟩) (B.set K X) := SlI.ofOwns (n := N) (c := c5) (by
      have e : (B.set K X).map (fun (x : Nat) => Value.int .u8 (x : Int)) = (u8s B).set K (.int .u8 (X : Nat)) := by unfold u8s; rw [List.map_set]
      rw [e]; exact ho)
    refine ⟨_, rfl, h6, ?_⟩
    by_cases h0 : bt = 0
    · have hset : B.set K X = B := by
        have h1 := HXV.out
        rw [h0, Nat.xor_zero] at h1
        obtain ⟨hk, h2⟩ := List.getElem?_eq_some_iff.1 HV.out
        rw [← h1, ← h2]
        exact List.set_getElem_self hk
      rw [hset] at hs6
      refine (HOPEN.out (some ⟨gc, 0, none⟩) N c5 _ rfl hs6 (fun h => by cases h) hcd hcm).mono ?_
      rintro e w' ⟨f, ⟨M', g, hm, rfl, -, -, -, -⟩ | ⟨-, rfl⟩⟩
      · exact ⟨_, _, rfl, fun h => absurd h0 h, f⟩
      · exact ⟨_, _, rfl, fun h => absurd h0 h, f⟩
    · have hne : B[K]? ≠ some X := by
        rw [HV.out, ← HXV.out]
        intro e
        have h1 : v = v ^^^ bt := Option.some.inj e
        have h2 : v ^^^ v = v ^^^ (v ^^^ bt) := by rw [← h1]
        rw [← Nat.xor_assoc, Nat.xor_self, Nat.zero_xor] at h2
        exact h0 h2.symm
      exact (open_bad19 (HLAST.out K X HKN.out hne) (some ⟨gc, 0, none⟩) N c5 _ (by rw [List.length_set, HN.out]) hs6 (fun y hy => (List.mem_or_eq_of_mem_set hy).elim (HB8.out y) (fun e => e ▸ hX8)) hcd hcm (by have := HBL.out.2; omega) (by have := HBL.out.1; omega)).mono fun e w' ⟨h1, h2⟩ => ⟨_, _, h1, fun _ => ⟨rfl, rfl⟩, h2⟩)
  obtain ⟨w6, e6, F6, hcall⟩ := HO6.out
  rw [e6]
  have F46 := Lib.hid F6
  have HCALL := Lib.hid hcall
  clear HO6 e6 F6 hcall hcell hfro G5 hx hX8 hv8 HV HXV HCV HLAST HOPEN e1 jK jKN HKN
  refine HCALL.out.mono ?_
  rintro e w7 ⟨yy, E, rfl, hy, f7⟩
  have F47 := Lib.hid (F46.out.trans0 f7)
  have HB7 := Lib.hid (F47.out.owns HB.out (fun _ _ h => h))
  have HFN := Lib.hid (FN.out.trans0 F47.out)
  have SR : Hid (SrcIs (w7.alloc (.cells #[] 5)) (.slice (some ⟨gb, 0, none⟩) N db) N (u8s B)) := Lib.hid ((SrcIs.ofOwns HB7.out).fr (Fr.alloc S0 w7 _) (fun _ _ h => h))
  clear f7 HCALL F46 F47 HB FN
  by_cases h0 : bt = 0
  · subst h0
    clear hy
    go_wp2_with (first
      | ((with_reducible show wpList _ _ _ (Oper.mk (some 69) _ _ _ _ _ :: _) _ _); refine app_many el8 (.tmp 67) (.tmp 68) (own_none w7 _) SR.out (Nat.zero_add _) rfl rfl rfl rfl (one8s _) HRM.out.1 ?_; intro p8 c8 w8 own8 g8 at8; (have G8 : Hid (RowG w7 w8 (.slice p8 N c8) N B) := Lib.hid ⟨by rw [List.nil_append] at own8; exact own8, fr_made (Fr.refl S0 w7) g8, fresh_many (fresh_made (n := 0) (c := 0) (Fr.refl S0 w7)) (size_le (Fr.refl S0 w7)) at8⟩); clear own8 g8 at8 SR)
      | ((with_reducible show wpList _ _ _ (Oper.mk (some 72) _ _ _ _ _ :: _) _ _); refine app_one el8 (.tmp 69) (.tmp 71) rfl G8.out.own rfl rfl rfl rfl rfl (by intro u hu; simp at hu; subst hu; rfl) HRM.out.2 ?_; intro g9 c9 w9 own9 gr9 at9 lt9; (have G9 : Hid (w9.ownsRow 0 5 1 (.slice (some ⟨g9, 0, none⟩) (N + 1) c9) (N + 1) (u8s (B ++ [0])) ∧ Fr S0 w7 w9) := Lib.hid ⟨by rw [← u8s_append]; exact own9, (G8.out.fr.trans0 (Fr.alloc _ _ _)).append gr9 G8.out.fresh⟩); clear own9 gr9 at9 lt9 G8)
      | fail)
    obtain ⟨gz, hgz, hs9, h91, h92⟩ := own_some G9.out.1 (by omega)
    have e9 : g9 = gz := by simpa using hgz
    subst e9
    refine (open_bad19 (HMORE.out 0) (some ⟨g9, 0, none⟩) (N + 1) c9 w9 (by rw [List.length_append, HN.out]; rfl) hs9 (fun y hy => by rcases List.mem_append.1 hy with h | h; exact HB8.out y h; simp at h; omega) h91 h92 (by have := HBL.out.2; omega) (by have := HBL.out.1; omega)).mono ?_
    rintro e wx ⟨rfl, fx⟩
    have FX := Lib.hid (G9.out.2.trans0 fx)
    have HFX := Lib.hid (HFN.out.trans0 FX.out)
    have HBX := Lib.hid (FX.out.owns HB7.out (fun _ _ h => h))
    clear fx hgz hs9 h91 h92 G9 FX
    by_cases hcu : 0 ≤ cut ∧ cut < (N : Int)
    · obtain ⟨C, rfl⟩ : ∃ C : Nat, cut = C := ⟨cut.toNat, by omega⟩
      obtain ⟨-, hcu2⟩ := hcu
      have hcd2 : (C : Int) ≤ (db : Int) := by omega
      have hcn : ¬ (N : Int) ≤ (C : Int) := by omega
      have HOB := Lib.hid (open_bad19 (HCUT.out C (by omega)) (some ⟨gb, 0, none⟩) C db wx (by rw [List.length_take, HN.out]; omega) ((SlI.ofOwns HBX.out).take C) (fun y hy => HB8.out y (List.mem_of_mem_take hy)) (by omega) hbm (by have := HBL.out.2; omega) (by have := HBL.out.1; omega))
      go_wp2_with fail
      refine HOB.out.mono ?_
      rintro e wy ⟨rfl, fy⟩
      have FY := Lib.hid (HFX.out.trans0 fy)
      clear fy HOB
      go_wp2_with fail
      go_ret
      exact ⟨rfl, FY.out⟩
    · by_cases hneg : cut < 0
      · have dneg : decide (cut < 0) = true := decide_eq_true hneg
        go_wp2_with fail
        go_ret
        exact ⟨rfl, HFX.out⟩
      · have dneg : decide (cut < 0) = false := decide_eq_false hneg
        have dge : decide ((N : Int) ≤ cut) = true := decide_eq_true (by omega)
        have dge2 : decide (cut ≥ (N : Int)) = true := decide_eq_true (by omega)
        go_wp2_with fail
        go_ret
        exact ⟨rfl, HFX.out⟩
  · obtain ⟨rfl, rfl⟩ := hy h0
    have z1 : ((bt : Int) == 0) = false := by rw [beq_eq_false_iff_ne]; omega
    have z2 : ((bt : Int) != 0) = true := by rw [bne_iff_ne]; omega
    clear hy
    go_wp2_with (first
      | ((with_reducible show wpList _ _ _ (Oper.mk (some 69) _ _ _ _ _ :: _) _ _); refine app_many el8 (.tmp 67) (.tmp 68) (own_none w7 _) SR.out (Nat.zero_add _) rfl rfl rfl rfl (one8s _) HRM.out.1 ?_; intro p8 c8 w8 own8 g8 at8; (have G8 : Hid (RowG w7 w8 (.slice p8 N c8) N B) := Lib.hid ⟨by rw [List.nil_append] at own8; exact own8, fr_made (Fr.refl S0 w7) g8, fresh_many (fresh_made (n := 0) (c := 0) (Fr.refl S0 w7)) (size_le (Fr.refl S0 w7)) at8⟩); clear own8 g8 at8 SR)
      | ((with_reducible show wpList _ _ _ (Oper.mk (some 72) _ _ _ _ _ :: _) _ _); refine app_one el8 (.tmp 69) (.tmp 71) rfl G8.out.own rfl rfl rfl rfl rfl (by intro u hu; simp at hu; subst hu; rfl) HRM.out.2 ?_; intro g9 c9 w9 own9 gr9 at9 lt9; (have G9 : Hid (w9.ownsRow 0 5 1 (.slice (some ⟨g9, 0, none⟩) (N + 1) c9) (N + 1) (u8s (B ++ [bt])) ∧ Fr S0 w7 w9) := Lib.hid ⟨by rw [← u8s_append]; exact own9, (G8.out.fr.trans0 (Fr.alloc _ _ _)).append gr9 G8.out.fresh⟩); clear own9 gr9 at9 lt9 G8)
      | fail)
    obtain ⟨gz, hgz, hs9, h91, h92⟩ := own_some G9.out.1 (by omega)
    have e9 : g9 = gz := by simpa using hgz
    subst e9
    refine (open_bad19 (HMORE.out bt) (some ⟨g9, 0, none⟩) (N + 1) c9 w9 (by rw [List.length_append, HN.out]; rfl) hs9 (fun y hy => by rcases List.mem_append.1 hy with h | h; exact HB8.out y h; simp at h; omega) h91 h92 (by have := HBL.out.2; omega) (by have := HBL.out.1; omega)).mono ?_
    rintro e wx ⟨rfl, fx⟩
    have FX := Lib.hid (G9.out.2.trans0 fx)
    have HFX := Lib.hid (HFN.out.trans0 FX.out)
    have HBX := Lib.hid (FX.out.owns HB7.out (fun _ _ h => h))
    clear fx hgz hs9 h91 h92 G9 FX
    by_cases hcu : 0 ≤ cut ∧ cut < (N : Int)
    · obtain ⟨C, rfl⟩ : ∃ C : Nat, cut = C := ⟨cut.toNat, by omega⟩
      obtain ⟨-, hcu2⟩ := hcu
      have hcd2 : (C : Int) ≤ (db : Int) := by omega
      have hcn : ¬ (N : Int) ≤ (C : Int) := by omega
      have HOB := Lib.hid (open_bad19 (HCUT.out C (by omega)) (some ⟨gb, 0, none⟩) C db wx (by rw [List.length_take, HN.out]; omega) ((SlI.ofOwns HBX.out).take C) (fun y hy => HB8.out y (List.mem_of_mem_take hy)) (by omega) hbm (by have := HBL.out.2; omega) (by have := HBL.out.1; omega))
      go_wp2_with fail
      refine HOB.out.mono ?_
      rintro e wy ⟨rfl, fy⟩
      have FY := Lib.hid (HFX.out.trans0 fy)
      clear fy HOB
      go_wp2_with fail
      go_ret
      exact ⟨rfl, FY.out⟩
    · by_cases hneg : cut < 0
      · have dneg : decide (cut < 0) = true := decide_eq_true hneg
        go_wp2_with fail
        go_ret
        exact ⟨rfl, HFX.out⟩
      · have dneg : decide (cut < 0) = false := decide_eq_false hneg
        have dge : decide ((N : Int) ≤ cut) = true := decide_eq_true (by omega)
        have dge2 : decide (cut ≥ (N : Int)) = true := decide_eq_true (by omega)
        go_wp2_with fail
        go_ret
        exact ⟨rfl, HFX.out⟩
end
end Go.Proofs.YtnndgpggjlhhpaaGreat
