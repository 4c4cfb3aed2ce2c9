/- SpSort -/
import Derived.Test.YtaemgflhgdlmiaaGreatPw1
import Derived.Test.YtaemgflhgdlmiaaGreatPw2
import Derived.Test.YtaemgflhgdlmiaaGreatPw4
import Derived.Test.YtaemgflhgdlmiaaGreatPw5
import Derived.Test.YtaemgflhgdlmiaaGreatPw6
import Derived.Test.YtaemgflhgdlmiaaGreatPw7
import Derived.Test.YtaemgflhgdlmiaaGreatPw8
import Derived.Test.YtaemgflhgdlmiaaGreatPw17
import Derived.Test.YtaemgflhgdlmiaaGreatPw22
import Derived.Shelf.SlSortCmp.WholeK
import Derived.Test.YtaemgflhgdlmiaaGreatRows
import Derived.BigRegion
import Derived.Deep.RegionLaw
import Derived.Laws.OwnMore
import Derived.Maps.AppendAt
import Derived.Lib.SliceRun
import Derived.StillTailTactics
import Derived.WalkKit
import Derived.WalkSpells
import Derived.WalkLawsBesides
import Derived.Deep.QuietTactic
import Derived.BigQuiet
import Derived.RegionTactic
import Derived.Deep.AppendLies
import Derived.Laws.ResultCell
import Derived.Laws.EntriesVeiled
import Derived.Lib.Hide
import Derived.Laws.BytesArg
import Derived.Lib.SlBytesConst
import Derived.Laws.AppendOwnNone
set_option maxRecDepth 100000
set_option maxHeartbeats 8000000
namespace Go.Proofs.YtaemgflhgdlmiaaGreat
open Go.Shelf Go.RowKit Go.Lib Go.Sort
def cmpP (x y : Pr) : Int := if x.1 < y.1 then -1 else if y.1 < x.1 then 1 else 0
def encP (x : Pr) : List Value := [.int .i64 x.1, .int .u64 (x.2 : Int)]
theorem ltP (x y : Pr) : ltOf cmpP x y = decide (x.1 < y.1) := by
  unfold ltOf cmpP
  by_cases h1 : x.1 < y.1
  · simp [h1]
  · by_cases h2 : y.1 < x.1 <;> simp [h1, h2]
theorem swoP : SWO (ltOf cmpP) where
  irrefl x := by rw [ltP]; simp
  trans x y z h1 h2 := by rw [ltP] at *; simp at *; omega
  ntrans x y z h1 h2 := by rw [ltP] at *; simp at *; omega
theorem isNaN_any (x : Int) (w : World) : Calls Tryz.prog 162 #[.int .i64 x] w fun e w' => e = .returned (.bool false) ∧ w' = w := by
  go_enter Tryz.func162, Tryz.ntmps162
  go_wp2_with fail
  go_ret
  exact ⟨rfl, rfl⟩
theorem compare_any (x y : Int) (w : World) : Calls Tryz.prog 151 #[.int .i64 x, .int .i64 y] w fun e w' => e = .returned (.int .i64 (if x < y then -1 else if y < x then 1 else 0)) ∧ w' = w := by
  have H1 := Lib.hid (isNaN_any x w)
  have H2 := Lib.hid (isNaN_any y w)
  by_cases h : x < y
  · rw [if_pos h]
    go_enter Tryz.func151, Tryz.ntmps151
    go_wp2_with fail
    refine H1.out.mono ?_
    rintro e w1 ⟨rfl, rfl⟩
    go_wp2_with fail
    refine H2.out.mono ?_
    rintro e w2 ⟨rfl, rfl⟩
    go_wp2_with fail
    go_ret
    exact ⟨rfl, rfl⟩
  · rw [if_neg h]
    by_cases h2 : y < x
    · rw [if_pos h2]
      go_enter Tryz.func151, Tryz.ntmps151
      go_wp2_with fail
      refine H1.out.mono ?_
      rintro e w1 ⟨rfl, rfl⟩
      go_wp2_with fail
      refine H2.out.mono ?_
      rintro e w2 ⟨rfl, rfl⟩
      go_wp2_with fail
      go_ret
      exact ⟨rfl, rfl⟩
    · rw [if_neg h2]
      go_enter Tryz.func151, Tryz.ntmps151
      go_wp2_with fail
      refine H1.out.mono ?_
      rintro e w1 ⟨rfl, rfl⟩
      go_wp2_with fail
      refine H2.out.mono ?_
      rintro e w2 ⟨rfl, rfl⟩
      go_wp2_with fail
      go_ret
      exact ⟨rfl, rfl⟩
theorem closure_any (x y : Pr) (w : World) : Calls Tryz.prog 150 #[.agg #[.int .i64 x.1, .int .u64 (x.2 : Int)], .agg #[.int .i64 y.1, .int .u64 (y.2 : Int)]] w fun e w' => e = .returned (.int .i64 (cmpP x y)) ∧ ∃ q os', w' = grow (w.drewN q) os' := by
  have hcon := fun W => compare_any x.1 y.1 W
  change ∀ W, Calls Tryz.prog 151 _ W fun e w' => e = .returned (.int .i64 (cmpP x y)) ∧ w' = W at hcon
  generalize cmpP x y = r at hcon ⊢
  go_enter Tryz.func150, Tryz.ntmps150
  go_wp2_with fail
  refine (hcon _).mono ?_
  rintro e w' ⟨rfl, rfl⟩
  go_wp2_with fail
  go_ret
  exact ⟨rfl, 0, _, by rw [alloc_eq_grow, alloc_eq_grow, grow_grow]; rfl⟩
theorem lays_any (blk off size : Nat) (w : World) : CmpLays Tryz.prog 150 #[] encP 2 cmpP blk off size w :=
  fun _ _ _ _ x y => closure_any x y _
theorem lays_frame (w : World) (blk n : Nat) (d : Array Pr) (os : Array Obj) : Fr (· = blk) w (sortWorldK encP 2 w blk 0 n d os) := by
  refine ⟨rfl, rfl, rfl, ?_, fun k hk hne => ?_⟩
  · show w.heap.size ≤ (grow _ os).heap.size
    rw [size_grow]
    simp [putRowK, putRow, mapBlock, Go.Sort.ahead]
  · have hsz : (putRowK encP 2 (Go.Sort.ahead w n) blk 0 d).heap.size = w.heap.size := by simp [putRowK, putRow, mapBlock, Go.Sort.ahead]
    show (grow (putRowK encP 2 (Go.Sort.ahead w n) blk 0 d) os).heap[k]? = _
    rw [heap_grow_old _ _ (by rw [hsz]; exact hk)]
    have hne' : ¬ blk = k := fun e => hne e.symm
    simp [putRowK, putRow, mapBlock, Go.Sort.ahead, Array.getElem?_modify, hne']
theorem holds_own {w : World} {g n c : Nat} {l : List Pr} (own : w.ownsRow 0 67 2 (.slice (some ⟨g, 0, none⟩) n c) n (prs l)) (hn : l.length = n) : HoldsK encP 2 w g 0 l.toArray := by
  intro t ht
  rw [size_flatK, List.size_toArray] at ht
  rw [get_flatK _ _ _ _ (by rw [List.size_toArray]; exact ht)]
  have hi : t / 2 < l.length := by omega
  have hc := own.cellAt t (by omega)
  have hz := own.frozenAt t
  obtain ⟨h1, h2⟩ := prs_at l (t / 2) hi
  have hg : l.toArray[t / 2]! = l[t / 2] := by rw [getElem!_pos _ _ (by simpa using hi)]; simp
  rw [hg, Nat.zero_add]
  refine ⟨?_, hz⟩
  rw [hc]
  rcases (by omega : t = t / 2 * 2 ∨ t = t / 2 * 2 + 1) with e | e
  · have e2 : t % 2 = 0 := by omega
    rw [e2]
    rw [← e] at h1
    exact h1
  · have e2 : t % 2 = 1 := by omega
    rw [e2]
    rw [← e] at h2
    exact h2
theorem pri_holds {w : World} {g : Nat} {d : Array Pr} (h : HoldsK encP 2 w g 0 d) (hm : d.size ≤ 1000000) : PrI w (some ⟨g, 0, none⟩) d.toList := by
  refine ⟨by unfold maxLen; simp; omega, fun _ => ⟨g, 0, rfl, fun i hi => ?_⟩⟩
  have hi' : i < d.size := by simpa using hi
  have hg : d[i]! = d.toList[i] := by rw [getElem!_pos d i hi']; simp
  have h0 := (h.cell hi' (show 0 < 2 by decide)).1
  have h1 := (h.cell hi' (show 1 < 2 by decide)).1
  rw [hg] at h0 h1
  exact ⟨h0, h1⟩
theorem ins_none (f : Value) (w : World) : Calls Tryz.prog 165 #[.slice none 0 0, .int .i64 0, .int .i64 0, f] w fun e w' => e = .returned (.tuple #[]) ∧ w' = w := by
  go_enter Tryz.func165, Tryz.ntmps165
  go_wp2_with fail
  go_loopw [8] (fun x wr => x = .int .i64 1 ∧ w = wr) (fun _ _ => 0)
  case atStart => exact ⟨rfl, rfl⟩
  case round =>
    obtain ⟨rfl, hw⟩ := hrel
    obtain rfl := hw
    go_wp2_with fail
    go_end0
    exact ⟨rfl, rfl⟩
theorem pdq_none (k : Int) (f : Value) (w : World) : Calls Tryz.prog 160 #[.slice none 0 0, .int .i64 0, .int .i64 0, .int .i64 k, f] w fun e w' => e = .returned (.tuple #[]) ∧ w' = w := by
  have HI := Lib.hid (ins_none f w)
  go_enter Tryz.func160, Tryz.ntmps160
  go_wp2_with fail
  go_loopw [1, 2, 3, 10, 11, 12] (fun a b _ _ _ _ wr => a = .int .i64 0 ∧ b = .int .i64 0 ∧ w = wr) (fun _ _ _ _ _ _ _ => 0)
  case atStart => exact ⟨rfl, rfl, rfl⟩
  case round =>
    obtain ⟨rfl, rfl, hw⟩ := hrel
    obtain rfl := hw
    go_wp2_with fail
    refine HI.out.mono ?_
    rintro e w1 ⟨rfl, rfl⟩
    go_wp2_with fail
    refine bodyPost_ret (results_none rfl _ _ _) rfl ?_
    exact ⟨rfl, rfl⟩
theorem sort_none (f : Value) (w : World) : Calls Tryz.prog 149 #[.slice none 0 0, f] w fun e w' => e = .returned (.tuple #[]) ∧ w' = w := by
  have HP := Lib.hid (fun k => pdq_none k f w)
  have HL := Lib.hid (show Calls Tryz.prog 161 #[.int .u64 0] w fun e w' => e = .returned (.int .i64 (Lib.bitLen 0 : Nat)) ∧ w' = w from Any.bits_Len (SlLaysF0.n15.bits (P := Tryz.prog) (ρ := laysSort_ren) { laysSort with }) 0 w (by decide) (by decide))
  go_enter Tryz.func149, Tryz.ntmps149
  go_wp2_with fail
  refine HL.out.mono ?_
  rintro e w1 ⟨rfl, rfl⟩
  go_wp2_with fail
  refine (HP.out _).mono ?_
  rintro e w2 ⟨rfl, rfl⟩
  go_wp2_with fail
  go_end0
  exact ⟨rfl, rfl⟩
theorem Acc.base {w w1 wr : World} {v : Value} {N : Nat} {L : List Pr} (h : Acc w1 wr v N L) (f : Fr S0 w w1) : Acc w wr v N L := ⟨h.own, fun g hg => Nat.le_trans f.size (h.fresh g hg), f.trans0 h.fr⟩
theorem sort_any (w w1 : World) (q : Option Addr) (n d : Nat) (l : List Pr) (h : PrsNew w w1 q d n l) (hn : n ≤ 1000000) :
    Calls Tryz.prog 149 #[.slice q n d, .func (.func 150) #[] #[]] w1 fun e w' => e = .returned (.tuple #[]) ∧ ∃ l', l'.Perm l ∧ (∀ i j, (hj : j < l'.length) → (hi : i < j) → (l'[i]'(by omega)).1 ≤ l'[j].1) ∧ PrI w' q l' ∧ Fr S0 w w' := by
  rcases h.own.2 with ⟨hv, h0⟩ | ⟨g, cap, cur, hv, -, hg, -⟩
  · obtain ⟨rfl, rfl, rfl⟩ := Value.slice.inj hv
    have hl : l = [] := List.eq_nil_of_length_eq_zero h.len
    subst hl
    refine (sort_none _ w1).mono fun e w' he => ⟨he.1, [], List.Perm.refl _, fun i j hj => absurd hj (by simp), PrI.nil _ _, by rw [he.2]; exact h.fr⟩
  · obtain ⟨rfl, -, rfl⟩ := Value.slice.inj hv
    have hgl := (Array.getElem?_eq_some_iff.1 hg).1
    have hsz : l.toArray.size = n := by rw [List.size_toArray]; exact h.len
    have eg : ∀ args w, (callFunc 150 args).run Tryz.prog w = .ok (.enter 150 args) w := fun _ _ => by kernel_rfl
    have hcon := AnyQ.slices_SortFunc laysSort 2 Tryz.isAgg67 Tryz.sizeOf67 encP (fun _ => rfl) (fun x v hv => by simp [encP] at hv; rcases hv with rfl | rfl <;> rfl) cmpP swoP 150 #[] g 0 d l.toArray w1 eg (lays_any g 0 _ w1) (holds_own h.own h.len) hgl (by rw [hsz]; omega)
    rw [hsz] at hcon
    refine hcon.mono fun e w' he => ?_
    obtain ⟨he, d', m, os, hp, hs, rfl⟩ := he
    have hp1 : d'.size = n := hp.1.trans hsz
    have hperm : d'.toList.Perm l := by
      have := hp.2.2
      have e1 : d'.extract 0 n = d' := by rw [← hp1]; exact Array.extract_size
      have e2 : l.toArray.extract 0 n = l.toArray := by rw [← hsz]; exact Array.extract_size
      rwa [e1, e2] at this
    refine ⟨he, d'.toList, hperm, fun i j hj hi => ?_, ?_, ?_⟩
    · have hj' : j < n := by rw [Array.length_toList] at hj; omega
      have := hs i j (Nat.zero_le _) hi (by rw [hsz] at *; omega)
      rw [ltP, getElem!_pos _ j (by omega), getElem!_pos _ i (by omega)] at this
      simp at this
      simpa using this
    · have hh : HoldsK encP 2 (sortWorldK encP 2 w1 g 0 m d' os) g 0 d' := holdsK_grow encP 2 _ os g 0 d' (by simp [putRowK, putRow, mapBlock, Go.Sort.ahead]; exact hgl) (holdsK_putRowK encP 2 _ g 0 l.toArray d' (holds_own h.own h.len) hp.1)
      exact pri_holds hh (by omega)
    · exact h.fr.trans (lays_frame w1 g m d' os) fun j hj e => by have := h.fresh _ rfl; simp only at this; omega
theorem sorted_any (p : Option Addr) (n c : Nat) (l : List Pr) (w : World) (h : PrI w p l) (hn : l.length = n) (hm : n ≤ 1000000) (hc : p = none → c = 0) (hp : Pos l) (ht : ltot l < 18446744073709551616) :
    Calls Tryz.prog 133 #[.slice p n c] w fun e w' => ∃ v N, e = .returned v ∧ Acc w w' v N (lputs [] l) := by
  have HCL := Lib.hid (clone_any p n c l w h hn (by omega) hc)
  have HHP := Lib.hid hp
  have HHT := Lib.hid ht
  have HHN := Lib.hid hn
  clear h hn hc hp ht
  go_enter Tryz.func133, Tryz.ntmps133
  go_wp2_with fail
  refine HCL.out.mono ?_
  rintro e w1 ⟨q, d, rfl, hq⟩
  have HSO := Lib.hid (sort_any w w1 q n d l hq hm)
  clear hq HCL
  go_wp2_with fail
  refine HSO.out.mono ?_
  rintro e w2 ⟨rfl, l', hperm, hsrt, hpri, f2⟩
  have HPE := Lib.hid hperm
  have HSR := Lib.hid hsrt
  have HPR := Lib.hid hpri
  have HF2 := Lib.hid f2
  have HLN : Hid (l'.length = n) := Lib.hid (by rw [hperm.length_eq, HHN.out])
  have HTL : Hid (ltot l' = ltot l) := Lib.hid (by
    have e1 := tot_putAll l' []
    have e2 := tot_putAll l []
    rw [← puts_perm hperm (fun x hx => HHP.out x (hperm.mem_iff.1 hx)) ] at e2
    simp only [ltot] at e1 e2
    omega)
  have HPP : Hid (lputs [] l' = lputs [] l) := Lib.hid (puts_perm hperm fun x hx => HHP.out x (hperm.mem_iff.1 hx))
  clear hperm hsrt hpri f2 HSO
  go_wp2_with fail
  go_loopw [3, 5, 12] (fun o _ i wr => ∃ j N : Nat, j ≤ n ∧ i = .int .i64 j ∧ Hid (Acc w2 wr o N (lputs [] (l'.take j)))) (fun _ _ i _ => n - (intOf i).toNat)
  case atStart => exact ⟨0, 0, by omega, rfl, Lib.hid (Acc.nil (Fr.refl _ _))⟩
  case round =>
    obtain ⟨j, N, hj, rfl, hacc⟩ := hrel
    by_cases hjn : (j : Int) < (n : Int)
    · have hjl : j < l'.length := by rw [HLN.out]; omega
      obtain ⟨b, o, rfl, d0, d1⟩ := (HPR.out.fr0 hacc.out.fr).at j hjl
      obtain ⟨⟨tk, tn⟩, ht⟩ : ∃ t, l'[j] = t := ⟨_, rfl⟩
      rw [ht] at d0 d1
      simp only at d0 d1
      have HBH : Hid (∀ W, Fr S0 wr W → Calls Tryz.prog 136 #[_, .agg #[.int .i64 tk, .int .u64 (tn : Int)]] W fun e w' => ∃ v' N', e = .returned v' ∧ Acc w2 w' v' N' (lputs [] (l'.take (j + 1)))) := Lib.hid fun W f => by
        have hs := putAll_srt srt_nil (l'.take j)
        have hle : ∀ x ∈ lputs [] (l'.take j), x.1 ≤ tk := fun x hx => by
          rcases putAll_mem _ _ _ hx with ⟨y, hy, e⟩ | hx
          · obtain ⟨i, hi, rfl⟩ := List.mem_iff_getElem.1 hy
            rw [List.length_take] at hi
            have := HSR.out i j hjl (by omega)
            rw [ht] at this
            rw [← e]
            simpa using this
          · cases hx
        have e1 := tot_putAll (l'.take j) []
        have e2 := tot_take hjl
        have e3 := tot_take_le l' (j + 1)
        have e4 := HTL.out
        have e5 := HHT.out
        rw [ht] at e2
        simp only [ltot] at e1 e2
        have hN := hacc.out.len
        have hN2 := len_puts_le (l'.take j) []
        rw [List.length_take] at hN2
        have e6 := lputs_take [] l' j hjl
        rw [ht] at e6
        rw [e6]
        exact behind_any w2 W _ N _ tk tn (hacc.out.fr0 f) hs hle (by simp at hN2; omega) (by omega)
      clear ht
      go_wp2_with fail
      refine (HBH.out _ (Fr.alloc _ _ _)).mono ?_
      rintro e w4 ⟨v4, N4, rfl, ha4⟩
      have HA4 := Lib.hid ha4
      clear ha4 HBH
      go_wp2_with fail
      go_roundw
      case rel => exact ⟨j + 1, N4, by omega, by go_num, HA4⟩
      case measure => simp [intOf]; omega
    · obtain rfl : j = n := by omega
      have HE : Hid (lputs [] (l'.take j) = lputs [] l) := Lib.hid (by rw [← HLN.out, List.take_length]; exact HPP.out)
      go_wp2_with fail
      go_ret
      refine ⟨_, rfl, N, ?_⟩
      rw [← HE.out]
      exact hacc.out.base HF2.out
end Go.Proofs.YtaemgflhgdlmiaaGreat
