/- KcSort -/
import Derived.Test.YtbpfmjekpjfceaaPm1
import Derived.Test.YtbpfmjekpjfceaaPm2
import Derived.Test.YtbpfmjekpjfceaaPm3
import Derived.Test.YtbpfmjekpjfceaaPm4
import Derived.Test.YtbpfmjekpjfceaaPm8
import Derived.Test.YtbpfmjekpjfceaaPm16
import Derived.Test.YtbpfmjekpjfceaaPm17
import Derived.Test.YtbpfmjekpjfceaaPm18
import Derived.Test.YtbpfmjekpjfceaaPm19
import Derived.Test.YtbpfmjekpjfceaaPm20
import Derived.Test.YtbpfmjekpjfceaaPm22
import Derived.Shelf.SlSortCmp.WholeK
import Derived.Test.YtbpfmjekpjfceaaRows
import Derived.Maps.AppendAt
import Derived.Laws.AppendOwnNone
import Derived.Laws.OwnMore
import Derived.Lib.AppendZerosOnto
import Derived.Lib.SliceRun
import Derived.Lib.Walk
import Derived.WalkKit
import Derived.Laws.BytesArg
import Derived.Lib.SlBytesConst
import Derived.WalkSpells
import Derived.WalkLawsBesides
import Derived.Deep.QuietTactic
import Derived.BigQuiet
import Derived.RegionTactic
import Derived.Deep.AppendLies
import Derived.Deep.RegionLaw
import Derived.Laws.ResultCell
import Derived.Laws.EntriesVeiled
import Derived.Lib.Hide
import Derived.Laws.Externs
import Derived.Shelf.Spec.BitsCarry
import Derived.Deep.CutBlock
import Derived.Deep.CutRange
import Derived.Deep.DeepCutAuto
import Derived.Lib.BitFns
import Derived.Shelf.Small.Bits
import Derived.Shelf.Strconv.Itoa0
import Derived.Shelf.Bits.Mul64
import Derived.Deep.RegionHeld3
import Derived.BigRegion
set_option maxRecDepth 100000
set_option maxHeartbeats 8000000
namespace Go.Proofs.Ytbpfmjekpjfceaa
open Go.Shelf Go.RowKit Go.Lib Go.Sort
def cmpP (x y : Tm) : Int := if x.1 < y.1 then -1 else if y.1 < x.1 then 1 else 0
def encP (x : Tm) : List Value := [.int .i64 x.1, .int .u64 (x.2 : Int)]
theorem ltP (x y : Tm) : ltOf cmpP x y = decide (x.1 < y.1) := by
  unfold ltOf cmpP
  by_cases h1 : x.1 < y.1
  · simp [h1]
  · by_cases h2 : y.1 < x.1 <;> simp [h1, h2]
theorem swoP : SWO (ltOf cmpP) where
  irrefl x := by rw [ltP]; simp
  trans x y z h1 h2 := by rw [ltP] at *; simp at *; omega
  ntrans x y z h1 h2 := by rw [ltP] at *; simp at *; omega
theorem compare_any (x y : Int) (w : World) : Calls Try.prog 57 #[.int .i64 x, .int .i64 y] w fun e w' => e = .returned (.int .i64 (if x < y then -1 else if y < x then 1 else 0)) ∧ w' = w := by
  have H1 := Lib.hid (isnan_no x w)
  have H2 := Lib.hid (isnan_no y w)
  by_cases h : x < y
  · rw [if_pos h]
    go_enter Try.func57, Try.ntmps57
    go_wp2_with fail
    refine H1.out.mono ?_
    rintro e w1 ⟨rfl, rfl⟩
    go_wp2_with fail
    refine H2.out.mono ?_
    rintro e w2 ⟨rfl, rfl⟩
    go_wp2_with fail
    go_ret
    exact ⟨rfl, rfl⟩
  · rw [if_neg h]
    by_cases h2 : y < x
    · rw [if_pos h2]
      go_enter Try.func57, Try.ntmps57
      go_wp2_with fail
      refine H1.out.mono ?_
      rintro e w1 ⟨rfl, rfl⟩
      go_wp2_with fail
      refine H2.out.mono ?_
      rintro e w2 ⟨rfl, rfl⟩
      go_wp2_with fail
      go_ret
      exact ⟨rfl, rfl⟩
    · rw [if_neg h2]
      go_enter Try.func57, Try.ntmps57
      go_wp2_with fail
      refine H1.out.mono ?_
      rintro e w1 ⟨rfl, rfl⟩
      go_wp2_with fail
      refine H2.out.mono ?_
      rintro e w2 ⟨rfl, rfl⟩
      go_wp2_with fail
      go_ret
      exact ⟨rfl, rfl⟩
theorem closure_any (x y : Tm) (w : World) : Calls Try.prog 56 #[.agg #[.int .i64 x.1, .int .u64 (x.2 : Int)], .agg #[.int .i64 y.1, .int .u64 (y.2 : Int)]] w fun e w' => e = .returned (.int .i64 (cmpP x y)) ∧ ∃ q os', w' = grow (w.drewN q) os' := by
  have hcon := fun W => compare_any x.1 y.1 W
  change ∀ W, Calls Try.prog 57 _ W fun e w' => e = .returned (.int .i64 (cmpP x y)) ∧ w' = W at hcon
  generalize cmpP x y = r at hcon ⊢
  go_enter Try.func56, Try.ntmps56
  go_wp2_with fail
  refine (hcon _).mono ?_
  rintro e w' ⟨rfl, rfl⟩
  go_wp2_with fail
  go_ret
  exact ⟨rfl, 0, _, by rw [alloc_eq_grow, alloc_eq_grow, grow_grow]; rfl⟩
theorem lays_any (blk off size : Nat) (w : World) : CmpLays Try.prog 56 #[] encP 2 cmpP blk off size w :=
  fun _ _ _ _ x y => closure_any x y _
theorem lays_frame (w : World) (blk n : Nat) (d : Array Tm) (os : Array Obj) : Fr (· = blk) w (sortWorldK encP 2 w blk 0 n d os) := by
  refine ⟨rfl, rfl, rfl, ?_, fun k hk hne => ?_⟩
  · show w.heap.size ≤ (grow _ os).heap.size
    rw [size_grow]
    simp [putRowK, putRow, mapBlock, Go.Sort.ahead]
  · have hsz : (putRowK encP 2 (Go.Sort.ahead w n) blk 0 d).heap.size = w.heap.size := by simp [putRowK, putRow, mapBlock, Go.Sort.ahead]
    show (grow (putRowK encP 2 (Go.Sort.ahead w n) blk 0 d) os).heap[k]? = _
    rw [heap_grow_old _ _ (by rw [hsz]; exact hk)]
    have hne' : ¬ blk = k := fun e => hne e.symm
    simp [putRowK, putRow, mapBlock, Go.Sort.ahead, Array.getElem?_modify, hne']
theorem holds_own {w : World} {g n c : Nat} {l : List Tm} (own : w.ownsRow 0 107 2 (.slice (some ⟨g, 0, none⟩) n c) n (prs l)) (hn : l.length = n) : HoldsK encP 2 w g 0 l.toArray := by
  intro t ht
  rw [size_flatK, List.size_toArray] at ht
  rw [get_flatK _ _ _ _ (by rw [List.size_toArray]; exact ht)]
  have hi : t / 2 < l.length := by omega
  have hc := own.cellAt t (by omega)
  have hz := own.frozenAt t
  obtain ⟨h1, h2⟩ := prs_at l (t / 2) hi
  have hg : l.toArray[t / 2]! = l[t / 2] := by rw [getElem!_pos _ _ (by simpa using hi)]; simp
  rw [hg, Nat.zero_add]
  refine ⟨?_, hz⟩
  rw [hc]
  rcases (by omega : t = t / 2 * 2 ∨ t = t / 2 * 2 + 1) with e | e
  · have e2 : t % 2 = 0 := by omega
    rw [e2]
    rw [← e] at h1
    exact h1
  · have e2 : t % 2 = 1 := by omega
    rw [e2]
    rw [← e] at h2
    exact h2
theorem tmi_holds {w : World} {g : Nat} {d : Array Tm} (h : HoldsK encP 2 w g 0 d) (hm : d.size ≤ 1000000) : TmI w (some ⟨g, 0, none⟩) d.toList := by
  refine ⟨by unfold maxLen; simp; omega, fun _ => ⟨g, 0, rfl, fun i hi => ?_⟩⟩
  have hi' : i < d.size := by simpa using hi
  have hg : d[i]! = d.toList[i] := by rw [getElem!_pos d i hi']; simp
  have h0 := (h.cell hi' (show 0 < 2 by decide)).1
  have h1 := (h.cell hi' (show 1 < 2 by decide)).1
  rw [hg] at h0 h1
  exact ⟨h0, h1⟩
theorem ins_none (f : Value) (w : World) : Calls Try.prog 95 #[.slice none 0 0, .int .i64 0, .int .i64 0, f] w fun e w' => e = .returned (.tuple #[]) ∧ w' = w := by
  go_enter Try.func95, Try.ntmps95
  go_wp2_with fail
  go_loopw [8] (fun x wr => x = .int .i64 1 ∧ w = wr) (fun _ _ => 0)
  case atStart => exact ⟨rfl, rfl⟩
  case round =>
    obtain ⟨rfl, hw⟩ := hrel
    obtain rfl := hw
    go_wp2_with fail
    go_end0
    exact ⟨rfl, rfl⟩
theorem pdq_none (k : Int) (f : Value) (w : World) : Calls Try.prog 76 #[.slice none 0 0, .int .i64 0, .int .i64 0, .int .i64 k, f] w fun e w' => e = .returned (.tuple #[]) ∧ w' = w := by
  have HI := Lib.hid (ins_none f w)
  go_enter Try.func76, Try.ntmps76
  go_wp2_with fail
  go_loopw [1, 2, 3, 10, 11, 12] (fun a b _ _ _ _ wr => a = .int .i64 0 ∧ b = .int .i64 0 ∧ w = wr) (fun _ _ _ _ _ _ _ => 0)
  case atStart => exact ⟨rfl, rfl, rfl⟩
  case round =>
    obtain ⟨rfl, rfl, hw⟩ := hrel
    obtain rfl := hw
    go_wp2_with fail
    refine HI.out.mono ?_
    rintro e w1 ⟨rfl, rfl⟩
    go_wp2_with fail
    refine bodyPost_ret (results_none rfl _ _ _) rfl ?_
    exact ⟨rfl, rfl⟩
theorem sort_none (f : Value) (w : World) : Calls Try.prog 55 #[.slice none 0 0, f] w fun e w' => e = .returned (.tuple #[]) ∧ w' = w := by
  have HP := Lib.hid (fun k => pdq_none k f w)
  have HL := Lib.hid (show Calls Try.prog 77 #[.int .u64 0] w fun e w' => e = .returned (.int .i64 (Lib.bitLen 0 : Nat)) ∧ w' = w from Any.bits_Len (SlLaysF0.n15.bits (P := Try.prog) (ρ := laysSort_ren) { laysSort with }) 0 w (by decide) (by decide))
  go_enter Try.func55, Try.ntmps55
  go_wp2_with fail
  refine HL.out.mono ?_
  rintro e w1 ⟨rfl, rfl⟩
  go_wp2_with fail
  refine (HP.out _).mono ?_
  rintro e w2 ⟨rfl, rfl⟩
  go_wp2_with fail
  go_end0
  exact ⟨rfl, rfl⟩
theorem sort_any (w w1 : World) (q : Option Addr) (n d : Nat) (l : List Tm) (h : Acc 107 w w1 (.slice q n d) n l) (hn : n ≤ 1000000) :
    Calls Try.prog 55 #[.slice q n d, .func (.func 56) #[] #[]] w1 fun e w' => e = .returned (.tuple #[]) ∧ ∃ l', l'.Perm l ∧ (∀ i j, (hj : j < l'.length) → (hi : i < j) → (l'[i]'(by omega)).1 ≤ l'[j].1) ∧ TmI w' q l' ∧ Fr S0 w w' := by
  rcases h.own.2 with ⟨hv, h0⟩ | ⟨g, cap, cur, hv, -, hg, -⟩
  · obtain ⟨rfl, rfl, rfl⟩ := Value.slice.inj hv
    have hl : l = [] := List.eq_nil_of_length_eq_zero h.len
    subst hl
    refine (sort_none _ w1).mono fun e w' he => ⟨he.1, [], List.Perm.refl _, fun i j hj => absurd hj (by simp), TmI.nil _ _, by rw [he.2]; exact h.fr⟩
  · obtain ⟨rfl, -, rfl⟩ := Value.slice.inj hv
    have hgl := (Array.getElem?_eq_some_iff.1 hg).1
    have hsz : l.toArray.size = n := by rw [List.size_toArray]; exact h.len
    have eg : ∀ args w, (callFunc 56 args).run Try.prog w = .ok (.enter 56 args) w := fun _ _ => by kernel_rfl
    have hcon := AnyQ.slices_SortFunc laysSort 2 Try.isAgg107 Try.sizeOf107 encP (fun _ => rfl) (fun x v hv => by simp [encP] at hv; rcases hv with rfl | rfl <;> rfl) cmpP swoP 56 #[] g 0 d l.toArray w1 eg (lays_any g 0 _ w1) (holds_own h.own h.len) hgl (by rw [hsz]; omega)
    rw [hsz] at hcon
    refine hcon.mono fun e w' he => ?_
    obtain ⟨he, d', m, os, hp, hs, rfl⟩ := he
    have hp1 : d'.size = n := hp.1.trans hsz
    have hperm : d'.toList.Perm l := by
      have := hp.2.2
      have e1 : d'.extract 0 n = d' := by rw [← hp1]; exact Array.extract_size
      have e2 : l.toArray.extract 0 n = l.toArray := by rw [← hsz]; exact Array.extract_size
      rwa [e1, e2] at this
    refine ⟨he, d'.toList, hperm, fun i j hj hi => ?_, ?_, ?_⟩
    · have hj' : j < n := by rw [Array.length_toList] at hj; omega
      have := hs i j (Nat.zero_le _) hi (by rw [hsz] at *; omega)
      rw [ltP, getElem!_pos _ j (by omega), getElem!_pos _ i (by omega)] at this
      simp at this
      simpa using this
    · have hh : HoldsK encP 2 (sortWorldK encP 2 w1 g 0 m d' os) g 0 d' := holdsK_grow encP 2 _ os g 0 d' (by simp [putRowK, putRow, mapBlock, Go.Sort.ahead]; exact hgl) (holdsK_putRowK encP 2 _ g 0 l.toArray d' (holds_own h.own h.len) hp.1)
      exact tmi_holds hh (by omega)
    · exact h.fr.trans (lays_frame w1 g m d' os) fun j hj e => by have := h.fresh _ rfl; simp only at this; omega
end Go.Proofs.Ytbpfmjekpjfceaa
