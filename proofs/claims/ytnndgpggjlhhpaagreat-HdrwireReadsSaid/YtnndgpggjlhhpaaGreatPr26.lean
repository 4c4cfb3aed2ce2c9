/- DefOne -/
import Derived.Test.YtnndgpggjlhhpaaGreatPr1
import Derived.Test.YtnndgpggjlhhpaaGreatPr2
import Derived.Test.YtnndgpggjlhhpaaGreatPr15
import Derived.Test.YtnndgpggjlhhpaaGreatPr20
import Derived.Test.YtnndgpggjlhhpaaGreatPr22
import Derived.Test.YtnndgpggjlhhpaaGreatPr23
import Derived.Test.YtnndgpggjlhhpaaGreatPr25
import Derived.Laws.MakeOwn
import Derived.BigRegion
import Derived.Laws.OwnMore
import Derived.IntWalk
import Derived.Lib.MakeNoZero
import Derived.Laws.CopyOwn
import Derived.StillTailTactics
import Derived.WalkKit
import Derived.WalkSpells
import Derived.WalkLawsBesides
import Derived.Deep.QuietTactic
import Derived.BigQuiet
import Derived.RegionTactic
import Derived.Deep.AppendLies
import Derived.Deep.RegionLaw
import Derived.Laws.ResultCell
import Derived.Laws.EntriesVeiled
import Derived.Lib.Hide
import Derived.Test.YtnndgpggjlhhpaaGreatRows
import Derived.Laws.BytesArg
import Derived.Lib.SlBytesConst
import Derived.Maps.AppendAt
import Derived.Laws.AppendOwnNone
import Derived.DeepKeys4
import Derived.WideKeyPair
import Derived.MapKept
import Derived.ChangeMaps
import Derived.Laws.Cover3
import Derived.Deep.RegionHeld3
import Derived.Laws.Tables
import Derived.Defers
import Derived.Recover
set_option maxRecDepth 100000
set_option maxHeartbeats 8000000
namespace Go.Proofs.YtnndgpggjlhhpaaGreat
def zcnt (f : Nat → Nat) (m n : Nat) : Nat := (List.range m).countP fun k => decide (f (k + 1) ≤ n)
theorem cnt_le (f : Nat → Nat) (m n : Nat) : zcnt f m n ≤ m := by
  have := List.countP_le_length (p := fun k => decide (f (k + 1) ≤ n)) (l := List.range m)
  simpa [zcnt] using this
theorem rising_le {f : Nat → Nat} {m : Nat} (h : ∀ k, k < m → f k < f (k + 1)) (i : Nat) : ∀ j, i + j ≤ m → f i + j ≤ f (i + j)
  | 0, _ => Nat.le_refl _
  | j + 1, hj => by
    have h1 := rising_le h i j (by omega)
    have h2 := h (i + j) (by omega)
    rw [show i + (j + 1) = i + j + 1 by omega]
    omega
theorem cnt_eq {f : Nat → Nat} {m n s : Nat} (h : ∀ k, k < m → f k < f (k + 1)) (hs : s ≤ m) (h1 : 0 < s → f s ≤ n) (h2 : s < m → n < f (s + 1)) : zcnt f m n = s := by
  unfold zcnt
  rw [show m = s + (m - s) by omega, List.range_add, List.countP_append]
  have e1 : (List.range s).countP (fun k => decide (f (k + 1) ≤ n)) = s := by
    have : (List.range s).countP (fun k => decide (f (k + 1) ≤ n)) = (List.range s).length := by
      rw [List.countP_eq_length]
      intro k hk
      have hk := List.mem_range.1 hk
      have q := rising_le h (k + 1) (s - (k + 1)) (by omega)
      rw [show k + 1 + (s - (k + 1)) = s by omega] at q
      have := h1 (by omega)
      exact decide_eq_true (by omega)
    rw [this, List.length_range]
  have e2 : ((List.range (m - s)).map (s + ·)).countP (fun k => decide (f (k + 1) ≤ n)) = 0 := by
    rw [List.countP_eq_zero]
    intro k hk
    obtain ⟨j, hj, rfl⟩ := List.mem_map.1 hk
    have hj := List.mem_range.1 hj
    have q := rising_le h (s + 1) j (by omega)
    have := h2 (by omega)
    rw [decide_eq_true_iff]
    rw [show s + j + 1 = s + 1 + j by omega]
    omega
  rw [e1, e2]; omega
theorem cnt_is {f : Nat → Nat} {m n : Nat} (h : ∀ k, k < m → f k < f (k + 1)) (h0 : f 0 ≤ n) : f (zcnt f m n) ≤ n ∧ (zcnt f m n < m → n < f (zcnt f m n + 1)) := by
  induction m with
  | zero => exact ⟨by simpa [zcnt] using h0, fun q => by simp [zcnt] at q⟩
  | succ m ih =>
    obtain ⟨i1, i2⟩ := ih fun k hk => h k (by omega)
    have hc := cnt_le f m n
    have e : zcnt f (m + 1) n = zcnt f m n + if f (m + 1) ≤ n then 1 else 0 := by
      unfold zcnt
      rw [List.range_succ, List.countP_append, List.countP_singleton]
      by_cases q : f (m + 1) ≤ n
      · rw [if_pos q, if_pos (decide_eq_true q)]
      · rw [if_neg q, if_neg (by rw [decide_eq_true_iff]; exact q)]
    by_cases q : f (m + 1) ≤ n
    · have hm : zcnt f m n = m := by
        by_cases hlt : zcnt f m n < m
        · have a := i2 hlt
          have b := rising_le h (zcnt f m n + 1) (m + 1 - (zcnt f m n + 1)) (by omega)
          rw [show zcnt f m n + 1 + (m + 1 - (zcnt f m n + 1)) = m + 1 by omega] at b
          omega
        · omega
      rw [e, if_pos q, hm]
      exact ⟨q, fun z => by omega⟩
    · rw [e, if_neg q, Nat.add_zero]
      refine ⟨i1, fun z => ?_⟩
      by_cases hlt : zcnt f m n < m
      · exact i2 hlt
      · rw [show zcnt f m n = m by omega]; omega
def lenS (n : Nat) : Nat := 257 + zcnt (fun k => baseN (257 + k)) 28 n
def spnS (n : Nat) : Nat := zcnt farN 29 n
theorem base_rise : ∀ k, k < 28 → baseN (257 + k) < baseN (257 + (k + 1)) := by
  have key : ∀ k : Fin 28, baseN (257 + k.val) < baseN (257 + (k.val + 1)) := by decide
  exact fun k hk => key ⟨k, hk⟩
theorem far_rise : ∀ k, k < 29 → farN k < farN (k + 1) := by
  have key : ∀ k : Fin 29, farN k.val < farN (k.val + 1) := by decide
  exact fun k hk => key ⟨k, hk⟩
theorem lenS_le (n : Nat) : 257 ≤ lenS n ∧ lenS n ≤ 285 := by have := cnt_le (fun k => baseN (257 + k)) 28 n; unfold lenS; omega
theorem spnS_le (n : Nat) : spnS n ≤ 29 := cnt_le _ _ _
theorem lenS_is {n : Nat} (h : 3 ≤ n) (h2 : n ≤ 258) : baseN (lenS n) ≤ n ∧ n < baseN (lenS n) + 2 ^ baseC (lenS n) := by
  have c := cnt_is (n := n) base_rise (show baseN (257 + 0) ≤ n from h)
  have l := cnt_le (fun k => baseN (257 + k)) 28 n
  obtain ⟨s, hs⟩ : ∃ s, zcnt (fun k => baseN (257 + k)) 28 n = s := ⟨_, rfl⟩
  unfold lenS
  rw [hs] at c l ⊢
  refine ⟨c.1, ?_⟩
  have key : ∀ k : Fin 28, baseN (257 + (k.val + 1)) ≤ baseN (257 + k.val) + 2 ^ baseC (257 + k.val) := by decide
  by_cases h28 : s < 28
  · exact Nat.lt_of_lt_of_le (c.2 h28) (key ⟨s, h28⟩)
  · obtain rfl : s = 28 := by omega
    have : baseN (257 + 28) + 2 ^ baseC (257 + 28) = 259 := by decide
    omega
theorem spnS_is {n : Nat} (h : 1 ≤ n) (h2 : n ≤ 32768) : farN (spnS n) ≤ n ∧ n < farN (spnS n) + 2 ^ farC (spnS n) := by
  have c := cnt_is (n := n) far_rise (show farN 0 ≤ n from h)
  have l := cnt_le farN 29 n
  obtain ⟨s, hs⟩ : ∃ s, zcnt farN 29 n = s := ⟨_, rfl⟩
  unfold spnS
  rw [hs] at c l ⊢
  refine ⟨c.1, ?_⟩
  have key : ∀ k : Fin 29, farN (k.val + 1) ≤ farN k.val + 2 ^ farC k.val := by decide
  by_cases h29 : s < 29
  · exact Nat.lt_of_lt_of_le (c.2 h29) (key ⟨s, h29⟩)
  · obtain rfl : s = 29 := by omega
    have : farN 29 + 2 ^ farC 29 = 32769 := by decide
    omega
def fives : List Nat := List.replicate 32 5
def numB (l : List Nat) (s n least c : Nat) : List Nat := code (cod l s) (len l s) ++ grp (n - least) c
def tkB (t : M.Tk) : List Nat :=
  if t.2.2 = 0 then code (cod fixLs' t.1) (len fixLs' t.1)
  else numB fixLs' (lenS t.2.1) t.2.1 (baseN (lenS t.2.1)) (baseC (lenS t.2.1)) ++ numB fives (spnS t.2.2) t.2.2 (farN (spnS t.2.2)) (farC (spnS t.2.2))
def tksB (l : List M.Tk) : List Nat := l.flatMap tkB
theorem tksB_append (a b : List M.Tk) : tksB (a ++ b) = tksB a ++ tksB b := by simp [tksB]
theorem tksB_one (t : M.Tk) : tksB [t] = tkB t := by simp [tksB]
def fxB (b : List Nat) : List Nat := [1, 1, 0] ++ tksB (M.toks b 0) ++ code (cod fixLs' 256) (len fixLs' 256)
def fxd (b : List Nat) : List Nat := byt (fxB b)
def blk (f : Nat) (l : List Nat) : List Nat := [f, l.length % 256, l.length / 256, 255 - l.length % 256, 255 - l.length / 256] ++ l
def sto (b : List Nat) : List Nat := if _h : b.length ≤ 65535 then blk 1 b else blk 0 (b.take 65535) ++ sto (b.drop 65535)
termination_by b.length
decreasing_by rw [List.length_drop]; omega
theorem sto_last {b : List Nat} (h : b.length ≤ 65535) : sto b = blk 1 b := by rw [sto, dif_pos h]
theorem sto_more {b : List Nat} (h : ¬ b.length ≤ 65535) : sto b = blk 0 (b.take 65535) ++ sto (b.drop 65535) := by rw [sto, dif_neg h]
theorem blk_length (f : Nat) (l : List Nat) : (blk f l).length = l.length + 5 := by simp [blk]
def zbst (b : List Nat) : List Nat := if (sto b).length < (fxd b).length then sto b else fxd b
end Go.Proofs.YtnndgpggjlhhpaaGreat
namespace Go.Proofs.YtnndgpggjlhhpaaGreat
open Go.RowKit
def Tells (p q r : Nat) (w : World) (n s : Nat) : Prop :=
  ∀ (k : Nat) (w' : World), k < n → Fr S0 w w' → Calls Tryz.prog 232 #[.int .i64 k, .pointer (some ⟨p, 0, none⟩), .pointer (some ⟨q, 0, none⟩), .pointer (some ⟨r, 0, none⟩)] w' fun e w'' => e = .returned (.bool (decide (s ≤ k))) ∧ w' = w''
theorem zsearch_any (n s p q r : Nat) (w : World) (hn : n ≤ 1000) (hs : s ≤ n) (hF : Tells p q r w n s) :
    Calls Tryz.prog 231 #[.int .i64 n, .func (.func 232) #[] #[.pointer (some ⟨p, 0, none⟩), .pointer (some ⟨q, 0, none⟩), .pointer (some ⟨r, 0, none⟩)]] w fun e w' => e = .returned (.int .i64 (s : Nat)) ∧ w = w' := by
  have HF := Lib.hid hF
  clear hF
  go_enter Tryz.func231, Tryz.ntmps231
  go_wp2_with fail
  go_loopw [5, 6] (fun i j wr => ∃ a b : Nat, i = .int .i64 a ∧ j = .int .i64 b ∧ a ≤ s ∧ s ≤ b ∧ b ≤ n ∧ w = wr) (fun i j _ => (intOf j - intOf i).toNat)
  case atStart => exact ⟨0, n, rfl, rfl, by omega, by omega, by omega, rfl⟩
  case round =>
    obtain ⟨a, b, rfl, rfl, ha, hb, hbn, rfl⟩ := hrel
    by_cases hab : (a : Int) < (b : Int)
    · obtain ⟨h, hh⟩ : ∃ h : Nat, h = (a + b) / 2 := ⟨_, rfl⟩
      have e1 : ((a : Int) + (b : Int)) / 2 = (h : Int) := by omega
      have hlt : a ≤ h ∧ h < b := by omega
      have HC := Lib.hid (HF.out h w (by omega) (Fr.refl _ _))
      have E1 := Lib.hid e1
      clear hh e1
      go_wp2_with fail
      rw [E1.out]
      refine HC.out.mono ?_
      rintro e w' ⟨rfl, rfl⟩
      by_cases hsh : s ≤ h
      · rw [decide_eq_true hsh]
        go_wp2_with fail
        go_roundw
        case rel => exact ⟨a, h, rfl, rfl, by omega, by omega, by omega, by trivial⟩
        case measure => simp [intOf]; omega
      · rw [decide_eq_false hsh]
        go_wp2_with fail
        go_roundw
        case rel => exact ⟨h + 1, b, by go_num, rfl, by omega, by omega, by omega, by trivial⟩
        case measure => simp [intOf]; omega
    · obtain rfl : a = b := by omega
      obtain rfl : s = a := by omega
      go_wp2_with fail
      go_ret
      exact ⟨rfl, rfl⟩
def zHas (B : Nat) : Prop := ∀ (args : Array Value) (w : World), (callFunc B args).run Tryz.prog w = .ok (.enter B args) w
theorem test_any (B F C first n p q r k : Nat) (w : World) (h0 : w.cell? ⟨p, 0, none⟩ = some (.func (.func B) #[] #[])) (h1 : w.cell? ⟨q, 0, none⟩ = some (.int .i64 (first : Nat))) (h2 : w.cell? ⟨r, 0, none⟩ = some (.int .i64 (n : Nat)))
    (hk : k ≤ 1000) (hf : first ≤ 1000) (hE : zHas B) (hB : Calls Tryz.prog B #[.int .i64 ((first + 1 + k : Nat) : Int)] w fun e w' => e = .returned (.tuple #[.int .i64 (F : Nat), .int .i64 (C : Nat)]) ∧ w = w') :
    Calls Tryz.prog 232 #[.int .i64 k, .pointer (some ⟨p, 0, none⟩), .pointer (some ⟨q, 0, none⟩), .pointer (some ⟨r, 0, none⟩)] w fun e w' => e = .returned (.bool (decide (n < F))) ∧ w = w' := by
  obtain ⟨m, hm⟩ : ∃ m : Nat, first + 1 + k = m := ⟨_, rfl⟩
  have e1 : (first : Int) + 1 + (k : Int) = (m : Int) := by omega
  rw [hm] at hB
  have HB := Lib.hid hB
  have E1 := Lib.hid e1
  have HD : Hid (decide ((n : Int) < (F : Int)) = decide (n < F)) := Lib.hid (by rw [decide_eq_decide]; omega)
  clear hB hm e1
  have hEm : (callFunc B #[.int .i64 ((first : Int) + 1 + (k : Int))]).run Tryz.prog w = .ok (.enter B #[.int .i64 ((first : Int) + 1 + (k : Int))]) w := hE _ _
  go_enter Tryz.func232, Tryz.ntmps232
  go_wp2_with fail
  rw [E1.out]
  refine HB.out.mono ?_
  rintro e w' ⟨rfl, rfl⟩
  go_wp2_with fail
  go_ret
  exact ⟨by rw [← HD.out]; rfl, rfl⟩
theorem sought_any (B n first last s : Nat) (f c : Nat → Nat) (w : World) (hn : n ≤ 1000000) (hl : last ≤ 1000) (hfl : first ≤ last) (hs : s ≤ last - first) (hE : zHas B)
    (hB : ∀ (j : Nat) (w' : World), j ≤ last - first → Calls Tryz.prog B #[.int .i64 ((first + j : Nat) : Int)] w' fun e w'' => e = .returned (.tuple #[.int .i64 (f j : Nat), .int .i64 (c j : Nat)]) ∧ w' = w'')
    (hr : ∀ k, k < last - first → f k < f (k + 1)) (h1 : f s ≤ n) (h2 : s < last - first → n < f (s + 1)) :
    Calls Tryz.prog 207 #[.int .i64 n, .int .i64 first, .int .i64 last, .func (.func B) #[] #[]] w fun e w' => e = .returned (.tuple #[.int .i64 ((first + s : Nat) : Int), .int .i64 (c s : Nat), .int .i64 ((n - f s : Nat) : Int)]) ∧ Fr S0 w w' := by
  obtain ⟨m, hm⟩ : ∃ m : Nat, last - first = m := ⟨_, rfl⟩
  have e1 : (last : Int) - (first : Int) = (m : Int) := by omega
  rw [hm] at hs hB hr h2
  obtain ⟨a, ha⟩ : ∃ a : Nat, first + s = a := ⟨_, rfl⟩
  have e2 : (first : Int) + (s : Int) = (a : Int) := by omega
  have HB := Lib.hid hB
  have E1 := Lib.hid e1
  have E2 := Lib.hid e2
  have HA := Lib.hid ha
  have HT : Hid (∀ w1 p q r, w1.cell? ⟨p, 0, none⟩ = some (.func (.func B) #[] #[]) → w1.cell? ⟨q, 0, none⟩ = some (.int .i64 (first : Nat)) → w1.cell? ⟨r, 0, none⟩ = some (.int .i64 (n : Nat)) → Tells p q r w1 m s) := Lib.hid (by
    intro w1 p q r k0 k1 k2 k w2 hk f2
    have := test_any B (f (k + 1)) (c (k + 1)) first n p q r k w2 (f2.cell k0 (fun h => h)) (f2.cell k1 (fun h => h)) (f2.cell k2 (fun h => h)) (by omega) (by omega) hE
      (by rw [show first + 1 + k = first + (k + 1) by omega]; exact hB (k + 1) w2 (by omega))
    rw [show decide (n < f (k + 1)) = decide (s ≤ k) by
      rw [decide_eq_decide]
      constructor
      · intro q
        by_cases hsk : s ≤ k
        · exact hsk
        · have := rising_le hr (k + 1) (s - (k + 1)) (by omega)
          rw [show k + 1 + (s - (k + 1)) = s by omega] at this
          omega
      · intro q
        have := rising_le hr (s + 1) (k - s) (by omega)
        rw [show s + 1 + (k - s) = k + 1 by omega] at this
        have := h2 (by omega)
        omega] at this
    exact this)
  obtain ⟨F, hF⟩ : ∃ F, f s = F := ⟨_, rfl⟩
  obtain ⟨C, hC⟩ : ∃ C, c s = C := ⟨_, rfl⟩
  have HBS := Lib.hid fun w' => hB s w' hs
  rw [ha, hF, hC] at HBS
  rw [hF] at h1 ⊢
  rw [hC, ha]
  have hms : m ≤ 1000 := by omega
  have e3 : (n : Int) - (F : Int) = ((n - F : Nat) : Int) := by omega
  have E3 := Lib.hid e3
  clear hB hr h2 hm e1 e2 ha hF hC e3
  have hmf : ∀ (fn : Fn) (first cap : Array Value) (w : World), (Instr.makeFunc fn first cap).run Tryz.prog w = .ok (.func fn first cap) w := fun _ _ _ _ => rfl
  go_enter Tryz.func207, Tryz.ntmps207
  go_wp2_with fail
  obtain ⟨w1, hw1⟩ : ∃ w1, ((w.alloc (.cells #[.int .i64 (n : Nat)] 3)).alloc (.cells #[.int .i64 (first : Nat)] 3)).alloc (.cells #[.func (.func B) #[] #[]] 218) = w1 := ⟨_, rfl⟩
  have f1 : Fr S0 w w1 := by rw [← hw1]; exact ((Fr.alloc S0 w _).trans0 (Fr.alloc _ _ _)).trans0 (Fr.alloc _ _ _)
  have k0 : w1.cell? ⟨w.heap.size, 0, none⟩ = some (.int .i64 (n : Nat)) := by
    rw [← hw1]
    exact (Fr.alloc S0 _ _).cell ((Fr.alloc S0 _ _).cell ((cell_of_row _ _ 0 _ _ _ (heap_alloc_new w _)).trans rfl) (fun h => h)) (fun h => h)
  have k1 : w1.cell? ⟨w.heap.size + 1, 0, none⟩ = some (.int .i64 (first : Nat)) := by
    rw [← hw1]
    have := (cell_of_row _ _ 0 _ _ _ (heap_alloc_new (w.alloc (.cells #[.int .i64 (n : Nat)] 3)) (.cells #[.int .i64 (first : Nat)] 3))).trans rfl
    rw [size_alloc] at this
    exact (Fr.alloc S0 _ _).cell this (fun h => h)
  have k2 : w1.cell? ⟨w.heap.size + 1 + 1, 0, none⟩ = some (.func (.func B) #[] #[]) := by
    rw [← hw1]
    have := (cell_of_row _ _ 0 _ _ _ (heap_alloc_new ((w.alloc (.cells #[.int .i64 (n : Nat)] 3)).alloc (.cells #[.int .i64 (first : Nat)] 3)) (.cells #[.func (.func B) #[] #[]] 218))).trans rfl
    rw [size_alloc, size_alloc] at this
    exact this
  rw [hw1]
  have HF1 := Lib.hid f1
  have HS := Lib.hid (zsearch_any m s _ _ _ w1 hms hs (HT.out w1 _ _ _ k2 k1 k0))
  have hEm : (callFunc B #[.int .i64 ((first : Int) + (s : Int))]).run Tryz.prog w1 = .ok (.enter B #[.int .i64 ((first : Int) + (s : Int))]) w1 := hE _ _
  clear f1 hw1 HT
  rw [E1.out]
  refine HS.out.mono ?_
  rintro e w' ⟨rfl, rfl⟩
  clear HS
  go_wp2_with fail
  rw [E2.out]
  refine (HBS.out w1).mono ?_
  rintro e w' ⟨rfl, rfl⟩
  clear HBS HB hEm
  go_wp2_with fail
  go_quiet (fail)
  go_wp2_with fail
  go_ret3
  exact ⟨by rw [E3.out]; rfl, HF1.out.trans0 (Fr.drewN _ _ _)⟩
theorem has_base : zHas 208 := fun _ _ => by kernel_rfl
theorem has_far : zHas 209 := fun _ _ => by kernel_rfl
theorem length_yes (n : Nat) (w : World) (h : 3 ≤ n) (h2 : n ≤ 258) :
    Calls Tryz.prog 189 #[.int .i64 n] w fun e w' => e = .returned (.tuple #[.int .i64 (lenS n : Nat), .int .i64 (baseC (lenS n) : Nat), .int .i64 ((n - baseN (lenS n) : Nat) : Int)]) ∧ Fr S0 w w' := by
  have hc := cnt_is (n := n) base_rise (show baseN (257 + 0) ≤ n from h)
  have HS : Hid (∀ w : World, Calls Tryz.prog 207 #[.int .i64 n, .int .i64 257, .int .i64 285, .func (.func 208) #[] #[]] w fun e w' => e = .returned (.tuple #[.int .i64 (lenS n : Nat), .int .i64 (baseC (lenS n) : Nat), .int .i64 ((n - baseN (lenS n) : Nat) : Int)]) ∧ Fr S0 w w') :=
    Lib.hid fun w => sought_any 208 n 257 285 (zcnt (fun k => baseN (257 + k)) 28 n) (fun k => baseN (257 + k)) (fun k => baseC (257 + k)) w (by omega) (by decide) (by decide) (cnt_le _ _ _) has_base
      (fun j w' hj => base_any (257 + j) w' (by omega) (by omega)) base_rise hc.1 hc.2
  obtain ⟨a, ha⟩ : ∃ a, lenS n = a := ⟨_, rfl⟩
  rw [ha] at HS ⊢
  obtain ⟨b, hb⟩ : ∃ b, baseC a = b := ⟨_, rfl⟩
  obtain ⟨c, hc'⟩ : ∃ c, n - baseN a = c := ⟨_, rfl⟩
  rw [hb, hc'] at HS ⊢
  clear ha hb hc' hc
  have q1 : ¬ (n : Int) < 3 := by omega
  have q2 : ¬ (n : Int) > 258 := by omega
  go_enter Tryz.func189, Tryz.ntmps189
  go_wp2_with fail
  refine (HS.out _).mono ?_
  rintro e w' ⟨rfl, f⟩
  have HF := Lib.hid f
  clear f HS
  go_wp2_with fail
  go_ret3
  exact ⟨rfl, HF.out⟩
end Go.Proofs.YtnndgpggjlhhpaaGreat
namespace Go.Proofs.YtnndgpggjlhhpaaGreat
open Go.RowKit
theorem span_yes (n : Nat) (w : World) (h : 1 ≤ n) (h2 : n ≤ 32768) :
    Calls Tryz.prog 190 #[.int .i64 n] w fun e w' => e = .returned (.tuple #[.int .i64 (spnS n : Nat), .int .i64 (farC (spnS n) : Nat), .int .i64 ((n - farN (spnS n) : Nat) : Int)]) ∧ Fr S0 w w' := by
  have hc := cnt_is (n := n) far_rise (show farN 0 ≤ n from h)
  have HS : Hid (∀ w : World, Calls Tryz.prog 207 #[.int .i64 n, .int .i64 0, .int .i64 29, .func (.func 209) #[] #[]] w fun e w' => e = .returned (.tuple #[.int .i64 (spnS n : Nat), .int .i64 (farC (spnS n) : Nat), .int .i64 ((n - farN (spnS n) : Nat) : Int)]) ∧ Fr S0 w w') :=
    Lib.hid fun w => by
      have := sought_any 209 n 0 29 (zcnt farN 29 n) farN farC w (by omega) (by decide) (by decide) (cnt_le _ _ _) has_far
        (fun j w' hj => by rw [Nat.zero_add]; exact zfar_any j w' (by omega)) far_rise hc.1 hc.2
      rw [Nat.zero_add] at this
      exact this
  obtain ⟨a, ha⟩ : ∃ a, spnS n = a := ⟨_, rfl⟩
  rw [ha] at HS ⊢
  obtain ⟨b, hb⟩ : ∃ b, farC a = b := ⟨_, rfl⟩
  obtain ⟨c, hc'⟩ : ∃ c, n - farN a = c := ⟨_, rfl⟩
  rw [hb, hc'] at HS ⊢
  clear ha hb hc' hc
  have q1 : ¬ (n : Int) < 1 := by omega
  have q2 : ¬ (n : Int) > 32768 := by omega
  go_enter Tryz.func190, Tryz.ntmps190
  go_wp2_with fail
  refine (HS.out _).mono ?_
  rintro e w' ⟨rfl, f⟩
  have HF := Lib.hid f
  clear f HS
  go_wp2_with fail
  go_ret3
  exact ⟨rfl, HF.out⟩
theorem cnt_step {f : Nat → Nat} {m n : Nat} (h : ∀ k, k < m + 1 → f k < f (k + 1)) : zcnt f (m + 1) n = if f (m + 1) ≤ n then m + 1 else zcnt f m n := by
  by_cases q : f (m + 1) ≤ n
  · rw [if_pos q]
    exact cnt_eq h (Nat.le_refl _) (fun _ => q) (fun z => by omega)
  · rw [if_neg q]
    unfold zcnt
    rw [List.range_succ, List.countP_append, List.countP_singleton, if_neg (by rw [decide_eq_true_iff]; exact q)]
    rfl
def lenTo (n j : Nat) : Nat := 257 + zcnt (fun k => baseN (257 + k)) (j - 258) n
theorem lenTo_step (n j : Nat) (hn : 3 ≤ n) (h : 257 ≤ j) (h2 : j < 285) : lenTo n (j + 1) = if baseN j ≤ n then j else lenTo n j := by
  unfold lenTo
  by_cases e : j = 257
  · subst e
    rw [if_pos (show baseN 257 ≤ n from hn)]
    rfl
  · have hs := cnt_step (f := fun k => baseN (257 + k)) (m := j - 258) (n := n) fun k hk => base_rise k (by omega)
    rw [show j + 1 - 258 = j - 258 + 1 by omega, hs]
    rw [show 257 + (j - 258 + 1) = j by omega]
    split
    · omega
    · rfl
theorem lenTo_end (n : Nat) (hn : n < 258) : lenTo n 285 = lenS n := by
  have hs := cnt_step (f := fun k => baseN (257 + k)) (m := 27) (n := n) base_rise
  rw [if_neg (show ¬ baseN (257 + 28) ≤ n from by have : baseN (257 + 28) = 258 := by decide
                                                  omega)] at hs
  unfold lenTo lenS
  rw [show zcnt (fun k => baseN (257 + k)) 28 n = zcnt (fun k => baseN (257 + k)) (27 + 1) n from rfl, hs]
def spnTo (n j : Nat) : Nat := zcnt farN (j - 1) n
theorem spnTo_step (n j : Nat) (hn : 1 ≤ n) (h2 : j < 30) : spnTo n (j + 1) = if farN j ≤ n then j else spnTo n j := by
  unfold spnTo
  by_cases e : j = 0
  · subst e
    rw [if_pos (show farN 0 ≤ n from hn)]
    rfl
  · have hs := cnt_step (f := farN) (m := j - 1) (n := n) fun k hk => far_rise k (by omega)
    rw [show j + 1 - 1 = j - 1 + 1 by omega, hs, show j - 1 + 1 = j by omega]
theorem rlength_yes (n : Nat) (w : World) (h : 3 ≤ n) (h2 : n ≤ 258) :
    Calls Tryz.prog 135 #[.int .i64 n] w fun e w' => e = .returned (.tuple #[.int .i64 (lenS n : Nat), .int .i64 (baseC (lenS n) : Nat), .int .i64 ((n - baseN (lenS n) : Nat) : Int)]) ∧ w = w' := by
  have q1 : ¬ (n : Int) < 3 := by omega
  have q2 : ¬ (n : Int) > 258 := by omega
  by_cases h8 : n = 258
  · subst h8
    have e1 : lenS 258 = 285 := by decide +kernel
    rw [e1]
    go_enter Tryz.func135, Tryz.ntmps135
    go_wp2_with fail
    go_ret3
    exact ⟨rfl, rfl⟩
  · have q3 : ((n : Int) == 258) = false := by rw [beq_eq_false_iff_ne]; omega
    have HB := Lib.hid (fun j w (a : 257 ≤ j) (b : j ≤ 285) => rbase_any j w a b)
    have HE := Lib.hid (lenTo_end n (by omega))
    have HI := Lib.hid (lenS_is h h2)
    clear h8
    go_enter Tryz.func135, Tryz.ntmps135
    go_wp2_with fail
    go_loopw [5, 6, 7, 8] (fun s i _ _ wr => ∃ j : Nat, 257 ≤ j ∧ j ≤ 285 ∧ i = .int .i64 j ∧ s = .int .i64 (lenTo n j : Nat) ∧ w = wr) (fun _ i _ _ _ => 285 - (intOf i).toNat)
    case atStart => exact ⟨257, by omega, by omega, rfl, rfl, rfl⟩
    case round =>
      obtain ⟨j, hj, hj2, rfl, rfl, rfl⟩ := hrel
      by_cases hlt : (j : Int) < 285
      · have HS := Lib.hid (lenTo_step n j h hj (by omega))
        have HBJ := Lib.hid (HB.out j w hj (by omega))
        obtain ⟨T, hT⟩ : ∃ T, lenTo n j = T := ⟨_, rfl⟩
        rw [hT] at HS ⊢
        obtain ⟨A, hA⟩ : ∃ A, baseN j = A := ⟨_, rfl⟩
        obtain ⟨C, hC⟩ : ∃ C, baseC j = C := ⟨_, rfl⟩
        rw [hA] at HS HBJ
        rw [hC] at HBJ
        clear hT hA hC
        by_cases hAn : (A : Int) ≤ (n : Int)
        · have HS2 : Hid (lenTo n (j + 1) = j) := Lib.hid (by rw [HS.out, if_pos (by omega)])
          clear HS
          go_wp2_with fail
          refine HBJ.out.mono ?_
          rintro e w' ⟨rfl, rfl⟩
          clear HBJ
          go_wp2_with fail
          go_roundw
          case rel => exact ⟨j + 1, by omega, by omega, by go_num, by rw [HS2.out], by trivial⟩
          case measure => simp [intOf]; omega
        · have HS2 : Hid (lenTo n (j + 1) = T) := Lib.hid (by rw [HS.out, if_neg (by omega)])
          clear HS
          go_wp2_with fail
          refine HBJ.out.mono ?_
          rintro e w' ⟨rfl, rfl⟩
          clear HBJ
          go_wp2_with fail
          go_roundw
          case rel => exact ⟨j + 1, by omega, by omega, by go_num, by rw [HS2.out], by trivial⟩
          case measure => simp [intOf]; omega
      · obtain rfl : j = 285 := by omega
        rw [HE.out]
        have HBJ := Lib.hid (HB.out (lenS n) w (lenS_le n).1 (lenS_le n).2)
        obtain ⟨s, hs⟩ : ∃ s, lenS n = s := ⟨_, rfl⟩
        have hin := HI.out.1
        rw [hs] at HBJ hin ⊢
        obtain ⟨A, hA⟩ : ∃ A, baseN s = A := ⟨_, rfl⟩
        obtain ⟨C, hC⟩ : ∃ C, baseC s = C := ⟨_, rfl⟩
        rw [hA, hC] at HBJ
        rw [hA] at hin
        have HS1 := Lib.hid hs
        have HA1 := Lib.hid hA
        have HC1 := Lib.hid hC
        have E1 : Hid ((n : Int) - (A : Int) = ((n - A : Nat) : Int)) := Lib.hid (by omega)
        clear hs hA hC HE HI
        go_wp2_with fail
        refine HBJ.out.mono ?_
        rintro e w' ⟨rfl, rfl⟩
        clear HBJ
        go_wp2_with fail
        go_ret3
        exact ⟨by rw [HS1.out, HA1.out, HC1.out, ← E1.out]; rfl, rfl⟩
theorem rspan_yes (n : Nat) (w : World) (h : 1 ≤ n) (h2 : n ≤ 32768) :
    Calls Tryz.prog 137 #[.int .i64 n] w fun e w' => e = .returned (.tuple #[.int .i64 (spnS n : Nat), .int .i64 (farC (spnS n) : Nat), .int .i64 ((n - farN (spnS n) : Nat) : Int)]) ∧ w = w' := by
  have q1 : ¬ (n : Int) < 1 := by omega
  have q2 : ¬ (n : Int) > 32768 := by omega
  have HB := Lib.hid (fun j w (b : j ≤ 29) => rfar_any j w b)
  have HI := Lib.hid (spnS_is h h2)
  go_enter Tryz.func137, Tryz.ntmps137
  go_wp2_with fail
  go_loopw [5, 6, 7, 8] (fun s i _ _ wr => ∃ j : Nat, j ≤ 30 ∧ i = .int .i64 j ∧ s = .int .i64 (spnTo n j : Nat) ∧ w = wr) (fun _ i _ _ _ => 30 - (intOf i).toNat)
  case atStart => exact ⟨0, by omega, rfl, rfl, rfl⟩
  case round =>
    obtain ⟨j, hj2, rfl, rfl, rfl⟩ := hrel
    by_cases hlt : (j : Int) < 30
    · have HS := Lib.hid (spnTo_step n j h (by omega))
      have HBJ := Lib.hid (HB.out j w (by omega))
      obtain ⟨T, hT⟩ : ∃ T, spnTo n j = T := ⟨_, rfl⟩
      rw [hT] at HS ⊢
      obtain ⟨A, hA⟩ : ∃ A, farN j = A := ⟨_, rfl⟩
      obtain ⟨C, hC⟩ : ∃ C, farC j = C := ⟨_, rfl⟩
      rw [hA] at HS HBJ
      rw [hC] at HBJ
      clear hT hA hC
      by_cases hAn : (A : Int) ≤ (n : Int)
      · have HS2 : Hid (spnTo n (j + 1) = j) := Lib.hid (by rw [HS.out, if_pos (by omega)])
        clear HS
        go_wp2_with fail
        refine HBJ.out.mono ?_
        rintro e w' ⟨rfl, rfl⟩
        clear HBJ
        go_wp2_with fail
        go_roundw
        case rel => exact ⟨j + 1, by omega, by go_num, by rw [HS2.out], by trivial⟩
        case measure => simp [intOf]; omega
      · have HS2 : Hid (spnTo n (j + 1) = T) := Lib.hid (by rw [HS.out, if_neg (by omega)])
        clear HS
        go_wp2_with fail
        refine HBJ.out.mono ?_
        rintro e w' ⟨rfl, rfl⟩
        clear HBJ
        go_wp2_with fail
        go_roundw
        case rel => exact ⟨j + 1, by omega, by go_num, by rw [HS2.out], by trivial⟩
        case measure => simp [intOf]; omega
    · obtain rfl : j = 30 := by omega
      rw [show spnTo n 30 = spnS n from rfl]
      have HBJ := Lib.hid (HB.out (spnS n) w (spnS_le n))
      obtain ⟨s, hs⟩ : ∃ s, spnS n = s := ⟨_, rfl⟩
      have hin := HI.out.1
      rw [hs] at HBJ hin ⊢
      obtain ⟨A, hA⟩ : ∃ A, farN s = A := ⟨_, rfl⟩
      obtain ⟨C, hC⟩ : ∃ C, farC s = C := ⟨_, rfl⟩
      rw [hA, hC] at HBJ
      rw [hA] at hin
      have HS1 := Lib.hid hs
      have HA1 := Lib.hid hA
      have HC1 := Lib.hid hC
      have E1 : Hid ((n : Int) - (A : Int) = ((n - A : Nat) : Int)) := Lib.hid (by omega)
      clear hs hA hC HI
      go_wp2_with fail
      refine HBJ.out.mono ?_
      rintro e w' ⟨rfl, rfl⟩
      clear HBJ
      go_wp2_with fail
      go_ret3
      exact ⟨by rw [HS1.out, HA1.out, HC1.out, ← E1.out]; rfl, rfl⟩
end Go.Proofs.YtnndgpggjlhhpaaGreat
namespace Go.Proofs.YtnndgpggjlhhpaaGreat
open Go.RowKit
variable {X : Wx} {w0 : World} {g : Nat} {r0 : Option Nat} {L : List Nat}
theorem WrTo.step {w w' : World} {M : List Nat} {r : Option Nat} (hf : Fr (WrB g r0) w0 w) (hr : r = r0 ∨ ∀ j, r = some j → w0.heap.size ≤ j) (h : WrTo X w w' g r M) : WrTo X w0 w' g r0 M := WrTo.trans hf hr h
theorem WrTo.fr0 {w w' : World} (h : WrTo X w0 w g r0 L) (f : Fr S0 w w') : WrTo X w0 w' g r0 L := by
  obtain ⟨r, h1, h2, h3⟩ := h
  exact ⟨r, h1.fr0 f, h2.trans0 f, h3⟩
theorem group_to {w : World} (h : WrTo X w0 w g r0 L) (n c : Nat) (hn : n < 2 ^ c) (hc : c ≤ 32) (hL : L.length + 32 ≤ 1099511627776) :
    Calls Tryz.prog 181 #[.pointer (some ⟨g, 0, none⟩), .int .u32 n, .int .i64 c] w fun e w' => e = .returned (.int .i64 0) ∧ WrTo X w0 w' g r0 (L ++ grp n c) := by
  obtain ⟨r, h1, h2, h3⟩ := h
  have hp : 2 ^ c ≤ 2 ^ 32 := Nat.pow_le_pow_right (by decide) hc
  refine (group_yes g r L n c w h1 (by omega) (decide_eq_true ⟨by omega, by omega, by rw [Int.toNat_natCast]; exact hn⟩) hL).mono ?_
  rintro e w' ⟨he, h4⟩
  rw [Int.toNat_natCast] at h4
  exact ⟨he, WrTo.step h2 h3 h4⟩
theorem align_to {w : World} (h : WrTo X w0 w g r0 L) (hL : L.length ≤ 1099511627776) :
    Calls Tryz.prog 180 #[.pointer (some ⟨g, 0, none⟩)] w fun e w' => e = .returned (.tuple #[]) ∧ WrTo X w0 w' g r0 (alg L) := by
  obtain ⟨r, h1, h2, h3⟩ := h
  refine (align_any g r L w h1 hL).mono ?_
  rintro e w' ⟨he, h4⟩
  exact ⟨he, WrTo.step h2 h3 h4⟩
theorem text_to {w : World} (h : WrTo X w0 w g r0 L) (q : Option Addr) (d : Nat) (l : List Nat) (hl : SlI w .u8 q l) (h8 : ∀ x ∈ l, x < 256) (hq : q = none → d = 0) (hL : L.length + 8 * l.length + 8 ≤ 1099511627776) :
    Calls Tryz.prog 182 #[.pointer (some ⟨g, 0, none⟩), .slice q l.length d] w fun e w' => e = .returned (.tuple #[]) ∧ WrTo X w0 w' g r0 (alg L ++ bts l) := by
  obtain ⟨r, h1, h2, h3⟩ := h
  refine (text_any g r L q d l w h1 hl h8 hq hL).mono ?_
  rintro e w' ⟨he, h4⟩
  exact ⟨he, WrTo.step h2 h3 h4⟩
theorem bytes_to {w : World} (h : WrTo X w0 w g r0 L) (hL : L.length ≤ 1099511627776) :
    Calls Tryz.prog 154 #[.pointer (some ⟨g, 0, none⟩)] w fun e w' => ∃ v, e = .returned v ∧ Fr S0 w w' ∧ RowNew w w' v (byt L) := by
  obtain ⟨r, h1, h2, h3⟩ := h
  exact bytes_any g r L w h1 hL
theorem write_to {w : World} (h : WrTo X w0 w g r0 L) (A B gs : Nat) (l : List Nat) (i : Nat) (hs : SetIs w A B gs l) (hi : 0 < len l i) (hL : L.length + 32 ≤ 1099511627776) :
    Calls Tryz.prog 187 #[.pointer (some ⟨gs, 0, none⟩), .pointer (some ⟨g, 0, none⟩), .int .i64 i] w fun e w' => e = .returned (.int .i64 0) ∧ WrTo X w0 w' g r0 (L ++ code (cod l i) (len l i)) := by
  obtain ⟨r, h1, h2, h3⟩ := h
  refine (write_yes A B gs l i g r L w hs hi h1 hL).mono ?_
  rintro e w' ⟨he, h4⟩
  exact ⟨he, WrTo.step h2 h3 h4⟩
theorem head_to {w : World} (h : WrTo X w0 w g r0 L) (k : Nat) (last : Bool) (hk : k < 4) (hL : L.length + 100 ≤ 1099511627776) :
    Calls Tryz.prog 179 #[.pointer (some ⟨g, 0, none⟩), .int .u32 k, .bool last] w fun e w' => e = .returned (.tuple #[]) ∧ WrTo X w0 w' g r0 (L ++ grp last.toNat 1 ++ grp k 2) := by
  have H := Lib.hid h
  have HL := Lib.hid hL
  have HG : Hid (∀ n : Nat, n < 2 → Calls Tryz.prog 181 #[.pointer (some ⟨g, 0, none⟩), .int .u32 n, .int .i64 1] w fun e w' => e = .returned (.int .i64 0) ∧ WrTo X w0 w' g r0 (L ++ grp n 1)) := Lib.hid fun n hn => group_to h n 1 hn (by decide) (by omega)
  have HG2 : Hid (∀ (n : Nat) (w : World), WrTo X w0 w g r0 (L ++ grp n 1) → Calls Tryz.prog 181 #[.pointer (some ⟨g, 0, none⟩), .int .u32 k, .int .i64 2] w fun e w' => e = .returned (.int .i64 0) ∧ WrTo X w0 w' g r0 (L ++ grp n 1 ++ grp k 2)) :=
    Lib.hid fun n w hw => group_to hw k 2 hk (by decide) (by rw [List.length_append, grp_length]; omega)
  clear h hL
  cases last with
  | false =>
    have HA : Hid (Calls Tryz.prog 181 #[.pointer (some ⟨g, 0, none⟩), .int .u32 0, .int .i64 1] w fun e w' => e = .returned (.int .i64 0) ∧ WrTo X w0 w' g r0 (L ++ grp 0 1)) := Lib.hid (HG.out 0 (by decide))
    go_enter Tryz.func179, Tryz.ntmps179
    go_wp2_with fail
    refine HA.out.mono ?_
    rintro e w' ⟨rfl, h1⟩
    have HB := Lib.hid (HG2.out 0 w' h1)
    clear HG HG2 HA h1
    go_wp2_with fail
    refine HB.out.mono ?_
    rintro e w' ⟨rfl, h1⟩
    have K := Lib.hid h1
    clear HB h1
    go_wp2_with fail
    go_end0
    exact ⟨rfl, K.out⟩
  | true =>
    have HA : Hid (Calls Tryz.prog 181 #[.pointer (some ⟨g, 0, none⟩), .int .u32 1, .int .i64 1] w fun e w' => e = .returned (.int .i64 0) ∧ WrTo X w0 w' g r0 (L ++ grp 1 1)) := Lib.hid (HG.out 1 (by decide))
    go_enter Tryz.func179, Tryz.ntmps179
    go_wp2_with fail
    refine HA.out.mono ?_
    rintro e w' ⟨rfl, h1⟩
    have HB := Lib.hid (HG2.out 1 w' h1)
    clear HG HG2 HA h1
    go_wp2_with fail
    refine HB.out.mono ?_
    rintro e w' ⟨rfl, h1⟩
    have K := Lib.hid h1
    clear HB h1
    go_wp2_with fail
    go_end0
    exact ⟨rfl, K.out⟩
end Go.Proofs.YtnndgpggjlhhpaaGreat
namespace Go.Proofs.YtnndgpggjlhhpaaGreat
open Go.RowKit
theorem grp_add (n a : Nat) : ∀ b, grp n (a + b) = grp n a ++ grp (n / 2 ^ a) b
  | 0 => by simp [grp]
  | b + 1 => by
    rw [← Nat.add_assoc, grp_succ, grp_add n a b, grp_succ, List.append_assoc, Nat.div_div_eq_div_mul, ← Nat.pow_add]
theorem grp_16 (n : Nat) : grp n 16 = grp (n % 256) 8 ++ grp (n / 256) 8 := by
  rw [show (16 : Nat) = 8 + 8 from rfl, grp_add, show (256 : Nat) = 2 ^ 8 from rfl, grp_mod]
theorem alg_bts (B l : List Nat) : alg (bts B ++ l) = bts B ++ alg l := by
  unfold alg
  rw [List.append_assoc]
  congr 2
  rw [List.length_append, bts_length]
  congr 1
  omega
theorem bts_cons (x : Nat) (l : List Nat) : bts (x :: l) = grp x 8 ++ bts l := by simp [bts]
def stoB (L : List Nat) (last : Bool) (l : List Nat) : List Nat := alg (alg (L ++ grp last.toNat 1 ++ grp 0 2) ++ grp l.length 16 ++ grp (65535 - l.length) 16) ++ bts l
theorem sto_bits (B l : List Nat) (last : Bool) (hl : l.length ≤ 65535) : stoB (bts B) last l = bts (B ++ blk last.toNat l) := by
  have h1 : alg (bts B ++ grp last.toNat 1 ++ grp 0 2) = bts B ++ grp last.toNat 8 := by
    rw [List.append_assoc, alg_bts]
    cases last <;> rfl
  unfold stoB
  rw [h1, List.append_assoc, List.append_assoc, alg_bts]
  have h2 : alg (grp last.toNat 8 ++ (grp l.length 16 ++ grp (65535 - l.length) 16)) = grp last.toNat 8 ++ (grp l.length 16 ++ grp (65535 - l.length) 16) := by
    unfold alg
    simp
  rw [h2, grp_16, grp_16, show (65535 - l.length) % 256 = 255 - l.length % 256 by omega, show (65535 - l.length) / 256 = 255 - l.length / 256 by omega, bts_append, blk, bts_append]
  simp only [bts_cons, List.append_assoc]
  rfl
theorem stored_to {X : Wx} {w0 : World} {g : Nat} {r0 : Option Nat} (B : List Nat) (q : Option Addr) (d : Nat) (l : List Nat) (last : Bool) (w : World) (h : WrTo X w0 w g r0 (bts B)) (hl : SlI w0 .u8 q l) (hoff : l ≠ [] → Off (WrB g r0) q) (h8 : ∀ x ∈ l, x < 256) (hq : q = none → d = 0) (hn : l.length ≤ 65535) (hB : B.length ≤ 1000000000) :
    Calls Tryz.prog 153 #[.pointer (some ⟨g, 0, none⟩), .slice q l.length d, .bool last] w fun e w' => e = .returned (.tuple #[]) ∧ WrTo X w0 w' g r0 (bts (B ++ blk last.toNat l)) := by
  have HE := Lib.hid (sto_bits B l last hn)
  have HB := Lib.hid hB
  have HSL : Hid (∀ (w : World) (M : List Nat), WrTo X w0 w g r0 M → SlI w .u8 q l) := Lib.hid fun w M hw => by
    obtain ⟨r, -, h2, -⟩ := hw
    exact hl.fr h2 hoff
  have H8 := Lib.hid h8
  have HQ := Lib.hid hq
  have hb : (bts B).length ≤ 8000000000 := by rw [bts_length]; omega
  obtain ⟨L0, hL0⟩ : ∃ L, bts B = L := ⟨_, rfl⟩
  rw [hL0] at h HE hb
  have HH : Hid (Calls Tryz.prog 179 #[.pointer (some ⟨g, 0, none⟩), .int .u32 0, .bool last] w fun e w' => e = .returned (.tuple #[]) ∧ WrTo X w0 w' g r0 (L0 ++ grp last.toNat 1 ++ grp 0 2)) := Lib.hid (head_to h 0 last (by decide) (by omega))
  obtain ⟨L1, hL1⟩ : ∃ L, L0 ++ grp last.toNat 1 ++ grp 0 2 = L := ⟨_, rfl⟩
  have hb1 : L1.length = L0.length + 3 := by rw [← hL1, List.length_append, List.length_append, grp_length, grp_length]
  have HAL : Hid (∀ w : World, WrTo X w0 w g r0 L1 → Calls Tryz.prog 180 #[.pointer (some ⟨g, 0, none⟩)] w fun e w' => e = .returned (.tuple #[]) ∧ WrTo X w0 w' g r0 (alg L1)) := Lib.hid fun w hw => align_to hw (by omega)
  have hb2 := alg_length L1
  obtain ⟨L2, hL2⟩ : ∃ L, alg L1 = L := ⟨_, rfl⟩
  rw [hL2] at HAL hb2
  obtain ⟨n, hnn⟩ : ∃ n, l.length = n := ⟨_, rfl⟩
  have HG1 : Hid (∀ w : World, WrTo X w0 w g r0 L2 → Calls Tryz.prog 181 #[.pointer (some ⟨g, 0, none⟩), .int .u32 n, .int .i64 16] w fun e w' => e = .returned (.int .i64 0) ∧ WrTo X w0 w' g r0 (L2 ++ grp n 16)) := Lib.hid fun w hw => group_to hw n 16 (by omega) (by decide) (by omega)
  obtain ⟨L3, hL3⟩ : ∃ L, L2 ++ grp n 16 = L := ⟨_, rfl⟩
  have hb3 : L3.length = L2.length + 16 := by rw [← hL3, List.length_append, grp_length]
  have HG2 : Hid (∀ w : World, WrTo X w0 w g r0 L3 → Calls Tryz.prog 181 #[.pointer (some ⟨g, 0, none⟩), .int .u32 ((65535 - n : Nat) : Int), .int .i64 16] w fun e w' => e = .returned (.int .i64 0) ∧ WrTo X w0 w' g r0 (L3 ++ grp (65535 - n) 16)) := Lib.hid fun w hw => group_to hw (65535 - n) 16 (by omega) (by decide) (by omega)
  obtain ⟨L4, hL4⟩ : ∃ L, L3 ++ grp (65535 - n) 16 = L := ⟨_, rfl⟩
  have hb4 : L4.length = L3.length + 16 := by rw [← hL4, List.length_append, grp_length]
  have HTX : Hid (∀ w : World, WrTo X w0 w g r0 L4 → Calls Tryz.prog 182 #[.pointer (some ⟨g, 0, none⟩), .slice q n d] w fun e w' => e = .returned (.tuple #[]) ∧ WrTo X w0 w' g r0 (alg L4 ++ bts l)) := Lib.hid fun w hw => by
    have := text_to hw q d l (HSL.out w _ hw) H8.out HQ.out (by omega)
    rw [hnn] at this
    exact this
  have HE2 : Hid (alg L4 ++ bts l = bts (B ++ blk last.toNat l)) := Lib.hid (by
    rw [← HE.out, stoB, ← hL4, ← hL3, ← hL2, ← hL1, hnn])
  rw [hL1] at HH
  rw [hL3] at HG1
  rw [hL4] at HG2
  rw [HE2.out] at HTX
  rw [hnn] at hn ⊢
  have E1 : Hid ((65535 : Int) - (n : Int) = ((65535 - n : Nat) : Int)) := Lib.hid (by omega)
  clear hl hoff h8 hq h hb hb1 hb2 hb3 hb4 hL0 hL1 hL2 hL3 hL4 hnn HE HE2 HSL hB
  go_enter Tryz.func153, Tryz.ntmps153
  go_wp2_with fail
  refine HH.out.mono ?_
  rintro e w1 ⟨rfl, h1⟩
  have K1 := Lib.hid (HAL.out w1 h1)
  clear h1 HH HAL
  go_wp2_with fail
  refine K1.out.mono ?_
  rintro e w2 ⟨rfl, h2⟩
  have K2 := Lib.hid (HG1.out w2 h2)
  clear h2 K1 HG1
  go_wp2_with fail
  refine K2.out.mono ?_
  rintro e w3 ⟨rfl, h3⟩
  have K3 := Lib.hid (HG2.out w3 h3)
  clear h3 K2 HG2
  go_wp2_with fail
  rw [E1.out]
  refine K3.out.mono ?_
  rintro e w4 ⟨rfl, h4⟩
  have K4 := Lib.hid (HTX.out w4 h4)
  clear h4 K3 HTX
  go_wp2_with fail
  refine K4.out.mono ?_
  rintro e w5 ⟨rfl, h5⟩
  have K5 := Lib.hid h5
  clear h5 K4
  go_wp2_with fail
  go_end0
  exact ⟨rfl, K5.out⟩
theorem blk_256 (f : Nat) (l : List Nat) (hf : f < 256) (hl : l.length ≤ 65535) (h : ∀ x ∈ l, x < 256) : ∀ x ∈ blk f l, x < 256 := by
  intro x hx
  simp only [blk, List.mem_append, List.mem_cons, List.not_mem_nil, or_false] at hx
  rcases hx with (rfl | rfl | rfl | rfl | rfl) | hx
  · exact hf
  · omega
  · omega
  · omega
  · omega
  · exact h x hx
theorem sto_256 : ∀ (n : Nat) (b : List Nat), b.length ≤ n → (∀ x ∈ b, x < 256) → ∀ x ∈ sto b, x < 256
  | 0, b, hn, h => by rw [sto_last (by omega)]; exact blk_256 1 b (by decide) (by omega) h
  | n + 1, b, hn, h => by
    by_cases hl : b.length ≤ 65535
    · rw [sto_last hl]; exact blk_256 1 b (by decide) hl h
    · rw [sto_more hl]
      intro x hx
      rcases List.mem_append.1 hx with hx | hx
      · exact blk_256 0 _ (by decide) (by rw [List.length_take]; omega) (fun y hy => h y (List.mem_of_mem_take hy)) x hx
      · exact sto_256 n _ (by rw [List.length_drop]; omega) (fun y hy => h y (List.mem_of_mem_drop hy)) x hx
theorem sto_length : ∀ (n : Nat) (b : List Nat), b.length ≤ n → (sto b).length ≤ 2 * b.length + 5
  | 0, b, hn => by rw [sto_last (by omega), blk_length]; omega
  | n + 1, b, hn => by
    by_cases hl : b.length ≤ 65535
    · rw [sto_last hl, blk_length]; omega
    · rw [sto_more hl, List.length_append, blk_length, List.length_take]
      have := sto_length n (b.drop 65535) (by rw [List.length_drop]; omega)
      rw [List.length_drop] at this
      omega
theorem WrTo.start {w : World} : WrTo Wx0 (w.alloc (.cells #[.slice none 0 0, .int .i64 0] 211)) (w.alloc (.cells #[.slice none 0 0, .int .i64 0] 211)) w.heap.size none [] := by
  obtain ⟨r, h1, -, -, h4⟩ := WrNew.zero (Fr.refl S0 w)
  have h5 : r = none := by
    cases r with
    | none => rfl
    | some j =>
      have a := h4 j rfl
      have b := h1.rlt j rfl
      rw [size_alloc] at b
      exact absurd (show some j = some w.heap.size by congr 1; omega) h1.apart
  subst h5
  exact h1.self
theorem WrTo.new {X : Wx} {w0 w w' : World} {g : Nat} {L : List Nat} (h : WrTo X w0 w' g none L) (f : Fr S0 w w0) (hg : w.heap.size ≤ g) : Fr S0 w w' := by
  obtain ⟨r, -, h2, -⟩ := h
  refine f.trans h2 fun j hj e => ?_
  rcases e with e | e
  · omega
  · cases e
theorem dsto_any (p : Option Addr) (d : Nat) (b : List Nat) (w : World) (hb : SlI w .u8 p b) (h8 : ∀ x ∈ b, x < 256) (hp : p = none → d = 0) (hd : b.length ≤ d) (hL : b.length ≤ 1048576) :
    Calls Tryz.prog 129 #[.slice p b.length d] w fun e w' => ∃ v, e = .returned v ∧ Fr S0 w w' ∧ RowNew w w' v (sto b) := by
  obtain ⟨w1, hw1⟩ : ∃ w1, w.alloc (.cells #[.slice none 0 0, .int .i64 0] 211) = w1 := ⟨_, rfl⟩
  have HW : Hid (WrTo Wx0 w1 w1 w.heap.size none (bts [])) := Lib.hid (by rw [← hw1]; exact WrTo.start)
  have HF1 : Hid (Fr S0 w w1) := Lib.hid (by rw [← hw1]; exact Fr.alloc _ _ _)
  have HS : Hid (SlI w1 .u8 p b) := Lib.hid (hb.fr0 HF1.out)
  have HLT := Lib.hid (fun (h : b ≠ []) => hb.lt h)
  have H8 := Lib.hid h8
  have HP := Lib.hid hp
  have H256 := Lib.hid (sto_256 b.length b (Nat.le_refl _) h8)
  have HSL := Lib.hid (sto_length b.length b (Nat.le_refl _))
  obtain ⟨m, hm⟩ : ∃ m, b.length = m := ⟨_, rfl⟩
  have HM := Lib.hid hm
  rw [hm] at hd hL ⊢
  clear hb h8 hp hm
  go_enter Tryz.func129, Tryz.ntmps129
  go_wp2_with fail
  go_loopw [0] (fun s wr => ∃ (l B : List Nat) (q : Option Addr) (n c : Nat), l.length = n ∧ s = .slice q n c ∧ sto b = B ++ sto l ∧ n ≤ m ∧ n ≤ c ∧ c ≤ d ∧ B.length + 2 * n ≤ 2 * m ∧ (∀ x ∈ l, x < 256) ∧ SlI w1 .u8 q l ∧ (q = none → c = 0) ∧ (l ≠ [] → ∀ a, q = some a → a.block < w.heap.size) ∧ WrTo Wx0 w1 wr w.heap.size none (bts B)) (fun s _ => match s with | .slice _ n _ => n | _ => 0)
  case atStart => exact ⟨b, [], p, m, d, HM.out, rfl, rfl, by omega, hd, by omega, by simp, H8.out, HS.out, HP.out, HLT.out, HW.out⟩
  case round =>
    obtain ⟨l, B, q, n, c, hln, rfl, hsto, hnm, hnc, hcd, hBn, hl8, hsl, hq, hlt, hto⟩ := hrel
    have HLN := Lib.hid hln
    have HSTO := Lib.hid hsto
    have HBN := Lib.hid hBn
    have HL8 := Lib.hid hl8
    have HSLI := Lib.hid hsl
    have HQ := Lib.hid hq
    have HLTT := Lib.hid hlt
    have HTO := Lib.hid hto
    have HOFF : Hid (l ≠ [] → Off (WrB w.heap.size none) q) := Lib.hid fun h a ha e => by
      have := hlt h a ha
      rcases e with e | e
      · omega
      · cases e
    clear hln hsto hBn hl8 hsl hq hlt hto
    by_cases hgt : (n : Int) > 65535
    · have hne : l ≠ [] := fun e => by have h := HLN.out; rw [e] at h; simp at h; omega
      obtain ⟨bb, oo, rfl, -⟩ := HSLI.out.at 0 (by rw [HLN.out]; omega)
      have htl : (l.take 65535).length = 65535 := by rw [List.length_take, HLN.out]; omega
      have HC := Lib.hid (stored_to B (some ⟨bb, oo, none⟩) c (l.take 65535) false wr HTO.out (HSLI.out.take 65535) (fun _ => HOFF.out hne) (fun x hx => HL8.out x (List.mem_of_mem_take hx)) (fun h => by cases h) (by rw [htl]; decide) (by have := HBN.out; omega))
      rw [htl] at HC
      have HE : Hid (sto b = (B ++ blk false.toNat (l.take 65535)) ++ sto (l.drop 65535)) := Lib.hid (by rw [HSTO.out, sto_more (by rw [HLN.out]; omega), List.append_assoc]; rfl)
      have HD : Hid (SlI w1 .u8 (some ⟨bb, oo + 65535, none⟩) (l.drop 65535)) := Lib.hid (HSLI.out.drop 65535)
      have HDL : Hid ((l.drop 65535).length = n - 65535) := Lib.hid (by rw [List.length_drop, HLN.out])
      have HBL : Hid ((B ++ blk false.toNat (l.take 65535)).length = B.length + 65540) := Lib.hid (by rw [List.length_append, blk_length, htl])
      have HD8 : Hid (∀ x ∈ l.drop 65535, x < 256) := Lib.hid fun x hx => HL8.out x (List.mem_of_mem_drop hx)
      have HDT : Hid (bb < w.heap.size) := Lib.hid (HLTT.out hne _ rfl)
      have q1 : ¬ (c : Int) = 65535 := by omega
      have q2 : (65535 : Int) ≤ (c : Int) := by omega
      have q3 : (n : Int) ≤ (c : Int) := by omega
      clear hne htl HSLI HOFF HL8 HQ HLTT HSTO
      go_wp2_with fail
      refine HC.out.mono ?_
      rintro e w2 ⟨rfl, h2⟩
      have K := Lib.hid h2
      clear h2 HC
      go_wp2_with fail
      exact ⟨⟨l.drop 65535, B ++ blk false.toNat (l.take 65535), _, _, _, HDL.out, rfl, HE.out, by omega, by omega, by omega, by rw [HBL.out]; have := HBN.out; omega, HD8.out, HD.out, (fun h => by cases h), (fun _ a ha => by cases ha; exact HDT.out), K.out⟩, by simp only; omega⟩
    · have hn : n ≤ 65535 := by omega
      have HC := Lib.hid (stored_to B q c l true wr HTO.out HSLI.out HOFF.out HL8.out HQ.out (by rw [HLN.out]; exact hn) (by have := HBN.out; omega))
      rw [HLN.out] at HC
      have HE : Hid (sto b = B ++ blk true.toNat l) := Lib.hid (by rw [HSTO.out, sto_last (by rw [HLN.out]; exact hn)]; rfl)
      have HR : Hid (∀ w2 : World, WrTo Wx0 w1 w2 w.heap.size none (bts (B ++ blk true.toNat l)) → Calls Tryz.prog 154 #[.pointer (some ⟨w.heap.size, 0, none⟩)] w2 fun e w' => ∃ v, e = .returned v ∧ Fr S0 w2 w' ∧ RowNew w2 w' v (sto b)) := Lib.hid fun w2 h2 => by
        have := bytes_to h2 (by rw [bts_length, ← HE.out]; have := HSL.out; have := HM.out; omega)
        rw [← HE.out, byt_bts _ H256.out] at this
        exact this
      clear HSLI HOFF HL8 HQ HLTT
      go_wp2_with fail
      refine HC.out.mono ?_
      rintro e w2 ⟨rfl, h2⟩
      have K1 := Lib.hid (HR.out w2 h2)
      have K2 : Hid (Fr S0 w w2) := Lib.hid (h2.new HF1.out (Nat.le_refl _))
      clear h2 HR HC
      go_wp2_with fail
      refine K1.out.mono ?_
      rintro e w3 ⟨v, rfl, f3, hv⟩
      have K3 := Lib.hid hv
      have K4 := Lib.hid f3
      clear f3 hv K1
      go_wp2_with fail
      go_ret
      exact ⟨v, rfl, K2.out.trans0 K4.out, K3.out.own, fun j hj => Nat.le_trans K2.out.size (K3.out.fresh j hj)⟩
end Go.Proofs.YtnndgpggjlhhpaaGreat
