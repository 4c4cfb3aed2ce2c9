/- BitSpec, BitPut, BitWr, BitText, BitRd -/
import Derived.Test.YtbpfmjekpjfceaaPm1
import Derived.Test.YtbpfmjekpjfceaaPm3
import Derived.Test.YtbpfmjekpjfceaaPm11
import Derived.StillTailTactics
import Derived.WalkKit
import Derived.WalkSpells
import Derived.WalkLawsBesides
import Derived.Deep.QuietTactic
import Derived.BigQuiet
import Derived.RegionTactic
import Derived.Deep.AppendLies
import Derived.Deep.RegionLaw
import Derived.Laws.ResultCell
import Derived.Laws.EntriesVeiled
import Derived.Lib.Hide
import Derived.Test.YtbpfmjekpjfceaaRows
import Derived.Laws.BytesArg
import Derived.Lib.SlBytesConst
import Derived.Maps.AppendAt
import Derived.Laws.AppendOwnNone
set_option maxRecDepth 100000
set_option maxHeartbeats 8000000
namespace Go.Proofs.Ytbpfmjekpjfceaa
open Go.RowKit
theorem SlI.drop {w : World} {k : IntKind} {b o : Nat} {l : List Nat} (h : SlI w k (some ⟨b, o, none⟩) l) (n : Nat) : SlI w k (some ⟨b, o + n, none⟩) (l.drop n) := by
  refine ⟨by have := h.1; rw [List.length_drop]; omega, fun hl => ?_⟩
  obtain ⟨b', o', hp, hc⟩ := h.2 (by intro e; subst e; simp at hl)
  simp only [Option.some.injEq, Addr.mk.injEq] at hp
  obtain ⟨rfl, rfl, -⟩ := hp
  refine ⟨b, o + n, rfl, fun i hi => ?_⟩
  rw [List.length_drop] at hi
  rw [Nat.add_assoc, hc (n + i) (by omega), List.getElem_drop]
structure RdIs (w : World) (g : Nat) (r : Option Nat) (b : List Nat) (k : Nat) : Prop where
  ex : ∃ p c, w.heap[g]? = some (.cells #[.slice p b.length c, .int .i64 (k : Nat)] 89 (0, 0)) ∧
    w.ownsRow 0 5 1 (.slice p b.length c) b.length (u8s b) ∧ Value.ownBlock (.slice p b.length c) = r
  bytes : ∀ x ∈ b, x < 256
  inside : k ≤ 8 * b.length
  apart : r ≠ some g
def RdTo (w w' : World) (g : Nat) (r : Option Nat) (b : List Nat) (k : Nat) : Prop := RdIs w' g r b k ∧ Fr (· = g) w w'
theorem RdIs.lt {w : World} {g : Nat} {r : Option Nat} {b : List Nat} {k : Nat} (h : RdIs w g r b k) : g < w.heap.size := by
  obtain ⟨p, c, h1, -, -⟩ := h.ex
  exact (Array.getElem?_eq_some_iff.1 h1).1
theorem RdIs.rlt {w : World} {g : Nat} {r : Option Nat} {b : List Nat} {k : Nat} (h : RdIs w g r b k) : ∀ j, r = some j → j < w.heap.size := by
  obtain ⟨p, c, -, h2, h3⟩ := h.ex
  intro j hj
  exact (h2.lt j (h3.trans hj)).2
theorem RdIs.fr {w w' : World} {g : Nat} {r : Option Nat} {b : List Nat} {k : Nat} {S : Nat → Prop} (h : RdIs w g r b k) (hf : Fr S w w') (hg : ¬ S g) (hr : ∀ j, r = some j → ¬ S j) : RdIs w' g r b k := by
  obtain ⟨p, c, h1, h2, h3⟩ := h.ex
  exact ⟨⟨p, c, hf.row h1 hg, hf.owns h2 (fun k hk => hr k (h3.symm.trans hk)), h3⟩, h.bytes, h.inside, h.apart⟩
theorem RdIs.fr0 {w w' : World} {g : Nat} {r : Option Nat} {b : List Nat} {k : Nat} (h : RdIs w g r b k) (hf : Fr S0 w w') : RdIs w' g r b k := h.fr hf (fun h => h) (fun _ _ h => h)
theorem RdIs.self {w : World} {g : Nat} {r : Option Nat} {b : List Nat} {k : Nat} (h : RdIs w g r b k) : RdTo w w g r b k := ⟨h, Fr.refl _ _⟩
theorem RdTo.trans {w w1 w2 : World} {g : Nat} {r : Option Nat} {b : List Nat} {k j : Nat} (h : RdTo w w1 g r b k) (i : RdTo w1 w2 g r b j) : RdTo w w2 g r b j := ⟨i.1, h.2.trans i.2 fun _ _ h => h⟩
theorem RdIs.set {w : World} {g : Nat} {r : Option Nat} {b : List Nat} {k : Nat} (h : RdIs w g r b k) (j : Nat) (hj : j ≤ 8 * b.length) : RdTo w (w.setCell ⟨g, 1, none⟩ (.int .i64 (j : Nat))) g r b j := by
  obtain ⟨p, c, h1, h2, h3⟩ := h.ex
  refine ⟨⟨⟨p, c, by rw [heap_setCell_same w g 1 _ _ _ h1]; rfl, (Fr.setCell (· = g) w ⟨g, 1, none⟩ _ rfl).owns h2 (fun k hk e => h.apart (by rw [← h3, hk, e])), h3⟩, h.bytes, hj, h.apart⟩, Fr.setCell _ _ _ _ rfl⟩
def RdNew (w w' : World) (g : Nat) (r : Option Nat) (b : List Nat) (k : Nat) : Prop := RdIs w' g r b k ∧ Fr S0 w w' ∧ w.heap.size ≤ g ∧ ∀ j, r = some j → w.heap.size ≤ j
theorem RdNew.to {w w1 w2 : World} {g : Nat} {r : Option Nat} {b : List Nat} {k : Nat} (hf : Fr S0 w w1) (hg : w.heap.size ≤ g) (hr : ∀ j, r = some j → w.heap.size ≤ j) (h : RdTo w1 w2 g r b k) : RdNew w w2 g r b k :=
  ⟨h.1, hf.trans h.2 (fun j hj e => by omega), hg, hr⟩
structure RowNew (w w' : World) (v : Value) (l : List Nat) : Prop where
  own : w'.ownsRow 0 5 1 v l.length (u8s l)
  fresh : Fresh w v
end Go.Proofs.Ytbpfmjekpjfceaa

namespace Go.Proofs.Ytbpfmjekpjfceaa
open Go.RowKit
theorem wr_c0 {w : World} {g : Nat} {a b : Value} {t : TypeId} (h : w.heap[g]? = some (.cells #[a, b] t (0, 0))) : w.cell? ⟨g, 0, none⟩ = some a := by simp [World.cell?, h]
theorem wr_c1 {w : World} {g : Nat} {a b : Value} {t : TypeId} (h : w.heap[g]? = some (.cells #[a, b] t (0, 0))) : w.cell? ⟨g, 1, none⟩ = some b := by simp [World.cell?, h]
theorem wr_f {w : World} {g : Nat} {a b : Value} {t : TypeId} (h : w.heap[g]? = some (.cells #[a, b] t (0, 0))) (k : Nat) : w.frozen? ⟨g, k, none⟩ = false := by simp [World.frozen?, h]
end Go.Proofs.Ytbpfmjekpjfceaa

namespace Go.Proofs.Ytbpfmjekpjfceaa
open Go.RowKit
def code (n c : Nat) : List Nat := (grp n c).reverse
end Go.Proofs.Ytbpfmjekpjfceaa

namespace Go.Proofs.Ytbpfmjekpjfceaa
open Go.RowKit
theorem clone_any (q : Option Addr) (d : Nat) (l : List Nat) (w : World) (hl : SlI w .u8 q l) (hq : q = none → d = 0) (hL : l.length ≤ 140737488355328) :
    Calls Try.prog 70 #[.slice q l.length d] w fun e w' => ∃ v, e = .returned v ∧ Fr S0 w w' ∧ RowNew w w' v l := by
  have hnil : ∀ (w : World) (a : Option Addr) (n c n' c' : Nat), (binOp .eql 23 (.slice a n c) (.slice none n' c')).run Try.prog w = .ok (.bool a.isNone) w := fun w a n c n' c' => Lib.run_eql_slice_nil w _ _ a n c n' c' Try.underlying23
  cases q with
  | none =>
    obtain rfl : l = [] := by
      by_cases h : l = []
      · exact h
      · obtain ⟨b, o, hp, -⟩ := hl.2 h
        cases hp
    obtain rfl := hq rfl
    go_enter Try.func70, Try.ntmps70
    go_wp2
    go_ret
    exact ⟨_, rfl, Fr.refl _ _, World.ownsRow_nil _ _ _ _, fresh_nil _ _⟩
  | some a =>
    have HR : Hid (l.length * 1 ≤ 140737488355328 ∧ l.length ≤ maxLen) := Lib.hid ⟨by omega, by unfold maxLen; omega⟩
    have hs := SrcIs.ofSl (hl.fr0 (Fr.alloc S0 w (.cells #[] 5))) hq
    clear hl hL hq
    go_enter Try.func70, Try.ntmps70
    go_wp2_with (first
      | ((with_reducible show wpList _ _ _ (Oper.mk (some 7) _ _ _ _ _ :: _) _ _); refine app_many_big el8 (.tmp 5) (.tmp 6) (own_none w _) hs (Nat.zero_add _) rfl rfl rfl rfl (ones _) HR.out.1 HR.out.2 ?_; intro p1 c1 w1 own1 g1 at1; have f1 := fr_made (Fr.refl S0 w) g1; have v1 := fresh_many (fresh_made (n := 0) (c := 0) (Fr.refl S0 w)) (size_le (Fr.refl S0 w)) at1; clear g1 at1)
      | fail)
    go_ret
    exact ⟨_, rfl, f1, by rw [List.nil_append] at own1; exact own1, v1⟩
end Go.Proofs.Ytbpfmjekpjfceaa

namespace Go.Proofs.Ytbpfmjekpjfceaa
open Go.RowKit
theorem RdIs.drewN {w : World} {g : Nat} {r : Option Nat} {b : List Nat} {k : Nat} (h : RdIs w g r b k) (n : Nat) : RdTo w (w.drewN n) g r b k := ⟨h.fr0 (Fr.drewN _ _ _), Fr.drewN _ _ _⟩
theorem RdTo.fr0 {w w1 w2 : World} {g : Nat} {r : Option Nat} {b : List Nat} {k : Nat} (h : RdTo w w1 g r b k) (hf : Fr S0 w1 w2) : RdTo w w2 g r b k := ⟨h.1.fr0 hf, h.2.trans0 hf⟩
def bitsAt (b : List Nat) (k c : Nat) : List Nat := ((bts b).drop k).take c
theorem bitsAt_length (b : List Nat) (k c : Nat) (h : k + c ≤ 8 * b.length) : (bitsAt b k c).length = c := by
  unfold bitsAt
  rw [List.length_take, List.length_drop, bts_length]; omega
theorem bitsAt_bit (b : List Nat) (k c : Nat) : Bit01 (bitsAt b k c) := (bts_bit b).sub fun _ hx => List.mem_of_mem_drop (List.mem_of_mem_take hx)
theorem bitsAt_lt (b : List Nat) (k c : Nat) : num (bitsAt b k c) < 2 ^ c := by
  refine Nat.lt_of_lt_of_le (num_lt _ (bitsAt_bit b k c)) (Nat.pow_le_pow_right (by decide) ?_)
  unfold bitsAt
  rw [List.length_take]; omega
theorem and_one8 (x k : Nat) (hx : x < 256) : bits .and .u8 ((x : Int) / 2 ^ k) 1 = ((x / 2 ^ k % 2 : Nat) : Int) := by
  have h := u8_and_nat (x / 2 ^ k) 1 (Nat.lt_of_le_of_lt (Nat.div_le_self _ _) hx) (by decide)
  rw [Nat.and_one_is_mod, Int.natCast_ediv, Int.natCast_pow] at h
  exact h
theorem getD_at (l : List Nat) (i : Nat) (h : i < l.length) : l.getD i 0 = l[i] := by simp [List.getD, h]
def bitAt (b : List Nat) (k : Nat) : Nat := b.getD (k / 8) 0 / 2 ^ (k % 8) % 2
theorem bitsAt_succ (b : List Nat) (k c : Nat) (h : k + c < 8 * b.length) : bitsAt b k (c + 1) = bitsAt b k c ++ [bitAt b (k + c)] := by
  have hl : k + c < (bts b).length := by rw [bts_length]; exact h
  unfold bitsAt
  rw [take_drop_succ _ _ _ hl, bts_get b _ hl (by omega)]
  unfold bitAt
  rw [getD_at _ _ (by omega)]
theorem get_any (g : Nat) (r : Option Nat) (b : List Nat) (k : Nat) (w : World) (h : RdIs w g r b k) (hk : k < 8 * b.length) (hs : b.length ≤ 140737488355328) :
    Calls Try.prog 92 #[.pointer (some ⟨g, 0, none⟩)] w fun e w' => e = .returned (.int .u32 (bitAt b k : Nat)) ∧ RdTo w w' g r b (k + 1) := by
  obtain ⟨p, c, hb, own, hr⟩ := h.ex
  have H := Lib.hid h
  obtain ⟨B, hB⟩ : ∃ B, k / 8 = B := ⟨_, rfl⟩
  have hBl : B < b.length := by omega
  have eB : (k : Int) / 8 = (B : Int) := by omega
  obtain ⟨q, cap, hv, -, hq⟩ := own.form (by omega)
  simp only [Value.slice.injEq] at hv
  obtain ⟨rfl, -, rfl⟩ := hv
  have cc := own.cellAt B (by omega)
  rw [show (u8s b)[B]? = some (.int .u8 (b[B] : Nat)) by simp [u8s, hBl]] at cc
  have hx8 := h.bytes _ (List.getElem_mem hBl)
  have hbit : bitAt b k = b[B] / 2 ^ (k % 8) % 2 := by unfold bitAt; rw [hB, getD_at _ _ hBl]
  obtain ⟨x, hx⟩ : ∃ x, b[B] = x := ⟨_, rfl⟩
  rw [hx] at cc hx8 hbit
  have HBIT := Lib.hid hbit
  have HA := Lib.hid (and_one8 x (k % 8) hx8)
  have HS := Lib.hid (fun n => ((h.drewN n).trans ((h.fr0 (Fr.drewN S0 w n)).set (k + 1) (by omega))))
  have h0 := wr_c0 hb
  have h1 := wr_c1 hb
  have h2 := wr_f hb
  have hBs : B < 140737488355328 := by omega
  have hks : k < 1125899906842624 := by omega
  clear hb own hr hq hbit hx hB h
  go_enter Try.func92, Try.ntmps92
  go_wp2
  go_quiet (fail)
  go_wp2
  go_ret
  refine ⟨?_, HS.out _⟩
  have e : ((x / 2 ^ (k % 8) % 2 : Nat) : Int) % 4294967296 = ((bitAt b k : Nat) : Int) := by rw [HBIT.out]; omega
  rw [← e, ← HA.out]
  rfl
theorem left_any (g : Nat) (r : Option Nat) (b : List Nat) (k : Nat) (w : World) (h : RdIs w g r b k) (hs : b.length ≤ 140737488355328) :
    Calls Try.prog 46 #[.pointer (some ⟨g, 0, none⟩)] w fun e w' => e = .returned (.int .i64 (8 * (b.length : Int) - k)) ∧ Fr S0 w w' := by
  obtain ⟨p, c, hb, -, -⟩ := h.ex
  have h0 := wr_c0 hb
  have h1 := wr_c1 hb
  have hks : k ≤ 1125899906842624 := by have := h.inside; omega
  clear hb h
  go_enter Try.func46, Try.ntmps46
  go_wp2
  go_quiet (fail)
  go_wp2
  go_ret
  exact ⟨rfl, Fr.drewN _ _ _⟩
theorem or_num (m x k : Nat) (hk : k < 32) (hm : m < 2 ^ k) (hx : x < 2) : bits .or .u32 (m : Int) ((x : Int) * 2 ^ k % 4294967296) = ((m + 2 ^ k * x : Nat) : Int) := by
  have hp : 2 ^ k ≤ 2147483648 := Nat.le_trans (Nat.pow_le_pow_right (by decide) (show k ≤ 31 by omega)) (by decide)
  have h2 : x * 2 ^ k ≤ 2147483648 := Nat.le_trans (Nat.mul_le_mul (show x ≤ 1 by omega) hp) (by decide)
  rw [show ((x : Int) * 2 ^ k % 4294967296) = ((x * 2 ^ k : Nat) : Int) by
    have e : ((x * 2 ^ k : Nat) : Int) = (x : Int) * 2 ^ k := by simp
    rw [← e]
    omega, u32_or_nat _ _ (by omega) (by omega)]
  congr 1
  rw [Nat.or_comm, ← Nat.shiftLeft_eq, ← Nat.shiftLeft_add_eq_or_of_lt hm, Nat.add_comm, Nat.shiftLeft_eq, Nat.mul_comm]
theorem bitAt_lt (b : List Nat) (k : Nat) : bitAt b k < 2 := Nat.mod_lt _ (by decide)
theorem rgroup_ok (g : Nat) (r : Option Nat) (b : List Nat) (k c : Nat) (w : World) (h : RdIs w g r b k) (hc : c ≤ 32) (hk : k + c ≤ 8 * b.length) (hs : b.length ≤ 140737488355328) :
    Calls Try.prog 73 #[.pointer (some ⟨g, 0, none⟩), .int .i64 c] w fun e w' => e = .returned (.tuple #[.int .u32 (num (bitsAt b k c) : Nat), .int .i64 0]) ∧ RdTo w w' g r b (k + c) := by
  have HM := Lib.hid (some_any (c : Int) w)
  rw [someB_yes (by omega) (by omega)] at HM
  have HL := Lib.hid (left_any g r b k w h hs)
  have H := Lib.hid h
  have HK := Lib.hid hk
  have hks : k ≤ 1125899906842624 := by omega
  have hle : ¬ (c : Int) > 8 * (b.length : Int) - (k : Int) := by omega
  clear h hk
  go_enter Try.func73, Try.ntmps73
  go_wp2_with fail
  refine HM.out.mono ?_
  rintro e w' ⟨rfl, rfl⟩
  go_wp2_with fail
  refine HL.out.mono ?_
  rintro e w1 ⟨rfl, f1⟩
  have F1 := Lib.hid f1
  clear f1
  go_wp2_with fail
  go_loopw [6, 16] (fun m i wr => ∃ j : Nat, j ≤ c ∧ i = .int .i64 j ∧ m = .int .u32 (num (bitsAt b k j) : Nat) ∧ RdTo w wr g r b (k + j)) (fun _ i _ => c - (intOf i).toNat)
  case atStart => exact ⟨0, by omega, rfl, rfl, (H.out.self).fr0 F1.out⟩
  case round =>
    obtain ⟨j, hj, rfl, rfl, hto⟩ := hrel
    have HT := Lib.hid hto
    clear hto
    by_cases hjc : (j : Int) < (c : Int)
    · have hjl : j < c := by omega
      have HG := Lib.hid (get_any g r b (k + j) wr HT.out.1 (by have := HK.out; omega) hs)
      have HO := Lib.hid (or_num (num (bitsAt b k j)) (bitAt b (k + j)) j (by omega) (bitsAt_lt b k j) (bitAt_lt _ _))
      have HN : Hid (num (bitsAt b k (j + 1)) = num (bitsAt b k j) + 2 ^ j * bitAt b (k + j)) := Lib.hid (by
        have := HK.out
        rw [bitsAt_succ b k j (by omega), num_append, num_one, bitsAt_length b k j (by omega)])
      obtain ⟨X, hX⟩ : ∃ X, bitAt b (k + j) = X := ⟨_, rfl⟩
      obtain ⟨m, hm⟩ : ∃ m, num (bitsAt b k j) = m := ⟨_, rfl⟩
      rw [hX] at HG HO HN
      rw [hm] at HO HN ⊢
      clear hX hm
      go_wp2_with fail
      refine HG.out.mono ?_
      rintro e w2 ⟨rfl, hto⟩
      have K := Lib.hid (HT.out.trans hto)
      clear hto HT HG
      go_wp2
      go_roundw
      case rel => exact ⟨j + 1, by omega, by go_num, by rw [HN.out, HO.out], K.out⟩
      case measure => simp [intOf]; omega
    · obtain rfl : j = c := by omega
      obtain ⟨m, hm⟩ : ∃ m, num (bitsAt b k j) = m := ⟨_, rfl⟩
      rw [hm]
      have HM := Lib.hid hm
      clear hm
      go_wp2
      go_ret2
      exact ⟨by rw [HM.out]; rfl, HT.out⟩
theorem rgroup_end (g : Nat) (r : Option Nat) (b : List Nat) (k c : Nat) (w : World) (h : RdIs w g r b k) (hc : c ≤ 32) (hk : 8 * b.length < k + c) (hs : b.length ≤ 140737488355328) :
    Calls Try.prog 73 #[.pointer (some ⟨g, 0, none⟩), .int .i64 c] w fun e w' => e = .returned (.tuple #[.int .u32 0, .int .i64 20]) ∧ Fr S0 w w' := by
  have HM := Lib.hid (some_any (c : Int) w)
  rw [someB_yes (by omega) (by omega)] at HM
  have HL := Lib.hid (left_any g r b k w h hs)
  have hgt : (c : Int) > 8 * (b.length : Int) - (k : Int) := by omega
  clear h hk
  go_enter Try.func73, Try.ntmps73
  go_wp2_with fail
  refine HM.out.mono ?_
  rintro e w' ⟨rfl, rfl⟩
  go_wp2_with fail
  refine HL.out.mono ?_
  rintro e w1 ⟨rfl, f1⟩
  go_wp2
  go_ret2
  exact ⟨rfl, f1⟩
theorem rbit_of (g : Nat) (w : World) (x y : Value) (R : World → Prop) (h : Calls Try.prog 73 #[.pointer (some ⟨g, 0, none⟩), .int .i64 1] w fun e w' => e = .returned (.tuple #[x, y]) ∧ R w') :
    Calls Try.prog 51 #[.pointer (some ⟨g, 0, none⟩)] w fun e w' => e = .returned (.tuple #[x, y]) ∧ R w' := by
  go_enter Try.func51, Try.ntmps51
  go_wp2_with fail
  refine h.mono ?_
  rintro e w1 ⟨rfl, f1⟩
  go_wp2
  go_ret2
  exact ⟨rfl, f1⟩
end Go.Proofs.Ytbpfmjekpjfceaa
