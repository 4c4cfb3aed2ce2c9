/- ReSk -/
import Derived.Test.YtaemgflhgdlmiaaGreatPw1
import Derived.Test.YtaemgflhgdlmiaaGreatPw2
import Derived.Test.YtaemgflhgdlmiaaGreatPw4
import Derived.Test.YtaemgflhgdlmiaaGreatPw5
import Derived.Test.YtaemgflhgdlmiaaGreatPw6
import Derived.Test.YtaemgflhgdlmiaaGreatPw7
import Derived.Test.YtaemgflhgdlmiaaGreatPw8
import Derived.Test.YtaemgflhgdlmiaaGreatPw9
import Derived.Test.YtaemgflhgdlmiaaGreatPw10
import Derived.Test.YtaemgflhgdlmiaaGreatPw11
import Derived.Test.YtaemgflhgdlmiaaGreatPw12
import Derived.Test.YtaemgflhgdlmiaaGreatPw13
import Derived.Test.YtaemgflhgdlmiaaGreatPw14
import Derived.Test.YtaemgflhgdlmiaaGreatPw15
import Derived.Test.YtaemgflhgdlmiaaGreatPw16
import Derived.Test.YtaemgflhgdlmiaaGreatPw17
import Derived.Test.YtaemgflhgdlmiaaGreatPw18
import Derived.Test.YtaemgflhgdlmiaaGreatPw19
import Derived.Test.YtaemgflhgdlmiaaGreatPw20
import Derived.Test.YtaemgflhgdlmiaaGreatPw21
import Derived.Test.YtaemgflhgdlmiaaGreatPw22
import Derived.Test.YtaemgflhgdlmiaaGreatPw23
import Derived.Test.YtaemgflhgdlmiaaGreatPw24
import Derived.Test.YtaemgflhgdlmiaaGreatPw25
import Derived.Test.YtaemgflhgdlmiaaGreatPw26
import Derived.Test.YtaemgflhgdlmiaaGreatPw27
import Derived.Test.YtaemgflhgdlmiaaGreatPw28
import Derived.Test.YtaemgflhgdlmiaaGreatPw32
import Derived.Test.YtaemgflhgdlmiaaGreatPw33
import Derived.Test.YtaemgflhgdlmiaaGreatPw34
import Derived.Test.YtaemgflhgdlmiaaGreatPw35
import Derived.Deep.RegionHeld3
import Derived.WalkKit
import Derived.WalkSpells
import Derived.WalkLawsBesides
import Derived.Deep.QuietTactic
import Derived.BigQuiet
import Derived.RegionTactic
import Derived.Deep.AppendLies
import Derived.Deep.RegionLaw
import Derived.Laws.ResultCell
import Derived.Laws.EntriesVeiled
import Derived.Lib.Hide
import Derived.Test.YtaemgflhgdlmiaaGreatRows
import Derived.Maps.AppendAt
import Derived.Lib.SliceRun
import Derived.StillTailTactics
import Derived.BigRegion
import Derived.Laws.BytesArg
import Derived.Lib.SlBytesConst
import Derived.Laws.AppendOwnNone
import Derived.Laws.Externs
import Derived.Shelf.Spec.BitsCarry
import Derived.Deep.CutBlock
import Derived.Deep.CutRange
import Derived.Deep.DeepCutAuto
import Derived.Lib.BitFns
import Derived.Shelf.Small.Bits
import Derived.Shelf.Strconv.Itoa0
import Derived.Shelf.Bits.Mul64
import Derived.Lib.AppendZeros
import Derived.Laws.CopyOwn
import Derived.Lib.Overlaps
import Derived.Lib.AppendZerosOnto
import Derived.Laws.OwnMore
import Derived.Shelf.SlSortCmp.WholeK
set_option maxRecDepth 100000
set_option maxHeartbeats 8000000
namespace Go.Proofs.YtaemgflhgdlmiaaGreat
open Go.RowKit
structure DocIs (w : World) (D : Nat → Prop) (d A m : Nat) (a : List Pr) : Prop where
  ex : ∃ q c p n c2, w.heap[d]? = some (.cells #[.slice q (sN A) c, .int .i64 (A : Nat), .int .i64 (m : Nat), .slice p n c2] 42 (0, 0)) ∧ T3 w .i64 q (rngs A (sN A)) ∧ PrI w p a ∧ a.length = n ∧ (∀ x, q = some x → D x.block ∧ x.block ≠ d) ∧ (∀ x, p = some x → D x.block ∧ x.block ≠ d)
  nd : D d
  a1 : 100 ≤ A
  a2 : A ≤ 5000
theorem DocIs.fr {S D : Nat → Prop} {w w' : World} {d A m : Nat} {a : List Pr} (k : DocIs w D d A m a) (f : Fr S w w') (hS : ∀ x, D x → ¬ S x) : DocIs w' D d A m a := by
  obtain ⟨q, c, p, n, c2, hb, ht, hp, hn, hq, hp2⟩ := k.ex
  exact ⟨⟨q, c, p, n, c2, f.row hb (hS d k.nd), ht.fr f fun x hx => hS _ (hq x hx).1, hp.fr f fun x hx => hS _ (hp2 x hx).1, hn, hq, hp2⟩, k.nd, k.a1, k.a2⟩
theorem DocIs.fr0 {D : Nat → Prop} {w w' : World} {d A m : Nat} {a : List Pr} (k : DocIs w D d A m a) (f : Fr S0 w w') : DocIs w' D d A m a := k.fr f fun _ _ h => h
theorem DocIs.mono {D D' : Nat → Prop} {w : World} {d A m : Nat} {a : List Pr} (k : DocIs w D d A m a) (h : ∀ x, D x → D' x) : DocIs w D' d A m a := by
  obtain ⟨q, c, p, n, c2, hb, ht, hp, hn, hq, hp2⟩ := k.ex
  exact ⟨⟨q, c, p, n, c2, hb, ht, hp, hn, fun x hx => ⟨h _ (hq x hx).1, (hq x hx).2⟩, fun x hx => ⟨h _ (hp2 x hx).1, (hp2 x hx).2⟩⟩, h _ k.nd, k.a1, k.a2⟩
theorem cell_four {W : World} {g : Nat} {x y z u : Value} {t : TypeId} (h : W.heap[g]? = some (.cells #[x, y, z, u] t (0, 0))) : W.cell? ⟨g, 0, none⟩ = some x ∧ W.cell? ⟨g, 1, none⟩ = some y ∧ W.cell? ⟨g, 2, none⟩ = some z ∧ W.cell? ⟨g, 3, none⟩ = some u := by simp [World.cell?, h]
theorem four_set {w : World} {g : Nat} {v0 v1 v2 v3 : Value} {t : TypeId} (h : w.heap[g]? = some (.cells #[v0, v1, v2, v3] t (0, 0))) (x : Value) :
    w.frozen? ⟨g, 3, none⟩ = false ∧ (w.setCell ⟨g, 3, none⟩ x).heap[g]? = some (.cells #[v0, v1, v2, x] t (0, 0)) := by
  refine ⟨by simp [World.frozen?, h], ?_⟩
  rw [heap_setCell_same w g 3 _ _ _ h]
  rfl
theorem DocIs.put {D : Nat → Prop} {w w' : World} {d A m : Nat} {a l : List Pr} {q p p' : Option Addr} {c n c2 n' c' : Nat} (k : DocIs w D d A m a) (f : Fr S0 w w') (hb : w.heap[d]? = some (.cells #[.slice q (sN A) c, .int .i64 (A : Nat), .int .i64 (m : Nat), .slice p n c2] 42 (0, 0)))
    (hp : PrI w' p' l) (hn : l.length = n') (hpp : p' = p ∨ ∀ x, p' = some x → w.heap.size ≤ x.block ∧ x.block < w'.heap.size) (hd : d < w.heap.size) (W : World) (fW : Fr (· = d) w' W) (hW : W.heap[d]? = some (.cells #[.slice q (sN A) c, .int .i64 (A : Nat), .int .i64 (m : Nat), .slice p' n' c'] 42 (0, 0))) :
    DocIs W (fun x => D x ∨ (w.heap.size ≤ x ∧ x < W.heap.size)) d A m l := by
  obtain ⟨q2, c3, p2, n2, c4, hb2, ht, hp2, hn2, hq2, hpo⟩ := k.ex
  have e := hb2.symm.trans hb
  simp only [Option.some.injEq, Obj.cells.injEq, Array.mk.injEq, List.cons.injEq, Value.slice.injEq, and_true, true_and] at e
  obtain ⟨⟨rfl, rfl⟩, rfl, rfl, rfl⟩ := e
  have hfs := fW.size
  have hp'o : ∀ x, p' = some x → (D x.block ∨ (w.heap.size ≤ x.block ∧ x.block < W.heap.size)) ∧ x.block ≠ d := by
    intro x hx
    rcases hpp with rfl | h
    · exact ⟨.inl (hpo x hx).1, (hpo x hx).2⟩
    · have := h x hx
      exact ⟨.inr ⟨this.1, by omega⟩, by omega⟩
  exact ⟨⟨q2, c3, p', n', c', hW, (ht.fr0 f).fr fW fun x hx e => (hq2 x hx).2 e, hp.fr fW fun x hx e => (hp'o x hx).2 e, hn, fun x hx => ⟨.inl (hq2 x hx).1, (hq2 x hx).2⟩, hp'o⟩, .inl k.nd, k.a1, k.a2⟩
theorem rnew20_any (A m : Nat) (w : World) (h1 : 100 ≤ A) (h2 : A ≤ 5000) (h3 : 2 ≤ m) (h4 : m ≤ 4096) :
    Calls Tryz.prog 27 #[.int .i64 (A : Nat), .int .i64 (m : Nat)] w fun e w' => ∃ d, e = .returned (.pointer (some ⟨d, 0, none⟩)) ∧ DocIs w' (fun x => w.heap.size ≤ x ∧ x < w'.heap.size) d A m [] ∧ Fr S0 w w' := by
  have H := Lib.hid (rall_any A w h1 h2)
  have HA := Lib.hid (And.intro h1 h2)
  have c1 : decide ((A : Int) < 100) = false := decide_eq_false (by omega)
  have c2 : decide ((5000 : Int) < (A : Int)) = false := decide_eq_false (by omega)
  have c3 : decide ((m : Int) < 2) = false := decide_eq_false (by omega)
  have c4 : decide ((4096 : Int) < (m : Int)) = false := decide_eq_false (by omega)
  have i1 : (100 : Int) ≤ (A : Int) := by omega
  have i2 : (A : Int) ≤ 5000 := by omega
  have i3 : (2 : Int) ≤ (m : Int) := by omega
  have i4 : (m : Int) ≤ 4096 := by omega
  clear h1 h2 h3 h4
  go_enter Tryz.func27, Tryz.ntmps27
  go_wp2_with fail
  refine H.out.mono ?_
  rintro e w1 ⟨v, rfl, acc⟩
  obtain ⟨q, c, rfl⟩ := slFormN acc.own
  have HR := Lib.hid acc
  clear acc H
  go_wp2_with fail
  go_ret
  have f9 : Fr S0 w1 (w1.alloc (.cells #[.slice q (sN A) c, .int .i64 (A : Nat), .int .i64 (m : Nat), .slice none 0 0] 42)) := Fr.alloc _ _ _
  have hT := T3.ofOwns HR.out.own (by have := sN_le HA.out.1 HA.out.2; unfold maxLen; omega)
  have hs := HR.out.fr.size
  refine ⟨w1.heap.size, rfl, ⟨⟨q, c, none, 0, 0, heap_alloc_new w1 _, hT.fr0 f9, PrI.nil _ _, rfl, fun x hx => ?_, fun _ h => by cases h⟩, ?_, HA.out.1, HA.out.2⟩, HR.out.fr.trans0 f9⟩
  · have l1 := HR.out.fresh x.block (by rw [hx]; rfl)
    have l2 := hT.lt (by
      have := sN_pos A
      intro e
      have e2 := congrArg List.length e
      simp [rngs] at e2
      omega) x hx
    simp only [size_alloc]
    omega
  · simp only [size_alloc]
    omega
section
variable (D : Nat → Prop) (d A m : Nat) (a : List Pr) (w : World)
theorem radd20_any (v : Int) (n : Nat) (k : DocIs w D d A m a) (hd : d < w.heap.size) (hg : Good a) (hl : a.length ≤ 50000) (hn : n < 18446744073709551616) (h1 : -9223372036854775808 ≤ v) (h2 : v ≤ 9223372036854775807) :
    Calls Tryz.prog 29 #[.pointer (some ⟨d, 0, none⟩), .int .i64 v, .int .u64 (n : Nat)] w fun e w' => e = .returned (.int .i64 (ddE A a v n : Nat)) ∧ DocIs w' (fun x => D x ∨ (w.heap.size ≤ x ∧ x < w'.heap.size)) d A m (ddL A a v n) ∧ Fr (· = d) w w' := by
  unfold ddE ddL
  by_cases hn0 : n = 0
  · subst hn0
    rw [if_pos rfl, if_pos rfl]
    have HS := Lib.hid (k.mono (D' := fun x => D x ∨ (w.heap.size ≤ x ∧ x < w.heap.size)) fun _ h => .inl h)
    clear k
    go_enter Tryz.func29, Tryz.ntmps29
    go_wp2_with fail
    go_ret
    exact ⟨rfl, HS.out, Fr.refl _ _⟩
  · rw [if_neg hn0, if_neg hn0]
    have hd0 : ((n : Int) == 0) = false := by rw [beq_eq_false_iff_ne]; omega
    by_cases hv : v = -9223372036854775808
    · rw [if_pos hv, if_pos hv]
      have HS := Lib.hid (k.mono (D' := fun x => D x ∨ (w.heap.size ≤ x ∧ x < w.heap.size)) fun _ h => .inl h)
      have hvd : decide (v < -9223372036854775807) = true := decide_eq_true (by omega)
      have hvi : v < -9223372036854775807 := by omega
      clear k hn0 hv h1 h2
      go_enter Tryz.func29, Tryz.ntmps29
      go_wp2_with fail
      go_ret
      exact ⟨rfl, HS.out, Fr.refl _ _⟩
    · rw [if_neg hv, if_neg hv]
      obtain ⟨q, c, p, N, c2, hb, ht, hp, hN, hq, hpo⟩ := k.ex
      obtain ⟨SN, eSN⟩ : ∃ SN, sN A = SN := ⟨_, rfl⟩
      have HKEY := Lib.hid (fun W (f : Fr S0 w W) => rkey12_any q A c SN W v k.a1 k.a2 eSN (ht.fr0 f) (by omega) h2)
      obtain ⟨K, eK⟩ : ∃ K, skeyI A v = K := ⟨_, rfl⟩
      rw [eK] at HKEY ⊢
      have HADD := Lib.hid (fun W (f : Fr S0 w W) => radd0_any p N c2 n K a W (hp.fr0 f) hN (by omega) hg.tot hn)
      have HP := Lib.hid (fun (p' : Option Addr) (n' c' : Nat) (w' W : World) (l : List Pr) (f : Fr S0 w w') (x1 : PrI w' p' l) (x2 : l.length = n') x3 x4 x5 => k.put (c' := c') f hb x1 x2 x3 hd W x4 x5)
      rw [eSN] at hb HP
      have HB := Lib.hid hb
      obtain ⟨E, eE⟩ : ∃ E, addE0 a K n = E := ⟨_, rfl⟩
      obtain ⟨L, eL⟩ : ∃ L, addL0 a K n = L := ⟨_, rfl⟩
      rw [eE] at HADD ⊢
      rw [eL] at HADD ⊢
      have HC := Lib.hid (fun W (f : Fr S0 w W) => And.intro (cell_four (f.row hb fun h => h)).1 (cell_four (f.row hb fun h => h)).2.2.2)
      obtain ⟨k0, k3⟩ := HC.out _ (Fr.refl _ _)
      have hvd : decide (v < -9223372036854775807) = false := decide_eq_false (by omega)
      have hvi : -9223372036854775807 ≤ v := by omega
      have hd9 : ((n : Int) == 0) = false := hd0
      clear k hn0 hv ht hp hN hq hpo hb eSN eK eE eL hg hl hn h1 h2 hd
      go_enter Tryz.func29, Tryz.ntmps29
      go_wp2_with fail
      go_region_held3 (fun w' => w'.cell? ⟨d, 0, none⟩ = some (.slice q SN c) ∧ w'.cell? ⟨d, 3, none⟩ = some (.slice p N c2))
        (first
          | exact HC.out _ R2.out
          | exact HC.out _ R1.out
          | exact HC.out _ (Fr.drew S0 _)
          | exact HC.out _ (Fr.refl S0 _)
          | fail)
        (first
          | (go_at_call 55; ((with_reducible refine (HKEY.out _ (Fr.drew S0 _)).mono ?_); rintro _ u1 ⟨rfl, f⟩; have R1 := Lib.hid ((Fr.drew S0 _).trans0 f); clear f))
          | (go_at_call 54; ((with_reducible refine (HADD.out _ R1.out).mono ?_); rintro _ u2 ⟨vv, rfl, ⟨q2, n2, d2, rfl, z1, z2, z3⟩, f⟩; have HG := Lib.hid (And.intro z1 (And.intro z2 z3)); have R2 := Lib.hid (R1.out.trans0 f); have FG := Lib.hid f; clear z1 z2 z3 f))
          | fail)
      have k3 := (HC.out _ R2.out).2
      obtain ⟨z9, hb9⟩ := four_set (R2.out.row HB.out fun h => h) (.slice q2 n2 d2)
      have f9 : Fr (· = d) u2 (u2.setCell ⟨d, 3, none⟩ (.slice q2 n2 d2)) := Fr.setCell (· = d) _ _ _ rfl
      have HEND := Lib.hid (And.intro (HP.out q2 n2 d2 u2 _ L R2.out HG.out.2.1 HG.out.1 (HG.out.2.2.imp id fun h x hx => ⟨Nat.le_trans R1.out.size (h x hx).1, (h x hx).2⟩) f9 hb9) ((R2.out.mono fun _ _ h => h.elim).trans f9 fun _ _ h => h))
      clear hb9 f9 HG R1 R2 FG HB HC HP HADD HKEY
      go_wp2_with fail
      go_ret
      exact ⟨rfl, HEND.out⟩
end
section
variable (D D2 : Nat → Prop) (d A m d2 B n : Nat) (a b : List Pr) (w : World)
end
end Go.Proofs.YtaemgflhgdlmiaaGreat
