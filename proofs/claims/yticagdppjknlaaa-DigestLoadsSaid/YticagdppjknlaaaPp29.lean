/- DgLawLoads -/
import Derived.Test.YticagdppjknlaaaPp1
import Derived.Test.YticagdppjknlaaaPp2
import Derived.Test.YticagdppjknlaaaPp3
import Derived.Test.YticagdppjknlaaaPp4
import Derived.Test.YticagdppjknlaaaPp5
import Derived.Test.YticagdppjknlaaaPp6
import Derived.Test.YticagdppjknlaaaPp7
import Derived.Test.YticagdppjknlaaaPp8
import Derived.Test.YticagdppjknlaaaPp9
import Derived.Test.YticagdppjknlaaaPp10
import Derived.Test.YticagdppjknlaaaPp11
import Derived.Test.YticagdppjknlaaaPp12
import Derived.Test.YticagdppjknlaaaPp13
import Derived.Test.YticagdppjknlaaaPp14
import Derived.Test.YticagdppjknlaaaPp15
import Derived.Test.YticagdppjknlaaaPp16
import Derived.Test.YticagdppjknlaaaPp17
import Derived.Test.YticagdppjknlaaaPp18
import Derived.Test.YticagdppjknlaaaPp19
import Derived.Test.YticagdppjknlaaaPp20
import Derived.Test.YticagdppjknlaaaPp21
import Derived.Test.YticagdppjknlaaaPp23
import Derived.Test.YticagdppjknlaaaPp24
import Derived.Test.YticagdppjknlaaaPp25
import Derived.Test.YticagdppjknlaaaPp26
import Derived.Test.YticagdppjknlaaaPp27
import Derived.Test.YticagdppjknlaaaPp28
import Derived.Deep.RegionLaw
import Derived.Deep.RegionHeld3
import Derived.BigRegion
import Derived.Maps.AppendAt
import Derived.Laws.AppendOwnNone
import Derived.Laws.OwnMore
import Derived.Lib.AppendZerosOnto
import Derived.Lib.SliceRun
import Derived.Lib.Walk
import Derived.Laws.Externs
import Derived.Shelf.Spec.BitsCarry
import Derived.Deep.CutBlock
import Derived.Deep.CutRange
import Derived.Deep.DeepCutAuto
import Derived.Lib.BitFns
import Derived.Shelf.Small.Bits
import Derived.Shelf.Strconv.Itoa0
import Derived.Shelf.Bits.Mul64
import Derived.Test.YticagdppjknlaaaRows
import Derived.WalkKit
import Derived.WalkSpells
import Derived.WalkLawsBesides
import Derived.Deep.QuietTactic
import Derived.BigQuiet
import Derived.RegionTactic
import Derived.Deep.AppendLies
import Derived.Laws.ResultCell
import Derived.Laws.EntriesVeiled
import Derived.Lib.Hide
import Derived.Laws.BytesArg
import Derived.Lib.SlBytesConst
import Derived.StillTailTactics
set_option maxRecDepth 100000
set_option maxHeartbeats 8000000
namespace Go.Proofs.Yticagdppjknlaaa
open Go.RowKit
theorem load_bad (d lo hi : Int) (p : Option Addr) (n c : Nat) (q : Option Addr) (m e : Nat) (w : World) (h : d < 10 ∨ 1000 < d) :
    Calls Try.prog 33 #[.int .i64 d, .int .i64 lo, .int .i64 hi, .slice p n c, .slice q m e] w fun e w' => e = .returned (.tuple #[.pointer none, .int .i64 1]) ∧ Fr S0 w w' := by
  have HN := Lib.hid (new_no d w h)
  clear h
  go_enter Try.func33, Try.ntmps33
  go_wp2_with fail
  refine HN.out.mono ?_
  rintro e1 w1 ⟨rfl, f1⟩
  have F1 := Lib.hid f1
  clear f1 HN
  go_wp2_with fail
  go_ret2
  exact ⟨rfl, F1.out⟩
def LoadAll (d lo hi : Int) (L W : List Tm) (w : World) (e : Ending) (w' : World) : Prop :=
  (RightP d lo hi L W ∧ ∃ g, e = .returned (.tuple #[.pointer (some ⟨g, 0, none⟩), .int .i64 0]) ∧ NewD w w' g { d := d.toNat, L := L, W := W, lo := lo, hi := hi }) ∨
    (¬ RightP d lo hi L W ∧ e = .returned (.tuple #[.pointer none, .int .i64 1]) ∧ Fr S0 w w')
theorem load_all (d lo hi : Int) (p : Option Addr) (n c : Nat) (q : Option Addr) (m e : Nat) (L W : List Tm) (w : World) (hL : Sl w p n c L) (hW : Sl w q m e W) (hN : n + m ≤ 400000000000) (hu : ∀ t ∈ L ++ W, t.2 < 18446744073709551616)
    (l1 : -9223372036854775808 ≤ lo) (l2 : lo ≤ 9223372036854775807) (h1 : -9223372036854775808 ≤ hi) (h2 : hi ≤ 9223372036854775807) :
    Calls Try.prog 33 #[.int .i64 d, .int .i64 lo, .int .i64 hi, .slice p n c, .slice q m e] w fun e w' => LoadAll d lo hi L W w e w' := by
  by_cases hd : d < 10 ∨ 1000 < d
  · exact (load_bad d lo hi p n c q m e w hd).mono fun e w' he => .inr ⟨fun h => by have := h.1; have := h.2.1; omega, he.1, he.2⟩
  · obtain ⟨D, rfl⟩ : ∃ D : Nat, d = D := ⟨d.toNat, by omega⟩
    refine (load_any D lo hi p n c q m e L W w (by omega) (by omega) hL hW hN hu l1 l2 h1 h2).mono fun e w' he => ?_
    rcases he with ⟨ok, g, h9, hn⟩ | ⟨no, h9, f⟩
    · exact .inl ⟨⟨by omega, by omega, ok⟩, g, h9, hn⟩
    · exact .inr ⟨fun h => no h.2.2, h9, f⟩
theorem both_box {w w3 w5 w7 : World} {g n d5 m d7 : Nat} {p5 p7 : Option Addr} {X : Dg} (k : NewD w w3 g X)
    (a5 : Acc 61 (w3.alloc (.cells #[.int .i64 (X.d : Nat), .slice none 0 0, .slice none 0 0, .int .i64 X.lo, .int .i64 X.hi] 34)) w5 (.slice p5 n d5) n X.L)
    (a7 : Acc 61 (w5.setCell ⟨w3.heap.size, 1, none⟩ (.slice p5 n d5)) w7 (.slice p7 m d7) m X.W) :
    Both w (w7.setCell ⟨w3.heap.size, 2, none⟩ (.slice p7 m d7)) g w3.heap.size X X := by
  obtain ⟨r, er⟩ : ∃ r, w3.heap.size = r := ⟨_, rfl⟩
  have b4 := heap_alloc_new w3 (.cells #[.int .i64 (X.d : Nat), .slice none 0 0, .slice none 0 0, .int .i64 X.lo, .int .i64 X.hi] 34)
  have s4 : (w3.alloc (.cells #[.int .i64 (X.d : Nat), .slice none 0 0, .slice none 0 0, .int .i64 X.lo, .int .i64 X.hi] 34)).heap.size = r + 1 := by rw [size_alloc, er]
  rw [er] at b4 a7 ⊢
  have b5 := a5.fr.row b4 fun h => h
  have b6 := (five_set b5 (.slice p5 n d5) (.int .i64 0)).1
  have b7 := a7.fr.row b6 fun h => h
  have b8 := (five_set b7 (.slice p7 m d7) (.int .i64 0)).2.1
  have f56 : Fr (· = r) w5 (w5.setCell ⟨r, 1, none⟩ (.slice p5 n d5)) := Fr.setCell (· = r) _ _ _ rfl
  have f78 : Fr (· = r) w7 (w7.setCell ⟨r, 2, none⟩ (.slice p7 m d7)) := Fr.setCell (· = r) _ _ _ rfl
  have z5 := a5.fr.size
  have z6 := f56.size
  have z7 := a7.fr.size
  have z8 := f78.size
  rw [s4] at z5
  have n5 : ∀ y, Value.ownBlock (.slice p5 n d5) = some y → r + 1 ≤ y ∧ y < w5.heap.size := fun y hy => ⟨by have := a5.fresh y hy; omega, (a5.own.lt y hy).2⟩
  have n7 : ∀ y, Value.ownBlock (.slice p7 m d7) = some y → w5.heap.size ≤ y ∧ y < w7.heap.size := fun y hy => ⟨by have := a7.fresh y hy; omega, (a7.own.lt y hy).2⟩
  have f38 : Fr (· = r) w3 (w7.setCell ⟨r, 2, none⟩ (.slice p7 m d7)) :=
    (((((Fr.alloc S0 w3 _).trans0 a5.fr).mono fun _ _ h => h.elim).trans f56 fun _ _ h => h).trans (a7.fr.mono fun _ _ h => h.elim) fun _ _ h => h).trans f78 fun _ _ h => h
  obtain ⟨C, s, hC⟩ := k.ex
  have hw := k.fr.size
  have hbl := s.below
  refine ⟨⟨C, fun b => b = r ∨ Value.ownBlock (.slice p5 n d5) = some b ∨ Value.ownBlock (.slice p7 m d7) = some b, s.fr f38 fun b hb (e : b = r) => by have := hbl b hb; omega, ⟨p5, n, d5, p7, m, d7, b8, ?_, ?_, fun k hk => ⟨?_, .inr (.inl hk), fun h => ?_⟩, fun k hk => ⟨?_, .inr (.inr hk)⟩, .inl rfl, fun b hb => ?_, k.good⟩, fun b hb hr => ?_, hC, fun b hb => ?_⟩, k.fr.trans f38 fun j hj (e : j = r) => by omega⟩
  · exact f78.owns (a7.fr.owns (f56.owns a5.own fun y hy (e : y = r) => by have := n5 y hy; omega) fun _ _ h => h) fun y hy (e : y = r) => by have := n5 y hy; omega
  · exact f78.owns a7.own fun y hy (e : y = r) => by have := n7 y hy; omega
  · have := n5 k hk; omega
  · have := n5 k hk; have := n7 k h; omega
  · have := n7 k hk; omega
  · rcases hb with rfl | hb | hb
    · omega
    · have := n5 b hb; omega
    · have := n7 b hb; omega
  · have := hbl b hb
    rcases hr with rfl | hr | hr
    · omega
    · have := n5 b hr; omega
    · have := n7 b hr; omega
  · rcases hb with rfl | hb | hb
    · omega
    · have := n5 b hb; omega
    · have := n7 b hb; omega
section
variable (d lo hi : Int) (p : Option Addr) (n c : Nat) (q : Option Addr) (m e : Nat) (v : Int) (u : Nat) (L W : List Tm) (w : World)
theorem law_loads (hL : Sl w p n c L) (hW : Sl w q m e W) (hu : ∀ t ∈ L ++ W, t.2 < 18446744073709551616)
    (l1 : -9223372036854775808 ≤ lo) (l2 : lo ≤ 9223372036854775807) (h1 : -9223372036854775808 ≤ hi) (h2 : hi ≤ 9223372036854775807) (hv1 : -9223372036854775808 ≤ v) (hv2 : v ≤ 9223372036854775807) :
    Calls Try.prog 9 #[.int .i64 d, .int .i64 lo, .int .i64 hi, .slice p n c, .slice q m e, .int .i64 v, .int .u64 (u : Nat)] w fun e w' => e = .returned (.bool true) ∧ Fr S0 w w' := by
  have HAL := Lib.hid (alive_any w)
  have hlL := hL.len
  have hlW := hW.len
  by_cases hn : 200 < n
  · have dn : decide (200 < n) = true := decide_eq_true hn
    have inn : (200 : Int) < (n : Int) := by omega
    clear hL hW hu
    go_enter Try.func9, Try.ntmps9
    go_wp2_with fail
    refine HAL.out.mono ?_
    rintro e1 w1 ⟨rfl, f1⟩
    have F1 := Lib.hid f1
    clear f1 HAL
    go_wp2_with fail
    go_ret
    exact ⟨rfl, F1.out⟩
  have inn : ¬ (200 : Int) < (n : Int) := by omega
  by_cases hm : 1100 < m
  · have imm : (1100 : Int) < (m : Int) := by omega
    clear hL hW hu
    go_enter Try.func9, Try.ntmps9
    go_wp2_with fail
    refine HAL.out.mono ?_
    rintro e1 w1 ⟨rfl, f1⟩
    have F1 := Lib.hid f1
    clear f1 HAL
    go_wp2_with fail
    go_ret
    exact ⟨rfl, F1.out⟩
  have imm : ¬ (1100 : Int) < (m : Int) := by omega
  have HLD := Lib.hid (fun X (f : Fr S0 w X) => load_all d lo hi p n c q m e L W X (hL.fr0 f) (hW.fr0 f) (by omega) hu l1 l2 h1 h2)
  have HRT := Lib.hid (fun X (f : Fr S0 w X) => rright_any d lo hi p n c q m e L W X (hL.fr0 f) (hW.fr0 f) (by omega) hu)
  by_cases hr : RightP d lo hi L W
  · rw [okB_yes hr] at HRT
    have HR := Lib.hid hr
    obtain ⟨hr1, hr2, hr3⟩ := hr
    obtain ⟨D, eD⟩ : ∃ D : Nat, d = D := ⟨d.toNat, by omega⟩
    have eDt : d.toNat = D := by omega
    have HSLL := Lib.hid (fun X (f : Fr S0 w X) => hL.fr0 f)
    have HSLW := Lib.hid (fun X (f : Fr S0 w X) => hW.fr0 f)
    obtain ⟨X, eX⟩ : ∃ X : Dg, ({ d := d.toNat, L := L, W := W, lo := lo, hi := hi } : Dg) = X := ⟨_, rfl⟩
    have x1 : X.d = D := by rw [← eX]; exact eDt
    have x2 : X.L = L := by rw [← eX]
    have x3 : X.W = W := by rw [← eX]
    have x4 : X.lo = lo := by rw [← eX]
    have x5 : X.hi = hi := by rw [← eX]
    have hlen : X.all.length ≤ 1300 := by unfold Dg.all; rw [x2, x3, List.length_append]; omega
    have HLD2 : Hid (∀ Y, Fr S0 w Y → Calls Try.prog 33 #[.int .i64 d, .int .i64 lo, .int .i64 hi, .slice p n c, .slice q m e] Y fun e w' => ∃ g, e = .returned (.tuple #[.pointer (some ⟨g, 0, none⟩), .int .i64 0]) ∧ NewD Y w' g X) := Lib.hid fun Y f => (HLD.out Y f).mono fun e w' he => by
      rcases he with ⟨-, g, h9, hn⟩ | ⟨no, -⟩
      · exact ⟨g, h9, by rw [eX] at hn; exact hn⟩
      · exact absurd HR.out no
    have HBX : Hid (∀ {w3 w5 w7 : World} {g d5 d7 : Nat} {p5 p7 : Option Addr}, NewD w w3 g X →
        Acc 61 (w3.alloc (.cells #[.int .i64 (D : Nat), .slice none 0 0, .slice none 0 0, .int .i64 lo, .int .i64 hi] 34)) w5 (.slice p5 n d5) n ([] ++ L) →
        Acc 61 (w5.setCell ⟨w3.heap.size, 1, none⟩ (.slice p5 n d5)) w7 (.slice p7 m d7) m ([] ++ W) → Both w (w7.setCell ⟨w3.heap.size, 2, none⟩ (.slice p7 m d7)) g w3.heap.size X X) := Lib.hid fun k a b => both_box k (by rw [x1, x4, x5, x2]; exact a) (by rw [x3]; exact b)
    have HSA := Lib.hid (fun W g r (b : Both w W g r X X) => both_same b (by omega))
    have HAA := Lib.hid (fun W g r (b : Both w W g r X X) => both_add b v u hv1 hv2 (by omega))
    have HRA := Lib.hid (fun W g r y (b : Both w W g r y X) => both_radd b v u hv1 hv2 (by omega))
    obtain ⟨R, eR⟩ : ∃ R, X.ref u = R := ⟨_, rfl⟩
    rw [eR] at HAA HRA
    obtain ⟨Y, eY⟩ : ∃ Y, X.add v u = Y := ⟨_, rfl⟩
    rw [eY] at HAA HRA
    have HYL : Hid (NewD w w 0 X → True) := Lib.hid fun _ => trivial
    have hyl : ∀ W g r, Both w W g r X X → Y.all.length ≤ 1301 := fun W g r b => by
      have h9 := Dg.add_len (v := v) (u := u) b.good hv1 hv2
      rw [eY] at h9
      omega
    have HY := Lib.hid hyl
    have HSY := Lib.hid (fun W g r (h : Y.all.length ≤ 1301) (b : Both w W g r Y Y) => both_same b (by omega))
    have HUP := Lib.hid (fun W g r (h : Y.all.length ≤ 1301) (b : Both w W g r Y Y) => nd_upto b.nd v (by omega) hv1 hv2)
    have HRU := Lib.hid (fun W g r (h : Y.all.length ≤ 1301) (b : Both w W g r Y Y) => both_rupto b v (by omega) hv1 hv2)
    obtain ⟨U, eU⟩ : ∃ U, Y.upto v = U := ⟨_, rfl⟩
    rw [eU] at HUP HRU
    have HR1 : Hid (Room n) := Lib.hid (Room.mk (by omega))
    have HR2 : Hid (Room m) := Lib.hid (Room.mk (by omega))
    subst eD
    clear hL hW hu hlL hlW hr1 hr2 hr3 eDt eX x1 x2 x3 x4 x5 hlen eR eY hyl HYL eU HLD HR hn hm hv1 hv2 l1 l2 h1 h2
    go_enter Try.func9, Try.ntmps9
    go_wp2_with fail
    refine HAL.out.mono ?_
    rintro e1 w1 ⟨rfl, f1⟩
    have F1 := Lib.hid f1
    clear f1 HAL
    go_wp2_with fail
    refine (HLD2.out _ F1.out).mono ?_
    rintro e2 w2 ⟨g, rfl, k2⟩
    have HN2 := Lib.hid (k2.back F1.out)
    clear k2 HLD2
    go_wp2_with fail
    refine (HRT.out _ HN2.out.fr).mono ?_
    rintro e3 w3 ⟨rfl, f3⟩
    have HN3 := Lib.hid (HN2.out.fr0 f3)
    clear f3 HRT HN2
    have b4 := heap_alloc_new w3 (.cells #[.int .i64 (D : Nat), .slice none 0 0, .slice none 0 0, .int .i64 lo, .int .i64 hi] 34)
    have HB4 := Lib.hid b4
    obtain ⟨-, y1, y2, -, -, y3⟩ := cells5 b4
    have yz1 := y3 1
    have yz2 := y3 2
    have HA4 : Hid (Acc 61 (w3.alloc (.cells #[.int .i64 (D : Nat), .slice none 0 0, .slice none 0 0, .int .i64 lo, .int .i64 hi] 34)) (w3.alloc (.cells #[.int .i64 (D : Nat), .slice none 0 0, .slice none 0 0, .int .i64 lo, .int .i64 hi] 34)) (.slice none 0 0) 0 []) := Lib.hid (Acc.nil (Fr.refl _ _))
    have HF4 := Lib.hid (HN3.out.fr.trans0 (Fr.alloc S0 w3 (.cells #[.int .i64 (D : Nat), .slice none 0 0, .slice none 0 0, .int .i64 lo, .int .i64 hi] 34)))
    have HWS : Hid (w.heap.size ≤ w3.heap.size) := Lib.hid HN3.out.fr.size
    clear b4 y3
    go_wp2_with (first
      | ((with_reducible show wpList _ _ _ (Oper.mk (some 61) _ _ _ _ _ :: _) _ _); refine app_two elAm (.tmp 59) (.tmp 60) HA4.out (HSLL.out _ HF4.out) (Nat.zero_add _) HR1.out rfl rfl rfl rfl ?_; intro q5 d5 w5 ha5; have HA5 := Lib.hid ha5; have b5 := ha5.fr.row HB4.out fun h => h; obtain ⟨-, u1, u2, -, -, u3⟩ := cells5 b5; have uz1 := u3 1; have b6 := (five_set b5 (.slice q5 n d5) (.int .i64 0)).1; obtain ⟨-, t1, t2, -, -, t3⟩ := cells5 b6; have tz2 := t3 2; have HB6 := Lib.hid b6; have HF6 := Lib.hid ((HF4.out.trans0 ha5.fr).trans (Fr.setCell (· = w3.heap.size) w5 ⟨w3.heap.size, 1, none⟩ (.slice q5 n d5) rfl) (fun j hj (e : j = w3.heap.size) => by have := HWS.out; omega)); have HA6 : Hid (Acc 61 (w5.setCell ⟨w3.heap.size, 1, none⟩ (.slice q5 n d5)) (w5.setCell ⟨w3.heap.size, 1, none⟩ (.slice q5 n d5)) (.slice none 0 0) 0 []) := Lib.hid (Acc.nil (Fr.refl _ _)); clear ha5 b5 b6 u3 t3)
      | ((with_reducible show wpList _ _ _ (Oper.mk (some 70) _ _ _ _ _ :: _) _ _); refine app_two elAm (.tmp 68) (.tmp 69) HA6.out (HSLW.out _ HF6.out) (Nat.zero_add _) HR2.out rfl rfl rfl rfl ?_; intro q7 d7 w7 ha7; have HA7 := Lib.hid ha7; have b7 := ha7.fr.row HB6.out fun h => h; obtain ⟨-, s1, s2, -, -, s3⟩ := cells5 b7; have sz2 := s3 2; have HB := Lib.hid (HBX.out HN3.out HA5.out ha7); clear ha7 b7 s3)
      | fail)
    have HYL := Lib.hid (HY.out _ _ _ HB.out)
    clear HA4 HA5 HA6 HA7 HB4 HB6 HF4 HF6 HN3 HBX
    refine (HSA.out _ _ _ HB.out).mono ?_
    rintro e8 w8 ⟨rfl, f8⟩
    have HB8 := Lib.hid (HB.out.fr0 f8)
    clear f8 HSA HB
    by_cases hm60 : 60 < m
    · have i60 : (60 : Int) < (m : Int) := by omega
      go_wp2_with fail
      go_ret
      exact ⟨rfl, HB8.out.fr⟩
    · have i60 : ¬ (60 : Int) < (m : Int) := by omega
      go_wp2_with fail
      refine (HAA.out _ _ _ HB8.out).mono ?_
      rintro e9 w9 ⟨rfl, b9⟩
      have HB9 := Lib.hid b9
      clear b9 HAA HB8
      go_wp2_with fail
      refine (HRA.out _ _ _ _ HB9.out).mono ?_
      rintro e10 w10 ⟨rfl, b10⟩
      have HB10 := Lib.hid b10
      clear b10 HRA HB9
      go_wp2_with fail
      refine (HSY.out _ _ _ HYL.out HB10.out).mono ?_
      rintro e11 w11 ⟨rfl, f11⟩
      have HB11 := Lib.hid (HB10.out.fr0 f11)
      clear f11 HSY HB10
      go_wp2_with fail
      refine (HUP.out _ _ _ HYL.out HB11.out).mono ?_
      rintro e12 w12 ⟨rfl, f12⟩
      have HB12 := Lib.hid (HB11.out.fr0 f12)
      clear f12 HUP HB11
      go_wp2_with fail
      refine (HRU.out _ _ _ HYL.out HB12.out).mono ?_
      rintro e13 w13 ⟨rfl, f13⟩
      have HB13 := Lib.hid (HB12.out.fr0 f13)
      clear f13 HRU HB12
      go_wp2_with fail
      go_ret
      exact ⟨rfl, HB13.out.fr⟩
  · rw [okB_no hr] at HRT
    have HLD2 : Hid (∀ Y, Fr S0 w Y → Calls Try.prog 33 #[.int .i64 d, .int .i64 lo, .int .i64 hi, .slice p n c, .slice q m e] Y fun e w' => e = .returned (.tuple #[.pointer none, .int .i64 1]) ∧ Fr S0 Y w') := Lib.hid fun Y f => (HLD.out Y f).mono fun e w' he => by
      rcases he with ⟨ok, -⟩ | ⟨-, h9, f9⟩
      · exact absurd ok hr
      · exact ⟨h9, f9⟩
    clear hL hW hu hlL hlW hr HLD
    go_enter Try.func9, Try.ntmps9
    go_wp2_with fail
    refine HAL.out.mono ?_
    rintro e1 w1 ⟨rfl, f1⟩
    have F1 := Lib.hid f1
    clear f1 HAL
    go_wp2_with fail
    refine (HLD2.out _ F1.out).mono ?_
    rintro e2 w2 ⟨rfl, f2⟩
    have F2 := Lib.hid (F1.out.trans0 f2)
    clear f2 HLD2
    go_wp2_with fail
    refine (HRT.out _ F2.out).mono ?_
    rintro e3 w3 ⟨rfl, f3⟩
    have F3 := Lib.hid (F2.out.trans0 f3)
    clear f3 HRT
    go_wp2_with fail
    go_ret
    exact ⟨rfl, F3.out⟩
end
end Go.Proofs.Yticagdppjknlaaa
