/- KlAdded, KlNearMath -/
import Derived.Test.YtbpfmjekpjfceaaPm1
import Derived.Test.YtbpfmjekpjfceaaPm2
import Derived.Test.YtbpfmjekpjfceaaPm3
import Derived.Test.YtbpfmjekpjfceaaPm4
import Derived.Test.YtbpfmjekpjfceaaPm6
import Derived.Test.YtbpfmjekpjfceaaPm7
import Derived.Test.YtbpfmjekpjfceaaPm8
import Derived.Test.YtbpfmjekpjfceaaPm9
import Derived.Test.YtbpfmjekpjfceaaPm10
import Derived.Test.YtbpfmjekpjfceaaPm11
import Derived.Test.YtbpfmjekpjfceaaPm12
import Derived.Test.YtbpfmjekpjfceaaPm13
import Derived.Test.YtbpfmjekpjfceaaPm14
import Derived.Test.YtbpfmjekpjfceaaPm15
import Derived.Test.YtbpfmjekpjfceaaPm16
import Derived.Test.YtbpfmjekpjfceaaPm17
import Derived.Test.YtbpfmjekpjfceaaPm18
import Derived.Test.YtbpfmjekpjfceaaPm19
import Derived.Test.YtbpfmjekpjfceaaPm20
import Derived.Test.YtbpfmjekpjfceaaPm21
import Derived.Test.YtbpfmjekpjfceaaPm22
import Derived.Test.YtbpfmjekpjfceaaPm23
import Derived.Test.YtbpfmjekpjfceaaPm24
import Derived.Test.YtbpfmjekpjfceaaPm25
import Derived.Test.YtbpfmjekpjfceaaPm26
import Derived.Test.YtbpfmjekpjfceaaPm27
import Derived.Test.YtbpfmjekpjfceaaPm28
import Derived.Test.YtbpfmjekpjfceaaPm29
import Derived.Deep.LoopGhost
import Derived.BigQuiet
import Derived.Deep.CutRange
import Derived.Maps.AppendAt
import Derived.Laws.AppendOwnNone
import Derived.Laws.OwnMore
import Derived.Lib.AppendZerosOnto
import Derived.Lib.SliceRun
import Derived.Lib.Walk
import Derived.WalkKit
import Derived.Laws.BytesArg
import Derived.Lib.SlBytesConst
import Derived.WalkSpells
import Derived.WalkLawsBesides
import Derived.Deep.QuietTactic
import Derived.RegionTactic
import Derived.Deep.AppendLies
import Derived.Deep.RegionLaw
import Derived.Laws.ResultCell
import Derived.Laws.EntriesVeiled
import Derived.Lib.Hide
import Derived.Test.YtbpfmjekpjfceaaRows
import Derived.Laws.BitsAllLaws
import Derived.Deep.RegionHeld3
import Derived.BigRegion
import Derived.RangeFuncNested
import Derived.RangeFuncBound
import Derived.RangeFuncCalls
import Derived.RangeFuncLeaves
import Derived.Shelf.Abstract
import Derived.Shelf.RegionOpen
import Derived.OwnWalkIn
import Derived.TacticsInMore
import Derived.LoopNIn
import Derived.LoopIn
import Derived.StillTailTactics
import Derived.Laws.Externs
import Derived.Shelf.Spec.BitsCarry
import Derived.Deep.CutBlock
import Derived.Deep.DeepCutAuto
import Derived.Lib.BitFns
import Derived.Shelf.Small.Bits
import Derived.Shelf.Strconv.Itoa0
import Derived.Shelf.Bits.Mul64
import Derived.Shelf.SlSortCmp.WholeK
set_option maxRecDepth 100000
set_option maxHeartbeats 8000000
namespace Go.Proofs.Ytbpfmjekpjfceaa
open Go.RowKit
def ZI (w : World) (p : Option Addr) (vs : List Int) : Prop := ∀ i, (h : i < vs.length) → ∃ b o, p = some ⟨b, o, none⟩ ∧ w.cell? ⟨b, o + i, none⟩ = some (.int .i64 vs[i])
theorem ZI.fr0 {w w' : World} {p : Option Addr} {vs : List Int} (h : ZI w p vs) (f : Fr S0 w w') : ZI w' p vs := fun i hi => let ⟨b, o, e, hc⟩ := h i hi; ⟨b, o, e, f.cell hc (fun h => h)⟩
def wgt (ns : List Nat) (i : Nat) : Nat := if h : i < ns.length then 1 + ns[i] % 1000 else 1
theorem wgt_bd (ns : List Nat) (i : Nat) : 1 ≤ wgt ns i ∧ wgt ns i ≤ 1000 := by
  unfold wgt
  split <;> omega
def siz (d : Nat) : Nat := 8 + d % 40
theorem siz_in (d : Nat) : 8 ≤ siz d ∧ siz d ≤ 4096 := by unfold siz; omega
def adds (k : Nat) (bs : List Nat) (vs : List Int) (ns : List Nat) : Nat → St
  | 0 => ([], 0, 0)
  | i + 1 => adS k bs (adds k bs vs ns i) (vs.getD i 0) (wgt ns i)
def wsum (ns : List Nat) : Nat → Nat
  | 0 => 0
  | i + 1 => wsum ns i + wgt ns i
theorem wsum_le (ns : List Nat) : ∀ i, wsum ns i ≤ 1000 * i
  | 0 => Nat.le_refl _
  | i + 1 => by
    have := wsum_le ns i
    have := wgt_bd ns i
    rw [wsum]
    omega
theorem adds_ok {k n : Nat} {bs : List Nat} (hk : 8 ≤ k) (hk2 : k ≤ 4096) (hl : bs.length = n) (vs : List Int) (ns : List Nat) : ∀ i, i ≤ 1000000 → GoodS k n (adds k bs vs ns i) ∧ wtL (adds k bs vs ns i).1 = wsum ns i ∧ adR (adds k bs vs ns i).1 (wgt ns i) = 0
  | 0, _ => ⟨⟨Good.new hk hk2, Nat.zero_le _⟩, rfl, adR_zero (wgt_bd ns 0).1 (by have h1 := (wgt_bd ns 0).2; have h2 : wtL (adds k bs vs ns 0).1 = 0 := rfl; omega)⟩
  | i + 1, hi => by
    obtain ⟨h1, h2, h3⟩ := adds_ok hk hk2 hl vs ns i (by omega)
    have hw : wtL (adds k bs vs ns (i + 1)).1 = wsum ns (i + 1) := by rw [adds, adS_wt h1 _ h3, h2, wsum]
    refine ⟨h1.add hl _ _, hw, adR_zero (wgt_bd ns _).1 ?_⟩
    rw [hw]
    have := wsum_le ns (i + 1)
    have := wgt_bd ns (i + 1)
    omega
theorem weight_any (p : Option Addr) (n c : Nat) (ns : List Nat) (i : Nat) (w : World) (hn : ns.length = n) (h : SlI w .u16 p ns) :
    Calls Try.prog 33 #[.slice p n c, .int .i64 (i : Nat)] w fun e w' => e = .returned (.int .u64 (wgt ns i : Nat)) ∧ w' = w := by
  by_cases hi : i < n
  · have k1 : decide (n ≤ i) = false := decide_eq_false (by omega)
    obtain ⟨b, o, rfl, d0⟩ := h.at i (by omega)
    have e : wgt ns i = 1 + ns[i] % 1000 := by unfold wgt; rw [dif_pos (by omega)]
    rw [e]
    obtain ⟨x, hx⟩ : ∃ x, ns[i] = x := ⟨_, rfl⟩
    rw [hx] at d0 ⊢
    obtain ⟨y, hy⟩ : ∃ y, x % 1000 = y := ⟨_, rfl⟩
    rw [hy]
    have iy : (x : Int) % 1000 = (y : Int) := by omega
    have iy2 : (x : Int).tmod 1000 = (y : Int) := by rw [Int.tmod_eq_emod_of_nonneg (by omega)]; exact iy
    have hyb : (y : Int) < 1000 := by omega
    have hi0 : (0 : Int) ≤ (i : Int) := by omega
    have hin : (i : Int) < (n : Int) := by omega
    clear e hx hy h hn
    go_enter Try.func33, Try.ntmps33
    go_wp2_with fail
    go_ret
    exact ⟨by congr 2, rfl⟩
  · have k1 : decide (n ≤ i) = true := decide_eq_true (by omega)
    have e : wgt ns i = 1 := by unfold wgt; rw [dif_neg (by omega)]
    rw [e]
    clear h e hn
    go_enter Try.func33, Try.ntmps33
    go_wp2_with fail
    go_ret
    exact ⟨rfl, rfl⟩
theorem size_any (d : Nat) (w : World) : Calls Try.prog 14 #[.int .u16 (d : Nat)] w fun e w' => e = .returned (.int .i64 (siz d : Nat)) ∧ w' = w := by
  obtain ⟨R, eR⟩ : ∃ R, d % 40 = R := ⟨_, rfl⟩
  have iR : (d : Int) % 40 = (R : Int) := by omega
  have iR2 : (d : Int).tmod 40 = (R : Int) := by rw [Int.tmod_eq_emod_of_nonneg (by omega)]; exact iR
  have bR : (R : Int) < 40 := by omega
  have e1 : siz d = 8 + R := by rw [← eR]; rfl
  have i2 : 8 + (R : Int) = ((8 + R : Nat) : Int) := by omega
  rw [e1]
  obtain ⟨Y, eY⟩ : ∃ Y, 8 + R = Y := ⟨_, rfl⟩
  rw [eY] at i2 ⊢
  clear eR e1 eY
  go_enter Try.func14, Try.ntmps14
  go_wp2_with fail
  go_ret
  exact ⟨rfl, rfl⟩
section
variable (d : Nat) (q : Option Addr) (n c : Nat) (bs : List Nat) (p : Option Addr) (m cm : Nat) (vs : List Int) (pn : Option Addr) (nn cn : Nat) (ns : List Nat) (w : World)
theorem added_any (hb : Bts w q n bs) (hq : q = none → c = 0) (hm : vs.length = m) (hz : ZI w p vs) (hn : ns.length = nn) (hns : SlI w .u16 pn ns) :
    Calls Try.prog 26 #[.int .u16 (d : Nat), .slice q n c, .slice p m cm, .slice pn nn cn] w fun e w' => ∃ g r gr r2, e = .returned (.tuple #[.pointer (some ⟨g, 0, none⟩), .pointer (some ⟨gr, 0, none⟩)]) ∧
      Bo w w' g r gr r2 q n c bs (siz d) (adds (siz d) bs vs ns (min m 120)) (adds (siz d) bs vs ns (min m 120)) := by
  obtain ⟨d1, d2⟩ := siz_in d
  have HSI := Lib.hid (fun W => size_any d W)
  have HOK := Lib.hid (fun i hi => adds_ok d1 d2 hb.len vs ns i hi)
  obtain ⟨K, eK⟩ : ∃ K, siz d = K := ⟨_, rfl⟩
  rw [eK] at d1 d2 HSI HOK ⊢
  have HNW := Lib.hid (xnew_yes K w d1 d2)
  have HNC := Lib.hid (fun W (f : Fr S0 w W) => by
    have h := xnewcoins_any q c bs W (hb.sl.fr0 f) hb.b8 hq (by have := hb.len; have := hb.few; omega)
    rw [hb.len] at h
    exact h)
  have HB := Lib.hid hb
  have HZ := Lib.hid hz
  have HNS := Lib.hid (And.intro hn hns)
  have HML := Lib.hid hm
  have HKK := Lib.hid (And.intro d1 d2)
  have hKi : (K : Int) ≤ 4096 := by omega
  clear hb hz hn hns hm eK hq d1 d2
  go_enter Try.func26, Try.ntmps26
  go_wp2_with fail
  refine (HSI.out _).mono ?_
  rintro e w1 ⟨rfl, rfl⟩
  go_wp2_with fail
  refine HNW.out.mono ?_
  rintro e w2 ⟨rfl, nw⟩
  have HN := Lib.hid nw
  obtain ⟨g, hg⟩ : ∃ g, w1.heap.size = g := ⟨_, rfl⟩
  rw [hg] at HN ⊢
  clear nw HNW hg
  go_wp2_with fail
  refine (HSI.out _).mono ?_
  rintro e w3 ⟨rfl, rfl⟩
  clear HSI
  have F3 : Hid (∀ o, Fr S0 w1 (w3.alloc o)) := Lib.hid fun o => HN.out.2.1.trans0 (Fr.alloc _ _ _)
  go_wp2_with fail
  refine (HNC.out _ (F3.out _)).mono ?_
  rintro e w4 ⟨r, rr, rfl, nx⟩
  have H1 := Lib.hid (bo_start (q := q) (n := n) (c := c) (bs := bs) (Fr.refl S0 w1) HKK.out.1 HKK.out.2 HN.out rfl rfl nx rfl)
  obtain ⟨gr, hgr⟩ : ∃ x, w3.heap.size = x := ⟨_, rfl⟩
  obtain ⟨r2, hr2⟩ : ∃ x, w4.heap.size = x := ⟨_, rfl⟩
  rw [hgr, hr2] at H1
  clear nx HNC HN F3
  go_wp2_with fail
  clear hgr hr2
  go_loopw [15] (fun z wr => ∃ i : Nat, z = .int .i64 (i : Nat) ∧ i ≤ m ∧ i ≤ 120 ∧ Hid (Bo w1 wr g r gr r2 q n c bs K (adds K bs vs ns i) (adds K bs vs ns i))) (fun z _ => 120 - (intOf z).toNat)
  case atStart => exact ⟨0, rfl, by omega, by omega, H1⟩
  case round =>
    obtain ⟨i, rfl, him, hi, hx⟩ := hrel
    by_cases hil : (i : Int) < (m : Int)
    · by_cases hi12 : (i : Int) < 120
      · have hivl : i < vs.length := by rw [HML.out]; omega
        obtain ⟨b1, o1, rfl, -⟩ := HZ.out i hivl
        have HZC0 := Lib.hid (fun W (f : Fr S0 w1 W) => (HZ.out.fr0 f) i hivl)
        have hgd : vs.getD i 0 = vs[i] := by simp [hivl]
        obtain ⟨v, ev⟩ : ∃ v, vs[i] = v := ⟨_, rfl⟩
        rw [ev] at hgd HZC0
        have HCE : Hid (∀ W, Fr S0 w1 W → W.cell? ⟨b1, o1 + i, none⟩ = some (.int .i64 v)) := Lib.hid fun W f => by
          obtain ⟨b', o', hp, hc⟩ := HZC0.out W f
          simp only [Option.some.injEq, Addr.mk.injEq, and_true] at hp
          obtain ⟨rfl, rfl⟩ := hp
          exact hc
        have HST : Hid (adds K bs vs ns (i + 1) = adS K bs (adds K bs vs ns i) v (wgt ns i)) := Lib.hid (by rw [adds, hgd])
        obtain ⟨-, -, hr⟩ := HOK.out i (by omega)
        have HA := Lib.hid (fun W Y (h : Bo w1 W g r gr r2 q n c bs K (adds K bs vs ns i) Y) => bo_add h HB.out v (wgt ns i))
        have HRA := Lib.hid (fun W X (h : Bo w1 W g r gr r2 q n c bs K X (adds K bs vs ns i)) => bo_radd h HB.out v (wgt ns i))
        have HWT := Lib.hid (fun W (f : Fr S0 w1 W) => weight_any pn nn cn ns i W HNS.out.1 (HNS.out.2.fr0 f))
        rw [hr, show ((0 : Nat) : Int) = 0 from rfl] at HA HRA
        obtain ⟨U, eU⟩ : ∃ U, wgt ns i = U := ⟨_, rfl⟩
        rw [eU] at HA HRA HWT HST
        have hi0 : (0 : Int) ≤ (i : Int) := by omega
        have c0 := HCE.out _ hx.out.fr
        clear ev hgd hr HZC0 eU
        go_wp2_with fail
        clear c0
        refine wp_region_noPanic ?_
        refine wp_region_held_drew (S := fun W => W.cell? ⟨b1, o1 + i, none⟩ = some (.int .i64 v) ∧ ∃ X Y, Bo w1 W g r gr r2 q n c bs K X Y) (by kernel_rfl) ⟨HCE.out _ (hx.out.fr0 (Fr.drew S0 wr)).fr, _, _, hx.out.fr0 (Fr.drew S0 wr)⟩ (fun hHeld0 => ?_)
        have hk0 := hx.out.fr0 (Fr.drew S0 wr)
        refine wpAnyH_take (i := 0) (oi := Oper.mk (some 43) _ _ _ _ _) (v := ?_) rfl (by as_aux_lemma => kernel_rfl) (by as_aux_lemma => kernel_rfl) (by as_aux_lemma => kernel_rfl) (fun _ _ _ h => h) (Or.inl ⟨by rfl, ?_⟩) (by assumption) ?_
        rotate_left
        · (intro w hSw; obtain ⟨h1, X, Y, hb⟩ := hSw; go_simp <;> with_reducible rfl)
        simp only [Act.put, List.setIfInBounds_toArray, List.set_cons_zero, List.set_cons_succ]
        refine wpAnyH_take (i := 1) (oi := Oper.mk (some 44) _ _ _ _ _) (v := ?_) rfl (by as_aux_lemma => kernel_rfl) (by as_aux_lemma => kernel_rfl) (by as_aux_lemma => kernel_rfl) (fun _ _ _ h => h) (Or.inl ⟨by rfl, ?_⟩) (by assumption) ?_
        rotate_left
        · (intro w hSw; obtain ⟨h1, X, Y, hb⟩ := hSw; go_simp <;> with_reducible rfl)
        simp only [Act.put, List.setIfInBounds_toArray, List.set_cons_zero, List.set_cons_succ]
        refine wpAnyH_take (i := 2) (oi := Oper.mk (some 45) _ _ _ _ _) (v := ?_) rfl (by as_aux_lemma => kernel_rfl) (by as_aux_lemma => kernel_rfl) (by as_aux_lemma => kernel_rfl) (fun _ _ _ h => h) (Or.inl ⟨by rfl, ?_⟩) (by assumption) ?_
        rotate_left
        · (intro w hSw; obtain ⟨h1, X, Y, hb⟩ := hSw; go_simp <;> with_reducible rfl)
        simp only [Act.put, List.setIfInBounds_toArray, List.set_cons_zero, List.set_cons_succ]
        refine wpAnyH_take (i := 3) (oi := Oper.mk (some 46) _ _ _ _ _) (v := ?_) rfl (by as_aux_lemma => kernel_rfl) (by as_aux_lemma => kernel_rfl) (by as_aux_lemma => kernel_rfl) (fun _ _ _ h => h) (Or.inl ⟨by rfl, ?_⟩) (by assumption) ?_
        rotate_left
        · (intro w hSw; obtain ⟨h1, X, Y, hb⟩ := hSw; go_simp <;> with_reducible rfl)
        simp only [Act.put, List.setIfInBounds_toArray, List.set_cons_zero, List.set_cons_succ]
        refine wpAnyH_take (i := 4) (oi := Oper.mk (some 47) _ _ _ _ _) (v := ?_) rfl (by as_aux_lemma => kernel_rfl) (by as_aux_lemma => kernel_rfl) (by as_aux_lemma => kernel_rfl) (fun _ _ _ h => h) (Or.inl ⟨by rfl, ?_⟩) (by assumption) ?_
        rotate_left
        · (intro w hSw; obtain ⟨h1, X, Y, hb⟩ := hSw; go_simp <;> with_reducible rfl)
        simp only [Act.put, List.setIfInBounds_toArray, List.set_cons_zero, List.set_cons_succ]
        refine wpAnyH_take (i := 5) (oi := Oper.mk (some 48) _ _ _ _ _) (v := ?_) rfl (by as_aux_lemma => kernel_rfl) (by as_aux_lemma => kernel_rfl) (by as_aux_lemma => kernel_rfl) (fun _ _ _ h => h) (Or.inl ⟨by rfl, ?_⟩) (by assumption) ?_
        rotate_left
        · (intro w hSw; obtain ⟨h1, X, Y, hb⟩ := hSw; go_simp <;> with_reducible rfl)
        simp only [Act.put, List.setIfInBounds_toArray, List.set_cons_zero, List.set_cons_succ]
        refine wpAnyH_take (i := 6) (oi := Oper.mk (some 49) _ _ _ _ _) (v := ?_) rfl (by as_aux_lemma => kernel_rfl) (by as_aux_lemma => kernel_rfl) (by as_aux_lemma => kernel_rfl) (fun _ _ _ h => h) (Or.inl ⟨by rfl, ?_⟩) (by assumption) ?_
        rotate_left
        · (intro w hSw; obtain ⟨h1, X, Y, hb⟩ := hSw; go_simp <;> with_reducible rfl)
        simp only [Act.put, List.setIfInBounds_toArray, List.set_cons_zero, List.set_cons_succ]
        refine wpAnyH_take (i := 8) (oi := Oper.mk (some 51) _ _ _ _ _) (v := ?_) rfl (by as_aux_lemma => kernel_rfl) (by as_aux_lemma => kernel_rfl) (by as_aux_lemma => kernel_rfl) (fun _ _ _ h => h) (Or.inl ⟨by rfl, ?_⟩) (by assumption) ?_
        rotate_left
        · (intro w hSw; obtain ⟨h1, X, Y, hb⟩ := hSw; go_simp <;> with_reducible rfl)
        simp only [Act.put, List.setIfInBounds_toArray, List.set_cons_zero, List.set_cons_succ]
        refine wpAnyH_ready (rs := [7]) (by kernel_rfl) (by simp) (AllReadyH.cons (o := Oper.mk (some 50) _ _ _ _ _) rfl (fun K hK => ?_) AllReadyH.nil)
        go_simp
        go_at_call 33
        refine (HWT.out _ hk0.fr).mono ?_
        rintro _ v7 ⟨rfl, rfl⟩
        refine hK.out _ _ ⟨HCE.out _ hk0.fr, _, _, hk0⟩ (fun hHeld1 => ?_)
        clear hK K hHeld0 
        try simp only [Act.put, List.setIfInBounds_toArray, List.set_cons_zero, List.set_cons_succ]
        refine wpAnyH_ready (rs := [9]) (by kernel_rfl) (by simp) (AllReadyH.cons (o := Oper.mk (some 52) _ _ _ _ _) rfl (fun K hK => ?_) AllReadyH.nil)
        go_simp
        go_at_call 38
        refine (HA.out _ _ hk0).mono ?_
        rintro _ v9 ⟨rfl, hk⟩
        refine hK.out _ _ ⟨HCE.out _ hk.fr, _, _, hk⟩ (fun hHeld2 => ?_)
        clear hK K hHeld1 hk0
        try simp only [Act.put, List.setIfInBounds_toArray, List.set_cons_zero, List.set_cons_succ]
        refine wpAnyH_take (i := 10) (oi := Oper.mk (some 53) _ _ _ _ _) (v := ?_) rfl (by as_aux_lemma => kernel_rfl) (by as_aux_lemma => kernel_rfl) (by as_aux_lemma => kernel_rfl) (fun _ _ _ h => h) (Or.inl ⟨by rfl, ?_⟩) (by assumption) ?_
        rotate_left
        · (intro w hSw; obtain ⟨h1, X, Y, hb⟩ := hSw; go_simp <;> with_reducible rfl)
        simp only [Act.put, List.setIfInBounds_toArray, List.set_cons_zero, List.set_cons_succ]
        refine wpAnyH_take (i := 11) (oi := Oper.mk (some 54) _ _ _ _ _) (v := ?_) rfl (by as_aux_lemma => kernel_rfl) (by as_aux_lemma => kernel_rfl) (by as_aux_lemma => kernel_rfl) (fun _ _ _ h => h) (Or.inl ⟨by rfl, ?_⟩) (by assumption) ?_
        rotate_left
        · (intro w hSw; obtain ⟨h1, X, Y, hb⟩ := hSw; go_simp <;> with_reducible rfl)
        simp only [Act.put, List.setIfInBounds_toArray, List.set_cons_zero, List.set_cons_succ]
        refine wpAnyH_take (i := 12) (oi := Oper.mk (some 55) _ _ _ _ _) (v := ?_) rfl (by as_aux_lemma => kernel_rfl) (by as_aux_lemma => kernel_rfl) (by as_aux_lemma => kernel_rfl) (fun _ _ _ h => h) (Or.inl ⟨by rfl, ?_⟩) (by assumption) ?_
        rotate_left
        · (intro w hSw; obtain ⟨h1, X, Y, hb⟩ := hSw; go_simp <;> with_reducible rfl)
        simp only [Act.put, List.setIfInBounds_toArray, List.set_cons_zero, List.set_cons_succ]
        refine wpAnyH_take (i := 13) (oi := Oper.mk (some 56) _ _ _ _ _) (v := ?_) rfl (by as_aux_lemma => kernel_rfl) (by as_aux_lemma => kernel_rfl) (by as_aux_lemma => kernel_rfl) (fun _ _ _ h => h) (Or.inl ⟨by rfl, ?_⟩) (by assumption) ?_
        rotate_left
        · (intro w hSw; obtain ⟨h1, X, Y, hb⟩ := hSw; go_simp <;> with_reducible rfl)
        simp only [Act.put, List.setIfInBounds_toArray, List.set_cons_zero, List.set_cons_succ]
        refine wpAnyH_take (i := 14) (oi := Oper.mk (some 57) _ _ _ _ _) (v := ?_) rfl (by as_aux_lemma => kernel_rfl) (by as_aux_lemma => kernel_rfl) (by as_aux_lemma => kernel_rfl) (fun _ _ _ h => h) (Or.inl ⟨by rfl, ?_⟩) (by assumption) ?_
        rotate_left
        · (intro w hSw; obtain ⟨h1, X, Y, hb⟩ := hSw; go_simp <;> with_reducible rfl)
        simp only [Act.put, List.setIfInBounds_toArray, List.set_cons_zero, List.set_cons_succ]
        refine wpAnyH_take (i := 15) (oi := Oper.mk (some 58) _ _ _ _ _) (v := ?_) rfl (by as_aux_lemma => kernel_rfl) (by as_aux_lemma => kernel_rfl) (by as_aux_lemma => kernel_rfl) (fun _ _ _ h => h) (Or.inl ⟨by rfl, ?_⟩) (by assumption) ?_
        rotate_left
        · (intro w hSw; obtain ⟨h1, X, Y, hb⟩ := hSw; go_simp <;> with_reducible rfl)
        simp only [Act.put, List.setIfInBounds_toArray, List.set_cons_zero, List.set_cons_succ]
        refine wpAnyH_take (i := 16) (oi := Oper.mk (some 59) _ _ _ _ _) (v := ?_) rfl (by as_aux_lemma => kernel_rfl) (by as_aux_lemma => kernel_rfl) (by as_aux_lemma => kernel_rfl) (fun _ _ _ h => h) (Or.inl ⟨by rfl, ?_⟩) (by assumption) ?_
        rotate_left
        · (intro w hSw; obtain ⟨h1, X, Y, hb⟩ := hSw; go_simp <;> with_reducible rfl)
        simp only [Act.put, List.setIfInBounds_toArray, List.set_cons_zero, List.set_cons_succ]
        refine wpAnyH_take (i := 17) (oi := Oper.mk (some 60) _ _ _ _ _) (v := ?_) rfl (by as_aux_lemma => kernel_rfl) (by as_aux_lemma => kernel_rfl) (by as_aux_lemma => kernel_rfl) (fun _ _ _ h => h) (Or.inl ⟨by rfl, ?_⟩) (by assumption) ?_
        rotate_left
        · (intro w hSw; obtain ⟨h1, X, Y, hb⟩ := hSw; go_simp <;> with_reducible rfl)
        simp only [Act.put, List.setIfInBounds_toArray, List.set_cons_zero, List.set_cons_succ]
        refine wpAnyH_take (i := 18) (oi := Oper.mk (some 61) _ _ _ _ _) (v := ?_) rfl (by as_aux_lemma => kernel_rfl) (by as_aux_lemma => kernel_rfl) (by as_aux_lemma => kernel_rfl) (fun _ _ _ h => h) (Or.inl ⟨by rfl, ?_⟩) (by assumption) ?_
        rotate_left
        · (intro w hSw; obtain ⟨h1, X, Y, hb⟩ := hSw; go_simp <;> with_reducible rfl)
        simp only [Act.put, List.setIfInBounds_toArray, List.set_cons_zero, List.set_cons_succ]
        refine wpAnyH_take (i := 20) (oi := Oper.mk (some 63) _ _ _ _ _) (v := ?_) rfl (by as_aux_lemma => kernel_rfl) (by as_aux_lemma => kernel_rfl) (by as_aux_lemma => kernel_rfl) (fun _ _ _ h => h) (Or.inl ⟨by rfl, ?_⟩) (by assumption) ?_
        rotate_left
        · (intro w hSw; obtain ⟨h1, X, Y, hb⟩ := hSw; go_simp <;> with_reducible rfl)
        simp only [Act.put, List.setIfInBounds_toArray, List.set_cons_zero, List.set_cons_succ]
        refine wpAnyH_ready (rs := [19]) (by kernel_rfl) (by simp) (AllReadyH.cons (o := Oper.mk (some 62) _ _ _ _ _) rfl (fun K hK => ?_) AllReadyH.nil)
        go_simp
        go_at_call 33
        refine (HWT.out _ hk.fr).mono ?_
        rintro _ v19 ⟨rfl, rfl⟩
        refine hK.out _ _ ⟨HCE.out _ hk.fr, _, _, hk⟩ (fun hHeld3 => ?_)
        clear hK K hHeld2 
        try simp only [Act.put, List.setIfInBounds_toArray, List.set_cons_zero, List.set_cons_succ]
        refine wpAnyH_ready (rs := [21]) (by kernel_rfl) (by simp) (AllReadyH.cons (o := Oper.mk (some 64) _ _ _ _ _) rfl (fun K hK => ?_) AllReadyH.nil)
        go_simp
        go_at_call 39
        refine (HRA.out _ _ hk).mono ?_
        rintro _ v21 ⟨rfl, hm⟩
        refine hK.out _ _ ⟨HCE.out _ hm.fr, _, _, hm⟩ (fun hHeld4 => ?_)
        clear hK K hHeld3 hk
        try simp only [Act.put, List.setIfInBounds_toArray, List.set_cons_zero, List.set_cons_succ]
        refine wpAnyH_take (i := 22) (oi := Oper.mk (some 65) _ _ _ _ _) (v := ?_) rfl (by as_aux_lemma => kernel_rfl) (by as_aux_lemma => kernel_rfl) (by as_aux_lemma => kernel_rfl) (fun _ _ _ h => h) (Or.inl ⟨by rfl, ?_⟩) (by assumption) ?_
        rotate_left
        · (intro w hSw; obtain ⟨h1, X, Y, hb⟩ := hSw; go_simp <;> with_reducible rfl)
        simp only [Act.put, List.setIfInBounds_toArray, List.set_cons_zero, List.set_cons_succ]
        refine wpAnyH_take (i := 23) (oi := Oper.mk (some 66) _ _ _ _ _) (v := ?_) rfl (by as_aux_lemma => kernel_rfl) (by as_aux_lemma => kernel_rfl) (by as_aux_lemma => kernel_rfl) (fun _ _ _ h => h) (Or.inl ⟨by rfl, ?_⟩) (by assumption) ?_
        rotate_left
        · (intro w hSw; obtain ⟨h1, X, Y, hb⟩ := hSw; go_simp <;> with_reducible rfl)
        simp only [Act.put, List.setIfInBounds_toArray, List.set_cons_zero, List.set_cons_succ]
        have H9 := Lib.hid hm
        clear hm hHeld4
        refine wpAnyH_done (by kernel_rfl) ?_ _
        refine NoPanic.normal ?_
        go_wp2_with fail
        go_roundw
        case rel => exact ⟨i + 1, by go_num, by omega, by omega, by rw [HST.out]; exact H9⟩
        case measure => simp [intOf]; omega
      · have hi2 : i = 120 := by omega
        subst hi2
        have HE : Hid (min m 120 = 120) := Lib.hid (by omega)
        clear hi12
        go_wp2_with fail
        go_ret2
        exact ⟨g, r, gr, r2, rfl, by rw [HE.out]; exact hx.out⟩
    · have hi2 : i = m := by omega
      subst hi2
      have HE : Hid (min i 120 = i) := Lib.hid (by omega)
      go_wp2_with fail
      go_ret2
      exact ⟨g, r, gr, rfl, r2, hx.out⟩
end
end Go.Proofs.Ytbpfmjekpjfceaa

namespace Go.Proofs.Ytbpfmjekpjfceaa
theorem cntL_in (P Q : Int → Bool) : ∀ L : Lv, (∀ x, InL L x → P x = true → Q x = true) → cntL P L ≤ cntL Q L
  | [], _ => Nat.le_refl _
  | l :: r, h => by
    have h1 : l.countP P ≤ l.countP Q := List.countP_mono_left fun x hx => h x ⟨l, List.mem_cons_self, hx⟩
    have h2 := cntL_in P Q r fun x hx => h x hx.cons
    rw [cntL, cntL]
    omega
theorem cntL_false : ∀ L : Lv, cntL (fun _ => false) L = 0
  | [] => rfl
  | l :: r => by rw [cntL, cntL_false r]; simp
theorem cntL_non (P : Int → Bool) (L : Lv) (h : ∀ x, InL L x → P x = false) : cntL P L = 0 := by
  have h1 := cntL_in P (fun _ => false) L fun x hx hp => by rw [h x hx] at hp; cases hp
  rw [cntL_false] at h1
  omega
theorem in_adds {k n : Nat} {bs : List Nat} (hk : 8 ≤ k) (hk2 : k ≤ 4096) (hl : bs.length = n) (vs : List Int) (ns : List Nat) : ∀ i, i ≤ 1000000 → ∀ x, InL (adds k bs vs ns i).1 x → ∃ j, j < i ∧ vs.getD j 0 = x
  | 0, _, x, ⟨_, h, _⟩ => nomatch h
  | i + 1, hi, x, h => by
    obtain ⟨-, -, h3⟩ := adds_ok hk hk2 hl vs ns i (by omega)
    rw [adds, adS, if_pos h3] at h
    rcases addN_in _ _ _ x (pack_in _ _ _ _ _ x h) with rfl | h
    · exact ⟨i, Nat.lt_succ_self _, rfl⟩
    · obtain ⟨j, hj, e⟩ := in_adds hk hk2 hl vs ns i (by omega) x h
      exact ⟨j, by omega, e⟩
end Go.Proofs.Ytbpfmjekpjfceaa
