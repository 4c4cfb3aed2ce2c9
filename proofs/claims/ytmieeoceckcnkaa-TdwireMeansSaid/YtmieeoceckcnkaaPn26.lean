/- TwLawMeans -/
import Derived.Test.YtmieeoceckcnkaaPn1
import Derived.Test.YtmieeoceckcnkaaPn2
import Derived.Test.YtmieeoceckcnkaaPn3
import Derived.Test.YtmieeoceckcnkaaPn4
import Derived.Test.YtmieeoceckcnkaaPn5
import Derived.Test.YtmieeoceckcnkaaPn6
import Derived.Test.YtmieeoceckcnkaaPn7
import Derived.Test.YtmieeoceckcnkaaPn8
import Derived.Test.YtmieeoceckcnkaaPn9
import Derived.Test.YtmieeoceckcnkaaPn10
import Derived.Test.YtmieeoceckcnkaaPn11
import Derived.Test.YtmieeoceckcnkaaPn12
import Derived.Test.YtmieeoceckcnkaaPn13
import Derived.Test.YtmieeoceckcnkaaPn14
import Derived.Test.YtmieeoceckcnkaaPn15
import Derived.Test.YtmieeoceckcnkaaPn16
import Derived.Test.YtmieeoceckcnkaaPn17
import Derived.Test.YtmieeoceckcnkaaPn18
import Derived.Test.YtmieeoceckcnkaaPn19
import Derived.Test.YtmieeoceckcnkaaPn20
import Derived.Test.YtmieeoceckcnkaaPn21
import Derived.Test.YtmieeoceckcnkaaPn22
import Derived.Test.YtmieeoceckcnkaaPn23
import Derived.Defers
import Derived.Recover
import Derived.Deep.RegionHeld2
import Derived.StillTailTactics
import Derived.WalkKit
import Derived.Laws.BitsAllLaws
import Derived.Laws.BytesArg
import Derived.Lib.SlBytesConst
import Derived.Maps.AppendAt
import Derived.Laws.AppendOwnNone
import Derived.WalkSpells
import Derived.WalkLawsBesides
import Derived.Deep.QuietTactic
import Derived.BigQuiet
import Derived.RegionTactic
import Derived.Deep.AppendLies
import Derived.Deep.RegionLaw
import Derived.Laws.ResultCell
import Derived.Laws.EntriesVeiled
import Derived.Lib.Hide
import Derived.Test.YtmieeoceckcnkaaRows
import Derived.Deep.RegionHeld3
import Derived.BigRegion
import Derived.Laws.OwnMore
import Derived.Lib.AppendZerosOnto
import Derived.Lib.SliceRun
import Derived.Lib.Walk
import Derived.Laws.Externs
import Derived.Shelf.Spec.BitsCarry
import Derived.Deep.CutBlock
import Derived.Deep.CutRange
import Derived.Deep.DeepCutAuto
import Derived.Lib.BitFns
import Derived.Shelf.Small.Bits
import Derived.Shelf.Strconv.Itoa0
import Derived.Shelf.Bits.Mul64
set_option maxRecDepth 100000
set_option maxHeartbeats 8000000
namespace Go.Proofs.Ytmieeoceckcnkaa
open Go.RowKit
theorem tdB_d {d d' : Nat} {lo hi lo' hi' : Int} {L W L' W' : List Tm} (h1 : d < 18446744073709551616) (h2 : d' < 18446744073709551616) (h : tdB d lo hi L W = tdB d' lo' hi' L' W') : d = d' := by
  have a := dnum_enc 7 d (.inl rfl) h1 [] (enc 8 (numb lo) ++ (enc 8 (numb hi) ++ (enc 7 L.length ++ (wrM true true 0 L ++ (enc 7 W.length ++ wrM false true 0 W))))) _ rfl
  have b := dnum_enc 7 d' (.inl rfl) h2 [] (enc 8 (numb lo') ++ (enc 8 (numb hi') ++ (enc 7 L'.length ++ (wrM true true 0 L' ++ (enc 7 W'.length ++ wrM false true 0 W'))))) _ rfl
  unfold tdB at h
  rw [List.nil_append] at a b
  rw [h, b] at a
  simp only [Option.some.injEq, Prod.mk.injEq] at a
  exact a.1.symm
theorem means_yes {D : Nat} {lo hi : Int} {L U : List Tm} (hL : In64 L) (hU : In64 U) (l1 : -9223372036854775808 ≤ lo) (l2 : lo ≤ 9223372036854775807) (h1 : -9223372036854775808 ≤ hi) (h2 : hi ≤ 9223372036854775807) (nL : L.length ≤ 1000) (nU : U.length ≤ 1000) (h : RightP (D : Int) lo hi L U) :
    RdOk (tdB D lo hi L U) { d := D, L := L, W := U, lo := lo, hi := hi } := by
  obtain ⟨a1, a2, a3⟩ := h
  rw [Int.toNat_natCast] at a3
  exact ⟨rfl, good_of ⟨by omega, l1, l2, h1, h2, hL, hU, by omega, by omega⟩ (by omega) a3, a3.len⟩
theorem means_no {D : Nat} {lo hi : Int} {L U : List Tm} (hD : D < 18446744073709551616) (hL : In64 L) (hU : In64 U) (l1 : -9223372036854775808 ≤ lo) (l2 : lo ≤ 9223372036854775807) (h1 : -9223372036854775808 ≤ hi) (h2 : hi ≤ 9223372036854775807) (nL : L.length ≤ 1000) (nU : U.length ≤ 1000) (h : ¬ RightP (D : Int) lo hi L U) :
    ¬ ∃ x, RdOk (tdB D lo hi L U) x := by
  rintro ⟨x, k⟩
  have hd := tdB_d hD (by have := k.good.d2; omega) k.eq
  have hd2 := k.good.d2
  have h3 := drdT_back (d := D) (lo := lo) (hi := hi) (L := L) (W := U) ⟨by omega, l1, l2, h1, h2, hL, hU, by omega, by omega⟩ []
  rw [List.append_nil, rdOk_nums k] at h3
  simp only [Option.some.injEq, Prod.mk.injEq, Dg.nums, Nums.mk.injEq, and_true] at h3
  obtain ⟨e1, e2, e3, e4, e5⟩ := h3
  have hl := k.good.load k.few
  have hd1 := k.good.d1
  rw [e1, e2, e3, e4, e5] at hl
  exact h ⟨by omega, by omega, by rw [Int.toNat_natCast]; exact hl⟩
theorem ris_grow {L : List Tm} {i : Nat} (h0 : 0 < i) (hi : i < L.length) (h : Ris (L.take i)) (hle : (L[i - 1]'(by omega)).1 ≤ L[i].1) : Ris (L.take (i + 1)) := by
  rw [List.take_succ_eq_append_getElem hi]
  refine List.pairwise_append.2 ⟨h, List.pairwise_singleton _ _, fun a ha b hb => ?_⟩
  rw [List.mem_singleton.1 hb]
  obtain ⟨j, hj, rfl⟩ := List.getElem_of_mem ha
  rw [List.length_take] at hj
  rw [List.getElem_take]
  by_cases hji : j = i - 1
  · subst hji
    exact hle
  · have hp := List.pairwise_iff_getElem.1 h j (i - 1) (by rw [List.length_take]; omega) (by rw [List.length_take]; omega) (by omega)
    rw [List.getElem_take, List.getElem_take] at hp
    omega
section
variable (d lo hi : Int) (p : Option Addr) (n c : Nat) (L : List Tm) (q : Option Addr) (m ce : Nat) (U : List Tm) (w : World)
theorem law_means (d2 : d ≤ 9223372036854775807) (l1 : -9223372036854775808 ≤ lo) (l2 : lo ≤ 9223372036854775807) (h1 : -9223372036854775808 ≤ hi) (h2 : hi ≤ 9223372036854775807) (hL : Sl w p n c L) (iL : In64 L) (hU : Sl w q m ce U) (iU : In64 U) :
    Calls Try.prog 4 #[.int .i64 d, .int .i64 lo, .int .i64 hi, .slice p n c, .slice q m ce] w fun e w' => e = .returned (.bool true) ∧ Fr S0 w w' := by
  have HAL := Lib.hid (alive23_any w)
  by_cases hb1 : 100 < n
  · have hbi : (100 : Int) < (n : Int) := by omega
    clear hL iL hU iU l1 l2 h1 h2 d2
    go_enter Try.func4, Try.ntmps4
    go_wp2_with fail
    refine HAL.out.mono ?_
    rintro e w1 ⟨rfl, f1⟩
    have F1 := Lib.hid f1
    clear f1 HAL
    go_wp2_with fail
    go_ret
    exact ⟨rfl, F1.out⟩
  have hn1 : (n : Int) ≤ 100 := by omega
  by_cases hb2 : 100 < m
  · have hbi : (100 : Int) < (m : Int) := by omega
    clear hL iL hU iU l1 l2 h1 h2 d2 hb1
    go_enter Try.func4, Try.ntmps4
    go_wp2_with fail
    refine HAL.out.mono ?_
    rintro e w1 ⟨rfl, f1⟩
    have F1 := Lib.hid f1
    clear f1 HAL
    go_wp2_with fail
    go_ret
    exact ⟨rfl, F1.out⟩
  have hm1 : (m : Int) ≤ 100 := by omega
  by_cases hb3 : d < 0
  · clear hL iL hU iU l1 l2 h1 h2 d2 hb1 hb2
    go_enter Try.func4, Try.ntmps4
    go_wp2_with fail
    refine HAL.out.mono ?_
    rintro e w1 ⟨rfl, f1⟩
    have F1 := Lib.hid f1
    clear f1 HAL
    go_wp2_with fail
    go_ret
    exact ⟨rfl, F1.out⟩
  obtain ⟨D, rfl⟩ : ∃ D : Nat, d = D := ⟨d.toNat, by omega⟩
  have HD : Hid (D < 9223372036854775808) := Lib.hid (by omega)
  have HSL := Lib.hid (fun W (f : Fr S0 w W) => hL.fr0 f)
  have HSU := Lib.hid (fun W (f : Fr S0 w W) => hU.fr0 f)
  have hnL := hL.len
  have hmU := hU.len
  have HNL := Lib.hid (And.intro hnL hmU)
  have HRW := Lib.hid (fun gb p n c q m ce W (r : RgRaw W gb D lo hi p n c q m ce L U) (hn : n ≤ 1000000) (hm : m ≤ 1000000) => rwrite_any gb D lo hi p n c q m ce L U W r HD.out iL iU hn hm)
  have HRI := Lib.hid (fun W (f : Fr S0 w W) => rright_any (D : Int) lo hi p n c q m ce L U W (hL.fr0 f) (hU.fr0 f) (by omega) (fun t ht => by
    rcases List.mem_append.1 ht with h | h
    · exact (iL t h).2
    · exact (iU t h).2))
  have HYES := Lib.hid (fun h => means_yes (D := D) iL iU l1 l2 h1 h2 (by omega) (by omega) h)
  have HNO := Lib.hid (fun h => means_no (D := D) (by have := HD.out; omega) iL iU l1 l2 h1 h2 (by omega) (by omega) h)
  have HBL : Hid ((tdB D lo hi L U).length ≤ 10000) := Lib.hid (by
    have h := bytes_len { d := D, L := L, W := U, lo := lo, hi := hi }
    have h3 : ({ d := D, L := L, W := U, lo := lo, hi := hi } : Dg).all.length = L.length + U.length := by unfold Dg.all; rw [List.length_append]
    have h4 : ({ d := D, L := L, W := U, lo := lo, hi := hi } : Dg).bytes = tdB D lo hi L U := rfl
    rw [h4] at h
    omega)
  have k100 : decide ((100 : Int) < (n : Int)) = false := decide_eq_false (by omega)
  have k101 : decide ((100 : Int) < (m : Int)) = false := decide_eq_false (by omega)
  have k102 : decide ((D : Int) < 0) = false := decide_eq_false (by omega)
  clear hL iL hU iU l1 l2 h1 h2 d2 hb1 hb2 hb3 hnL hmU
  go_enter Try.func4, Try.ntmps4
  go_wp2_with fail
  refine HAL.out.mono ?_
  rintro e w1 ⟨rfl, f1⟩
  have F1 := Lib.hid f1
  clear f1 HAL
  have FA := Lib.hid (F1.out.trans0 (Fr.alloc S0 w1 (.cells #[.int .i64 (D : Nat), .slice none 0 0, .slice none 0 0, .int .i64 lo, .int .i64 hi] 38)))
  have HBX := Lib.hid (heap_alloc_new w1 (.cells #[.int .i64 (D : Nat), .slice none 0 0, .slice none 0 0, .int .i64 lo, .int .i64 hi] 38))
  have HGB : Hid (w.heap.size ≤ w1.heap.size) := Lib.hid F1.out.size
  have HSZ : Hid ((w1.alloc (.cells #[.int .i64 (D : Nat), .slice none 0 0, .slice none 0 0, .int .i64 lo, .int .i64 hi] 38)).heap.size = w1.heap.size + 1) := Lib.hid (size_alloc _ _)
  go_wp2_with (first
    | ((with_reducible show wpList _ _ _ (Oper.mk (some 40) _ _ _ _ _ :: _) _ _); refine app_two elAm (.tmp 38) (.tmp 39) (Acc.nil (Fr.refl S0 _)) (HSL.out _ FA.out) (Nat.zero_add n) (Room.mk (by omega)) rfl rfl rfl rfl ?_; intro q3 d3 w3 ha3; rw [List.nil_append] at ha3; have HA3 := Lib.hid ha3; have hb3 := ha3.fr.row HBX.out (fun h => h); have z3 : w3.frozen? ⟨w1.heap.size, 1, none⟩ = false := by { simp [World.frozen?, hb3] }; have HB3 := Lib.hid hb3; have HB4 := Lib.hid ((five_set hb3 (.slice q3 n d3) (.bool true)).1); have c4 : (w3.setCell ⟨w1.heap.size, 1, none⟩ (.slice q3 n d3)).cell? ⟨w1.heap.size, 2, none⟩ = some (.slice none 0 0) := (cell_five HB4.out).2.2; have k1 := (cell_five hb3).2.1; have F4 := Lib.hid ((FA.out.trans0 ha3.fr).set ⟨w1.heap.size, 1, none⟩ (.slice q3 n d3) HGB.out); clear ha3 hb3)
    | ((with_reducible show wpList _ _ _ (Oper.mk (some 49) _ _ _ _ _ :: _) _ _); refine app_two elAm (.tmp 47) (.tmp 48) (Acc.nil (Fr.refl S0 _)) (HSU.out _ F4.out) (Nat.zero_add m) (Room.mk (by omega)) rfl rfl rfl rfl ?_; intro q5 d5 w5 ha5; rw [List.nil_append] at ha5; have HA5 := Lib.hid ha5; have hb5 := ha5.fr.row HB4.out (fun h => h); have z5 : w5.frozen? ⟨w1.heap.size, 2, none⟩ = false := by { simp [World.frozen?, hb5] }; have HB5 := Lib.hid hb5; have k2 := (cell_five hb5).2.2; have F5 := Lib.hid (F4.out.trans0 ha5.fr); clear ha5 hb5)
    | fail)
  obtain ⟨w6, e6⟩ : ∃ w6, w5.setCell ⟨w1.heap.size, 2, none⟩ (.slice q5 m d5) = w6 := ⟨_, rfl⟩
  have f56 : Fr (· = w1.heap.size) w5 w6 := by rw [← e6]; exact Fr.setCell _ _ _ _ rfl
  have b6 : w6.heap[w1.heap.size]? = some (.cells #[.int .i64 (D : Nat), .slice q3 n d3, .slice q5 m d5, .int .i64 lo, .int .i64 hi] 38 (0, 0)) := by rw [← e6]; exact (five_set HB5.out (.slice q5 m d5) (.bool true)).2.1
  have F6 := Lib.hid (show Fr S0 w w6 from by rw [← e6]; exact F5.out.set ⟨_, 2, none⟩ _ HGB.out)
  have f36 : Fr (· = w1.heap.size) w3 w6 := ((Fr.setCell (· = w1.heap.size) w3 ⟨w1.heap.size, 1, none⟩ (.slice q3 n d3) rfl).trans0 HA5.out.fr).trans f56 fun _ _ e => e
  have hz0 := HSZ.out
  have o3 : w6.ownsRow 0 44 2 (.slice q3 n d3) n (prs L) := f36.owns HA3.out.own fun k hk e => by have h3 := HA3.out.fresh k hk; have e2 : k = w1.heap.size := e; omega
  have z35 : w1.heap.size + 1 ≤ w3.heap.size := by have := HA3.out.fr.size; omega
  have z46 : w3.heap.size = (w3.setCell ⟨w1.heap.size, 1, none⟩ (.slice q3 n d3)).heap.size := by simp
  have o5 : w6.ownsRow 0 44 2 (.slice q5 m d5) m (prs U) := f56.owns HA5.out.own fun k hk e => by have h3 := HA5.out.fresh k hk; have e2 : k = w1.heap.size := e; omega
  have HAP : Hid (∀ k, Value.ownBlock (.slice q3 n d3) = some k → k ≠ w1.heap.size ∧ k < w6.heap.size ∧ Value.ownBlock (.slice q5 m d5) ≠ some k) := Lib.hid fun k hk => by
    have h3 := HA3.out.fresh k hk
    have h4 := (HA3.out.own.lt k hk).2
    refine ⟨by omega, (o3.lt k hk).2, fun h5 => ?_⟩
    have h6 := HA5.out.fresh k h5
    omega
  have HAP2 : Hid (∀ k, Value.ownBlock (.slice q5 m d5) = some k → k ≠ w1.heap.size ∧ k < w6.heap.size) := Lib.hid fun k hk => by
    have h3 := HA5.out.fresh k hk
    exact ⟨by omega, (o5.lt k hk).2⟩
  have hlt6 : w1.heap.size < w6.heap.size := (Array.getElem?_eq_some_iff.1 b6).1
  have HRAW := Lib.hid (fun W (f : Fr S0 w6 W) => (show RgRaw W w1.heap.size D lo hi q3 n d3 q5 m d5 L U from ⟨f.row b6 fun h => h, Sl.ofOwns (f.owns o3 fun _ _ h => h), Sl.ofOwns (f.owns o5 fun _ _ h => h)⟩))
  have hbel : ∀ b, (b = w1.heap.size ∨ Value.ownBlock (.slice q3 n d3) = some b ∨ Value.ownBlock (.slice q5 m d5) = some b) → b < w6.heap.size := by
    rintro b (h | h | h)
    · rw [h]; exact hlt6
    · exact (HAP.out b h).2.1
    · exact (HAP2.out b h).2
  have HRIS := Lib.hid (fun W (f : Fr S0 w6 W) (hg : ({ d := D, L := L, W := U, lo := lo, hi := hi } : Dg).Good) => (show RIs W w1.heap.size (fun b => b = w1.heap.size ∨ Value.ownBlock (.slice q3 n d3) = some b ∨ Value.ownBlock (.slice q5 m d5) = some b) { d := D, L := L, W := U, lo := lo, hi := hi } from
    ⟨q3, n, d3, q5, m, d5, f.row b6 fun h => h, f.owns o3 fun _ _ h => h, f.owns o5 fun _ _ h => h, fun k hk => ⟨(HAP.out k hk).1, .inr (.inl hk), (HAP.out k hk).2.2⟩, fun k hk => ⟨(HAP2.out k hk).1, .inr (.inr hk)⟩, .inl rfl, fun b hb => Nat.lt_of_lt_of_le (hbel b hb) f.size, hg⟩))
  have HRW6 := Lib.hid (fun W (f : Fr S0 w6 W) => HRW.out _ _ _ _ _ _ _ W (HRAW.out W f) (by omega) (by omega))
  have E6 := Lib.hid e6
  clear hbel f56 b6 f36 hz0 o3 z35 z46 o5 hlt6 e6 HAP HAP2 HRAW HRW HA3 HA5 HB3 HB4 HB5 F4 F5 FA HBX HSZ k1 k2 z3 z5 c4
  go_wp2_with fail
  rw [E6.out]
  obtain ⟨gb, egb⟩ : ∃ g, w1.heap.size = g := ⟨_, rfl⟩
  rw [egb] at HRIS HRW6 ⊢
  clear E6 HGB egb
  go_loopw [12] (fun z wr => ∃ i : Nat, z = .int .i64 (i : Int) ∧ 1 ≤ i ∧ i ≤ 101 ∧ Hid (Fr S0 w6 wr) ∧ Hid (Ris (L.take i))) (fun z _ => 101 - (intOf z).toNat)
  case atStart => exact ⟨1, rfl, by omega, by omega, Lib.hid (Fr.refl _ _), Lib.hid (by cases L with | nil => exact List.Pairwise.nil | cons a r => exact List.pairwise_singleton _ _)⟩
  case round =>
    obtain ⟨i, rfl, hi1, hi101, hfr, hris⟩ := hrel
    by_cases hin : (i : Int) < (n : Int)
    · have hil : i < L.length := by rw [HNL.out.1]; omega
      have hpl : i - 1 < L.length := by omega
      have hsl := HSL.out _ (F6.out.trans0 hfr.out)
      obtain ⟨b, o, hp, d0, -⟩ := hsl.at i hil
      obtain ⟨b', o', hp', e0, -⟩ := hsl.at (i - 1) hpl
      obtain ⟨x, hx⟩ : ∃ x, p = x := ⟨_, rfl⟩
      rw [hp] at hp'
      simp only [Option.some.injEq, Addr.mk.injEq] at hp'
      obtain ⟨rfl, rfl, -⟩ := hp'
      subst hp
      have HGR := Lib.hid (ris_grow (L := L) (i := i) (by omega) hil hris.out)
      obtain ⟨tk, htk⟩ : ∃ t, (L[i]).1 = t := ⟨_, rfl⟩
      obtain ⟨pk, hpk⟩ : ∃ t, (L[i - 1]'hpl).1 = t := ⟨_, rfl⟩
      rw [htk] at d0 HGR
      rw [hpk] at e0 HGR
      obtain ⟨j, hj⟩ : ∃ j, i - 1 = j := ⟨_, rfl⟩
      rw [hj] at e0
      have ej : (i : Int) - 1 = (j : Int) := by omega
      have ej2 : IntKind.i64.wrap ((i : Int) - 1) = (j : Int) := by rw [ej]; simp [IntKind.wrap, IntKind.bits, IntKind.signed]; omega
      have hjn : (j : Int) < (n : Int) := by omega
      have hjn2 : j < n := by omega
      have hin2 : i < n := by omega
      have hi99 : (i : Int) < 101 := by omega
      clear htk hpk hj hsl hx
      by_cases hlt : tk < pk
      · have kk : decide (tk < pk) = true := decide_eq_true hlt
        clear hlt HGR
        go_wp2_with fail
        go_quiet (fail)
        go_wp2_with fail
        go_ret
        exact ⟨rfl, (F6.out.trans0 hfr.out).trans0 (Fr.drewN S0 _ _)⟩
      · have kk : decide (tk < pk) = false := decide_eq_false hlt
        have HG2 : Hid (Ris (L.take (i + 1))) := Lib.hid (HGR.out (by omega))
        clear hlt HGR
        go_wp2_with fail
        go_quiet (fail)
        go_wp2_with fail
        go_roundw
        case rel => exact ⟨i + 1, by go_num, by omega, by omega, Lib.hid (hfr.out.trans0 (Fr.drewN S0 _ _)), HG2⟩
        case measure => first | (simp [intOf]; done) | (simp [intOf]; omega)
    · have HRW7 := Lib.hid (HRW6.out _ hfr.out)
      clear HRW6 hris
      go_wp2_with fail
      refine HRW7.out.mono ?_
      rintro _ w7 ⟨vb, rfl, acc⟩
      obtain ⟨qb, db, rfl, sb, cb, -⟩ := acc.sl
      have F67 := Lib.hid (hfr.out.trans0 acc.fr)
      obtain ⟨P, hP⟩ : ∃ P, tdB D lo hi L U = P := ⟨_, rfl⟩
      rw [hP] at sb HBL HYES HNO ⊢
      have HP8 : Hid (∀ y ∈ P, y < 256) := Lib.hid (by rw [← hP]; exact tdB_lt _ _ _ _ _)
      obtain ⟨N, hN⟩ : ∃ N, P.length = N := ⟨_, rfl⟩
      rw [hN] at HBL ⊢
      have HRD := Lib.hid (tread_any qb db N P w7 hN sb HP8.out cb (by have := HBL.out; omega))
      clear acc sb cb hP hN HRW7 HP8
      go_wp2_with fail
      refine HRD.out.mono ?_
      rintro _ w8 (⟨x, g, hok, rfl, k⟩ | ⟨hno, rfl, f8⟩)
      · by_cases hrp : RightP (D : Int) lo hi L U
        · obtain rfl := rdOk_one (HYES.out hrp) hok
          have F8 := Lib.hid (F67.out.trans0 k.fr)
          have HRI8 := Lib.hid (HRI.out _ (F6.out.trans0 F8.out))
          rw [okB_yes hrp] at HRI8
          obtain ⟨C, hC, -⟩ := k.ex
          have HSM := Lib.hid (fun W (f : Fr S0 w8 W) => same_any g gb C _ _ W (hC.fr0 f) (HRIS.out W (F8.out.trans0 f) hok.good) (by have h1 := HNL.out; show (L ++ U).length ≤ _; rw [List.length_append]; omega))
          clear hrp hok k hC HRI HYES HNO HRIS HRD
          go_wp2_with fail
          refine HRI8.out.mono ?_
          rintro _ w9 ⟨rfl, f9⟩
          have HS9 := Lib.hid (HSM.out _ f9)
          have F9 := Lib.hid (F8.out.trans0 f9)
          clear f9 HRI8 HSM
          go_wp2_with fail
          refine HS9.out.mono ?_
          rintro _ w10 ⟨rfl, f10⟩
          have F10 := Lib.hid (F6.out.trans0 (F9.out.trans0 f10))
          clear f10 HS9
          go_wp2_with fail
          go_ret
          exact ⟨rfl, F10.out⟩
        · exact absurd ⟨_, hok⟩ (HNO.out hrp)
      · by_cases hrp : RightP (D : Int) lo hi L U
        · exact absurd ⟨_, HYES.out hrp⟩ hno
        · have F8 := Lib.hid (F67.out.trans0 f8)
          have HRI8 := Lib.hid (HRI.out _ (F6.out.trans0 F8.out))
          rw [okB_no hrp] at HRI8
          clear hrp hno f8 HRI HYES HNO HRIS HRD
          go_wp2_with fail
          refine HRI8.out.mono ?_
          rintro _ w9 ⟨rfl, f9⟩
          have F9 := Lib.hid (F6.out.trans0 (F8.out.trans0 f9))
          clear f9 HRI8
          go_wp2_with fail
          go_ret
          exact ⟨rfl, F9.out⟩
end
end Go.Proofs.Ytmieeoceckcnkaa
