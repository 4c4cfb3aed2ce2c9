/- KcTell, KcTerms, KcAtMath -/
import Derived.Test.YtbpfmjekpjfceaaPm1
import Derived.Test.YtbpfmjekpjfceaaPm2
import Derived.Test.YtbpfmjekpjfceaaPm3
import Derived.Test.YtbpfmjekpjfceaaPm4
import Derived.Test.YtbpfmjekpjfceaaPm6
import Derived.Test.YtbpfmjekpjfceaaPm7
import Derived.Test.YtbpfmjekpjfceaaPm8
import Derived.Test.YtbpfmjekpjfceaaPm9
import Derived.Test.YtbpfmjekpjfceaaPm16
import Derived.Test.YtbpfmjekpjfceaaPm17
import Derived.Test.YtbpfmjekpjfceaaPm18
import Derived.Test.YtbpfmjekpjfceaaPm19
import Derived.Test.YtbpfmjekpjfceaaPm20
import Derived.Maps.AppendAt
import Derived.Laws.AppendOwnNone
import Derived.Laws.OwnMore
import Derived.Lib.AppendZerosOnto
import Derived.Lib.SliceRun
import Derived.Lib.Walk
import Derived.WalkKit
import Derived.Laws.BytesArg
import Derived.Lib.SlBytesConst
import Derived.WalkSpells
import Derived.WalkLawsBesides
import Derived.Deep.QuietTactic
import Derived.BigQuiet
import Derived.RegionTactic
import Derived.Deep.AppendLies
import Derived.Deep.RegionLaw
import Derived.Laws.ResultCell
import Derived.Laws.EntriesVeiled
import Derived.Lib.Hide
import Derived.Test.YtbpfmjekpjfceaaRows
import Derived.Laws.Externs
import Derived.Shelf.Spec.BitsCarry
import Derived.Deep.CutBlock
import Derived.Deep.CutRange
import Derived.Deep.DeepCutAuto
import Derived.Lib.BitFns
import Derived.Shelf.Small.Bits
import Derived.Shelf.Strconv.Itoa0
import Derived.Shelf.Bits.Mul64
import Derived.Deep.RegionHeld3
import Derived.BigRegion
set_option maxRecDepth 100000
set_option maxHeartbeats 8000000
namespace Go.Proofs.Ytbpfmjekpjfceaa
open Go.RowKit
section
variable (g k T E : Nat) (C D : Nat → Prop) (L : Lv) (w : World)
theorem xledger_any (s : KsS w g C D k L T E) : Calls Try.prog 24 #[.pointer (some ⟨g, 0, none⟩)] w fun e w' => e = .returned (.int .u64 (E : Nat)) ∧ w' = w := by
  obtain ⟨p, n, c, rs, s⟩ := s
  have c3 := s.c3
  go_enter Try.func24, Try.ntmps24
  go_wp2_with fail
  go_ret
  exact ⟨rfl, rfl⟩
theorem kept_take : ∀ (L : Lv) (h : Nat) (hh : h < L.length), kept (L.take (h + 1)) = kept (L.take h) + L[h].length ∧ kept (L.take (h + 1)) ≤ kept L
  | [], h, hh => absurd hh (Nat.not_lt_zero _)
  | l :: r, 0, _ => by
    refine ⟨?_, ?_⟩
    · simp [kept]
    · rw [show (l :: r).take (0 + 1) = [l] from by simp]
      simp only [kept]
      omega
  | l :: r, h + 1, hh => by
    obtain ⟨i1, i2⟩ := kept_take r h (by simpa using hh)
    rw [List.take_succ_cons, List.take_succ_cons, kept, kept, kept, i1, List.getElem_cons_succ]
    rw [i1] at i2
    omega
theorem xkept_any (s : KsS w g C D k L T E) (hk : kept L ≤ 1000000000) (hL : L.length ≤ 1000000) : Calls Try.prog 35 #[.pointer (some ⟨g, 0, none⟩)] w fun e w' => e = .returned (.int .i64 (kept L : Nat)) ∧ w' = w := by
  obtain ⟨p, n, c, rs, s⟩ := s
  have c1 := s.c1
  have hlen := s.len
  have HS := Lib.hid s
  have HK := Lib.hid hk
  rw [hlen] at hL
  have hni : (n : Int) ≤ 1000000 := by omega
  clear s hk
  go_enter Try.func35, Try.ntmps35
  go_wp2_with fail
  go_loopw [3, 5, 11] (fun x _ z wr => ∃ j N : Nat, j ≤ n ∧ z = .int .i64 j ∧ x = .int .i64 (N : Nat) ∧ Hid (N = kept (L.take j)) ∧ wr = w) (fun _ _ z _ => n - (intOf z).toNat)
  case atStart => exact ⟨0, 0, by omega, rfl, rfl, Lib.hid rfl, rfl⟩
  case round =>
    obtain ⟨j, N, hj, rfl, rfl, hN, rfl⟩ := hrel
    by_cases hjn : (j : Int) < (n : Int)
    · have hjM : j < L.length := by omega
      obtain ⟨b, rfl, -, -, q, m, d, ch, z, -, -⟩ := HS.out.lev j hjM
      obtain ⟨h1, h2⟩ := kept_take L j hjM
      rw [z.len, ← hN.out] at h1
      have HN : Hid (N + m = kept (L.take (j + 1))) := Lib.hid h1.symm
      have hb : (N : Int) + (m : Int) ≤ 1000000000 := by have := HK.out; omega
      have hj0 : (0 : Int) ≤ (j : Int) := by omega
      clear z h1 h2 hN
      go_wp2_with fail
      go_roundw
      case rel => exact ⟨j + 1, N + m, by omega, by go_num, by go_num, HN, trivial⟩
      case measure => simp [intOf]; omega
    · obtain rfl : j = n := by omega
      have HN : Hid (N = kept L) := Lib.hid (by rw [hN.out, ← hlen, List.take_length])
      clear hN
      go_wp2_with fail
      go_ret
      exact ⟨by rw [HN.out]; rfl, rfl⟩
structure LvOut (w w' : World) (v : Value) (n : Nat) (M : Lv) : Prop where
  row : ∃ p c rs, v = .slice p n c ∧ w'.ownsRow 0 53 1 (.slice p n c) n (svs rs) ∧ Lvs w' (fun b => w.heap.size ≤ b ∧ b < w'.heap.size ∧ Value.ownBlock (.slice p n c) ≠ some b) rs M ∧ ∀ b, Value.ownBlock (.slice p n c) = some b → w.heap.size ≤ b
  fr : Fr S0 w w'
theorem LvOut.nil {w w' : World} (f : Fr S0 w w') : LvOut w w' (.slice none 0 0) 0 [] := ⟨⟨none, 0, [], rfl, World.ownsRow_nil _ _ _ _, Lvs.nil _ _, fun b h => by simp [Value.ownBlock] at h⟩, f⟩
theorem LvOut.app {w wr w2 w3 : World} {pv pu : Option Addr} {j m cv cu g1 cap1 : Nat} {M : Lv} {l : List Int} {o : Obj} (a : AccZ wr w2 (.slice pu m cu) m l) (rs1 : List Sv) (own1 : wr.ownsRow 0 53 1 (.slice pv j cv) j (svs rs1)) (lv1 : Lvs wr (fun b => w.heap.size ≤ b ∧ b < wr.heap.size ∧ Value.ownBlock (.slice pv j cv) ≠ some b) rs1 M) (hb1 : ∀ b, Value.ownBlock (.slice pv j cv) = some b → w.heap.size ≤ b) (f1 : Fr S0 w wr) (own : w3.ownsRow 0 53 1 (.slice (some ⟨g1, 0, none⟩) (j + 1) cap1) (j + 1) (svs rs1 ++ #[Value.slice pu m cu].toList))
    (hg : (w2.alloc o).grownBy w3 (Value.ownBlock (.slice pv j cv))) (hat : Value.ownBlock (.slice pv j cv) = some g1 ∨ g1 = w2.heap.size + 1) : LvOut w w3 (.slice (some ⟨g1, 0, none⟩) (j + 1) cap1) (j + 1) (M ++ [l]) := by
  obtain ⟨pu', cu', hv, zu, hub⟩ := a.sl
  simp only [Value.slice.injEq, true_and] at hv
  obtain ⟨rfl, rfl⟩ := hv
  have f3 : Fr (fun b => Value.ownBlock (.slice pv j cv) = some b) w2 w3 := ((Fr.alloc S0 w2 o).mono fun _ _ h => h.elim).trans (Fr.grown hg) fun _ _ h => h
  have hlt : ∀ b, Value.ownBlock (.slice pv j cv) = some b → b < wr.heap.size := fun b hb => (own1.lt b hb).2
  have s2 := a.fr.size
  have s3 := f3.size
  have s1 := f1.size
  have hg3 : g1 < w3.heap.size := (own.lt g1 rfl).2
  refine ⟨⟨some ⟨g1, 0, none⟩, cap1, rs1 ++ [(pu, m, cu)], rfl, ?_, ?_, fun b hb => ?_⟩, (f1.trans0 a.fr).trans f3 fun k hk e => ?_⟩
  · rw [show svs (rs1 ++ [(pu, m, cu)]) = svs rs1 ++ #[Value.slice pu m cu].toList by simp [svs]]
    exact own
  · have lvm : Lvs w3 (fun b => w.heap.size ≤ b ∧ b < w3.heap.size ∧ Value.ownBlock (.slice (some ⟨g1, 0, none⟩) (j + 1) cap1) ≠ some b) rs1 M := ((lv1.fr0 a.fr).fr f3 fun b hb h => hb.2.2 h).mono fun b hb => ⟨hb.1, by have := hb.2.1; omega, fun e => by
      have e2 : g1 = b := Option.some.inj e
      rcases hat with h | h
      · exact hb.2.2 (by rw [h, e2])
      · have := hb.2.1; omega⟩
    have z3 : Sz w3 pu m cu l := zu.fr f3 fun _ x hx e => by
      have h1 := hub x hx
      have h2 := hlt _ e
      omega
    refine lvm.snoc z3 fun x hx => ?_
    have h1 := hub x hx
    refine ⟨by omega, by omega, fun e => ?_⟩
    have e2 : g1 = x.block := Option.some.inj e
    rcases hat with h | h
    · have := hlt _ h; omega
    · omega
  · obtain rfl : g1 = b := Option.some.inj hb
    rcases hat with h | h
    · exact hb1 _ h
    · omega
  · have := hb1 k e; omega
theorem xlevels_any (s : KsS w g C D k L T E) (hk : ∀ l ∈ L, l.length ≤ 1000000000) (hL : L.length ≤ 1000000) : Calls Try.prog 25 #[.pointer (some ⟨g, 0, none⟩)] w fun e w' => ∃ v, e = .returned v ∧ LvOut w w' v L.length L := by
  obtain ⟨p, n, c, rs, s⟩ := s
  have c1 := s.c1
  have hlen := s.len
  rw [hlen] at hL ⊢
  have HS := Lib.hid s
  have HK := Lib.hid hk
  clear s hk
  go_enter Try.func25, Try.ntmps25
  go_wp2_with fail
  go_loopw [3, 5, 11] (fun x _ z wr => ∃ j : Nat, j ≤ n ∧ z = .int .i64 j ∧ Hid (LvOut w wr x j (L.take j))) (fun _ _ z _ => n - (intOf z).toNat)
  case atStart => exact ⟨0, by omega, rfl, Lib.hid (LvOut.nil (Fr.refl _ _))⟩
  case round =>
    obtain ⟨j, hj, rfl, ho⟩ := hrel
    obtain ⟨⟨pv, cv, rs1, rfl, own1, lv1, hb1⟩, f1⟩ := ho.out
    by_cases hjn : (j : Int) < (n : Int)
    · have hjM : j < L.length := by omega
      obtain ⟨b, rfl, -, -, q, m, d, ch, z, -, -⟩ := (HS.out.fr0 f1).lev j hjM
      have hm : m ≤ 1000000000 := by rw [← z.len]; exact HK.out _ (List.getElem_mem hjM)
      have HC := Lib.hid (fun W (f : Fr S0 wr W) => clonez_any q m d L[j] W (z.fr0 f) (by omega))
      have HO := Lib.hid own1
      have HO4 := Lib.hid (And.intro lv1 (And.intro hb1 f1))
      have c1r := (HS.out.fr0 f1).c1
      have htk : L.take (j + 1) = L.take j ++ [L[j]] := List.take_succ_eq_append_getElem hjM
      have HTK := Lib.hid htk
      have hj0 : (0 : Int) ≤ (j : Int) := by omega
      have HR : Hid (Room (j + 1)) := Lib.hid (Room.mk (by omega))
      clear z own1 lv1 hb1 f1 htk
      go_wp2_with fail
      refine (HC.out _ (Fr.refl _ _)).mono ?_
      rintro e w2 ⟨u, rfl, acc⟩
      obtain ⟨pu, cu, rfl⟩ := slFormN acc.own
      have A2 := Lib.hid acc
      have HO2 := Lib.hid (acc.fr.owns HO.out fun _ _ h => h)
      clear acc HC
      go_wp2_with (first
        | ((with_reducible show wpList _ _ _ (Oper.mk (some 19) _ _ _ _ _ :: _) _ _); refine app_one elR (.tmp 15) (.tmp 18) rfl HO2.out rfl rfl rfl rfl rfl (one_sv _ _ _) HR.out ?_; intro g1 cap1 w3 hown hgrow hat hlt; have HG := Lib.hid (And.intro hown (And.intro hgrow hat)); clear hown hgrow hat hlt)
        | fail)
      go_roundw
      case rel =>
        refine ⟨j + 1, by omega, by go_num, Lib.hid ?_⟩
        rw [HTK.out]
        exact LvOut.app A2.out rs1 HO.out HO4.out.1 HO4.out.2.1 HO4.out.2.2 HG.out.1 HG.out.2.1 HG.out.2.2
      case measure => simp [intOf]; omega
    · obtain rfl : j = n := by omega
      go_wp2_with fail
      go_ret
      refine ⟨_, rfl, ?_⟩
      have h := ho.out
      rw [← hlen, List.take_length] at h
      rw [← hlen]
      exact h
end
end Go.Proofs.Ytbpfmjekpjfceaa

namespace Go.Proofs.Ytbpfmjekpjfceaa
open Go.RowKit
def trms : Nat → Lv → List Tm
  | _, [] => []
  | h, l :: r => l.map (fun v => (v, 2 ^ h)) ++ trms (h + 1) r
theorem trms_snoc : ∀ (L : Lv) (h : Nat) (l : List Int), trms h (L ++ [l]) = trms h L ++ l.map fun v => (v, 2 ^ (h + L.length))
  | [], h, l => by simp [trms]
  | x :: r, h, l => by
    rw [List.cons_append, trms, trms, trms_snoc r (h + 1) l, List.append_assoc, List.length_cons, show h + 1 + r.length = h + (r.length + 1) by omega]
theorem trms_len : ∀ (L : Lv) (h : Nat), (trms h L).length = kept L
  | [], _ => rfl
  | l :: r, h => by rw [trms, List.length_append, List.length_map, trms_len r, kept]
section
variable (g k T E : Nat) (C D : Nat → Prop) (L : Lv) (w : World)
theorem xterms_any (s : KsS w g C D k L T E) (hk : kept L ≤ 1000000000) (hL : L.length ≤ 60) : Calls Try.prog 54 #[.pointer (some ⟨g, 0, none⟩)] w fun e w' => ∃ v, e = .returned v ∧ Acc 107 w w' v (kept L) (trms 0 L) := by
  have HKK := Lib.hid (xkept_any g k T E C D L w s hk (by omega))
  obtain ⟨p, n, c, rs, s⟩ := s
  have c1 := s.c1
  have hlen := s.len
  obtain ⟨N0, hN0⟩ : ∃ N0, kept L = N0 := ⟨_, rfl⟩
  rw [hN0] at HKK hk ⊢
  have HN0 := Lib.hid hN0
  have HS := Lib.hid s
  have HR : Hid (Room N0) := Lib.hid (Room.mk (by omega))
  have hnL : n ≤ 60 := by omega
  have hNi : (N0 : Int) ≤ 1000000000 := by omega
  clear s hN0
  go_enter Try.func54, Try.ntmps54
  go_wp2_with fail
  refine HKK.out.mono ?_
  rintro e w1 ⟨rfl, rfl⟩
  clear HKK
  go_wp2_with (at_make; refine make_room elTm (.const (.int .i64 0)) (.tmp 9) rfl rfl rfl rfl HR.out ?_; intro w2 hown hf1; have HACC : Hid (Acc 107 w1 w2 (.slice (some ⟨w1.heap.size, 0, none⟩) 0 N0) 0 []) := Lib.hid ⟨hown, fun g hg => by obtain rfl := Option.some.inj hg; exact Nat.le_refl _, hf1⟩; have c1b := (HS.out.fr0 hf1).c1; clear hown hf1)
  go_loopw [3, 4, 5, 7, 16, 21, 22, 23] (fun u _ _ _ z _ _ _ wr => ∃ j : Nat, z = .int .i64 j ∧ j ≤ n ∧ Hid (Acc 107 w1 wr u (kept (L.take j)) (trms 0 (L.take j)))) (fun _ _ _ _ z _ _ _ _ => n - (intOf z).toNat)
  case atStart => exact ⟨0, rfl, by omega, HACC⟩
  case round =>
    obtain ⟨j, rfl, hj, hacc⟩ := hrel
    by_cases hjn : (j : Int) < (n : Int)
    · have hjM : j < L.length := by omega
      obtain ⟨b, rfl, -, -, q, m, d, ch0, z, -, -⟩ := HS.out.lev j hjM
      have ch := hacc.out.fr.cell ch0 (fun h => h)
      clear ch0
      obtain ⟨h1, h2⟩ := kept_take L j hjM
      have htk : L.take (j + 1) = L.take j ++ [L[j]] := List.take_succ_eq_append_getElem hjM
      obtain ⟨l, hl⟩ : ∃ l, L[j] = l := ⟨_, rfl⟩
      rw [hl] at z h1 htk
      have hzl := z.len
      have HZ := Lib.hid z
      have hjl : (L.take j).length = j := by rw [List.length_take]; omega
      have HT1 : Hid (trms 0 (L.take (j + 1)) = trms 0 (L.take j) ++ l.map fun v => (v, 2 ^ j)) := Lib.hid (by rw [htk, trms_snoc, hjl, Nat.zero_add])
      have HK1 : Hid (kept (L.take (j + 1)) = kept (L.take j) + m ∧ kept (L.take j) + m ≤ N0) := Lib.hid (by rw [h1, hzl] at h2; exact ⟨by rw [h1, hzl], by rw [HN0.out] at h2; exact h2⟩)
      have HZL := Lib.hid hzl
      obtain ⟨X, hX⟩ : ∃ X, 2 ^ j = X := ⟨_, rfl⟩
      rw [hX] at HT1
      have hXb : X ≤ 1152921504606846976 := by rw [← hX]; exact Nat.pow_le_pow_right (by decide) (by omega : j ≤ 60)
      have ipow : (2 : Int) ^ j = (X : Int) := by rw [← hX]; push_cast; rfl
      have ew1 : IntKind.u64.wrap ((2 : Int) ^ j) = (X : Int) := by rw [ipow, IntKind.wrap_u64]; omega
      have ew2 : (2 : Int) ^ j % 18446744073709551616 = (X : Int) := by rw [ipow]; omega
      have hj64 : (j : Int) < 64 := by omega
      have hj0 : (0 : Int) ≤ (j : Int) := by omega
      have hmi : (m : Int) ≤ 1000000000 := by have := HK1.out; omega
      clear z h1 h2 htk hl hzl hX hjl ipow
      go_wp2_with fail
      go_loopw [3, 7, 23] (fun u _ z wy => ∃ i : Nat, z = .int .i64 i ∧ i ≤ m ∧ Hid (Acc 107 w1 wy u (kept (L.take j) + i) (trms 0 (L.take j) ++ (l.take i).map fun v => (v, X)))) (fun _ _ z _ => m - (intOf z).toNat)
      case atStart => exact ⟨0, rfl, by omega, by simpa using hacc⟩
      case round =>
        obtain ⟨i, rfl, hi, hacc2⟩ := hrel
        by_cases him : (i : Int) < (m : Int)
        · have hil : i < l.length := by rw [HZL.out]; omega
          obtain ⟨pv, cv, rfl⟩ := slFormN hacc2.out.own
          obtain ⟨b2, o2, rfl, d0⟩ := (HZ.out.fr0 hacc2.out.fr).at i hil
          obtain ⟨v, hv⟩ : ∃ v, l[i] = v := ⟨_, rfl⟩
          have HTK : Hid (trms 0 (L.take j) ++ (l.take (i + 1)).map (fun v => (v, X)) = (trms 0 (L.take j) ++ (l.take i).map fun v => (v, X)) ++ [(v, X)]) := Lib.hid (by rw [List.take_succ_eq_append_getElem hil, hv]; simp)
          rw [hv] at d0
          obtain ⟨M, hM⟩ : ∃ M, kept (L.take j) + i = M := ⟨_, rfl⟩
          rw [hM] at hacc2 ⊢
          have HM := Lib.hid hM
          have HR2 : Hid (Room (M + 1)) := Lib.hid (Room.mk (by have := HK1.out; omega))
          have hi0 : (0 : Int) ≤ (i : Int) := by omega
          clear hil hv hM
          go_wp2_with (first
            | ((with_reducible show wpList _ _ _ (Oper.mk (some 33) _ _ _ _ _ :: _) _ _); refine app_one elTm (.tmp 27) (.tmp 32) rfl hacc2.out.own rfl rfl rfl rfl rfl (one_pr v X) HR2.out ?_; intro g1 cap1 w6 hown hgrow hat hlt; have HA6 := Lib.hid (hacc2.out.app hown hgrow hat); clear hown hgrow hat hlt)
            | fail)
          go_roundw
          case rel => exact ⟨i + 1, by go_num, by omega, by rw [HTK.out, ← Nat.add_assoc, HM.out]; exact HA6⟩
          case measure => simp [intOf]; omega
        · obtain rfl : i = m := by omega
          obtain ⟨pv, cv, rfl⟩ := slFormN hacc2.out.own
          have hall : l.take i = l := List.take_of_length_le (by rw [HZL.out]; exact Nat.le_refl _)
          rw [hall] at hacc2
          rw [← HK1.out.1] at hacc2 ⊢
          rw [← HT1.out] at hacc2
          clear hall
          go_wp2_with fail
          go_roundw
          case rel => exact ⟨j + 1, by go_num, by omega, hacc2⟩
          case measure => simp [intOf]; omega
    · obtain rfl : j = n := by omega
      go_wp2_with fail
      go_ret
      refine ⟨_, rfl, ?_⟩
      have h := hacc.out
      rw [← hlen, List.take_length, HN0.out] at h
      exact h
end
end Go.Proofs.Ytbpfmjekpjfceaa

namespace Go.Proofs.Ytbpfmjekpjfceaa
open Go.RowKit
def upB (v : Int) : Int → Bool := fun x => decide (x ≤ v)
def bstep (L : Lv) (r : Nat) (b : Option Int) (v : Int) : Option Int := match b with
  | none => if r ≤ cntL (upB v) L then some v else none
  | some x => if r ≤ cntL (upB v) L ∧ v < x then some v else some x
def bstL (L : Lv) (r : Nat) (b : Option Int) (vs : List Int) : Option Int := vs.foldl (bstep L r) b
def atV (L : Lv) (r : Nat) : Int := ((L.flatten.foldl (bstep L r) none)).getD 0
theorem bstL_none (L : Lv) (r : Nat) : ∀ (vs : List Int), bstL L r none vs = none → ∀ v ∈ vs, ¬ r ≤ cntL (upB v) L
  | [], _, v, hv => nomatch hv
  | x :: vs, h, v, hv => by
    have h1 : bstL L r (bstep L r none x) vs = none := h
    by_cases hx : r ≤ cntL (upB x) L
    · exfalso
      have e : bstep L r none x = some x := if_pos hx
      rw [e] at h1
      have : ∀ (vs : List Int) (y : Int), bstL L r (some y) vs ≠ none := by
        intro vs
        induction vs with
        | nil => intro y h; cases h
        | cons a vs ih =>
          intro y
          show bstL L r (bstep L r (some y) a) vs ≠ none
          unfold bstep
          simp only
          split
          · exact ih a
          · exact ih y
      exact this vs x h1
    · have e : bstep L r none x = none := if_neg hx
      rw [e] at h1
      rcases List.mem_cons.1 hv with rfl | hv
      · exact hx
      · exact bstL_none L r vs h1 v hv
theorem bstL_some (L : Lv) (r : Nat) : ∀ (vs : List Int) (x y : Int), r ≤ cntL (upB x) L → bstL L r (some x) vs = some y → (y = x ∨ y ∈ vs) ∧ r ≤ cntL (upB y) L ∧ y ≤ x ∧ ∀ z ∈ vs, r ≤ cntL (upB z) L → y ≤ z
  | [], x, y, hx, h => by
    obtain rfl : x = y := Option.some.inj h
    exact ⟨.inl rfl, hx, Int.le_refl _, fun z hz => nomatch hz⟩
  | a :: vs, x, y, hx, h => by
    have h1 : bstL L r (bstep L r (some x) a) vs = some y := h
    by_cases ha : r ≤ cntL (upB a) L ∧ a < x
    · have e : bstep L r (some x) a = some a := if_pos ha
      rw [e] at h1
      obtain ⟨i1, i2, i3, i4⟩ := bstL_some L r vs a y ha.1 h1
      refine ⟨i1.elim (fun h => .inr (by rw [h]; simp)) fun h => .inr (List.mem_cons_of_mem _ h), i2, by omega, fun z hz hr => ?_⟩
      rcases List.mem_cons.1 hz with rfl | hz
      · exact i3
      · exact i4 z hz hr
    · have e : bstep L r (some x) a = some x := if_neg ha
      rw [e] at h1
      obtain ⟨i1, i2, i3, i4⟩ := bstL_some L r vs x y hx h1
      refine ⟨i1.elim .inl fun h => .inr (List.mem_cons_of_mem _ h), i2, i3, fun z hz hr => ?_⟩
      rcases List.mem_cons.1 hz with rfl | hz
      · by_cases hz2 : z < x
        · exact absurd ⟨hr, hz2⟩ ha
        · omega
      · exact i4 z hz hr
theorem bstL_first (L : Lv) (r : Nat) : ∀ (vs : List Int) (y : Int), bstL L r none vs = some y → y ∈ vs ∧ r ≤ cntL (upB y) L ∧ ∀ z ∈ vs, r ≤ cntL (upB z) L → y ≤ z
  | [], y, h => by cases h
  | a :: vs, y, h => by
    have h1 : bstL L r (bstep L r none a) vs = some y := h
    by_cases ha : r ≤ cntL (upB a) L
    · have e : bstep L r none a = some a := if_pos ha
      rw [e] at h1
      obtain ⟨i1, i2, i3, i4⟩ := bstL_some L r vs a y ha h1
      refine ⟨i1.elim (fun h => by rw [h]; simp) fun h => List.mem_cons_of_mem _ h, i2, fun z hz hr => ?_⟩
      rcases List.mem_cons.1 hz with rfl | hz
      · exact i3
      · exact i4 z hz hr
    · have e : bstep L r none a = none := if_neg ha
      rw [e] at h1
      obtain ⟨i1, i2, i4⟩ := bstL_first L r vs y h1
      refine ⟨List.mem_cons_of_mem _ i1, i2, fun z hz hr => ?_⟩
      rcases List.mem_cons.1 hz with rfl | hz
      · exact absurd hr ha
      · exact i4 z hz hr
def IsAt (L : Lv) (r : Nat) (y : Int) : Prop := InL L y ∧ r ≤ cntL (upB y) L ∧ ∀ z, InL L z → r ≤ cntL (upB z) L → y ≤ z
theorem inL_flat (L : Lv) (x : Int) : InL L x ↔ x ∈ L.flatten := by
  simp [InL, List.mem_flatten]
theorem IsAt.atV {L : Lv} {r : Nat} {y : Int} (h : IsAt L r y) : atV L r = y := by
  obtain ⟨h1, h2, h3⟩ := h
  unfold Go.Proofs.Ytbpfmjekpjfceaa.atV
  change (bstL L r none L.flatten).getD 0 = y
  cases hb : bstL L r none L.flatten with
  | none => exact absurd h2 (bstL_none L r _ hb y ((inL_flat L y).1 h1))
  | some x =>
    obtain ⟨i1, i2, i3⟩ := bstL_first L r _ x hb
    have a1 := h3 x ((inL_flat L x).2 i1) i2
    have a2 := i3 y ((inL_flat L y).1 h1) h2
    show x = y
    omega
def wcnt (P : Int → Bool) (l : List Tm) : Nat := (l.map fun t => if P t.1 then t.2 else 0).sum
theorem wcnt_app (P : Int → Bool) (a b : List Tm) : wcnt P (a ++ b) = wcnt P a + wcnt P b := by simp [wcnt]
theorem wcnt_cons (P : Int → Bool) (t : Tm) (l : List Tm) : wcnt P (t :: l) = (if P t.1 then t.2 else 0) + wcnt P l := by simp [wcnt]
theorem wcnt_map (P : Int → Bool) (X : Nat) : ∀ l : List Int, wcnt P (l.map fun v => (v, X)) = X * l.countP P
  | [] => rfl
  | a :: r => by
    rw [List.map_cons, wcnt_cons, wcnt_map P X r, List.countP_cons]
    split
    · rw [Nat.mul_add]; omega
    · simp
theorem wcnt_trms (P : Int → Bool) : ∀ (L : Lv) (h : Nat), wcnt P (trms h L) = 2 ^ h * cntL P L
  | [], _ => by simp [trms, wcnt, cntL]
  | l :: r, h => by
    rw [trms, wcnt_app, wcnt_map, wcnt_trms P r (h + 1), cntL, Nat.pow_succ, Nat.mul_add, Nat.mul_assoc]
theorem wcnt_perm (P : Int → Bool) {a b : List Tm} (h : a.Perm b) : wcnt P a = wcnt P b := (h.map _).sum_nat
theorem wcnt_wts (l : List Tm) : wcnt (fun _ => true) l = wts l := by simp [wcnt, wts]
theorem trms_mem : ∀ (L : Lv) (h : Nat) (t : Tm), t ∈ trms h L → InL L t.1
  | [], _, _, h => nomatch h
  | l :: r, h, t, ht => by
    rw [trms] at ht
    rcases List.mem_append.1 ht with h1 | h1
    · obtain ⟨v, hv, rfl⟩ := List.mem_map.1 h1
      exact ⟨l, List.mem_cons_self, hv⟩
    · exact (trms_mem r (h + 1) t h1).cons
theorem wcnt_none (P : Int → Bool) : ∀ l : List Tm, (∀ t ∈ l, P t.1 = false) → wcnt P l = 0
  | [], _ => rfl
  | t :: l, h => by rw [wcnt_cons, wcnt_none P l fun x hx => h x (List.mem_cons_of_mem _ hx), h t List.mem_cons_self]; rfl
theorem wcnt_all (P : Int → Bool) : ∀ l : List Tm, (∀ t ∈ l, P t.1 = true) → wcnt P l = wts l
  | [], _ => rfl
  | t :: l, h => by
    have ih := wcnt_all P l fun x hx => h x (List.mem_cons_of_mem _ hx)
    rw [wcnt_cons, ih, h t List.mem_cons_self]
    simp [wts]
theorem wcnt_le (P : Int → Bool) : ∀ l : List Tm, wcnt P l ≤ wts l
  | [] => Nat.le_refl _
  | t :: l => by
    have ih := wcnt_le P l
    rw [wcnt_cons]
    have : wts (t :: l) = t.2 + wts l := by simp [wts]
    rw [this]
    split <;> omega
theorem isAt_sorted {L : Lv} {r : Nat} {l : List Tm} (hp : l.Perm (trms 0 L)) (hs : ∀ i j, (hj : j < l.length) → (hi : i < j) → (l[i]'(by omega)).1 ≤ l[j].1) {i : Nat} (hi : i < l.length) (h1 : wts (l.take i) < r) (h2 : r ≤ wts (l.take (i + 1))) : IsAt L r l[i].1 := by
  have hw : ∀ P, wcnt P l = cntL P L := fun P => by rw [wcnt_perm P hp, wcnt_trms]; simp
  refine ⟨trms_mem L 0 _ (hp.mem_iff.1 (List.getElem_mem hi)), ?_, fun z hz hr => ?_⟩
  · rw [← hw]
    have e : l = l.take (i + 1) ++ l.drop (i + 1) := (List.take_append_drop _ _).symm
    have ha := wcnt_all (upB l[i].1) (l.take (i + 1)) fun t ht => by
      obtain ⟨j, hj, rfl⟩ := List.getElem_of_mem ht
      rw [List.length_take] at hj
      rw [List.getElem_take]
      unfold upB
      simp only [decide_eq_true_eq]
      by_cases hji : j = i
      · subst hji; exact Int.le_refl _
      · exact hs j i hi (by omega)
    have : wcnt (upB l[i].1) l = wcnt (upB l[i].1) (l.take (i + 1)) + wcnt (upB l[i].1) (l.drop (i + 1)) := by
      rw [← wcnt_app, List.take_append_drop]
    rw [this, ha]
    omega
  · by_cases hlt : z < l[i].1
    · exfalso
      rw [← hw] at hr
      have : wcnt (upB z) l = wcnt (upB z) (l.take i) + wcnt (upB z) (l.drop i) := by
        rw [← wcnt_app, List.take_append_drop]
      have h0 := wcnt_none (upB z) (l.drop i) fun t ht => by
        obtain ⟨j, hj, rfl⟩ := List.getElem_of_mem ht
        rw [List.length_drop] at hj
        rw [List.getElem_drop]
        unfold upB
        simp only [decide_eq_false_iff_not]
        by_cases hj0 : j = 0
        · subst hj0
          simp only [Nat.add_zero]
          omega
        · have := hs i (i + j) (by omega) (by omega)
          omega
      have h3 := wcnt_le (upB z) (l.take i)
      rw [this, h0] at hr
      omega
    · omega
theorem wts_trms (L : Lv) : wts (trms 0 L) = wtL L := by
  rw [← wcnt_wts, wcnt_trms]
  simp [wtL]
theorem wts_perm {a b : List Tm} (h : a.Perm b) : wts a = wts b := by rw [← wcnt_wts, ← wcnt_wts, wcnt_perm _ h]
end Go.Proofs.Ytbpfmjekpjfceaa
