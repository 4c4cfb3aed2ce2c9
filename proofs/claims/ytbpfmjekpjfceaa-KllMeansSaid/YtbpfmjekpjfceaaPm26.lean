/- RkSame -/
import Derived.Test.YtbpfmjekpjfceaaPm1
import Derived.Test.YtbpfmjekpjfceaaPm2
import Derived.Test.YtbpfmjekpjfceaaPm3
import Derived.Test.YtbpfmjekpjfceaaPm4
import Derived.Test.YtbpfmjekpjfceaaPm6
import Derived.Test.YtbpfmjekpjfceaaPm7
import Derived.Test.YtbpfmjekpjfceaaPm8
import Derived.Test.YtbpfmjekpjfceaaPm9
import Derived.Test.YtbpfmjekpjfceaaPm16
import Derived.Test.YtbpfmjekpjfceaaPm17
import Derived.Test.YtbpfmjekpjfceaaPm18
import Derived.Test.YtbpfmjekpjfceaaPm19
import Derived.Test.YtbpfmjekpjfceaaPm20
import Derived.Test.YtbpfmjekpjfceaaPm21
import Derived.Deep.RegionLaw
import Derived.BigQuiet
import Derived.Maps.AppendAt
import Derived.Laws.AppendOwnNone
import Derived.Laws.OwnMore
import Derived.Lib.AppendZerosOnto
import Derived.Lib.SliceRun
import Derived.Lib.Walk
import Derived.WalkKit
import Derived.Laws.BytesArg
import Derived.Lib.SlBytesConst
import Derived.WalkSpells
import Derived.WalkLawsBesides
import Derived.Deep.QuietTactic
import Derived.RegionTactic
import Derived.Deep.AppendLies
import Derived.Laws.ResultCell
import Derived.Laws.EntriesVeiled
import Derived.Lib.Hide
import Derived.Test.YtbpfmjekpjfceaaRows
import Derived.Laws.Externs
import Derived.Shelf.Spec.BitsCarry
import Derived.Deep.CutBlock
import Derived.Deep.CutRange
import Derived.Deep.DeepCutAuto
import Derived.Lib.BitFns
import Derived.Shelf.Small.Bits
import Derived.Shelf.Strconv.Itoa0
import Derived.Shelf.Bits.Mul64
import Derived.Deep.RegionHeld3
import Derived.BigRegion
set_option maxRecDepth 100000
set_option maxHeartbeats 8000000
namespace Go.Proofs.Ytbpfmjekpjfceaa
open Go.RowKit
structure Rows (w : World) (p : Option Addr) (n c : Nat) (L : Lv) : Prop where
  len : L.length = n
  cel : ∀ h (hh : h < L.length), ∃ b o, p = some ⟨b, o, none⟩ ∧ ∃ q m d, w.cell? ⟨b, o + h, none⟩ = some (.slice q m d) ∧ Sz w q m d L[h]
  cap : n ≤ c
theorem Rows.fr0 {w w' : World} {p : Option Addr} {n c : Nat} {L : Lv} (r : Rows w p n c L) (f : Fr S0 w w') : Rows w' p n c L :=
  ⟨r.len, fun h hh => let ⟨b, o, hp, q, m, d, hc, z⟩ := r.cel h hh; ⟨b, o, hp, q, m, d, f.cell hc (fun h => h), z.fr0 f⟩, r.cap⟩
theorem rows_of {w : World} {D : Nat → Prop} {p : Option Addr} {n c : Nat} {rs : List Sv} {L : Lv} (own : w.ownsRow 0 53 1 (.slice p n c) n (svs rs)) (lv : Lvs w D rs L) : Rows w p n c L := by
  have hl := own.1
  rw [svs_len] at hl
  refine ⟨by rw [← lv.len]; omega, fun h hh => ?_, (own_cap own).1⟩
  have hr : h < rs.length := by rw [lv.len]; exact hh
  obtain ⟨g, rfl⟩ := rows_some own (by omega)
  exact ⟨g, 0, rfl, rs[h].1, rs[h].2.1, rs[h].2.2, by rw [Nat.zero_add]; exact rows_at own h hr, lv.sz h hr hh⟩
theorem LvOut.rows {w w' : World} {v : Value} {n : Nat} {M : Lv} (h : LvOut w w' v n M) : ∃ p c, v = .slice p n c ∧ Rows w' p n c M := by
  obtain ⟨⟨p, c, rs, rfl, own, lv, -⟩, -⟩ := h
  exact ⟨p, c, rfl, rows_of own lv⟩
theorem RkIs.rows {w : World} {g n c k E : Nat} {C D : Nat → Prop} {p : Option Addr} {rs : List Sv} {L : Lv} (s : RkIs w g C D p n c rs k L E) : Rows w p n c L := rows_of s.out s.lvs
def sameB (a b : Lv) : Bool := decide (a = b)
theorem rsame_any (p q : Option Addr) (n m c d : Nat) (A B : Lv) (w : World) (hA : Rows w p n c A) (hB : Rows w q m d B) (hn : n ≤ 1000000) (hm : m ≤ 1000000) (hl : ∀ l ∈ A, l.length ≤ 1000000000) (hl2 : ∀ l ∈ B, l.length ≤ 1000000000) :
    Calls Try.prog 42 #[.slice p n c, .slice q m d] w fun e w' => e = .returned (.bool (sameB A B)) ∧ Fr S0 w w' := by
  have HA := Lib.hid hA
  have HB := Lib.hid hB
  have HLA := Lib.hid hl
  have HLB := Lib.hid hl2
  have hni : (n : Int) ≤ 1000000 := by omega
  have lA := hA.len
  have lB := hB.len
  by_cases hnm : n = m
  · subst hnm
    have k1 : ((n : Int) != (n : Int)) = false := by simp
    clear hA hB hl hl2 hm
    go_enter Try.func42, Try.ntmps42
    go_wp2_with fail
    go_loopw [5, 6] (fun z _ wr => ∃ h : Nat, z = .int .i64 (h : Nat) ∧ h ≤ n ∧ Hid (∀ j, (hj : j < A.length) → (hj2 : j < B.length) → j < h → A[j] = B[j]) ∧ Hid (Fr S0 w wr)) (fun z _ _ => n - (intOf z).toNat)
    case atStart => exact ⟨0, rfl, by omega, Lib.hid fun j _ _ h => absurd h (Nat.not_lt_zero _), Lib.hid (Fr.refl _ _)⟩
    case round =>
      obtain ⟨h, rfl, hh, heq, hf⟩ := hrel
      by_cases hlt : (h : Int) < (n : Int)
      · have hhA : h < A.length := by omega
        have hhB : h < B.length := by omega
        obtain ⟨b1, o1, rfl, q1, m1, d1, e1, z1⟩ := (HA.out.fr0 hf.out).cel h hhA
        obtain ⟨b2, o2, rfl, q2, m2, d2, e2, z2⟩ := (HB.out.fr0 hf.out).cel h hhB
        have hm1 : m1 ≤ 1000000000 := by rw [← z1.len]; exact HLA.out _ (List.getElem_mem hhA)
        have hm1i : (m1 : Int) ≤ 1000000000 := by omega
        have hh0 : (0 : Int) ≤ (h : Int) := by omega
        obtain ⟨la, hla⟩ : ∃ l, A[h] = l := ⟨_, rfl⟩
        obtain ⟨lb, hlb⟩ : ∃ l, B[h] = l := ⟨_, rfl⟩
        rw [hla] at z1
        rw [hlb] at z2
        have l1 := z1.len
        have l2 := z2.len
        have Z1 := Lib.hid z1
        have Z2 := Lib.hid z2
        have HLA1 := Lib.hid hla
        have HLB1 := Lib.hid hlb
        have HL1 := Lib.hid l1
        have HL2 := Lib.hid l2
        have HE : Hid (∀ W, Fr S0 wr W → W.cell? ⟨b1, o1 + h, none⟩ = some (.slice q1 m1 d1) ∧ W.cell? ⟨b2, o2 + h, none⟩ = some (.slice q2 m2 d2)) := Lib.hid fun W f => ⟨f.cell e1 (fun h => h), f.cell e2 (fun h => h)⟩
        by_cases hmm : m1 = m2
        · subst hmm
          have km : ((m1 : Int) != (m1 : Int)) = false := by simp
          clear z1 z2 hla hlb l1 l2
          go_wp2_with fail
          go_quiet (fail)
          go_wp2_with fail
          obtain ⟨W1, hW1⟩ : ∃ W1, wr.drewN nq = W1 := ⟨_, rfl⟩
          have f1 : Fr S0 wr W1 := by rw [← hW1]; exact Fr.drewN _ _ _
          obtain ⟨e3, e4⟩ := HE.out W1 f1
          have HF1 := Lib.hid f1
          rw [hW1]
          clear e1 e2 hW1 f1
          go_loopw [6] (fun y wy => ∃ i : Nat, y = .int .i64 (i : Nat) ∧ i ≤ m1 ∧ Hid (∀ j, (hj : j < la.length) → (hj2 : j < lb.length) → j < i → la[j] = lb[j]) ∧ Hid (Fr S0 W1 wy)) (fun y _ => m1 - (intOf y).toNat)
          case atStart => exact ⟨0, rfl, by omega, Lib.hid fun j _ _ h => absurd h (Nat.not_lt_zero _), Lib.hid (Fr.refl _ _)⟩
          case round =>
            obtain ⟨i, rfl, hi, hle, hf2⟩ := hrel
            have HFW := Lib.hid (HF1.out.trans0 hf2.out)
            obtain ⟨e5, e6⟩ := HE.out _ HFW.out
            by_cases him : (i : Int) < (m1 : Int)
            · have hia : i < la.length := by rw [HL1.out]; omega
              have hib : i < lb.length := by rw [HL2.out]; omega
              obtain ⟨b3, o3, rfl, v1⟩ := (Z1.out.fr0 HFW.out).at i hia
              obtain ⟨b4, o4, rfl, v2⟩ := (Z2.out.fr0 HFW.out).at i hib
              obtain ⟨x, hx⟩ : ∃ x, la[i] = x := ⟨_, rfl⟩
              obtain ⟨y, hy⟩ : ∃ y, lb[i] = y := ⟨_, rfl⟩
              rw [hx] at v1
              rw [hy] at v2
              have hi0 : (0 : Int) ≤ (i : Int) := by omega
              have HXY := Lib.hid (And.intro hx hy)
              clear hx hy
              by_cases hxy : x = y
              · have k2 : (x != y) = false := by rw [hxy]; simp
                have HLE : Hid (∀ j, (hj : j < la.length) → (hj2 : j < lb.length) → j < i + 1 → la[j] = lb[j]) := Lib.hid fun j hj hj2 h => by
                  rcases (by omega : j < i ∨ j = i) with h1 | rfl
                  · exact hle.out j hj hj2 h1
                  · rw [HXY.out.1, HXY.out.2, hxy]
                clear hxy hle
                go_wp2_with fail
                go_quiet (fail)
                go_wp2_with fail
                go_roundw
                case rel => exact ⟨i + 1, by go_num, by omega, HLE, Lib.hid (hf2.out.trans0 (Fr.drewN _ _ _))⟩
                case measure => simp [intOf]; omega
              · have k2 : (x != y) = true := by rw [bne_iff_ne]; exact hxy
                have HNE : Hid (sameB A B = false) := Lib.hid (decide_eq_false fun e => by
                  have e2 := HLA1.out
                  have e3 := HLB1.out
                  subst e
                  rw [e2] at e3
                  subst e3
                  exact hxy (by rw [← HXY.out.1, ← HXY.out.2]))
                clear hxy hle
                go_wp2_with fail
                go_quiet (fail)
                go_wp2_with fail
                go_ret
                exact ⟨by rw [HNE.out]; rfl, (hf.out.trans0 HFW.out).trans0 (Fr.drewN _ _ _)⟩
            · obtain rfl : i = m1 := by omega
              have HLE : Hid (∀ j, (hj : j < A.length) → (hj2 : j < B.length) → j < h + 1 → A[j] = B[j]) := Lib.hid fun j hj hj2 hjh => by
                rcases (by omega : j < h ∨ j = h) with h1 | rfl
                · exact heq.out j hj hj2 h1
                · rw [HLA1.out, HLB1.out]
                  exact List.ext_getElem (by rw [HL1.out, HL2.out]) fun t ht ht2 => hle.out t ht ht2 (by rw [HL1.out] at ht; exact ht)
              clear hle
              go_wp2_with fail
              go_roundw
              case rel => exact ⟨h + 1, by go_num, by omega, HLE, Lib.hid (hf.out.trans0 HFW.out)⟩
              case measure => simp [intOf]; omega
        · have km : ((m1 : Int) != (m2 : Int)) = true := by rw [bne_iff_ne]; omega
          have HNE : Hid (sameB A B = false) := Lib.hid (decide_eq_false fun e => by
            have e2 := HLA1.out
            have e3 := HLB1.out
            subst e
            rw [e2] at e3
            subst e3
            omega)
          clear z1 z2 hla hlb l1 l2 hmm
          go_wp2_with fail
          go_quiet (fail)
          go_wp2_with fail
          go_ret
          exact ⟨by rw [HNE.out]; rfl, hf.out.trans0 (Fr.drewN _ _ _)⟩
      · obtain rfl : h = n := by omega
        have HT : Hid (sameB A B = true) := Lib.hid (decide_eq_true (List.ext_getElem (by omega) fun t ht ht2 => heq.out t ht ht2 (by omega)))
        clear heq
        go_wp2_with fail
        go_ret
        exact ⟨by rw [HT.out]; rfl, hf.out⟩
  · have k1 : ((n : Int) != (m : Int)) = true := by rw [bne_iff_ne]; omega
    have HNE : Hid (sameB A B = false) := Lib.hid (decide_eq_false fun e => by subst e; omega)
    clear hA hB hl hl2 hm hnm
    go_enter Try.func42, Try.ntmps42
    go_wp2_with fail
    go_ret
    exact ⟨by rw [HNE.out]; rfl, Fr.refl _ _⟩
end Go.Proofs.Ytbpfmjekpjfceaa
