/- RkSame, RkBetw -/
import Derived.Test.YtbpfmjekpjfceaaPa1
import Derived.Test.YtbpfmjekpjfceaaPa2
import Derived.Test.YtbpfmjekpjfceaaPa3
import Derived.Test.YtbpfmjekpjfceaaPa4
import Derived.Test.YtbpfmjekpjfceaaPa6
import Derived.Test.YtbpfmjekpjfceaaPa7
import Derived.Test.YtbpfmjekpjfceaaPa8
import Derived.Test.YtbpfmjekpjfceaaPa9
import Derived.Test.YtbpfmjekpjfceaaPa16
import Derived.Test.YtbpfmjekpjfceaaPa17
import Derived.Test.YtbpfmjekpjfceaaPa18
import Derived.Test.YtbpfmjekpjfceaaPa19
import Derived.Test.YtbpfmjekpjfceaaPa20
import Derived.Test.YtbpfmjekpjfceaaPa21
import Derived.Deep.RegionLaw
import Derived.BigQuiet
import Derived.Maps.AppendAt
import Derived.Laws.AppendOwnNone
import Derived.Laws.OwnMore
import Derived.Lib.AppendZerosOnto
import Derived.Lib.SliceRun
import Derived.Lib.Walk
import Derived.WalkKit
import Derived.Laws.BytesArg
import Derived.Lib.SlBytesConst
import Derived.WalkSpells
import Derived.WalkLawsBesides
import Derived.Deep.QuietTactic
import Derived.RegionTactic
import Derived.Deep.AppendLies
import Derived.Laws.ResultCell
import Derived.Laws.EntriesVeiled
import Derived.Lib.Hide
import Derived.Test.YtbpfmjekpjfceaaRows
import Derived.Laws.Externs
import Derived.Shelf.Spec.BitsCarry
import Derived.Deep.CutBlock
import Derived.Deep.CutRange
import Derived.Deep.DeepCutAuto
import Derived.Lib.BitFns
import Derived.Shelf.Small.Bits
import Derived.Shelf.Strconv.Itoa0
import Derived.Shelf.Bits.Mul64
import Derived.Deep.RegionHeld3
import Derived.BigRegion
set_option maxRecDepth 100000
set_option maxHeartbeats 8000000
namespace Go.Proofs.Ytbpfmjekpjfceaa
open Go.RowKit
structure Rows (w : World) (p : Option Addr) (n c : Nat) (L : Lv) : Prop where
  len : L.length = n
  cel : ∀ h (hh : h < L.length), ∃ b o, p = some ⟨b, o, none⟩ ∧ ∃ q m d, w.cell? ⟨b, o + h, none⟩ = some (.slice q m d) ∧ Sz w q m d L[h]
  cap : n ≤ c
theorem Rows.fr0 {w w' : World} {p : Option Addr} {n c : Nat} {L : Lv} (r : Rows w p n c L) (f : Fr S0 w w') : Rows w' p n c L :=
  ⟨r.len, fun h hh => let ⟨b, o, hp, q, m, d, hc, z⟩ := r.cel h hh; ⟨b, o, hp, q, m, d, f.cell hc (fun h => h), z.fr0 f⟩, r.cap⟩
theorem rows_of {w : World} {D : Nat → Prop} {p : Option Addr} {n c : Nat} {rs : List Sv} {L : Lv} (own : w.ownsRow 0 53 1 (.slice p n c) n (svs rs)) (lv : Lvs w D rs L) : Rows w p n c L := by
  have hl := own.1
  rw [svs_len] at hl
  refine ⟨by rw [← lv.len]; omega, fun h hh => ?_, (own_cap own).1⟩
  have hr : h < rs.length := by rw [lv.len]; exact hh
  obtain ⟨g, rfl⟩ := rows_some own (by omega)
  exact ⟨g, 0, rfl, rs[h].1, rs[h].2.1, rs[h].2.2, by rw [Nat.zero_add]; exact rows_at own h hr, lv.sz h hr hh⟩
theorem LvOut.rows {w w' : World} {v : Value} {n : Nat} {M : Lv} (h : LvOut w w' v n M) : ∃ p c, v = .slice p n c ∧ Rows w' p n c M := by
  obtain ⟨⟨p, c, rs, rfl, own, lv, -⟩, -⟩ := h
  exact ⟨p, c, rfl, rows_of own lv⟩
theorem RkIs.rows {w : World} {g n c k E : Nat} {C D : Nat → Prop} {p : Option Addr} {rs : List Sv} {L : Lv} (s : RkIs w g C D p n c rs k L E) : Rows w p n c L := rows_of s.out s.lvs
def sameB (a b : Lv) : Bool := decide (a = b)
theorem rsame_any (p q : Option Addr) (n m c d : Nat) (A B : Lv) (w : World) (hA : Rows w p n c A) (hB : Rows w q m d B) (hn : n ≤ 1000000) (hm : m ≤ 1000000) (hl : ∀ l ∈ A, l.length ≤ 1000000000) (hl2 : ∀ l ∈ B, l.length ≤ 1000000000) :
    Calls Try.prog 42 #[.slice p n c, .slice q m d] w fun e w' => e = .returned (.bool (sameB A B)) ∧ Fr S0 w w' := by
  have HA := Lib.hid hA
  have HB := Lib.hid hB
  have HLA := Lib.hid hl
  have HLB := Lib.hid hl2
  have hni : (n : Int) ≤ 1000000 := by omega
  have lA := hA.len
  have lB := hB.len
  by_cases hnm : n = m
  · subst hnm
    have k1 : ((n : Int) != (n : Int)) = false := by simp
    clear hA hB hl hl2 hm
    go_enter Try.func42, Try.ntmps42
    go_wp2_with fail
    go_loopw [5, 6] (fun z _ wr => ∃ h : Nat, z = .int .i64 (h : Nat) ∧ h ≤ n ∧ Hid (∀ j, (hj : j < A.length) → (hj2 : j < B.length) → j < h → A[j] = B[j]) ∧ Hid (Fr S0 w wr)) (fun z _ _ => n - (intOf z).toNat)
    case atStart => exact ⟨0, rfl, by omega, Lib.hid fun j _ _ h => absurd h (Nat.not_lt_zero _), Lib.hid (Fr.refl _ _)⟩
    case round =>
      obtain ⟨h, rfl, hh, heq, hf⟩ := hrel
      by_cases hlt : (h : Int) < (n : Int)
      · have hhA : h < A.length := by omega
        have hhB : h < B.length := by omega
        obtain ⟨b1, o1, rfl, q1, m1, d1, e1, z1⟩ := (HA.out.fr0 hf.out).cel h hhA
        obtain ⟨b2, o2, rfl, q2, m2, d2, e2, z2⟩ := (HB.out.fr0 hf.out).cel h hhB
        have hm1 : m1 ≤ 1000000000 := by rw [← z1.len]; exact HLA.out _ (List.getElem_mem hhA)
        have hm1i : (m1 : Int) ≤ 1000000000 := by omega
        have hh0 : (0 : Int) ≤ (h : Int) := by omega
        obtain ⟨la, hla⟩ : ∃ l, A[h] = l := ⟨_, rfl⟩
        obtain ⟨lb, hlb⟩ : ∃ l, B[h] = l := ⟨_, rfl⟩
        rw [hla] at z1
        rw [hlb] at z2
        have l1 := z1.len
        have l2 := z2.len
        have Z1 := Lib.hid z1
        have Z2 := Lib.hid z2
        have HLA1 := Lib.hid hla
        have HLB1 := Lib.hid hlb
        have HL1 := Lib.hid l1
        have HL2 := Lib.hid l2
        have HE : Hid (∀ W, Fr S0 wr W → W.cell? ⟨b1, o1 + h, none⟩ = some (.slice q1 m1 d1) ∧ W.cell? ⟨b2, o2 + h, none⟩ = some (.slice q2 m2 d2)) := Lib.hid fun W f => ⟨f.cell e1 (fun h => h), f.cell e2 (fun h => h)⟩
        by_cases hmm : m1 = m2
        · subst hmm
          have km : ((m1 : Int) != (m1 : Int)) = false := by simp
          clear z1 z2 hla hlb l1 l2
          go_wp2_with fail
          go_quiet (fail)
          go_wp2_with fail
          obtain ⟨W1, hW1⟩ : ∃ W1, wr.drewN nq = W1 := ⟨_, rfl⟩
          have f1 : Fr S0 wr W1 := by rw [← hW1]; exact Fr.drewN _ _ _
          obtain ⟨e3, e4⟩ := HE.out W1 f1
          have HF1 := Lib.hid f1
          rw [hW1]
          clear e1 e2 hW1 f1
          go_loopw [6] (fun y wy => ∃ i : Nat, y = .int .i64 (i : Nat) ∧ i ≤ m1 ∧ Hid (∀ j, (hj : j < la.length) → (hj2 : j < lb.length) → j < i → la[j] = lb[j]) ∧ Hid (Fr S0 W1 wy)) (fun y _ => m1 - (intOf y).toNat)
          case atStart => exact ⟨0, rfl, by omega, Lib.hid fun j _ _ h => absurd h (Nat.not_lt_zero _), Lib.hid (Fr.refl _ _)⟩
          case round =>
            obtain ⟨i, rfl, hi, hle, hf2⟩ := hrel
            have HFW := Lib.hid (HF1.out.trans0 hf2.out)
            obtain ⟨e5, e6⟩ := HE.out _ HFW.out
            by_cases him : (i : Int) < (m1 : Int)
            · have hia : i < la.length := by rw [HL1.out]; omega
              have hib : i < lb.length := by rw [HL2.out]; omega
              obtain ⟨b3, o3, rfl, v1⟩ := (Z1.out.fr0 HFW.out).at i hia
              obtain ⟨b4, o4, rfl, v2⟩ := (Z2.out.fr0 HFW.out).at i hib
              obtain ⟨x, hx⟩ : ∃ x, la[i] = x := ⟨_, rfl⟩
              obtain ⟨y, hy⟩ : ∃ y, lb[i] = y := ⟨_, rfl⟩
              rw [hx] at v1
              rw [hy] at v2
              have hi0 : (0 : Int) ≤ (i : Int) := by omega
              have HXY := Lib.hid (And.intro hx hy)
              clear hx hy
              by_cases hxy : x = y
              · have k2 : (x != y) = false := by rw [hxy]; simp
                have HLE : Hid (∀ j, (hj : j < la.length) → (hj2 : j < lb.length) → j < i + 1 → la[j] = lb[j]) := Lib.hid fun j hj hj2 h => by
                  rcases (by omega : j < i ∨ j = i) with h1 | rfl
                  · exact hle.out j hj hj2 h1
                  · rw [HXY.out.1, HXY.out.2, hxy]
                clear hxy hle
                go_wp2_with fail
                go_quiet (fail)
                go_wp2_with fail
                go_roundw
                case rel => exact ⟨i + 1, by go_num, by omega, HLE, Lib.hid (hf2.out.trans0 (Fr.drewN _ _ _))⟩
                case measure => simp [intOf]; omega
              · have k2 : (x != y) = true := by rw [bne_iff_ne]; exact hxy
                have HNE : Hid (sameB A B = false) := Lib.hid (decide_eq_false fun e => by
                  have e2 := HLA1.out
                  have e3 := HLB1.out
                  subst e
                  rw [e2] at e3
                  subst e3
                  exact hxy (by rw [← HXY.out.1, ← HXY.out.2]))
                clear hxy hle
                go_wp2_with fail
                go_quiet (fail)
                go_wp2_with fail
                go_ret
                exact ⟨by rw [HNE.out]; rfl, (hf.out.trans0 HFW.out).trans0 (Fr.drewN _ _ _)⟩
            · obtain rfl : i = m1 := by omega
              have HLE : Hid (∀ j, (hj : j < A.length) → (hj2 : j < B.length) → j < h + 1 → A[j] = B[j]) := Lib.hid fun j hj hj2 hjh => by
                rcases (by omega : j < h ∨ j = h) with h1 | rfl
                · exact heq.out j hj hj2 h1
                · rw [HLA1.out, HLB1.out]
                  exact List.ext_getElem (by rw [HL1.out, HL2.out]) fun t ht ht2 => hle.out t ht ht2 (by rw [HL1.out] at ht; exact ht)
              clear hle
              go_wp2_with fail
              go_roundw
              case rel => exact ⟨h + 1, by go_num, by omega, HLE, Lib.hid (hf.out.trans0 HFW.out)⟩
              case measure => simp [intOf]; omega
        · have km : ((m1 : Int) != (m2 : Int)) = true := by rw [bne_iff_ne]; omega
          have HNE : Hid (sameB A B = false) := Lib.hid (decide_eq_false fun e => by
            have e2 := HLA1.out
            have e3 := HLB1.out
            subst e
            rw [e2] at e3
            subst e3
            omega)
          clear z1 z2 hla hlb l1 l2 hmm
          go_wp2_with fail
          go_quiet (fail)
          go_wp2_with fail
          go_ret
          exact ⟨by rw [HNE.out]; rfl, hf.out.trans0 (Fr.drewN _ _ _)⟩
      · obtain rfl : h = n := by omega
        have HT : Hid (sameB A B = true) := Lib.hid (decide_eq_true (List.ext_getElem (by omega) fun t ht ht2 => heq.out t ht ht2 (by omega)))
        clear heq
        go_wp2_with fail
        go_ret
        exact ⟨by rw [HT.out]; rfl, hf.out⟩
  · have k1 : ((n : Int) != (m : Int)) = true := by rw [bne_iff_ne]; omega
    have HNE : Hid (sameB A B = false) := Lib.hid (decide_eq_false fun e => by subst e; omega)
    clear hA hB hl hl2 hm hnm
    go_enter Try.func42, Try.ntmps42
    go_wp2_with fail
    go_ret
    exact ⟨by rw [HNE.out]; rfl, Fr.refl _ _⟩
end Go.Proofs.Ytbpfmjekpjfceaa

namespace Go.Proofs.Ytbpfmjekpjfceaa
open Go.RowKit
theorem cntL_take (P : Int → Bool) : ∀ (L : Lv) (h : Nat) (hh : h < L.length), cntL P (L.take (h + 1)) = cntL P (L.take h) + 2 ^ h * L[h].countP P
  | [], h, hh => absurd hh (Nat.not_lt_zero _)
  | l :: r, 0, _ => by simp [cntL]
  | l :: r, h + 1, hh => by
    rw [List.take_succ_cons, List.take_succ_cons, cntL, cntL, cntL_take P r h (by simpa using hh), List.getElem_cons_succ, Nat.pow_succ, Nat.mul_add, Nat.add_assoc, Nat.mul_comm (2 ^ h) 2, Nat.mul_assoc]
theorem cntL_take_le (P : Int → Bool) (L : Lv) (h : Nat) (hh : h < L.length) (i : Nat) : cntL P (L.take h) + 2 ^ h * (L[h].take i).countP P ≤ wtL L := by
  have h1 := (wtL_take L h hh)
  have h2 := cntL_le P (L.take h)
  have h3 : (L[h].take i).countP P ≤ L[h].length := Nat.le_trans List.countP_le_length (by rw [List.length_take]; omega)
  have h4 : 2 ^ h * (L[h].take i).countP P ≤ L[h].length * 2 ^ h := by rw [Nat.mul_comm]; exact Nat.mul_le_mul_right _ h3
  rw [h1.1] at h1
  omega
theorem take_cnt (P : Int → Bool) (l : List Int) (i : Nat) (hi : i < l.length) : (l.take (i + 1)).countP P = (l.take i).countP P + (if P l[i] then 1 else 0) := by
  rw [List.take_succ_eq_append_getElem hi, List.countP_append, List.countP_cons, List.countP_nil]
  omega
section
variable (g k E : Nat) (C D : Nat → Prop) (L : Lv) (v : Int) (w : World)
theorem rbetween_any (s : RkS w g C D k L E) (hH : L.length ≤ 60) (hw : wtL L ≤ 281474976710656) :
    Calls Try.prog 32 #[.pointer (some ⟨g, 0, none⟩), .int .i64 v] w fun e w' => e = .returned (.tuple #[.int .u64 (cntL (loB v) L : Nat), .int .u64 (cntL (upB v) L : Nat)]) ∧ w' = w := by
  obtain ⟨p, n, c, rs, s⟩ := s
  have c1 := s.c1
  have hlen := s.len
  have HS := Lib.hid s
  have HW := Lib.hid hw
  clear s hw
  go_enter Try.func32, Try.ntmps32
  go_wp2_with fail
  go_loopw [6, 7, 8, 9, 10] (fun a b x z _ wr => ∃ h A B X : Nat, z = .int .i64 (h : Nat) ∧ a = .int .u64 (A : Nat) ∧ b = .int .u64 (B : Nat) ∧ x = .int .u64 (X : Nat) ∧ h ≤ n ∧ Hid (A = cntL (loB v) (L.take h)) ∧ Hid (B = cntL (upB v) (L.take h)) ∧ Hid (X = 2 ^ h) ∧ wr = w) (fun _ _ _ z _ _ => n - (intOf z).toNat)
  case atStart => exact ⟨0, 0, 0, 1, rfl, rfl, rfl, rfl, by omega, Lib.hid rfl, Lib.hid rfl, Lib.hid rfl, rfl⟩
  case round =>
    obtain ⟨h, A, B, X, rfl, rfl, rfl, rfl, hh, hA, hB, hX, rfl⟩ := hrel
    by_cases hlt : (h : Int) < (n : Int)
    · have hhL : h < L.length := by omega
      obtain ⟨b, rfl, -, -, q, m, d, ch, z, -, -⟩ := HS.out.lev h hhL
      have hA1 := cntL_take (loB v) L h hhL
      have hB1 := cntL_take (upB v) L h hhL
      have HAB : Hid (∀ i, A + X * (L[h].take i).countP (loB v) ≤ 281474976710656 ∧ B + X * (L[h].take i).countP (upB v) ≤ 281474976710656) := Lib.hid fun i => by
        have h1 := cntL_take_le (loB v) L h hhL i
        have h2 := cntL_take_le (upB v) L h hhL i
        have h3 := HW.out
        rw [← hA.out, ← hX.out] at h1
        rw [← hB.out, ← hX.out] at h2
        exact ⟨by omega, by omega⟩
      obtain ⟨l, hl⟩ : ∃ l, L[h] = l := ⟨_, rfl⟩
      rw [hl] at z hA1 hB1 HAB
      rw [← hA.out, ← hX.out] at hA1
      rw [← hB.out, ← hX.out] at hB1
      have HA1 := Lib.hid hA1
      have HB1 := Lib.hid hB1
      have HZ := Lib.hid z
      have HZL := Lib.hid z.len
      have hmx := z.max
      have hcap := z.cap
      have hX2 : X ≤ 1152921504606846976 := by rw [hX.out]; exact Nat.pow_le_pow_right (by decide) (by omega : h ≤ 60)
      have hmi : (m : Int) ≤ 9223372036854775807 := by unfold maxLen at hmx; omega
      have hh0 : (0 : Int) ≤ (h : Int) := by omega
      have HXX : Hid (X * 2 = 2 ^ (h + 1)) := Lib.hid (by rw [hX.out, Nat.pow_succ])
      clear z hA1 hB1 hl hA hB hmx hcap
      go_wp2_with fail
      go_loopw [6, 7, 10] (fun a b y wy => ∃ i A2 B2 : Nat, y = .int .i64 (i : Nat) ∧ a = .int .u64 (A2 : Nat) ∧ b = .int .u64 (B2 : Nat) ∧ i ≤ m ∧ Hid (A2 = A + X * (l.take i).countP (loB v)) ∧ Hid (B2 = B + X * (l.take i).countP (upB v)) ∧ wy = wr) (fun _ _ y _ => m - (intOf y).toNat)
      case atStart => exact ⟨0, A, B, rfl, rfl, rfl, by omega, Lib.hid (by simp), Lib.hid (by simp), rfl⟩
      case round =>
        obtain ⟨i, A2, B2, rfl, rfl, rfl, hi, hA2, hB2, rfl⟩ := hrel
        by_cases him : (i : Int) < (m : Int)
        · have hil : i < l.length := by rw [HZL.out]; omega
          obtain ⟨b2, o2, rfl, d0⟩ := HZ.out.at i hil
          obtain ⟨hb1, hb2⟩ := HAB.out (i + 1)
          have t1 := take_cnt (loB v) l i hil
          have t2 := take_cnt (upB v) l i hil
          obtain ⟨x, hx⟩ : ∃ x, l[i] = x := ⟨_, rfl⟩
          rw [hx] at d0 t1 t2
          rw [t1, Nat.mul_add, ← Nat.add_assoc, ← hA2.out] at hb1
          rw [t2, Nat.mul_add, ← Nat.add_assoc, ← hB2.out] at hb2
          have HA3 : Hid (A2 + X * (if loB v x = true then 1 else 0) = A + X * (l.take (i + 1)).countP (loB v)) := Lib.hid (by rw [t1, Nat.mul_add, ← Nat.add_assoc, ← hA2.out])
          have HB3 : Hid (B2 + X * (if upB v x = true then 1 else 0) = B + X * (l.take (i + 1)).countP (upB v)) := Lib.hid (by rw [t2, Nat.mul_add, ← Nat.add_assoc, ← hB2.out])
          have hi0 : (0 : Int) ≤ (i : Int) := by omega
          clear hx t1 t2 hA2 hB2 hil
          by_cases h1 : x < v
          · have k1 : decide (x < v) = true := decide_eq_true h1
            have k2 : decide (x ≤ v) = true := decide_eq_true (by omega)
            rw [show loB v x = true from k1, if_pos rfl, Nat.mul_one] at HA3 hb1
            rw [show upB v x = true from k2, if_pos rfl, Nat.mul_one] at HB3 hb2
            go_wp2_with fail
            go_roundw
            case rel => exact ⟨i + 1, A2 + X, B2 + X, by go_num, by go_num, by go_num, by omega, HA3, HB3, trivial⟩
            case measure => simp [intOf]; omega
          · have k1 : decide (x < v) = false := decide_eq_false h1
            rw [show loB v x = false from k1, if_neg (by decide), Nat.mul_zero, Nat.add_zero] at HA3
            by_cases h2 : x ≤ v
            · have k2 : decide (x ≤ v) = true := decide_eq_true h2
              rw [show upB v x = true from k2, if_pos rfl, Nat.mul_one] at HB3 hb2
              clear hb1
              go_wp2_with fail
              go_roundw
              case rel => exact ⟨i + 1, A2, B2 + X, by go_num, rfl, by go_num, by omega, HA3, HB3, trivial⟩
              case measure => simp [intOf]; omega
            · have k2 : decide (x ≤ v) = false := decide_eq_false h2
              rw [show upB v x = false from k2, if_neg (by decide), Nat.mul_zero, Nat.add_zero] at HB3
              clear hb1 hb2
              go_wp2_with fail
              go_roundw
              case rel => exact ⟨i + 1, A2, B2, by go_num, rfl, rfl, by omega, HA3, HB3, trivial⟩
              case measure => simp [intOf]; omega
        · obtain rfl : i = m := by omega
          have hall : l.take i = l := List.take_of_length_le (by rw [HZL.out]; exact Nat.le_refl _)
          have HA3 : Hid (A2 = cntL (loB v) (L.take (h + 1))) := Lib.hid (by rw [hA2.out, hall, HA1.out])
          have HB3 : Hid (B2 = cntL (upB v) (L.take (h + 1))) := Lib.hid (by rw [hB2.out, hall, HB1.out])
          clear hA2 hB2 hall
          go_wp2_with fail
          go_roundw
          case rel => exact ⟨h + 1, A2, B2, 2 * X, by go_num, rfl, rfl, by go_num, by omega, HA3, HB3, by rw [Nat.mul_comm]; exact HXX, trivial⟩
          case measure => simp [intOf]; omega
    · obtain rfl : h = n := by omega
      have HA3 : Hid (cntL (loB v) L = A) := Lib.hid (by rw [hA.out, ← hlen, List.take_length])
      have HB3 : Hid (cntL (upB v) L = B) := Lib.hid (by rw [hB.out, ← hlen, List.take_length])
      clear hA hB
      go_wp2_with fail
      go_ret2
      exact ⟨by rw [HA3.out, HB3.out]; rfl, rfl⟩
theorem bstep_yes {L : Lv} {r : Nat} {b : Option Int} {v : Int} (h1 : r ≤ cntL (upB v) L) (h2 : ∀ x, b = some x → v < x) : bstep L r b v = some v := by
  cases b with
  | none => exact if_pos h1
  | some x => exact if_pos ⟨h1, h2 x rfl⟩
theorem bstep_no {L : Lv} {r : Nat} {b : Option Int} {v : Int} (h : ¬ r ≤ cntL (upB v) L) : bstep L r b v = b := by
  cases b with
  | none => exact if_neg h
  | some x => exact if_neg fun e => h e.1
theorem bstep_not {L : Lv} {r : Nat} {x v : Int} (h : ¬ v < x) : bstep L r (some x) v = some x := if_neg fun e => h e.2
def bO (b : Option Int) (y : Int) (f : Bool) : Prop := (f = false ∧ b = none ∧ y = 0) ∨ (f = true ∧ b = some y)
theorem rat_any (r : Nat) (s : RkS w g C D k L E) (hH : L.length ≤ 60) (hw : wtL L ≤ 281474976710656) (hr : r ≤ 281474976710656) :
    Calls Try.prog 30 #[.pointer (some ⟨g, 0, none⟩), .int .u64 (r : Nat)] w fun e w' => e = .returned (.int .i64 (atV L r)) ∧ w' = w := by
  have HBT := Lib.hid (fun x => rbetween_any g k E C D L x w s hH hw)
  obtain ⟨p, n, c, rs, s⟩ := s
  have c1 := s.c1
  have hlen := s.len
  have HS := Lib.hid s
  have HW := Lib.hid hw
  have hri : (r : Int) ≤ 281474976710656 := by omega
  clear s hw
  go_enter Try.func30, Try.ntmps30
  go_wp2_with fail
  go_loopw [5, 6, 7, 8, 9, 10, 11, 43] (fun y f z _ _ _ _ _ wr => ∃ (h : Nat) (Y : Int) (F : Bool), z = .int .i64 (h : Nat) ∧ y = .int .i64 Y ∧ f = .bool F ∧ h ≤ n ∧ Hid (bO (bstL L r none (L.take h).flatten) Y F) ∧ wr = w) (fun _ _ z _ _ _ _ _ _ => n - (intOf z).toNat)
  case atStart => exact ⟨0, 0, false, rfl, rfl, rfl, by omega, Lib.hid (.inl ⟨rfl, rfl, rfl⟩), rfl⟩
  case round =>
    obtain ⟨h, Y, F, rfl, rfl, rfl, hh, hb, rfl⟩ := hrel
    by_cases hlt : (h : Int) < (n : Int)
    · have hhL : h < L.length := by omega
      obtain ⟨b, rfl, -, -, q, m, d, ch, z, -, -⟩ := HS.out.lev h hhL
      have htk : L.take (h + 1) = L.take h ++ [L[h]] := List.take_succ_eq_append_getElem hhL
      obtain ⟨l, hl⟩ : ∃ l, L[h] = l := ⟨_, rfl⟩
      rw [hl] at z htk
      have HZ := Lib.hid z
      have HZL := Lib.hid z.len
      have hmx := z.max
      have hcap := z.cap
      have hmi : (m : Int) ≤ 9223372036854775807 := by unfold maxLen at hmx; omega
      have hh0 : (0 : Int) ≤ (h : Int) := by omega
      have HTK : Hid (bstL L r none (L.take (h + 1)).flatten = bstL L r (bstL L r none (L.take h).flatten) l) := Lib.hid (by
        rw [htk]
        unfold bstL
        simp)
      obtain ⟨bs0, hbs0⟩ : ∃ b0, bstL L r none (L.take h).flatten = b0 := ⟨_, rfl⟩
      rw [hbs0] at hb HTK
      clear z hl hmx hcap htk hbs0
      go_wp2_with fail
      go_loopw [5, 6, 8, 9, 10, 11, 43] (fun y f z _ _ _ _ wy => ∃ (i : Nat) (Y : Int) (F : Bool), z = .int .i64 (i : Nat) ∧ y = .int .i64 Y ∧ f = .bool F ∧ i ≤ m ∧ Hid (bO (bstL L r bs0 (l.take i)) Y F) ∧ wy = wr) (fun _ _ z _ _ _ _ _ => m - (intOf z).toNat)
      case atStart => exact ⟨0, Y, F, rfl, rfl, rfl, by omega, hb, rfl⟩
      case round =>
        obtain ⟨i, Y2, F2, rfl, rfl, rfl, hi, hb2, rfl⟩ := hrel
        by_cases him : (i : Int) < (m : Int)
        · have hil : i < l.length := by rw [HZL.out]; omega
          obtain ⟨b2, o2, rfl, d0⟩ := HZ.out.at i hil
          have hti := List.take_succ_eq_append_getElem hil
          obtain ⟨x, hx⟩ : ∃ x, l[i] = x := ⟨_, rfl⟩
          rw [hx] at d0 hti
          have HST : Hid (bstL L r bs0 (l.take (i + 1)) = bstep L r (bstL L r bs0 (l.take i)) x) := Lib.hid (by
            rw [hti]
            unfold bstL
            simp)
          have HB := Lib.hid (HBT.out x)
          obtain ⟨U, hU⟩ : ∃ U, cntL (upB x) L = U := ⟨_, rfl⟩
          obtain ⟨V, hV⟩ : ∃ V, cntL (loB x) L = V := ⟨_, rfl⟩
          rw [hU, hV] at HB
          have HU := Lib.hid hU
          have hi0 : (0 : Int) ≤ (i : Int) := by omega
          clear hx hti hil hU hV
          obtain ⟨b3, hb3⟩ : ∃ b3, bstL L r bs0 (l.take i) = b3 := ⟨_, rfl⟩
          rw [hb3] at HST hb2
          by_cases hge : r ≤ U
          · have kg : decide (r ≤ U) = true := decide_eq_true hge
            rcases hb2.out with ⟨rfl, hbn, rfl⟩ | ⟨rfl, hbs⟩
            · have HN : Hid (bO (bstL L r bs0 (l.take (i + 1))) x true) := Lib.hid (.inr ⟨rfl, by rw [HST.out, hbn]; exact bstep_yes (by rw [HU.out]; exact hge) (fun y h => by cases h)⟩)
              clear hb2 hb3 hbn hge
              go_wp2_with fail
              refine HB.out.mono ?_
              rintro e w1 ⟨rfl, rfl⟩
              go_wp2_with fail
              go_roundw
              case rel => exact ⟨i + 1, x, true, by go_num, rfl, rfl, by omega, HN, trivial⟩
              case measure => simp [intOf]; omega
            · by_cases hxy : x < Y2
              · have kx : decide (x < Y2) = true := decide_eq_true hxy
                have HN : Hid (bO (bstL L r bs0 (l.take (i + 1))) x true) := Lib.hid (.inr ⟨rfl, by rw [HST.out, hbs]; exact bstep_yes (by rw [HU.out]; exact hge) (fun y h => by cases h; exact hxy)⟩)
                clear hb2 hb3 hbs hge hxy
                go_wp2_with fail
                refine HB.out.mono ?_
                rintro e w1 ⟨rfl, rfl⟩
                go_wp2_with fail
                go_roundw
                case rel => exact ⟨i + 1, x, true, by go_num, rfl, rfl, by omega, HN, trivial⟩
                case measure => simp [intOf]; omega
              · have kx : decide (x < Y2) = false := decide_eq_false hxy
                have HN : Hid (bO (bstL L r bs0 (l.take (i + 1))) Y2 true) := Lib.hid (.inr ⟨rfl, by rw [HST.out, hbs]; exact bstep_not hxy⟩)
                clear hb2 hb3 hbs hge hxy
                go_wp2_with fail
                refine HB.out.mono ?_
                rintro e w1 ⟨rfl, rfl⟩
                go_wp2_with fail
                go_roundw
                case rel => exact ⟨i + 1, Y2, true, by go_num, rfl, rfl, by omega, HN, trivial⟩
                case measure => simp [intOf]; omega
          · have kg : decide (r ≤ U) = false := decide_eq_false hge
            have HN : Hid (bO (bstL L r bs0 (l.take (i + 1))) Y2 F2) := Lib.hid (by rw [HST.out, bstep_no (by rw [HU.out]; exact hge)]; exact hb2.out)
            clear hb2 hb3 hge
            go_wp2_with fail
            refine HB.out.mono ?_
            rintro e w1 ⟨rfl, rfl⟩
            go_wp2_with fail
            go_roundw
            case rel => exact ⟨i + 1, Y2, F2, by go_num, rfl, rfl, by omega, HN, trivial⟩
            case measure => simp [intOf]; omega
        · obtain rfl : i = m := by omega
          have hall : l.take i = l := List.take_of_length_le (by rw [HZL.out]; exact Nat.le_refl _)
          have HN : Hid (bO (bstL L r none (L.take (h + 1)).flatten) Y2 F2) := Lib.hid (by rw [HTK.out, ← hall]; exact hb2.out)
          clear hb2 hall
          go_wp2_with fail
          go_roundw
          case rel => exact ⟨h + 1, Y2, F2, by go_num, rfl, rfl, by omega, HN, trivial⟩
          case measure => simp [intOf]; omega
    · obtain rfl : h = n := by omega
      have HY : Hid (atV L r = Y) := Lib.hid (by
        have h1 := hb.out
        rw [← hlen, List.take_length] at h1
        unfold atV
        rcases h1 with ⟨-, h2, h3⟩ | ⟨-, h2⟩
        · change (bstL L r none L.flatten).getD 0 = Y
          rw [h2, h3]
          rfl
        · change (bstL L r none L.flatten).getD 0 = Y
          rw [h2]
          rfl)
      clear hb
      go_wp2_with fail
      go_ret
      exact ⟨by rw [HY.out]; rfl, rfl⟩
end
end Go.Proofs.Ytbpfmjekpjfceaa
