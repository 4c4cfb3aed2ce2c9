/- DgLawPlays -/
import Derived.Test.YticagdppjknlaaaPl1
import Derived.Test.YticagdppjknlaaaPl2
import Derived.Test.YticagdppjknlaaaPl3
import Derived.Test.YticagdppjknlaaaPl4
import Derived.Test.YticagdppjknlaaaPl5
import Derived.Test.YticagdppjknlaaaPl6
import Derived.Test.YticagdppjknlaaaPl7
import Derived.Test.YticagdppjknlaaaPl8
import Derived.Test.YticagdppjknlaaaPl9
import Derived.Test.YticagdppjknlaaaPl10
import Derived.Test.YticagdppjknlaaaPl11
import Derived.Test.YticagdppjknlaaaPl12
import Derived.Test.YticagdppjknlaaaPl13
import Derived.Test.YticagdppjknlaaaPl14
import Derived.Test.YticagdppjknlaaaPl15
import Derived.Test.YticagdppjknlaaaPl16
import Derived.Test.YticagdppjknlaaaPl17
import Derived.Test.YticagdppjknlaaaPl18
import Derived.Test.YticagdppjknlaaaPl19
import Derived.Test.YticagdppjknlaaaPl20
import Derived.Test.YticagdppjknlaaaPl21
import Derived.Test.YticagdppjknlaaaPl22
import Derived.Test.YticagdppjknlaaaPl23
import Derived.Test.YticagdppjknlaaaPl24
import Derived.Test.YticagdppjknlaaaPl25
import Derived.Test.YticagdppjknlaaaPl26
import Derived.Test.YticagdppjknlaaaPl27
import Derived.Test.YticagdppjknlaaaPl28
import Derived.BigQuiet
import Derived.BigRegion
import Derived.Deep.RegionLaw
import Derived.Deep.RegionHeld3
import Derived.StillTailTactics
import Derived.Maps.AppendAt
import Derived.Laws.AppendOwnNone
import Derived.Laws.OwnMore
import Derived.Lib.AppendZerosOnto
import Derived.Lib.SliceRun
import Derived.Lib.Walk
import Derived.Laws.Externs
import Derived.Shelf.Spec.BitsCarry
import Derived.Deep.CutBlock
import Derived.Deep.CutRange
import Derived.Deep.DeepCutAuto
import Derived.Lib.BitFns
import Derived.Shelf.Small.Bits
import Derived.Shelf.Strconv.Itoa0
import Derived.Shelf.Bits.Mul64
import Derived.Test.YticagdppjknlaaaRows
import Derived.WalkKit
import Derived.WalkSpells
import Derived.WalkLawsBesides
import Derived.Deep.QuietTactic
import Derived.RegionTactic
import Derived.Deep.AppendLies
import Derived.Laws.ResultCell
import Derived.Laws.EntriesVeiled
import Derived.Lib.Hide
import Derived.Laws.BytesArg
import Derived.Lib.SlBytesConst
import Derived.Deep.Fields
import Derived.Deep.Matrix
import Derived.OpenShut
set_option maxRecDepth 100000
set_option maxHeartbeats 8000000
namespace Go.Proofs.Yticagdppjknlaaa
open Go.RowKit
theorem st_new {D : Nat} (h1 : 10 ≤ D) (h2 : D ≤ 70) : St D (Dg.new D) := ⟨⟨h2, Nat.zero_le _, by show 0 < D; omega⟩, rfl⟩
section
variable (d : Nat) (p : Option Addr) (n c : Nat) (l : List OpT) (w : World)
theorem law_plays (hd : d < 65536) (hn : l.length = n) (ho : OpsI w p l) :
    Calls Try.prog 3 #[.int .u16 (d : Nat), .slice p n c] w fun e w' => e = .returned (.bool true) ∧ Fr S0 w w' := by
  have HAL := Lib.hid (alive_any w)
  have HFI := Lib.hid (fun W => fine_any d W hd)
  have hD1 : 10 ≤ fineD d := (fineD_in d).1
  have hD2 : fineD d ≤ 69 := by unfold fineD; omega
  obtain ⟨D, eD⟩ : ∃ D, fineD d = D := ⟨_, rfl⟩
  rw [eD] at HFI hD1 hD2
  have HN := Lib.hid (fun W => nd_new D W hD1 (by omega))
  obtain ⟨D1, eD1⟩ : ∃ D1, D + 1 = D1 := ⟨_, rfl⟩
  have HN1 := Lib.hid (fun W => nd_new D1 W (by omega) (by omega))
  have HQS := Lib.hid (fun (w w2 w3 w4 : World) (xA xB xo : Nat) (A B O : Dg) (k1 : NewD w w2 xA A) (k2 : NewD w2 w3 xB B) (k3 : NewD w3 w4 xo O) => quad_start (D := D) hD1 (by omega) k1 k2 k3)
  have HST := Lib.hid (st_new hD1 (show D ≤ 70 by omega))
  have HO := Lib.hid ho
  have HL := Lib.hid hn
  have iD : (D : Int) + 1 = (D1 : Int) := by omega
  have HTK := Lib.hid (fun W gs gw a b xo xA xB rA rB MA MB (q : Quad xo (Dg.new D1) DIs w W gs gw a b xA xB rA rB MA MB MA MB) (hA : St D MA) => show Calls Try.prog 17 #[.pointer (some ⟨xA, 0, none⟩), .pointer (some ⟨xo, 0, none⟩)] W (fun e w' => e = .returned (.int .i64 3) ∧ Fr S0 w w') from by
    obtain ⟨C, CB, ⟨p1, n1, c1, q1, m1, e1, s⟩, -, -, ht⟩ := q.codeA obD
    obtain ⟨CO, ⟨p2, n2, c2, q2, m2, e2, t⟩⟩ := q.other
    have hl := hA.sm.all
    refine (take_any xA C p1 n1 c1 q1 m1 e1 MA W xo CO p2 n2 c2 q2 m2 e2 (Dg.new D1) s t (by show MA.all.length + 0 ≤ 400000000000; omega)).mono fun e w' h => ⟨?_, (ht _ _ h.2).fr⟩
    rw [h.1]
    have hne : (Dg.new D1).d ≠ MA.d := by rw [hA.d]; show D1 ≠ D; omega
    unfold Dg.takeE
    rw [if_pos hne]
    rfl)
  have hDi : (D : Int) ≤ 69 := by omega
  clear ho hn hd eD hD1 eD1
  go_enter Try.func3, Try.ntmps3
  go_wp2_with fail
  refine HAL.out.mono ?_
  rintro e1 w1 ⟨rfl, f1⟩
  have F1 := Lib.hid f1
  clear f1 HAL
  go_wp2_with fail
  refine (HFI.out _).mono ?_
  rintro e2 _ ⟨rfl, rfl⟩
  go_wp2_with fail
  refine (HN.out _).mono ?_
  rintro e2 w2 ⟨xA, rfl, k1⟩
  have K1 := Lib.hid k1
  clear k1
  go_wp2_with fail
  refine (HFI.out _).mono ?_
  rintro e2 _ ⟨rfl, rfl⟩
  go_wp2_with fail
  refine (HN.out _).mono ?_
  rintro e3 w3 ⟨xB, rfl, k2⟩
  have K2 := Lib.hid k2
  clear k2 HN
  go_wp2_with fail
  refine (HFI.out _).mono ?_
  rintro e2 _ ⟨rfl, rfl⟩
  go_wp2_with fail
  refine (HN1.out _).mono ?_
  rintro e4 w4 ⟨xo, rfl, k3⟩
  have HQ := Lib.hid (HQS.out _ _ _ _ _ _ _ _ _ _ (K1.out.back F1.out) K2.out k3)
  clear k3 HN1 HQS K1 K2
  go_wp2_with fail
  refine (HFI.out _).mono ?_
  rintro e2 _ ⟨rfl, rfl⟩
  go_wp2_with fail
  refine (HFI.out _).mono ?_
  rintro e2 _ ⟨rfl, rfl⟩
  clear HFI
  go_wp2_with fail
  obtain ⟨w5, e5⟩ : ∃ w5, ((((w4.alloc (.cells #[.pointer (some ⟨xA, 0, none⟩), .pointer (some ⟨xB, 0, none⟩)] 25)).alloc (.cells #[.int .i64 (D : Nat), .slice none 0 0, .slice none 0 0, .int .i64 0, .int .i64 0] 34)).alloc (.cells #[.int .i64 (D : Nat), .slice none 0 0, .slice none 0 0, .int .i64 0, .int .i64 0] 34)).alloc (.cells #[.pointer (some ⟨w4.heap.size + 1, 0, none⟩), .pointer (some ⟨w4.heap.size + 2, 0, none⟩)] 31)) = w5 := ⟨_, rfl⟩
  rw [e5] at HQ
  obtain ⟨gs, egs⟩ : ∃ gs, w4.heap.size = gs := ⟨_, rfl⟩
  simp only [egs] at HQ e5
  obtain ⟨gw, egw⟩ : ∃ gw, gs + 3 = gw := ⟨_, rfl⟩
  obtain ⟨rA, erA⟩ : ∃ gw, gs + 1 = gw := ⟨_, rfl⟩
  obtain ⟨rB, erB⟩ : ∃ gw, gs + 2 = gw := ⟨_, rfl⟩
  rw [egw, erA, erB] at HQ
  have erC : rA + 1 = rB := by omega
  have erD : rB + 1 = gw := by omega
  rw [erA, erB] at e5
  simp only [egs, erA, erC, erD, e5]
  clear e5 egs egw erA erB erC erD
  go_loopw [13] (fun z wr => ∃ (i : Nat) (MA MB : Dg), z = .int .i64 (i : Int) ∧ i ≤ n ∧ i ≤ 60 ∧ Hid (Quad xo (Dg.new D1) DIs w wr gs gw 0 1 xA xB rA rB MA MB MA MB ∧ St D MA ∧ St D MB)) (fun z _ => 60 - (intOf z).toNat)
  case atStart => exact ⟨0, _, _, rfl, by omega, by omega, Lib.hid ⟨HQ.out, HST.out, HST.out⟩⟩
  case round =>
    obtain ⟨i, MA, MB, rfl, hin, hi60, hq⟩ := hrel
    have ENDS : Hid (∀ x : Nat, Calls Try.prog 17 #[.pointer (some ⟨xA, 0, none⟩), .pointer none] wr fun e w' => e = .returned (.int .i64 1) ∧ Fr S0 wr w') := Lib.hid fun _ => take_nil xA wr
    by_cases hil : (i : Int) < (n : Int)
    · by_cases hi6 : (i : Int) < 60
      · have hivl : i < l.length := by rw [HL.out]; omega
        obtain ⟨b, o, rfl, c0, c1, c2, c3⟩ := (HO.out.fr0 hq.out.1.fr).at' i hivl
        have hok := HO.out.ok _ (List.getElem_mem hivl)
        obtain ⟨⟨kd, who, v, u⟩, hx⟩ : ∃ t, l[i] = t := ⟨_, rfl⟩
        rw [hx] at c0 c1 c2 c3 hok
        simp only at c0 c1 c2 c3 hok
        have HDO := Lib.hid (do_any hq.out.1 kd who v u hq.out.2.1 hq.out.2.2 hok.2.1.1 hok.2.1.2)
        clear hx hok ENDS hq
        go_wp2_with fail
        refine HDO.out.mono ?_
        rintro e6 w6 ⟨rfl, MA', MB', q6, sA, sB⟩
        have HQ6 := Lib.hid q6
        have HSA := Lib.hid sA
        have HSB := Lib.hid sB
        have k0 := q6.cw
        have k1 := q6.swap.cw
        clear q6 sA sB HDO c0 c1 c2 c3
        go_wp2_with fail
        refine (HQ6.out.same HSA.out.sm).mono ?_
        rintro e7 w7 ⟨rfl, f7⟩
        have HQ7 := Lib.hid (HQ6.out.fr0 obD f7)
        have k2 := HQ7.out.swap.cw
        clear f7 k0 k1 HQ6
        go_wp2_with fail
        refine (HQ7.out.swap.same HSB.out.sm).mono ?_
        rintro e8 w8 ⟨rfl, f8⟩
        have HQ8 := Lib.hid (show Quad xo (Dg.new D1) DIs w w8 gs gw 0 1 xA xB rA rB MA' MB' MA' MB' ∧ St D MA' ∧ St D MB' from ⟨HQ7.out.fr0 obD f8, HSA.out, HSB.out⟩)
        clear f8 k2 HQ7
        go_wp2_with fail
        go_roundw
        case rel => exact ⟨i + 1, MA', MB', by go_num, by omega, by omega, HQ8⟩
        case measure => first | (simp [intOf]; done) | (simp [intOf]; omega)
      · have HE := ENDS
        clear ENDS
        go_wp2_with fail
        refine (HE.out 0).mono ?_
        rintro e6 w6 ⟨rfl, f6⟩
        have HQ6 := Lib.hid (hq.out.1.fr0 obD f6)
        clear f6
        go_wp2_with fail
        refine (HTK.out _ _ _ _ _ _ _ _ _ _ _ _ HQ6.out hq.out.2.1).mono ?_
        rintro e7 w7 ⟨rfl, f7⟩
        have F7 := Lib.hid f7
        clear f7
        go_wp2_with fail
        go_ret
        exact ⟨rfl, F7.out⟩
    · have HE := ENDS
      clear ENDS
      go_wp2_with fail
      refine (HE.out 0).mono ?_
      rintro e6 w6 ⟨rfl, f6⟩
      have HQ6 := Lib.hid (hq.out.1.fr0 obD f6)
      clear f6
      go_wp2_with fail
      refine (HTK.out _ _ _ _ _ _ _ _ _ _ _ _ HQ6.out hq.out.2.1).mono ?_
      rintro e7 w7 ⟨rfl, f7⟩
      have F7 := Lib.hid f7
      clear f7
      go_wp2_with fail
      go_ret
      exact ⟨rfl, F7.out⟩
end
end Go.Proofs.Yticagdppjknlaaa
