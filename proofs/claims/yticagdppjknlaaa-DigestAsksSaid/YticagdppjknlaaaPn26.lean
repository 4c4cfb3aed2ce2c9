/- DgLawAsks -/
import Derived.Test.YticagdppjknlaaaPn1
import Derived.Test.YticagdppjknlaaaPn2
import Derived.Test.YticagdppjknlaaaPn3
import Derived.Test.YticagdppjknlaaaPn4
import Derived.Test.YticagdppjknlaaaPn5
import Derived.Test.YticagdppjknlaaaPn6
import Derived.Test.YticagdppjknlaaaPn7
import Derived.Test.YticagdppjknlaaaPn8
import Derived.Test.YticagdppjknlaaaPn9
import Derived.Test.YticagdppjknlaaaPn10
import Derived.Test.YticagdppjknlaaaPn11
import Derived.Test.YticagdppjknlaaaPn12
import Derived.Test.YticagdppjknlaaaPn13
import Derived.Test.YticagdppjknlaaaPn14
import Derived.Test.YticagdppjknlaaaPn15
import Derived.Test.YticagdppjknlaaaPn16
import Derived.Test.YticagdppjknlaaaPn17
import Derived.Test.YticagdppjknlaaaPn18
import Derived.Test.YticagdppjknlaaaPn19
import Derived.Test.YticagdppjknlaaaPn20
import Derived.Test.YticagdppjknlaaaPn21
import Derived.Test.YticagdppjknlaaaPn23
import Derived.Test.YticagdppjknlaaaPn24
import Derived.Test.YticagdppjknlaaaPn25
import Derived.BigQuiet
import Derived.BigRegion
import Derived.Deep.RegionLaw
import Derived.Deep.RegionHeld3
import Derived.StillTailTactics
import Derived.Maps.AppendAt
import Derived.Laws.AppendOwnNone
import Derived.Laws.OwnMore
import Derived.Lib.AppendZerosOnto
import Derived.Lib.SliceRun
import Derived.Lib.Walk
import Derived.Laws.Externs
import Derived.Shelf.Spec.BitsCarry
import Derived.Deep.CutBlock
import Derived.Deep.CutRange
import Derived.Deep.DeepCutAuto
import Derived.Lib.BitFns
import Derived.Shelf.Small.Bits
import Derived.Shelf.Strconv.Itoa0
import Derived.Shelf.Bits.Mul64
import Derived.Test.YticagdppjknlaaaRows
import Derived.WalkKit
import Derived.WalkSpells
import Derived.WalkLawsBesides
import Derived.Deep.QuietTactic
import Derived.RegionTactic
import Derived.Deep.AppendLies
import Derived.Laws.ResultCell
import Derived.Laws.EntriesVeiled
import Derived.Lib.Hide
import Derived.Laws.BytesArg
import Derived.Lib.SlBytesConst
set_option maxRecDepth 100000
set_option maxHeartbeats 8000000
namespace Go.Proofs.Yticagdppjknlaaa
open Go.RowKit
theorem both_rat {w W : World} {g r : Nat} {x y : Dg} (k : Both w W g r x y) (s : Nat) (hN : y.all.length ≤ 500000000000) (h0 : 0 < y.tot) (hs : s ≤ 2 * y.tot) :
    Calls Try.prog 23 #[.pointer (some ⟨r, 0, none⟩), .int .u64 (s : Nat)] W fun e w' => e = .returned (.int .i64 (y.at s)) ∧ Fr S0 W w' := by
  obtain ⟨C, R, -, ⟨p, n, c, q, m, e, h⟩, -⟩ := k.ex
  exact rat_any r R p n c q m e y W s h hN h0 hs
theorem both_rupto {w W : World} {g r : Nat} {x y : Dg} (k : Both w W g r x y) (v : Int) (hN : y.all.length ≤ 500000000000) (h1 : -9223372036854775808 ≤ v) (h2 : v ≤ 9223372036854775807) :
    Calls Try.prog 25 #[.pointer (some ⟨r, 0, none⟩), .int .i64 v] W fun e w' => e = .returned (.int .u64 (y.upto v : Nat)) ∧ Fr S0 W w' := by
  obtain ⟨C, R, -, ⟨p, n, c, q, m, e, h⟩, -⟩ := k.ex
  exact rupto_any r R p n c q m e y W v h hN h1 h2
section
variable (d : Nat) (p : Option Addr) (n c : Nat) (vs : List Int) (q : Option Addr) (k c2 : Nat) (ns : List Nat) (a b : Nat) (v : Int) (w : World)
theorem law_asks (hd : d < 65536) (hn : vs.length = n) (hz : ZI w p vs) (hvb : ∀ v ∈ vs, -9223372036854775808 ≤ v ∧ v ≤ 9223372036854775807) (hk : ns.length = k) (hq : SlI w .u16 q ns) (hnb : ∀ n ∈ ns, n < 65536)
    (hb : b < 18446744073709551616) (hv1 : -9223372036854775808 ≤ v) (hv2 : v ≤ 9223372036854775807) :
    Calls Try.prog 5 #[.int .u16 (d : Nat), .slice p n c, .slice q k c2, .int .u64 (a : Nat), .int .u64 (b : Nat), .int .i64 v] w fun e w' => e = .returned (.bool true) ∧ Fr S0 w w' := by
  have HAL := Lib.hid (alive_any w)
  have HAD := Lib.hid (fun W (f : Fr S0 w W) => added_any d p n c vs q k c2 ns W hd hn (hz.fr0 f) hvb hk (hq.fr0 f) hnb)
  obtain ⟨d1, d2⟩ := fineD_in d
  have hok := adds_ok (ns := ns) d1 d2 hvb (min n 80) (by omega)
  obtain ⟨X, eX⟩ : ∃ X, adds (fineD d) vs ns (min n 80) = X := ⟨_, rfl⟩
  rw [eX] at HAD hok
  have hlen : X.all.length ≤ 400000000000 := by have := hok.len; omega
  have htot := hok.good.tot
  have hw : wts X.all = X.tot := rfl
  have HAT := Lib.hid (fun w W g r (bb : Both w W g r X X) => nd_at bb.nd a b (by omega) hb)
  have HALL := Lib.hid (fun w W g r (bb : Both w W g r X X) => both_all bb (by omega))
  have HTO := Lib.hid (fun W v W2 (h : Acc 61 W W2 v X.all.length X.all) => acc_total h hw (by omega))
  have HSP := Lib.hid (fun W => rspot_any a b X.tot W hb)
  have HRA := Lib.hid (fun (h : spE a b X.tot = 0) w W g r (bb : Both w W g r X X) => both_rat bb (spR a b X.tot) (by omega) (sp_le h).1 (sp_le h).2)
  have HUP := Lib.hid (fun w W g r (bb : Both w W g r X X) => nd_upto bb.nd v (by omega) hv1 hv2)
  have HRU := Lib.hid (fun w W g r (bb : Both w W g r X X) => both_rupto bb v (by omega) hv1 hv2)
  have HSA := Lib.hid (fun w W g r (bb : Both w W g r X X) => both_same bb hlen)
  have HBK := Lib.hid (fun W W2 g r (bb : Both W W2 g r X X) (f : Fr S0 w W) => bb.back f)
  have hV : spE a b X.tot = 0 → X.atV a b = X.at (spR a b X.tot) := fun h => by unfold Dg.atV; rw [if_pos h]
  have hV0 : spE a b X.tot ≠ 0 → X.atV a b = 0 := fun h => by unfold Dg.atV; rw [if_neg h]
  obtain ⟨T, eT⟩ : ∃ T, X.tot = T := ⟨_, rfl⟩
  rw [eT] at HAT HTO HSP HRA hV hV0
  obtain ⟨E, eE⟩ : ∃ E, spE a b T = E := ⟨_, rfl⟩
  rw [eE] at HAT HSP HRA hV hV0
  obtain ⟨S, eS⟩ : ∃ S, spR a b T = S := ⟨_, rfl⟩
  rw [eS] at HSP HRA hV
  obtain ⟨V, eV⟩ : ∃ V, X.atV a b = V := ⟨_, rfl⟩
  rw [eV] at HAT hV hV0
  obtain ⟨U, eU⟩ : ∃ U, X.upto v = U := ⟨_, rfl⟩
  rw [eU] at HUP HRU
  clear hz hvb hq hnb hd hk hn hok d1 d2 eX hlen htot hw eT eE eS eV eU hv1 hv2 hb
  go_enter Try.func5, Try.ntmps5
  go_wp2_with fail
  refine HAL.out.mono ?_
  rintro e1 w1 ⟨rfl, f1⟩
  have HAD1 := Lib.hid (HAD.out w1 f1)
  have F1 := Lib.hid f1
  clear f1 HAL HAD
  go_wp2_with fail
  refine HAD1.out.mono ?_
  rintro e2 w2 ⟨g, r, rfl, bo⟩
  have HB2 := Lib.hid (HBK.out _ _ _ _ bo F1.out)
  clear bo HAD1 F1 HBK
  go_wp2_with fail
  refine (HAT.out _ _ _ _ HB2.out).mono ?_
  rintro e3 w3 ⟨rfl, f3⟩
  have HB3 := Lib.hid (HB2.out.fr0 f3)
  clear f3 HAT HB2
  go_wp2_with fail
  refine (HALL.out _ _ _ _ HB3.out).mono ?_
  rintro e4 w4 ⟨v4, rfl, a4⟩
  have A4 := Lib.hid a4
  have HB4 := Lib.hid (HB3.out.fr0 a4.fr)
  clear a4 HB3
  go_wp2_with fail
  refine (HTO.out _ _ _ A4.out).mono ?_
  rintro e5 w5 ⟨rfl, rfl⟩
  go_wp2_with fail
  refine (HSP.out _).mono ?_
  rintro e6 w6 ⟨rfl, f6⟩
  have HB6 := Lib.hid (HB4.out.fr0 f6)
  clear f6 HSP HB4 HTO A4
  by_cases hE : E = 0
  · subst hE
    have hv := hV rfl
    subst hv
    have HRA0 := Lib.hid (HRA.out rfl)
    clear hV0 HRA
    go_wp2_with fail
    refine (HRA0.out _ _ _ _ HB6.out).mono ?_
    rintro e7 w7 ⟨rfl, f7⟩
    have HB7 := Lib.hid (HB6.out.fr0 f7)
    clear f7 HRA0 HB6
    go_wp2_with fail
    refine (HUP.out _ _ _ _ HB7.out).mono ?_
    rintro e8 w8 ⟨rfl, f8⟩
    have HB8 := Lib.hid (HB7.out.fr0 f8)
    clear f8 HUP HB7
    go_wp2_with fail
    refine (HRU.out _ _ _ _ HB8.out).mono ?_
    rintro e9 w9 ⟨rfl, f9⟩
    have HB9 := Lib.hid (HB8.out.fr0 f9)
    clear f9 HRU HB8
    go_wp2_with fail
    refine (HSA.out _ _ _ _ HB9.out).mono ?_
    rintro e10 w10 ⟨rfl, f10⟩
    have HB10 := Lib.hid (HB9.out.fr0 f10)
    clear f10 HSA HB9
    go_wp2_with fail
    go_ret
    exact ⟨rfl, HB10.out.fr⟩
  · have hv := hV0 hE
    subst hv
    have dE : ((E : Int) == 0) = false := by rw [beq_eq_false_iff_ne]; omega
    have dE2 : ((E : Int) != 0) = true := by rw [bne, dE]; rfl
    clear hV HRA hV0
    go_wp2_with fail
    refine (HUP.out _ _ _ _ HB6.out).mono ?_
    rintro e8 w8 ⟨rfl, f8⟩
    have HB8 := Lib.hid (HB6.out.fr0 f8)
    clear f8 HUP HB6
    go_wp2_with fail
    refine (HRU.out _ _ _ _ HB8.out).mono ?_
    rintro e9 w9 ⟨rfl, f9⟩
    have HB9 := Lib.hid (HB8.out.fr0 f9)
    clear f9 HRU HB8
    go_wp2_with fail
    refine (HSA.out _ _ _ _ HB9.out).mono ?_
    rintro e10 w10 ⟨rfl, f10⟩
    have HB10 := Lib.hid (HB9.out.fr0 f10)
    clear f10 HSA HB9
    go_wp2_with fail
    go_ret
    exact ⟨rfl, HB10.out.fr⟩
end
end Go.Proofs.Yticagdppjknlaaa
