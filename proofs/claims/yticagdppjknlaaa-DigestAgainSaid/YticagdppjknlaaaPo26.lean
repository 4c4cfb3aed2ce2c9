/- DgLawAgain -/
import Derived.Test.YticagdppjknlaaaPo1
import Derived.Test.YticagdppjknlaaaPo2
import Derived.Test.YticagdppjknlaaaPo3
import Derived.Test.YticagdppjknlaaaPo4
import Derived.Test.YticagdppjknlaaaPo5
import Derived.Test.YticagdppjknlaaaPo6
import Derived.Test.YticagdppjknlaaaPo7
import Derived.Test.YticagdppjknlaaaPo8
import Derived.Test.YticagdppjknlaaaPo9
import Derived.Test.YticagdppjknlaaaPo10
import Derived.Test.YticagdppjknlaaaPo11
import Derived.Test.YticagdppjknlaaaPo12
import Derived.Test.YticagdppjknlaaaPo13
import Derived.Test.YticagdppjknlaaaPo14
import Derived.Test.YticagdppjknlaaaPo15
import Derived.Test.YticagdppjknlaaaPo16
import Derived.Test.YticagdppjknlaaaPo17
import Derived.Test.YticagdppjknlaaaPo18
import Derived.Test.YticagdppjknlaaaPo19
import Derived.Test.YticagdppjknlaaaPo20
import Derived.Test.YticagdppjknlaaaPo21
import Derived.Test.YticagdppjknlaaaPo23
import Derived.Test.YticagdppjknlaaaPo24
import Derived.Test.YticagdppjknlaaaPo25
import Derived.Deep.RegionLaw
import Derived.Deep.RegionHeld3
import Derived.BigRegion
import Derived.Maps.AppendAt
import Derived.Laws.AppendOwnNone
import Derived.Laws.OwnMore
import Derived.Lib.AppendZerosOnto
import Derived.Lib.SliceRun
import Derived.Lib.Walk
import Derived.Laws.Externs
import Derived.Shelf.Spec.BitsCarry
import Derived.Deep.CutBlock
import Derived.Deep.CutRange
import Derived.Deep.DeepCutAuto
import Derived.Lib.BitFns
import Derived.Shelf.Small.Bits
import Derived.Shelf.Strconv.Itoa0
import Derived.Shelf.Bits.Mul64
import Derived.Test.YticagdppjknlaaaRows
import Derived.WalkKit
import Derived.WalkSpells
import Derived.WalkLawsBesides
import Derived.Deep.QuietTactic
import Derived.BigQuiet
import Derived.RegionTactic
import Derived.Deep.AppendLies
import Derived.Laws.ResultCell
import Derived.Laws.EntriesVeiled
import Derived.Lib.Hide
import Derived.Laws.BytesArg
import Derived.Lib.SlBytesConst
import Derived.StillTailTactics
set_option maxRecDepth 100000
set_option maxHeartbeats 8000000
namespace Go.Proofs.Yticagdppjknlaaa
open Go.RowKit
theorem Dg.add_d (x : Dg) (v : Int) (u : Nat) : (x.add v u).d = x.d := by
  unfold Dg.add
  split
  · unfold Dg.full
    split <;> rfl
  · rfl
theorem Dg.add_wait {x : Dg} {v : Int} {u : Nat} (h0 : 0 < x.d) (h : x.W.length < x.d) : (x.add v u).W.length < x.d := by
  unfold Dg.add
  split
  · unfold Dg.full
    split
    · exact h0
    · rename_i h9
      exact Nat.lt_of_not_le h9
  · exact h
theorem adds_wait {d : Nat} {vs : List Int} {ns : List Nat} (h0 : 0 < d) : ∀ i, (adds d vs ns i).d = d ∧ (adds d vs ns i).W.length < d
  | 0 => ⟨rfl, h0⟩
  | i + 1 => by
    obtain ⟨e, h⟩ := adds_wait (vs := vs) (ns := ns) h0 i
    refine ⟨(Dg.add_d _ _ _).trans e, ?_⟩
    have h9 := Dg.add_wait (v := vs.getD i 0) (u := wt ns i) (by rw [e]; exact h0) (by rw [e]; exact h)
    rw [e] at h9
    exact h9
def mores (x : Dg) (ms : List Int) : Nat → Dg
  | 0 => x
  | i + 1 => (mores x ms i).add (ms.getD i 0) 2
theorem mores_len {x : Dg} {ms : List Int} (h : x.Good) (hv : ∀ v ∈ ms, -9223372036854775808 ≤ v ∧ v ≤ 9223372036854775807) : ∀ i, (mores x ms i).Good ∧ (mores x ms i).all.length ≤ x.all.length + i
  | 0 => ⟨h, Nat.le_refl _⟩
  | i + 1 => by
    obtain ⟨g, l⟩ := mores_len h hv i
    obtain ⟨a, b⟩ := getD_bd hv i
    have h9 := Dg.add_len (u := 2) g a b
    exact ⟨g.add a b, Nat.le_trans h9 (by omega)⟩
theorem both_load {w W W' : World} {g r y : Nat} {x z t : Dg} (k : Both w W g r x z) (f : NewD W W' y t) : Both w W' y r t z := by
  obtain ⟨C, R, h1, h2, h3, h4, h5⟩ := k.ex
  obtain ⟨C', s1, s2⟩ := f.ex
  exact ⟨⟨C', R, s1, h2.fr0 f.fr, fun b hb hr => by have := s2 b hb; have := h2.below b hr; omega, fun b hb => Nat.le_trans k.fr.size (s2 b hb), h5⟩, k.fr.trans0 f.fr⟩
theorem load_own {x : Dg} (h : x.Good) (hw : x.W.length < x.d) : LoadOk x.d x.lo x.hi x.L x.W := ⟨hw, h.ris, h.fit, h.tot, h.emp⟩
section
variable (d : Nat) (p : Option Addr) (n c : Nat) (vs : List Int) (q : Option Addr) (k c2 : Nat) (ns : List Nat) (p3 : Option Addr) (n3 c3 : Nat) (ms : List Int) (w : World)
theorem law_again (hd : d < 65536) (hn : vs.length = n) (hz : ZI w p vs) (hvb : ∀ v ∈ vs, -9223372036854775808 ≤ v ∧ v ≤ 9223372036854775807) (hk : ns.length = k) (hq : SlI w .u16 q ns) (hnb : ∀ n ∈ ns, n < 65536)
    (hn3 : ms.length = n3) (hz3 : ZI w p3 ms) (hvb3 : ∀ v ∈ ms, -9223372036854775808 ≤ v ∧ v ≤ 9223372036854775807) :
    Calls Try.prog 10 #[.int .u16 (d : Nat), .slice p n c, .slice q k c2, .slice p3 n3 c3] w fun e w' => e = .returned (.bool true) ∧ Fr S0 w w' := by
  have HAL := Lib.hid (alive_any w)
  have HAD := Lib.hid (fun W (f : Fr S0 w W) => added_any d p n c vs q k c2 ns W hd hn (hz.fr0 f) hvb hk (hq.fr0 f) hnb)
  have HFI := Lib.hid (fun W => fine_any d W hd)
  obtain ⟨d1, d2⟩ := fineD_in d
  have hok := adds_ok (ns := ns) d1 d2 hvb (min n 80) (by omega)
  obtain ⟨hxd, hxw⟩ := adds_wait (d := fineD d) (vs := vs) (ns := ns) (by omega) (min n 80)
  obtain ⟨X, eX⟩ : ∃ X, adds (fineD d) vs ns (min n 80) = X := ⟨_, rfl⟩
  rw [eX] at HAD hok hxd hxw
  have hlen : X.all.length ≤ 80 := by have := hok.len; omega
  have hg := hok.good
  have hll : X.L.length + X.W.length = X.all.length := by unfold Dg.all; rw [List.length_append]
  have HEN := Lib.hid (fun W g r (b : Both w W g r X X) => show Calls Try.prog 36 #[.pointer (some ⟨g, 0, none⟩)] W (fun e w' => e = .returned (.tuple #[.int .i64 X.lo, .int .i64 X.hi, .int .i64 (X.endE : Nat)]) ∧ Fr S0 W w') from by
    obtain ⟨C, R, ⟨p, n, c, q, m, e, s⟩, -⟩ := b.ex
    exact ends_any g C p n c q m e X W s)
  have HLI := Lib.hid (fun W g r (b : Both w W g r X X) => both_list b (by omega))
  have HWA := Lib.hid (fun W g r (b : Both w W g r X X) => both_waits b (by omega))
  have HLD := Lib.hid (fun W v u W1 W2 (a : Acc 61 W1 W v X.L.length X.L) (b : Acc 61 W2 W u X.W.length X.W) => show Calls Try.prog 33 #[.int .i64 (fineD d : Nat), .int .i64 X.lo, .int .i64 X.hi, v, u] W (fun e w' => ∃ y, e = .returned (.tuple #[.pointer (some ⟨y, 0, none⟩), .int .i64 0]) ∧ NewD W w' y X) from by
    obtain ⟨pa, ca, rfl⟩ := slFormN a.own
    obtain ⟨pb, cb, rfl⟩ := slFormN b.own
    refine (load_any (fineD d) X.lo X.hi pa _ ca pb _ cb X.L X.W W d1 d2 (Sl.ofOwns a.own) (Sl.ofOwns b.own) (by omega) (fun t ht => ?_) hg.l1 hg.l2 hg.h1 hg.h2).mono fun e w' he => ?_
    · have h1 := wts_mem (show t ∈ X.all from ht)
      have h2 : wts X.all = X.tot := rfl
      have h3 := hg.tot
      omega
    · rcases he with ⟨-, y, rfl, hy⟩ | ⟨hno, -⟩
      · exact ⟨y, rfl, by rw [← hxd] at hy; exact hy⟩
      · exact absurd (by rw [← hxd]; exact load_own hg (by rw [hxd]; exact hxw)) hno)
  have HAA := Lib.hid (fun i (hi : i ≤ 40) W g r v (h1 : -9223372036854775808 ≤ v) (h2 : v ≤ 9223372036854775807) (b : Both w W g r (mores X ms i) (mores X ms i)) => both_add b v 2 h1 h2 (by have := (mores_len (ms := ms) hg hvb3 i).2; omega))
  have HRA := Lib.hid (fun i (hi : i ≤ 40) W g r v (h1 : -9223372036854775808 ≤ v) (h2 : v ≤ 9223372036854775807) x (b : Both w W g r x (mores X ms i)) => both_radd b v 2 h1 h2 (by have := (mores_len (ms := ms) hg hvb3 i).2; omega))
  have HSA := Lib.hid (fun i (hi : i ≤ 40) W g r (b : Both w W g r (mores X ms i) (mores X ms i)) => both_same b (by have := (mores_len (ms := ms) hg hvb3 i).2; omega))
  obtain ⟨LO, eLO⟩ : ∃ LO, X.lo = LO := ⟨_, rfl⟩
  obtain ⟨HI, eHI⟩ : ∃ HI, X.hi = HI := ⟨_, rfl⟩
  obtain ⟨EE, eEE⟩ : ∃ EE, X.endE = EE := ⟨_, rfl⟩
  obtain ⟨D, eD⟩ : ∃ D, fineD d = D := ⟨_, rfl⟩
  rw [eLO, eHI, eEE] at HEN
  rw [eLO, eHI, eD] at HLD
  rw [eD] at HFI
  have HZ := Lib.hid hz3
  have HVB := Lib.hid hvb3
  have HL := Lib.hid hn3
  clear hz hvb hq hnb hd hk hn hok d1 d2 eX hlen hg hll hxd hxw eLO eHI eEE eD hz3 hvb3 hn3
  go_enter Try.func10, Try.ntmps10
  go_wp2_with fail
  refine HAL.out.mono ?_
  rintro e1 w1 ⟨rfl, f1⟩
  have HAD1 := Lib.hid (HAD.out w1 f1)
  have F1 := Lib.hid f1
  clear f1 HAL HAD
  go_wp2_with fail
  refine HAD1.out.mono ?_
  rintro e2 w2 ⟨g, r, rfl, bo⟩
  have HB2 := Lib.hid (bo.back F1.out)
  clear bo HAD1 F1
  go_wp2_with fail
  refine (HEN.out _ _ _ HB2.out).mono ?_
  rintro e3 w3 ⟨rfl, f3⟩
  have HB3 := Lib.hid (HB2.out.fr0 f3)
  clear f3 HEN HB2
  go_wp2_with fail
  refine (HFI.out _).mono ?_
  rintro e4 w4 ⟨rfl, rfl⟩
  go_wp2_with fail
  refine (HLI.out _ _ _ HB3.out).mono ?_
  rintro e5 w5 ⟨v5, rfl, a5⟩
  have A5 := Lib.hid a5
  have HB5 := Lib.hid (HB3.out.fr0 a5.fr)
  clear a5 HLI HB3 HFI
  go_wp2_with fail
  refine (HWA.out _ _ _ HB5.out).mono ?_
  rintro e6 w6 ⟨v6, rfl, a6⟩
  have A6 := Lib.hid a6
  have A56 := Lib.hid (A5.out.fr0 a6.fr)
  have HB6 := Lib.hid (HB5.out.fr0 a6.fr)
  clear a6 HWA HB5 A5
  go_wp2_with fail
  refine (HLD.out _ _ _ _ _ A56.out A6.out).mono ?_
  rintro e7 w7 ⟨y, rfl, ny⟩
  have HB7 := Lib.hid (both_load HB6.out ny)
  clear ny HLD HB6 A56 A6
  go_wp2_with fail
  go_loopw [16] (fun z wr => ∃ (i : Nat), z = .int .i64 (i : Int) ∧ i ≤ n3 ∧ i ≤ 40 ∧ Hid (Both w wr y r (mores X ms i) (mores X ms i))) (fun z _ => 40 - (intOf z).toNat)
  case atStart => exact ⟨0, rfl, by omega, by omega, HB7⟩
  case round =>
    obtain ⟨i, rfl, hin, hi40, hb⟩ := hrel
    by_cases hil : (i : Int) < (n3 : Int)
    · by_cases hi4 : (i : Int) < 40
      · have hivl : i < ms.length := by rw [HL.out]; omega
        obtain ⟨b, o, rfl, k0⟩ := (HZ.out.fr0 hb.out.fr) i hivl
        have hvi := HVB.out _ (List.getElem_mem hivl)
        have hgd : ms.getD i 0 = ms[i] := by simp [hivl]
        have HZC0 := Lib.hid (fun W (f : Fr S0 w W) => (HZ.out.fr0 f) i hivl)
        obtain ⟨v, ev⟩ : ∃ v, ms[i] = v := ⟨_, rfl⟩
        rw [ev] at k0 hvi hgd HZC0
        have HZC : Hid (∀ W, Fr S0 w W → W.cell? ⟨b, o + i, none⟩ = some (.int .i64 v)) := Lib.hid fun W f => by
          obtain ⟨b', o', hp, hc⟩ := HZC0.out W f
          simp only [Option.some.injEq, Addr.mk.injEq] at hp
          obtain ⟨rfl, rfl, -⟩ := hp
          exact hc
        have hst : mores X ms (i + 1) = (mores X ms i).add v 2 := by rw [mores, hgd]
        have HA := Lib.hid (fun W b => HAA.out i (by omega) W y r v hvi.1 hvi.2 b)
        have HR := Lib.hid (fun W b => HRA.out i (by omega) W y r v hvi.1 hvi.2 (mores X ms (i + 1)) b)
        have HS := Lib.hid (fun W b => HSA.out (i + 1) (by omega) W y r b)
        rw [← hst] at HA HR
        obtain ⟨RF, eRF⟩ : ∃ RF, (mores X ms i).ref 2 = RF := ⟨_, rfl⟩
        rw [eRF, show ((2 : Nat) : Int) = 2 from rfl] at HA HR
        have HBD := Lib.hid (fun W (f : Fr S0 wr W) => hb.out.fr0 f)
        have HKP := Lib.hid hb.out.fr
        clear ev hst hgd HZC0 eRF hb
        go_wp2_with fail
        go_region_held3 (fun w' => w'.cell? ⟨b, o + i, none⟩ = some (.int .i64 v))
          (first
            | exact HZC.out _ (Both.fr B10.out)
            | exact HZC.out _ (Both.fr B9.out)
            | exact HZC.out _ (Both.fr B8.out)
            | exact HZC.out _ (HKP.out.trans0 (Fr.drew S0 _))
            | exact HZC.out _ HKP.out
            | fail)
          (first
            | (go_at_call 31; ((with_reducible refine (HA.out _ (HBD.out _ (Fr.drew S0 _))).mono ?_); rintro _ w8 ⟨rfl, b8⟩; have B8 := Lib.hid b8; clear b8))
            | (go_at_call 35; ((with_reducible refine (HR.out _ B8.out).mono ?_); rintro _ w9 ⟨rfl, b9⟩; have B9 := Lib.hid b9; clear b9))
            | (go_at_call 16; ((with_reducible refine (HS.out _ B9.out).mono ?_); rintro _ w10 ⟨rfl, f10⟩; have B10 := Lib.hid (B9.out.fr0 f10); clear f10))
            | fail)
        go_wp2_with fail
        go_roundw
        case rel => exact ⟨i + 1, by go_num, by omega, by omega, B10⟩
        case measure => first | (simp [intOf]; done) | (simp [intOf]; omega)
      · obtain rfl : i = 40 := by omega
        go_wp2_with fail
        go_ret
        exact ⟨rfl, hb.out.fr⟩
    · obtain rfl : i = n3 := by omega
      go_wp2_with fail
      go_ret
      exact ⟨rfl, hb.out.fr⟩
end
end Go.Proofs.Yticagdppjknlaaa
