/- DwAdded -/
import Derived.Test.YtaemgflhgdlmiaaGreatPw1
import Derived.Test.YtaemgflhgdlmiaaGreatPw2
import Derived.Test.YtaemgflhgdlmiaaGreatPw3
import Derived.Test.YtaemgflhgdlmiaaGreatPw4
import Derived.Test.YtaemgflhgdlmiaaGreatPw5
import Derived.Test.YtaemgflhgdlmiaaGreatPw6
import Derived.Test.YtaemgflhgdlmiaaGreatPw7
import Derived.Test.YtaemgflhgdlmiaaGreatPw8
import Derived.Test.YtaemgflhgdlmiaaGreatPw9
import Derived.Test.YtaemgflhgdlmiaaGreatPw10
import Derived.Test.YtaemgflhgdlmiaaGreatPw11
import Derived.Test.YtaemgflhgdlmiaaGreatPw12
import Derived.Test.YtaemgflhgdlmiaaGreatPw13
import Derived.Test.YtaemgflhgdlmiaaGreatPw14
import Derived.Test.YtaemgflhgdlmiaaGreatPw15
import Derived.Test.YtaemgflhgdlmiaaGreatPw16
import Derived.Test.YtaemgflhgdlmiaaGreatPw17
import Derived.Test.YtaemgflhgdlmiaaGreatPw18
import Derived.Test.YtaemgflhgdlmiaaGreatPw19
import Derived.Test.YtaemgflhgdlmiaaGreatPw20
import Derived.Test.YtaemgflhgdlmiaaGreatPw21
import Derived.Test.YtaemgflhgdlmiaaGreatPw22
import Derived.Test.YtaemgflhgdlmiaaGreatPw23
import Derived.Test.YtaemgflhgdlmiaaGreatPw24
import Derived.Test.YtaemgflhgdlmiaaGreatPw25
import Derived.Test.YtaemgflhgdlmiaaGreatPw26
import Derived.Test.YtaemgflhgdlmiaaGreatPw27
import Derived.Test.YtaemgflhgdlmiaaGreatPw28
import Derived.Test.YtaemgflhgdlmiaaGreatPw29
import Derived.Test.YtaemgflhgdlmiaaGreatPw30
import Derived.Test.YtaemgflhgdlmiaaGreatPw31
import Derived.Test.YtaemgflhgdlmiaaGreatPw32
import Derived.Test.YtaemgflhgdlmiaaGreatPw33
import Derived.Test.YtaemgflhgdlmiaaGreatPw34
import Derived.Test.YtaemgflhgdlmiaaGreatPw35
import Derived.Test.YtaemgflhgdlmiaaGreatPw36
import Derived.Defers
import Derived.Recover
import Derived.Deep.RegionHeld2
import Derived.StillTailTactics
import Derived.WalkKit
import Derived.Laws.BitsAllLaws
import Derived.Laws.BytesArg
import Derived.Lib.SlBytesConst
import Derived.Maps.AppendAt
import Derived.Laws.AppendOwnNone
import Derived.WalkSpells
import Derived.WalkLawsBesides
import Derived.Deep.QuietTactic
import Derived.BigQuiet
import Derived.RegionTactic
import Derived.Deep.AppendLies
import Derived.Deep.RegionLaw
import Derived.Laws.ResultCell
import Derived.Laws.EntriesVeiled
import Derived.Lib.Hide
import Derived.Test.YtaemgflhgdlmiaaGreatRows
import Derived.Deep.RegionHeld3
import Derived.Lib.SliceRun
import Derived.BigRegion
import Derived.Laws.Externs
import Derived.Shelf.Spec.BitsCarry
import Derived.Deep.CutBlock
import Derived.Deep.CutRange
import Derived.Deep.DeepCutAuto
import Derived.Lib.BitFns
import Derived.Shelf.Small.Bits
import Derived.Shelf.Strconv.Itoa0
import Derived.Shelf.Bits.Mul64
import Derived.Lib.AppendZeros
import Derived.Laws.CopyOwn
import Derived.Lib.Overlaps
import Derived.Lib.AppendZerosOnto
import Derived.Laws.OwnMore
import Derived.Shelf.SlSortCmp.WholeK
set_option maxRecDepth 100000
set_option maxHeartbeats 8000000
namespace Go.Proofs.YtaemgflhgdlmiaaGreat
open Go.RowKit
def ZI (w : World) (p : Option Addr) (vs : List Int) : Prop := ∀ i, (h : i < vs.length) → ∃ b o, p = some ⟨b, o, none⟩ ∧ w.cell? ⟨b, o + i, none⟩ = some (.int .i64 vs[i])
theorem ZI.fr0 {w w' : World} {p : Option Addr} {vs : List Int} (h : ZI w p vs) (f : Fr S0 w w') : ZI w' p vs := fun i hi => let ⟨b, o, e, hc⟩ := h i hi; ⟨b, o, e, f.cell hc (fun h => h)⟩
def wt (ns : List Nat) (i : Nat) : Nat := if h : i < ns.length then 1 + ns[i] % 1000 else 1
theorem wt_bd (ns : List Nat) (i : Nat) : 1 ≤ wt ns i ∧ wt ns i ≤ 1000 := by
  unfold wt
  split <;> omega
def wt21 (ns : List Nat) (i : Nat) : Nat := wt ns i * 2 ^ (i % 3 * 20)
theorem wt21_lt (ns : List Nat) (i : Nat) : wt21 ns i < 9223372036854775808 := by
  have h1 := (wt_bd ns i).2
  have h2 : 2 ^ (i % 3 * 20) ≤ 2 ^ 40 := Nat.pow_le_pow_right (by decide) (by omega)
  have h3 : wt ns i * 2 ^ (i % 3 * 20) ≤ 1000 * 2 ^ 40 := Nat.mul_le_mul h1 h2
  unfold wt21
  omega
def adds (A : Nat) (vs : List Int) (ns : List Nat) : Nat → List Pr
  | 0 => []
  | i + 1 => ddL A (adds A vs ns i) (vs.getD i 0) (wt21 ns i)
theorem SkIs.len {w : World} {g h s A m : Nat} {a : List Pr} (k : SkIs w g h s A m a) : a.length ≤ 10000 := by
  have h1 := len_le k.ok.srt k.ks (by omega)
  have h2 := sN_le k.a1 k.a2
  omega
structure Both (w W : World) (g h s d A m : Nat) (a : List Pr) : Prop where
  sk : NewSk w W g h s A m a
  doc : DocIs W (fun x => x ≠ g ∧ x ≠ h ∧ x ≠ s ∧ w.heap.size ≤ x ∧ x < W.heap.size) d A m a
theorem Both.fr0 {w W W' : World} {g h s d A m : Nat} {a : List Pr} (b : Both w W g h s d A m a) (f : Fr S0 W W') : Both w W' g h s d A m a :=
  ⟨b.sk.fr0 f, (b.doc.fr0 f).mono fun _ h => ⟨h.1, h.2.1, h.2.2.1, h.2.2.2.1, Nat.lt_of_lt_of_le h.2.2.2.2 f.size⟩⟩
theorem Both.fr {w W : World} {g h s d A m : Nat} {a : List Pr} (b : Both w W g h s d A m a) : Fr S0 w W := b.sk.fr
theorem both_add {w W : World} {g h s d A m : Nat} {a : List Pr} (b : Both w W g h s d A m a) (v : Int) (n : Nat) (hn : n < 18446744073709551616) (h1 : -9223372036854775808 ≤ v) (h2 : v ≤ 9223372036854775807) :
    Calls Tryz.prog 25 #[.pointer (some ⟨g, 0, none⟩), .int .i64 v, .int .u64 (n : Nat)] W fun e w' => ∃ x h', e = .returned x ∧ NewSk w w' g h' s A m (ddL A a v n) ∧ DocIs w' (fun x => x ≠ g ∧ x ≠ h' ∧ x ≠ s ∧ w.heap.size ≤ x ∧ x < w'.heap.size) d A m a ∧ Good a ∧ a.length ≤ 50000 := by
  refine (dadd_any g h s A m n v a W b.sk.is b.sk.hl hn h1 h2).mono ?_
  rintro e w' ⟨e1, h', t⟩
  have hz := t.fr.size
  refine ⟨_, h', e1, b.sk.turn t, (b.doc.fr t.fr fun x hx e => ?_).mono fun x hx => ⟨hx.1, ?_, hx.2.2.1, hx.2.2.2.1, by omega⟩, b.sk.is.ok, by have := b.sk.is.len; omega⟩
  · rcases e with e | e
    · exact hx.1 e
    · exact hx.2.1 e
  · rcases t.row with e | ⟨e, _⟩
    · rw [e]
      exact hx.2.1
    · omega
theorem both_add2 {w W : World} {g h s d A m : Nat} {a : List Pr} (v : Int) (n : Nat) (k : NewSk w W g h s A m (ddL A a v n)) (c : DocIs W (fun x => x ≠ g ∧ x ≠ h ∧ x ≠ s ∧ w.heap.size ≤ x ∧ x < W.heap.size) d A m a) (hg : Good a) (hl : a.length ≤ 50000) (hn : n < 18446744073709551616) (h1 : -9223372036854775808 ≤ v) (h2 : v ≤ 9223372036854775807) :
    Calls Tryz.prog 29 #[.pointer (some ⟨d, 0, none⟩), .int .i64 v, .int .u64 (n : Nat)] W fun e w' => ∃ x, e = .returned x ∧ Both w w' g h s d A m (ddL A a v n) := by
  have hd := c.nd
  refine (radd20_any _ d A m a W v n c (by omega) hg hl hn h1 h2).mono ?_
  rintro e w' ⟨e1, c', f⟩
  have hz := f.size
  have hgl := k.is.gl
  have hsl := k.is.sl
  have hhl := k.hl
  have hwz := k.fr.size
  refine ⟨_, e1, ⟨k.is.fr f (fun e => hd.1 e.symm) (fun e => hd.2.1 e.symm) (fun e => hd.2.2.1 e.symm), k.g0, k.h0, by omega, k.s0, k.fr.trans f fun x hx e => ?_⟩, c'.mono fun x hx => ?_⟩
  · have e2 : x = d := e
    omega
  · rcases hx with hx | hx
    · exact ⟨hx.1, hx.2.1, hx.2.2.1, hx.2.2.2.1, by omega⟩
    · exact ⟨by omega, by omega, by omega, by omega, by omega⟩
section
variable (q : Option Addr) (k c2 : Nat) (ns : List Nat) (w : World)
theorem weight20_any (i : Nat) (hk : ns.length = k) (hq : SlI w .u16 q ns) (hnb : ∀ n ∈ ns, n < 65536) :
    Calls Tryz.prog 28 #[.slice q k c2, .int .i64 (i : Nat)] w fun e w' => e = .returned (.int .u64 (wt ns i : Nat)) ∧ w = w' := by
  by_cases h : i < ns.length
  · obtain ⟨b, o, rfl, k0⟩ := hq.at i h
    have hb := hnb _ (List.getElem_mem h)
    unfold wt
    rw [dif_pos h]
    obtain ⟨V, eV⟩ : ∃ V, ns[i] = V := ⟨_, rfl⟩
    rw [eV] at k0 hb ⊢
    obtain ⟨R, eR⟩ : ∃ R, V % 1000 = R := ⟨_, rfl⟩
    have eR2 : (V : Int) % 1000 = (R : Int) := by omega
    have hR : (R : Int) < 1000 := by omega
    have eY : 1 + (R : Int) = ((1 + R : Nat) : Int) := by omega
    obtain ⟨Y, hY⟩ : ∃ Y, 1 + R = Y := ⟨_, rfl⟩
    have hin : (i : Int) < (k : Int) := by omega
    have dk : decide ((k : Int) ≤ (i : Int)) = false := decide_eq_false (by omega)
    have dk2 : decide (k ≤ i) = false := decide_eq_false (by omega)
    rw [eR]
    rw [hY] at eY ⊢
    clear hq hnb hk h eV eR hb hY
    go_enter Tryz.func28, Tryz.ntmps28
    go_wp2_with fail
    go_ret
    exact ⟨rfl, rfl⟩
  · unfold wt
    rw [dif_neg h]
    have dk : decide ((k : Int) ≤ (i : Int)) = true := decide_eq_true (by omega)
    have dk2 : decide (k ≤ i) = true := decide_eq_true (by omega)
    clear hq hnb hk h
    go_enter Tryz.func28, Tryz.ntmps28
    go_wp2_with fail
    go_ret
    exact ⟨rfl, rfl⟩
end
def acc21 (a : Nat) : Nat := 500 + a % 46 * 100
def bud21 (m : Nat) : Nat := 2 + m % 20
theorem acc21_in (a : Nat) : 100 ≤ acc21 a ∧ acc21 a ≤ 5000 := by unfold acc21; omega
theorem bud21_in (m : Nat) : 2 ≤ bud21 m ∧ bud21 m ≤ 21 := by unfold bud21; omega
section
variable (a m : Nat) (p : Option Addr) (n c : Nat) (vs : List Int) (q : Option Addr) (k c2 : Nat) (ns : List Nat) (w : World)
theorem added21_any (ha : a < 65536) (hm : m < 65536) (hn : vs.length = n) (hz : ZI w p vs) (hvb : ∀ v ∈ vs, -9223372036854775808 ≤ v ∧ v ≤ 9223372036854775807) (hk : ns.length = k) (hq : SlI w .u16 q ns) (hnb : ∀ n ∈ ns, n < 65536) :
    Calls Tryz.prog 8 #[.int .u16 (a : Nat), .int .u16 (m : Nat), .slice p n c, .slice q k c2] w fun e w' => ∃ g h s d, e = .returned (.tuple #[.pointer (some ⟨g, 0, none⟩), .pointer (some ⟨d, 0, none⟩)]) ∧ Both w w' g h s d (acc21 a) (bud21 m) (adds (acc21 a) vs ns (min n 40)) := by
  obtain ⟨a1, a2⟩ := acc21_in a
  obtain ⟨m1, m2⟩ := bud21_in m
  have eA : (500 : Int) + (a : Int) % 46 * 100 = ((acc21 a : Nat) : Int) := by unfold acc21; omega
  have eM : (2 : Int) + (m : Int) % 20 = ((bud21 m : Nat) : Int) := by unfold bud21; omega
  obtain ⟨A, hA⟩ : ∃ A, acc21 a = A := ⟨_, rfl⟩
  obtain ⟨M, hM⟩ : ∃ M, bud21 m = M := ⟨_, rfl⟩
  rw [hA] at a1 a2 eA ⊢
  rw [hM] at m1 m2 eM ⊢
  have HN := Lib.hid (ddnew_yes A M w a1 a2 m1 (by omega))
  have HR := Lib.hid (fun W => rnew20_any A M W a1 a2 m1 (by omega))
  have HWT := Lib.hid (fun i W (f : Fr S0 w W) => weight20_any q k c2 ns W i hk (hq.fr0 f) hnb)
  have HZ := Lib.hid hz
  have HVB := Lib.hid hvb
  have HL := Lib.hid hn
  clear hz hvb hq hnb hk hn hA hM a1 m1
  go_enter Tryz.func8, Tryz.ntmps8
  go_wp2_with fail
  refine HN.out.mono ?_
  rintro e w1 ⟨g, h, s, rfl, nk⟩
  have HK := Lib.hid nk
  clear nk HN
  go_wp2_with fail
  refine (HR.out _).mono ?_
  rintro e w2 ⟨d, rfl, nd, f2⟩
  have HB : Hid (Both w w2 g h s d A M []) := Lib.hid (by
    have x1 := HK.out.is.gl
    have x2 := HK.out.is.sl
    have x3 := HK.out.hl
    have x4 := HK.out.fr.size
    exact ⟨HK.out.fr0 f2, nd.mono fun x hx => ⟨by omega, by omega, by omega, by omega, hx.2⟩⟩)
  clear nd f2 HK HR
  go_wp2_with fail
  go_loopw [15, 16] (fun z _ wr => ∃ (i h' : Nat), z = .int .i64 (i : Int) ∧ i ≤ n ∧ i ≤ 40 ∧ Hid (Both w wr g h' s d A M (adds A vs ns i))) (fun z _ _ => 40 - (intOf z).toNat)
  case atStart => exact ⟨0, h, rfl, by omega, by omega, HB⟩
  case round =>
    obtain ⟨i, h1, rfl, him, hi40, hb⟩ := hrel
    by_cases hik : i < n
    · by_cases hi4 : (i : Int) < 40
      · have hil : i < vs.length := by rw [HL.out]; exact hik
        obtain ⟨b, o, rfl, k0⟩ := HZ.out i hil
        have hvi := HVB.out _ (List.getElem_mem hil)
        have hgd : vs.getD i 0 = vs[i] := by simp [hil]
        obtain ⟨v, ev⟩ : ∃ v, vs[i] = v := ⟨_, rfl⟩
        rw [ev] at k0 hvi hgd
        have hst : adds A vs ns (i + 1) = ddL A (adds A vs ns i) v (wt21 ns i) := by rw [adds, hgd]
        have hw := wt21_lt ns i
        have hx := wt_bd ns i
        have HNX : Hid (∀ W h, Both w W g h s d A M (ddL A (adds A vs ns i) v (wt21 ns i)) → Both w W g h s d A M (adds A vs ns (i + 1))) := Lib.hid (fun W h x => by rw [hst]; exact x)
        have HW1 := Lib.hid (HWT.out i wr hb.out.fr)
        have e3 : ((i : Int) % 3 = 0 ∧ wt21 ns i = wt ns i) ∨ ((i : Int) % 3 = 1 ∧ wt21 ns i = wt ns i * 1048576) ∨ ((i : Int) % 3 = 2 ∧ wt21 ns i = wt ns i * 1099511627776) := by
          have h3 : i % 3 = 0 ∨ i % 3 = 1 ∨ i % 3 = 2 := by omega
          unfold wt21
          rcases h3 with h3 | h3 | h3
          · exact .inl ⟨by omega, by rw [h3]; exact Nat.mul_one _⟩
          · exact .inr (.inl ⟨by omega, by rw [h3]⟩)
          · exact .inr (.inr ⟨by omega, by rw [h3]⟩)
        obtain ⟨Y, eY⟩ : ∃ Y, wt21 ns i = Y := ⟨_, rfl⟩
        rw [eY] at HNX hw e3
        obtain ⟨X, eX⟩ : ∃ X, wt ns i = X := ⟨_, rfl⟩
        rw [eX] at HW1 hx e3
        obtain ⟨aa, eaa⟩ : ∃ aa, adds A vs ns i = aa := ⟨_, rfl⟩
        rw [eaa] at hb HNX
        have HA1 := Lib.hid (both_add hb.out v Y (by omega) hvi.1 hvi.2)
        have HA2 := Lib.hid (fun W h2 (x1 : NewSk w W g h2 s A M (ddL A aa v Y)) x2 x3 x4 => both_add2 (h := h2) (d := d) v Y x1 x2 x3 x4 (by omega) hvi.1 hvi.2)
        have HCEL := Lib.hid (fun W (f : Fr S0 w W) => f.cell k0 (fun h => h))
        have hin : (i : Int) < (n : Int) := by omega
        have k1 := HCEL.out _ hb.out.fr
        clear hst hgd ev k0 hil eY eX eaa HWT
        rcases e3 with ⟨e3, e4⟩ | ⟨e3, e4⟩ | ⟨e3, e4⟩
        · subst e4
          go_wp2_with fail
          refine HW1.out.mono ?_
          rintro e w3 ⟨rfl, rfl⟩
          go_wp2_with fail
          refine HA1.out.mono ?_
          rintro e w4 ⟨xx, h2, rfl, n1, n2, n3, n4⟩
          have HA3 := Lib.hid (HA2.out _ h2 n1 n2 n3 n4)
          have k2 := HCEL.out _ n1.fr
          clear n1 n2 n3 n4 HA1 HA2 k1
          go_wp2_with fail
          refine HA3.out.mono ?_
          rintro e w5 ⟨xx2, rfl, hb5⟩
          have HB5 := Lib.hid (HNX.out _ _ hb5)
          clear hb5 HA3
          go_wp2_with fail
          go_roundw
          case rel => exact ⟨i + 1, h2, by go_num, by omega, by omega, HB5⟩
          case measure => simp [intOf]; omega
        · have e5 : ((Y : Nat) : Int) = (X : Int) * 1048576 := by omega
          rw [e5] at HA1 HA2
          clear e4 e5
          go_wp2_with fail
          refine HW1.out.mono ?_
          rintro e w3 ⟨rfl, rfl⟩
          go_wp2_with fail
          refine HA1.out.mono ?_
          rintro e w4 ⟨xx, h2, rfl, n1, n2, n3, n4⟩
          have HA3 := Lib.hid (HA2.out _ h2 n1 n2 n3 n4)
          have k2 := HCEL.out _ n1.fr
          clear n1 n2 n3 n4 HA1 HA2 k1
          go_wp2_with fail
          refine HA3.out.mono ?_
          rintro e w5 ⟨xx2, rfl, hb5⟩
          have HB5 := Lib.hid (HNX.out _ _ hb5)
          clear hb5 HA3
          go_wp2_with fail
          go_roundw
          case rel => exact ⟨i + 1, h2, by go_num, by omega, by omega, HB5⟩
          case measure => simp [intOf]; omega
        · have e5 : ((Y : Nat) : Int) = (X : Int) * 1099511627776 := by omega
          rw [e5] at HA1 HA2
          clear e4 e5
          go_wp2_with fail
          refine HW1.out.mono ?_
          rintro e w3 ⟨rfl, rfl⟩
          go_wp2_with fail
          refine HA1.out.mono ?_
          rintro e w4 ⟨xx, h2, rfl, n1, n2, n3, n4⟩
          have HA3 := Lib.hid (HA2.out _ h2 n1 n2 n3 n4)
          have k2 := HCEL.out _ n1.fr
          clear n1 n2 n3 n4 HA1 HA2 k1
          go_wp2_with fail
          refine HA3.out.mono ?_
          rintro e w5 ⟨xx2, rfl, hb5⟩
          have HB5 := Lib.hid (HNX.out _ _ hb5)
          clear hb5 HA3
          go_wp2_with fail
          go_roundw
          case rel => exact ⟨i + 1, h2, by go_num, by omega, by omega, HB5⟩
          case measure => simp [intOf]; omega
      · have dg : decide ((i : Int) < 40) = false := decide_eq_false hi4
        go_wp2_with fail
        go_ret2
        exact ⟨g, h1, s, d, rfl, by rw [show min n 40 = i by omega]; exact hb.out⟩
    · have dg : decide (i < n) = false := decide_eq_false hik
      go_wp2_with fail
      go_ret2
      exact ⟨g, h1, s, d, rfl, by rw [show min n 40 = i by omega]; exact hb.out⟩
end
end Go.Proofs.YtaemgflhgdlmiaaGreat
