/- DdCode, DdEnds -/
import Derived.Test.YtaemgflhgdlmiaaGreatPw1
import Derived.Test.YtaemgflhgdlmiaaGreatPw2
import Derived.Test.YtaemgflhgdlmiaaGreatPw4
import Derived.Test.YtaemgflhgdlmiaaGreatPw5
import Derived.Test.YtaemgflhgdlmiaaGreatPw6
import Derived.Test.YtaemgflhgdlmiaaGreatPw7
import Derived.Test.YtaemgflhgdlmiaaGreatPw8
import Derived.Test.YtaemgflhgdlmiaaGreatPw9
import Derived.Test.YtaemgflhgdlmiaaGreatPw10
import Derived.Test.YtaemgflhgdlmiaaGreatPw11
import Derived.Test.YtaemgflhgdlmiaaGreatPw12
import Derived.Test.YtaemgflhgdlmiaaGreatPw13
import Derived.Test.YtaemgflhgdlmiaaGreatPw14
import Derived.Test.YtaemgflhgdlmiaaGreatPw15
import Derived.Test.YtaemgflhgdlmiaaGreatPw16
import Derived.Test.YtaemgflhgdlmiaaGreatPw17
import Derived.Test.YtaemgflhgdlmiaaGreatPw18
import Derived.Test.YtaemgflhgdlmiaaGreatPw19
import Derived.Test.YtaemgflhgdlmiaaGreatPw20
import Derived.Test.YtaemgflhgdlmiaaGreatPw21
import Derived.Test.YtaemgflhgdlmiaaGreatPw22
import Derived.Test.YtaemgflhgdlmiaaGreatPw23
import Derived.Test.YtaemgflhgdlmiaaGreatPw24
import Derived.Test.YtaemgflhgdlmiaaGreatPw25
import Derived.Test.YtaemgflhgdlmiaaGreatPw26
import Derived.Test.YtaemgflhgdlmiaaGreatPw27
import Derived.WalkKit
import Derived.WalkSpells
import Derived.WalkLawsBesides
import Derived.Deep.QuietTactic
import Derived.BigQuiet
import Derived.RegionTactic
import Derived.Deep.AppendLies
import Derived.Deep.RegionLaw
import Derived.Laws.ResultCell
import Derived.Laws.EntriesVeiled
import Derived.Lib.Hide
import Derived.Test.YtaemgflhgdlmiaaGreatRows
import Derived.Deep.RegionHeld3
import Derived.Maps.AppendAt
import Derived.Lib.SliceRun
import Derived.StillTailTactics
import Derived.BigRegion
import Derived.Laws.BytesArg
import Derived.Lib.SlBytesConst
import Derived.Laws.AppendOwnNone
import Derived.Laws.Externs
import Derived.Shelf.Spec.BitsCarry
import Derived.Deep.CutBlock
import Derived.Deep.CutRange
import Derived.Deep.DeepCutAuto
import Derived.Lib.BitFns
import Derived.Shelf.Small.Bits
import Derived.Shelf.Strconv.Itoa0
import Derived.Shelf.Bits.Mul64
import Derived.Lib.AppendZeros
import Derived.Laws.CopyOwn
import Derived.Lib.Overlaps
import Derived.Lib.AppendZerosOnto
import Derived.Laws.OwnMore
import Derived.Shelf.SlSortCmp.WholeK
set_option maxRecDepth 100000
set_option maxHeartbeats 8000000
namespace Go.Proofs.YtaemgflhgdlmiaaGreat
open Go.RowKit
section
variable (g h s A m : Nat) (a : List Pr) (w : World)
theorem daccuracy_any (k : SkIs w g h s A m a) : Calls Tryz.prog 16 #[.pointer (some ⟨g, 0, none⟩)] w fun e w' => e = .returned (.int .i64 (A : Nat)) ∧ w = w' := by
  obtain ⟨p, c, sc⟩ := k.sc
  have H := Lib.hid (scacc_any g A c p w sc)
  clear sc k
  go_enter Tryz.func16, Tryz.ntmps16
  go_wp2_with fail
  refine H.out.mono ?_
  rintro e w1 ⟨rfl, rfl⟩
  go_wp2_with fail
  go_ret
  exact ⟨rfl, rfl⟩
theorem dbudget_any (k : SkIs w g h s A m a) : Calls Tryz.prog 17 #[.pointer (some ⟨g, 0, none⟩)] w fun e w' => e = .returned (.int .i64 (m : Nat)) ∧ Fr S0 w w' := by
  obtain ⟨E, sc⟩ := k.col
  have H := Lib.hid (cbudget_any g h m a w sc)
  clear sc k
  go_enter Tryz.func17, Tryz.ntmps17
  go_wp2_with fail
  refine H.out.mono ?_
  rintro e w1 ⟨rfl, f1⟩
  have F1 := Lib.hid f1
  clear f1
  go_wp2_with fail
  go_ret
  exact ⟨rfl, F1.out⟩
theorem dtotal_any (k : SkIs w g h s A m a) : Calls Tryz.prog 26 #[.pointer (some ⟨g, 0, none⟩)] w fun e w' => e = .returned (.int .u64 (ltot a : Nat)) ∧ Fr S0 w w' := by
  obtain ⟨E, sc⟩ := k.col
  have H := Lib.hid (ctotal_any g h m a w sc)
  clear sc k
  go_enter Tryz.func26, Tryz.ntmps26
  go_wp2_with fail
  refine H.out.mono ?_
  rintro e w1 ⟨rfl, f1⟩
  have F1 := Lib.hid f1
  clear f1
  go_wp2_with fail
  go_ret
  exact ⟨rfl, F1.out⟩
theorem dfolded_any (k : SkIs w g h s A m a) : Calls Tryz.prog 20 #[.pointer (some ⟨g, 0, none⟩)] w fun e w' => e = .returned (.int .u64 (cutA a m : Nat)) ∧ Fr S0 w w' := by
  obtain ⟨E, sc⟩ := k.col
  have H := Lib.hid (cfolded_any g h m a w sc)
  clear sc k
  go_enter Tryz.func20, Tryz.ntmps20
  go_wp2_with fail
  refine H.out.mono ?_
  rintro e w1 ⟨rfl, f1⟩
  have F1 := Lib.hid f1
  clear f1
  go_wp2_with fail
  go_ret
  exact ⟨rfl, F1.out⟩
theorem dpairs_any (k : SkIs w g h s A m a) : Calls Tryz.prog 19 #[.pointer (some ⟨g, 0, none⟩)] w fun e w' => ∃ p c n, e = .returned (.slice p n c) ∧ PrsNew w w' p c n (cutN a m) := by
  obtain ⟨E, sc⟩ := k.col
  have H := Lib.hid (cpairs_any g h m a w sc)
  clear sc k
  go_enter Tryz.func19, Tryz.ntmps19
  go_wp2_with fail
  refine H.out.mono ?_
  rintro e w1 ⟨p, c, n, rfl, f1⟩
  have F1 := Lib.hid f1
  clear f1
  go_wp2_with fail
  go_ret
  exact ⟨p, c, n, rfl, F1.out⟩
end
structure TurnS (w w' : World) (g h h' s A m : Nat) (a : List Pr) : Prop where
  is : SkIs w' g h' s A m a
  row : h' = h ∨ (w.heap.size ≤ h' ∧ h' < w'.heap.size)
  fr : Fr (fun x => x = g ∨ x = h) w w'
theorem TurnC.sk {w w' : World} {g h h' s A m c : Nat} {p : Option Addr} {a b : List Pr} (k : SkIs w g h s A m a) (hx : T3 w .u64 p (spns A (sN A)) ∧ ∀ x, p = some x → x.block = s) (t : TurnC ⟨A, p, sN A + 1, c⟩ w w' g h h' m b) (hb : ∀ x ∈ b, - (sN A : Int) ≤ x.1 ∧ x.1 ≤ (sN A : Int)) : TurnS w w' g h h' s A m b := by
  have hs := k.sl
  have h1 := k.sg
  have h2 := k.sh
  refine ⟨⟨⟨p, c, t.sto, hx.1.fr t.fr (fun y hy e => ?_), hx.2⟩, h1, ?_, k.a1, k.a2, hb⟩, t.row, t.fr⟩
  · rw [hx.2 y hy] at e
    omega
  · rcases t.row with e | e <;> omega
theorem addL_keys {N : Int} {a : List Pr} {k : Int} {n : Nat} (h : ∀ x ∈ a, - N ≤ x.1 ∧ x.1 ≤ N) (hk : - N ≤ k ∧ k ≤ N) : ∀ x ∈ addL0 a k n, - N ≤ x.1 ∧ x.1 ≤ N := by
  unfold addL0
  split
  · intro x hx
    rcases put_mem hx with e | e
    · rw [e]; exact hk
    · exact h x e
  · exact h
def ddE (A : Nat) (a : List Pr) (v : Int) (n : Nat) : Nat := if n = 0 then 4 else if v = -9223372036854775808 then 5 else addE0 a (skeyI A v) n
def ddL (A : Nat) (a : List Pr) (v : Int) (n : Nat) : List Pr := if n = 0 then a else if v = -9223372036854775808 then a else addL0 a (skeyI A v) n
theorem SkIs.same {w w' : World} {g h s A m : Nat} {a : List Pr} (k : SkIs w g h s A m a) (f : Fr S0 w w') : TurnS w w' g h h s A m a := ⟨k.fr0 f, .inl rfl, f.mono fun _ _ e => e.elim⟩
theorem TurnS.back {w W w' : World} {g h h' s A m : Nat} {l : List Pr} (f : Fr S0 w W) (t : TurnS W w' g h h' s A m l) : TurnS w w' g h h' s A m l :=
  ⟨t.is, t.row.imp id fun ⟨x, y⟩ => ⟨Nat.le_trans f.size x, y⟩, (f.mono fun _ _ h => h.elim).trans t.fr fun _ _ h => h⟩
section
variable (g h s A m n : Nat) (v : Int) (a : List Pr) (w : World)
theorem dadd_any (k : SkIs w g h s A m a) (hh : h < w.heap.size) (hn : n < 18446744073709551616) (h1 : -9223372036854775808 ≤ v) (h2 : v ≤ 9223372036854775807) :
    Calls Tryz.prog 25 #[.pointer (some ⟨g, 0, none⟩), .int .i64 v, .int .u64 (n : Nat)] w fun e w' => e = .returned (.int .i64 (ddE A a v n : Nat)) ∧ ∃ h', TurnS w w' g h h' s A m (ddL A a v n) := by
  unfold ddE ddL
  by_cases hn0 : n = 0
  · subst hn0
    rw [if_pos rfl, if_pos rfl]
    have HS := Lib.hid (k.same (Fr.refl S0 w))
    clear k
    go_enter Tryz.func25, Tryz.ntmps25
    go_wp2_with fail
    go_ret
    exact ⟨rfl, h, HS.out⟩
  · rw [if_neg hn0, if_neg hn0]
    obtain ⟨p, c, ⟨k0, sc⟩, ht, hp⟩ := k.ex
    obtain ⟨_, _, _, _, r⟩ := sc.is.cells
    have HK := Lib.hid (sckey_any g A c p w v ⟨r.ca, r.cs, ht, k.a1, k.a2⟩ h1 h2)
    have hd0 : ((n : Int) == 0) = false := by rw [beq_eq_false_iff_ne]; omega
    by_cases hv : v = -9223372036854775808
    · rw [if_pos hv, if_pos hv]
      rw [keyT, if_pos hv] at HK
      have HS := Lib.hid (fun W (f : Fr S0 w W) => k.same f)
      clear k sc ht hp r hn0 hv h1 h2
      go_enter Tryz.func25, Tryz.ntmps25
      go_wp2_with fail
      refine HK.out.mono ?_
      rintro e w1 ⟨rfl, f1⟩
      have HS1 := Lib.hid (HS.out _ f1)
      clear f1 HS HK
      go_wp2_with fail
      go_ret
      exact ⟨rfl, h, HS1.out⟩
    · rw [if_neg hv, if_neg hv]
      rw [keyT, if_neg hv] at HK
      have hin := skeyI_in k.a1 k.a2 (v := v) (by omega)
      obtain ⟨K, eK⟩ : ∃ K, skeyI A v = K := ⟨_, rfl⟩
      rw [eK] at HK hin ⊢
      have HADD := Lib.hid (fun W (f : Fr S0 w W) => cadd_any (E := ⟨A, p, sN A + 1, c⟩) g h m n K a W hn (Col.fr0 ⟨k0, sc⟩ f) (Nat.lt_of_lt_of_le hh f.size))
      have HS := Lib.hid (fun W (f : Fr S0 w W) W' h' (t : TurnC ⟨A, p, sN A + 1, c⟩ W W' g h h' m (addL0 a K n)) => TurnS.back f (TurnC.sk (k.fr0 f) ⟨ht.fr0 f, hp⟩ t (addL_keys k.ks hin)))
      obtain ⟨E, eE⟩ : ∃ E, addE0 a K n = E := ⟨_, rfl⟩
      rw [eE] at HADD ⊢
      clear k sc ht hp r hn0 hv h1 h2 hin eK eE hn hh
      go_enter Tryz.func25, Tryz.ntmps25
      go_wp2_with fail
      refine HK.out.mono ?_
      rintro e w1 ⟨rfl, f1⟩
      have HA1 := Lib.hid (HADD.out _ f1)
      have HS1 := Lib.hid (HS.out _ f1)
      clear f1 HS HK HADD
      go_wp2_with fail
      refine HA1.out.mono ?_
      rintro e w2 ⟨rfl, h', t⟩
      have HS2 := Lib.hid (HS1.out _ _ t)
      clear t HA1 HS1
      go_wp2_with fail
      go_ret
      exact ⟨rfl, h', HS2.out⟩
end
section
variable (g h s A m g2 h2 s2 B n : Nat) (a b : List Pr) (w : World)
end
end Go.Proofs.YtaemgflhgdlmiaaGreat

namespace Go.Proofs.YtaemgflhgdlmiaaGreat
open Go.RowKit
theorem has_low : Has 69 := fun _ _ => by kernel_rfl
theorem has_high : Has 70 := fun _ _ => by kernel_rfl
theorem keyV_in {A m r : Nat} {a : List Pr} (ok : Good a) (hm : 1 ≤ m) (hk : ∀ x ∈ a, - (sN A : Int) ≤ x.1 ∧ x.1 ≤ (sN A : Int)) : - (sN A : Int) ≤ keyV (cutN a m) r ∧ keyV (cutN a m) r ≤ (sN A : Int) := by
  unfold keyV
  split
  · rename_i h
    have h2 : 1 ≤ r ∧ r ≤ ltot (cutN a m) := by
      unfold keyE at h
      split at h
      · cases h
      · split at h
        · cases h
        · omega
    obtain ⟨⟨x, hx, e⟩, -, -⟩ := keyW_rank (cut_srt ok.srt ok.pos hm) h2.1 h2.2
    obtain ⟨y, hy, e2⟩ := cut_mem ok.srt ok.pos hm hx
    rw [← e, ← e2]
    exact hk y hy
  · omega
section
variable (g h s A m : Nat) (a : List Pr) (w : World) (B : Nat) (fB : Int → Int) (x d : Nat)
def TellsK (w : World) (g A B : Nat) (fB : Int → Int) : Prop := Has B ∧ ∀ (k : Int) (W : World), Fr S0 w W → - (sN A : Int) ≤ k → k ≤ (sN A : Int) → Calls Tryz.prog B #[.pointer (some ⟨g, 0, none⟩), .int .i64 k] W fun e w' => e = .returned (.tuple #[.int .i64 (fB k), .int .i64 0]) ∧ Fr S0 W w'
theorem dtell_no (k : SkIs w g h s A m a) (h64 : d < 18446744073709551616) (h0 : rkE x d (ltot a) ≠ 0) (v : Value) :
    Calls Tryz.prog 68 #[.pointer (some ⟨g, 0, none⟩), .int .u64 (x : Nat), .int .u64 (d : Nat), v] w fun e w' => e = .returned (.tuple #[.int .i64 0, .bool false, .int .i64 (rkE x d (ltot a) : Nat)]) ∧ Fr S0 w w' := by
  obtain ⟨E, sc⟩ := k.col
  have ht := k.ok.tot
  have H := Lib.hid (ctotal_any g h m a w sc)
  have HR := Lib.hid (fun W => rank_any x d (ltot a) W (by omega) h64)
  obtain ⟨T, eT⟩ : ∃ T, ltot a = T := ⟨_, rfl⟩
  rw [eT] at H HR h0 ⊢
  obtain ⟨R, eR⟩ : ∃ R, rkR x d T = R := ⟨_, rfl⟩
  obtain ⟨Z, eZ⟩ : ∃ Z, rkE x d T = Z := ⟨_, rfl⟩
  rw [eR, eZ] at HR
  rw [eZ] at h0 ⊢
  have hz : ((Z : Int) != 0) = true := by rw [bne_iff_ne]; omega
  have hz2 : ((Z : Int) == 0) = false := by rw [beq_eq_false_iff_ne]; omega
  clear k sc ht eT eR eZ h64 h0
  go_enter Tryz.func68, Tryz.ntmps68
  go_wp2_with fail
  refine H.out.mono ?_
  rintro e w1 ⟨rfl, f1⟩
  have F1 := Lib.hid f1
  clear f1
  go_wp2_with fail
  refine (HR.out _).mono ?_
  rintro e w2 ⟨rfl, f2⟩
  have F2 := Lib.hid (F1.out.trans0 f2)
  clear f2
  go_wp2_with fail
  go_ret3
  exact ⟨rfl, F2.out⟩
theorem dtell_yes (k : SkIs w g h s A m a) (hB : TellsK w g A B fB) (h64 : d < 18446744073709551616) (h0 : rkE x d (ltot a) = 0) (r : Nat) (hr : rkR x d (ltot a) = r) (hr64 : r < 18446744073709551616) :
    Calls Tryz.prog 68 #[.pointer (some ⟨g, 0, none⟩), .int .u64 (x : Nat), .int .u64 (d : Nat), .func (.func B) #[.pointer (some ⟨g, 0, none⟩)] #[]] w fun e w' => e = .returned (.tuple #[.int .i64 (fB (keyV (cutN a m) r)), .bool (vag a m r), .int .i64 0]) ∧ Fr S0 w w' := by
  obtain ⟨E, sc⟩ := k.col
  have ht := k.ok.tot
  have H := Lib.hid (ctotal_any g h m a w sc)
  have HR := Lib.hid (fun W => rank_any x d (ltot a) W (by omega) h64)
  have HKEY := Lib.hid (fun W (f : Fr S0 w W) => ckey_any g h m r a W (sc.fr0 f) hr64)
  have hin := keyV_in (r := r) k.ok (by have := k.m2; omega : 1 ≤ m) k.ks
  have HBB := Lib.hid (fun W (f : Fr S0 w W) => hB.2 _ W f hin.1 hin.2)
  have hcB := fun W => hB.1 #[.pointer (some ⟨g, 0, none⟩), .int .i64 (keyV (cutN a m) r)] W
  rw [hr, h0] at HR
  obtain ⟨T, eT⟩ : ∃ T, ltot a = T := ⟨_, rfl⟩
  rw [eT] at H HR
  obtain ⟨K, eK⟩ : ∃ K, keyV (cutN a m) r = K := ⟨_, rfl⟩
  obtain ⟨VG, eG⟩ : ∃ VG, vag a m r = VG := ⟨_, rfl⟩
  obtain ⟨KE, eE⟩ : ∃ KE, keyE (cutN a m) r = KE := ⟨_, rfl⟩
  obtain ⟨V, eV⟩ : ∃ V, fB K = V := ⟨_, rfl⟩
  rw [eK, eG, eE] at HKEY
  rw [eK, eV] at HBB
  rw [eK] at hcB
  rw [eK, eG, eV]
  clear k sc ht hr h0 eT h64 hB hin eK eG eE eV
  go_enter Tryz.func68, Tryz.ntmps68
  go_wp2_with fail
  refine H.out.mono ?_
  rintro e w1 ⟨rfl, f1⟩
  have F1 := Lib.hid f1
  clear f1 H
  go_wp2_with fail
  refine (HR.out _).mono ?_
  rintro e w2 ⟨rfl, f2⟩
  have F2 := Lib.hid (F1.out.trans0 f2)
  clear f2 HR F1
  go_wp2_with fail
  refine (HKEY.out _ F2.out).mono ?_
  rintro e w3 ⟨rfl, f3⟩
  have F3 := Lib.hid (F2.out.trans0 f3)
  clear f3 HKEY F2
  go_wp2_with fail
  refine (HBB.out _ F3.out).mono ?_
  rintro e w4 ⟨rfl, f4⟩
  have F4 := Lib.hid (F3.out.trans0 f4)
  clear f4 HBB F3
  go_wp2_with fail
  go_ret3
  exact ⟨rfl, F4.out⟩
def endsT (A : Nat) (a : List Pr) (m : Nat) : Value := if ltot a = 0 then .tuple #[.int .i64 0, .int .i64 0, .int .i64 8] else .tuple #[.int .i64 (rlow A (keyV (cutN a m) 1)), .int .i64 (rhigh A (keyV (cutN a m) (ltot a))), .int .i64 0]
theorem dends_any (k : SkIs w g h s A m a) : Calls Tryz.prog 36 #[.pointer (some ⟨g, 0, none⟩)] w fun e w' => e = .returned (endsT A a m) ∧ Fr S0 w w' := by
  have hmf : ∀ (fn : Fn) (first cap : Array Value) (w : World), (Instr.makeFunc fn first cap).run Tryz.prog w = .ok (.func fn first cap) w := fun _ _ _ _ => rfl
  unfold endsT
  by_cases h0 : ltot a = 0
  · rw [if_pos h0]
    have e0 : ∀ y, y ≤ 1 → rkE y 1 (ltot a) = 8 := fun y hy => by unfold rkE; rw [if_neg (by omega), if_pos h0]
    have H1 : Hid (∀ v, Calls Tryz.prog 68 #[.pointer (some ⟨g, 0, none⟩), .int .u64 0, .int .u64 1, v] w fun e w' => e = .returned (.tuple #[.int .i64 0, .bool false, .int .i64 8]) ∧ Fr S0 w w') := Lib.hid fun v => by
      have := dtell_no g h s A m a w 0 1 k (by decide) (by rw [e0 0 (by decide)]; decide) v
      rw [e0 0 (by decide)] at this
      exact this
    have H2 : Hid (∀ W, Fr S0 w W → ∀ v, Calls Tryz.prog 68 #[.pointer (some ⟨g, 0, none⟩), .int .u64 1, .int .u64 1, v] W fun e w' => e = .returned (.tuple #[.int .i64 0, .bool false, .int .i64 8]) ∧ Fr S0 W w') := Lib.hid fun W f v => by
      have := dtell_no g h s A m a W 1 1 (k.fr0 f) (by decide) (by rw [e0 1 (by decide)]; decide) v
      rw [e0 1 (by decide)] at this
      exact this
    clear k e0 h0
    go_enter Tryz.func36, Tryz.ntmps36
    go_wp2_with fail
    refine (H1.out _).mono ?_
    rintro e w1 ⟨rfl, f1⟩
    have F1 := Lib.hid f1
    clear f1
    go_wp2_with fail
    refine (H2.out _ F1.out _).mono ?_
    rintro e w2 ⟨rfl, f2⟩
    have F2 := Lib.hid (F1.out.trans0 f2)
    clear f2
    go_wp2_with fail
    go_ret3
    exact ⟨rfl, F2.out⟩
  · rw [if_neg h0]
    have ht := k.ok.tot
    obtain ⟨p, c, sc⟩ := k.sc
    have e0 : ∀ y, y ≤ 1 → rkE y 1 (ltot a) = 0 := fun y hy => by unfold rkE; rw [if_neg (by omega), if_neg h0]
    have r0 : rkR 0 1 (ltot a) = 1 := by unfold rkR; rw [if_neg (by omega), if_neg h0]; simp [rnk, clg]
    have r1 : rkR 1 1 (ltot a) = ltot a := by unfold rkR; rw [if_neg (by omega), if_neg h0]; exact rnk_full (by decide) (by omega)
    have hL : TellsK w g A 69 (rlow A) := ⟨has_low, fun k W f h1 h2 => sclow_any g A c p W k (sc.fr0 f) h1 h2⟩
    have hH : ∀ W, Fr S0 w W → TellsK W g A 70 (rhigh A) := fun W f => ⟨has_high, fun k W2 f2 h1 h2 => schigh_any g A c p W2 k ((sc.fr0 f).fr0 f2) h1 h2⟩
    have H1 := Lib.hid (dtell_yes g h s A m a w _ _ 0 1 k hL (by decide) (e0 0 (by decide)) 1 r0 (by decide))
    have H2 := Lib.hid (fun W (f : Fr S0 w W) => dtell_yes g h s A m a W _ _ 1 1 (k.fr0 f) (hH W f) (by decide) (e0 1 (by decide)) (ltot a) r1 (by omega))
    obtain ⟨X, eX⟩ : ∃ X, rlow A (keyV (cutN a m) 1) = X := ⟨_, rfl⟩
    obtain ⟨Y, eY⟩ : ∃ Y, rhigh A (keyV (cutN a m) (ltot a)) = Y := ⟨_, rfl⟩
    obtain ⟨V1, eV1⟩ : ∃ X, vag a m 1 = X := ⟨_, rfl⟩
    obtain ⟨V2, eV2⟩ : ∃ X, vag a m (ltot a) = X := ⟨_, rfl⟩
    rw [eX, eV1] at H1
    rw [eY, eV2] at H2
    rw [eX, eY]
    clear k e0 h0 sc r0 r1 hL hH eX eY eV1 eV2 ht
    go_enter Tryz.func36, Tryz.ntmps36
    go_wp2_with fail
    refine Calls.mono H1.out ?_
    rintro e w1 ⟨rfl, f1⟩
    have F1 := Lib.hid f1
    clear f1
    go_wp2_with fail
    refine Calls.mono (H2.out _ F1.out) ?_
    rintro e w2 ⟨rfl, f2⟩
    have F2 := Lib.hid (F1.out.trans0 f2)
    clear f2
    go_wp2_with fail
    go_ret3
    exact ⟨rfl, F2.out⟩
end
end Go.Proofs.YtaemgflhgdlmiaaGreat
