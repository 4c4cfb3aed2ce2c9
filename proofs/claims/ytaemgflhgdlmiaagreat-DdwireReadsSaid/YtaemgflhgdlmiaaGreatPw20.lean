/- ClSto, ClNew, ClWithin, ClAct -/
import Derived.Test.YtaemgflhgdlmiaaGreatPw1
import Derived.Test.YtaemgflhgdlmiaaGreatPw2
import Derived.Test.YtaemgflhgdlmiaaGreatPw4
import Derived.Test.YtaemgflhgdlmiaaGreatPw5
import Derived.Test.YtaemgflhgdlmiaaGreatPw6
import Derived.Test.YtaemgflhgdlmiaaGreatPw7
import Derived.Test.YtaemgflhgdlmiaaGreatPw8
import Derived.Test.YtaemgflhgdlmiaaGreatPw14
import Derived.Test.YtaemgflhgdlmiaaGreatPw15
import Derived.Test.YtaemgflhgdlmiaaGreatPw16
import Derived.Test.YtaemgflhgdlmiaaGreatPw17
import Derived.Test.YtaemgflhgdlmiaaGreatPw18
import Derived.Test.YtaemgflhgdlmiaaGreatPw19
import Derived.WalkKit
import Derived.WalkSpells
import Derived.WalkLawsBesides
import Derived.Deep.QuietTactic
import Derived.BigQuiet
import Derived.RegionTactic
import Derived.Deep.AppendLies
import Derived.Deep.RegionLaw
import Derived.Laws.ResultCell
import Derived.Laws.EntriesVeiled
import Derived.Lib.Hide
import Derived.Test.YtaemgflhgdlmiaaGreatRows
import Derived.StillTailTactics
import Derived.BigRegion
import Derived.Laws.BytesArg
import Derived.Lib.SlBytesConst
import Derived.Maps.AppendAt
import Derived.Laws.AppendOwnNone
import Derived.Deep.RegionHeld3
import Derived.Lib.SliceRun
import Derived.Lib.AppendZeros
import Derived.Laws.CopyOwn
import Derived.Lib.Overlaps
import Derived.Laws.Externs
import Derived.Lib.AppendZerosOnto
import Derived.Laws.OwnMore
set_option maxRecDepth 100000
set_option maxHeartbeats 8000000
namespace Go.Proofs.YtaemgflhgdlmiaaGreat
open Go.RowKit
variable {E F : Ex}
section
variable {X : Sx} {w w' : World} {g h : Nat} {p : Option Addr} {n c T : Nat} {l : List Pr}
theorem Raw.cb (r : Raw X w g p n c T) : w.cell? ⟨g, 2, none⟩ = some (.int .i64 (X.b : Int)) := by simp [World.cell?, r.blk]
theorem Raw.ck (r : Raw X w g p n c T) : w.cell? ⟨g, 5, none⟩ = some (.int .i64 X.k) := by simp [World.cell?, r.blk]
theorem Raw.cf (r : Raw X w g p n c T) : w.cell? ⟨g, 6, none⟩ = some (.int .u64 (X.f : Int)) := by simp [World.cell?, r.blk]
theorem Raw.setk (r : Raw X w g p n c T) (k : Int) : Raw ⟨X.b, k, X.f, X.e⟩ (w.setCell ⟨g, 5, none⟩ (.int .i64 k)) g p n c T := ⟨by rw [heap_setCell_same w g 5 _ _ _ r.blk]; rfl⟩
theorem Raw.setf (r : Raw X w g p n c T) (f : Nat) : Raw ⟨X.b, X.k, f, X.e⟩ (w.setCell ⟨g, 6, none⟩ (.int .u64 (f : Int))) g p n c T := ⟨by rw [heap_setCell_same w g 6 _ _ _ r.blk]; rfl⟩
theorem StIs.other {Y : Sx} (s : StIs X w g h l) (f : Fr (· = g) w w') (hr : ∀ p n c T, Raw X w g p n c T → Raw Y w' g p n c T) : StIs Y w' g h l := by
  obtain ⟨p, n, c, s⟩ := s
  exact ⟨p, n, c, hr _ _ _ _ s.raw, f.owns s.own fun b hb e => by
    cases p with
    | none => cases hb
    | some a => exact s.apart (by simp) ((s.row a rfl).symm.trans ((Option.some.inj hb).trans e)), s.row, s.apart, s.ok⟩
theorem StIs.setkf (s : StIs X w g h l) (k : Int) (f : Nat) : StIs ⟨X.b, k, f, X.e⟩ ((w.setCell ⟨g, 5, none⟩ (.int .i64 k)).setCell ⟨g, 6, none⟩ (.int .u64 (f : Int))) g h l :=
  s.other ((Fr.setCell (· = g) _ _ _ rfl).trans (Fr.setCell (· = g) _ _ _ rfl) fun _ _ h => h) fun _ _ _ _ r => (r.setk k).setf f
theorem StIs.cells (s : StIs X w g h l) : ∃ p n c T, Raw X w g p n c T := let ⟨p, n, c, s⟩ := s; ⟨p, n, c, _, s.raw⟩
theorem StIs.cb (s : StIs X w g h l) : w.cell? ⟨g, 2, none⟩ = some (.int .i64 (X.b : Int)) := let ⟨_, _, _, _, r⟩ := s.cells; r.cb
theorem StIs.ck (s : StIs X w g h l) : w.cell? ⟨g, 5, none⟩ = some (.int .i64 X.k) := let ⟨_, _, _, _, r⟩ := s.cells; r.ck
theorem StIs.cf (s : StIs X w g h l) : w.cell? ⟨g, 6, none⟩ = some (.int .u64 (X.f : Int)) := let ⟨_, _, _, _, r⟩ := s.cells; r.cf
theorem StIs.fz (s : StIs X w g h l) (i : Nat) : w.frozen? ⟨g, i, none⟩ = false := let ⟨_, _, _, _, r⟩ := s.cells; r.fz i
end
structure ColK (E : Ex) (w : World) (g h m : Nat) (k : Int) (a : List Pr) : Prop where
  is : StIs ⟨m, k, cutA a m, E⟩ w g h (cutN a m)
  key : cutA a m ≠ 0 → k = hk (cutN a m)
  ok : Good a
  m2 : 2 ≤ m
  m3 : m ≤ 4096
def Col (E : Ex) (w : World) (g h m : Nat) (a : List Pr) : Prop := ∃ k, ColK E w g h m k a
theorem Col.fr {S : Nat → Prop} {w w' : World} {g h m : Nat} {a : List Pr} (s : Col E w g h m a) (f : Fr S w w') (h1 : ¬ S g) (h2 : ¬ S h) : Col E w' g h m a :=
  let ⟨k, s⟩ := s; ⟨k, s.is.fr f h1 h2, s.key, s.ok, s.m2, s.m3⟩
theorem Col.fr0 {w w' : World} {g h m : Nat} {a : List Pr} (s : Col E w g h m a) (f : Fr S0 w w') : Col E w' g h m a := s.fr f (fun h => h) fun h => h
theorem Col.ok {w : World} {g h m : Nat} {a : List Pr} (s : Col E w g h m a) : Good a := let ⟨_, s⟩ := s; s.ok
theorem Col.lt {w : World} {g h m : Nat} {a : List Pr} (s : Col E w g h m a) : g < w.heap.size := let ⟨_, s⟩ := s; s.is.lt
theorem Col.m2 {w : World} {g h m : Nat} {a : List Pr} (s : Col E w g h m a) : 2 ≤ m := let ⟨_, s⟩ := s; s.m2
theorem Col.m3 {w : World} {g h m : Nat} {a : List Pr} (s : Col E w g h m a) : m ≤ 4096 := let ⟨_, s⟩ := s; s.m3
structure TurnC (E : Ex) (w w' : World) (g h h' m : Nat) (a : List Pr) : Prop where
  sto : Col E w' g h' m a
  row : h' = h ∨ (w.heap.size ≤ h' ∧ h' < w'.heap.size)
  fr : Fr (fun x => x = g ∨ x = h) w w'
theorem TurnC.same {w w' : World} {g h m : Nat} {a : List Pr} (s : Col E w g h m a) (f : Fr S0 w w') : TurnC E w w' g h h m a := ⟨s.fr0 f, .inl rfl, f.mono fun _ _ h => h.elim⟩
section
variable (g h m : Nat) (a : List Pr) (w : World)
theorem ctotal_any (s : Col E w g h m a) : Calls Tryz.prog 52 #[.pointer (some ⟨g, 2, none⟩)] w fun e w' => e = .returned (.int .u64 (ltot a : Nat)) ∧ Fr S0 w w' := by
  obtain ⟨k, s⟩ := s
  have H := total_any g h _ w s.is
  rw [cut_tot s.ok.srt s.ok.pos (by have := s.m2; omega)] at H
  have H := Lib.hid H
  clear s
  go_enter Tryz.func52, Tryz.ntmps52
  go_wp2_with fail
  refine H.out.mono ?_
  rintro e w1 ⟨rfl, f1⟩
  have F := Lib.hid f1
  clear f1
  go_wp2_with fail
  go_ret
  exact ⟨rfl, F.out⟩
theorem cpairs_any (s : Col E w g h m a) : Calls Tryz.prog 43 #[.pointer (some ⟨g, 2, none⟩)] w fun e w' => ∃ p c n, e = .returned (.slice p n c) ∧ PrsNew w w' p c n (cutN a m) := by
  obtain ⟨k, s⟩ := s
  have H := Lib.hid (pairs_any g h _ w s.is)
  clear s
  go_enter Tryz.func43, Tryz.ntmps43
  go_wp2_with fail
  refine H.out.mono ?_
  rintro e w1 ⟨p, c, n, rfl, f1⟩
  have F := Lib.hid f1
  clear f1
  go_wp2_with fail
  go_ret
  exact ⟨p, c, n, rfl, F.out⟩
theorem cfolded_any (s : Col E w g h m a) : Calls Tryz.prog 44 #[.pointer (some ⟨g, 2, none⟩)] w fun e w' => e = .returned (.int .u64 (cutA a m : Nat)) ∧ Fr S0 w w' := by
  obtain ⟨k, s⟩ := s
  have c4 : w.cell? ⟨g, 6, none⟩ = some (.int .u64 (cutA a m : Nat)) := s.is.cf
  clear s
  obtain ⟨F, hF⟩ : ∃ F, cutA a m = F := ⟨_, rfl⟩
  rw [hF] at c4 ⊢
  clear hF
  go_enter Tryz.func44, Tryz.ntmps44
  go_wp2_with fail
  go_ret
  exact ⟨rfl, Fr.refl _ _⟩
theorem cbudget_any (s : Col E w g h m a) : Calls Tryz.prog 42 #[.pointer (some ⟨g, 2, none⟩)] w fun e w' => e = .returned (.int .i64 (m : Nat)) ∧ Fr S0 w w' := by
  obtain ⟨k, s⟩ := s
  have c0 : w.cell? ⟨g, 2, none⟩ = some (.int .i64 (m : Nat)) := s.is.cb
  clear s
  go_enter Tryz.func42, Tryz.ntmps42
  go_wp2_with fail
  go_ret
  exact ⟨rfl, Fr.refl _ _⟩
end
def vag (a : List Pr) (m r : Nat) : Bool := decide (keyE (cutN a m) r = 0 ∧ cutA a m ≠ 0 ∧ keyW (cutN a m) r = hk (cutN a m))
section
variable (g h m r : Nat) (a : List Pr) (w : World)
theorem ckey_any (s : Col E w g h m a) (hr : r < 18446744073709551616) : Calls Tryz.prog 92 #[.pointer (some ⟨g, 2, none⟩), .int .u64 (r : Nat)] w fun e w' => e = .returned (.tuple #[.int .i64 (keyV (cutN a m) r), .bool (vag a m r), .int .i64 (keyE (cutN a m) r : Nat)]) ∧ Fr S0 w w' := by
  obtain ⟨k', s⟩ := s
  have H := key_any g h r _ w s.is hr
  have c3 : w.cell? ⟨g, 5, none⟩ = some (.int .i64 k') := s.is.ck
  have c4 : w.cell? ⟨g, 6, none⟩ = some (.int .u64 (cutA a m : Nat)) := s.is.cf
  have hkey := s.key
  clear s
  obtain ⟨F, hF⟩ : ∃ F, cutA a m = F := ⟨_, rfl⟩
  obtain ⟨E, hE⟩ : ∃ E, keyE (cutN a m) r = E := ⟨_, rfl⟩
  obtain ⟨V, hV⟩ : ∃ V, keyV (cutN a m) r = V := ⟨_, rfl⟩
  rw [hE, hV] at H ⊢
  rw [hF] at c4 hkey
  by_cases h0 : E = 0
  · subst h0
    have eV : keyW (cutN a m) r = V := by rw [← hV]; unfold keyV; rw [if_pos hE]
    have HV : Hid (vag a m r = decide (F ≠ 0 ∧ V = hk (cutN a m))) := Lib.hid (by unfold vag; rw [hE, hF, eV]; simp)
    by_cases hf : F = 0
    · subst hf
      have HV2 : Hid (vag a m r = false) := Lib.hid (by rw [HV.out]; simp)
      have H := Lib.hid H
      clear hkey HV eV hE hV hF
      go_enter Tryz.func92, Tryz.ntmps92
      go_wp2_with fail
      refine H.out.mono ?_
      rintro e w1 ⟨rfl, f1⟩
      have F1 := Lib.hid f1
      have d3 := f1.cell c3 (fun h => h)
      have d4 := f1.cell c4 (fun h => h)
      clear f1 c3 c4 H
      go_wp2_with fail
      go_quiet (fail)
      go_wp2_with fail
      go_ret3
      exact ⟨by rw [HV2.out]; rfl, F1.out.trans0 (Fr.drewN _ _ _)⟩
    · have hfp : decide (0 < (F : Int)) = true := decide_eq_true (by omega)
      have hfp2 : decide (0 < F) = true := decide_eq_true (by omega)
      have hfb : (0 : Int) < (F : Int) := by omega
      have ek := hkey hf
      obtain ⟨B, hB⟩ : ∃ B, (V == k') = B := ⟨_, rfl⟩
      have HV2 : Hid (vag a m r = B) := Lib.hid (by
        rw [HV.out, ← ek, ← hB]
        by_cases e : V = k' <;> simp [e, hf])
      have H := Lib.hid H
      clear hkey HV eV hE hV hF ek hf
      go_enter Tryz.func92, Tryz.ntmps92
      go_wp2_with fail
      refine H.out.mono ?_
      rintro e w1 ⟨rfl, f1⟩
      have F1 := Lib.hid f1
      have d3 := f1.cell c3 (fun h => h)
      have d4 := f1.cell c4 (fun h => h)
      clear f1 c3 c4 H
      go_wp2_with fail
      go_quiet (fail)
      go_wp2_with fail
      go_ret3
      exact ⟨by rw [HV2.out]; rfl, F1.out.trans0 (Fr.drewN _ _ _)⟩
  · have eV : V = 0 := by rw [← hV]; unfold keyV; rw [hE, if_neg h0]
    subst eV
    have HV2 : Hid (vag a m r = false) := Lib.hid (by unfold vag; rw [hE]; simp [h0])
    have hEb : ((E : Int) == 0) = false := by rw [beq_eq_false_iff_ne]; omega
    have H := Lib.hid H
    clear hkey hE hV hF h0
    go_enter Tryz.func92, Tryz.ntmps92
    go_wp2_with fail
    refine H.out.mono ?_
    rintro e w1 ⟨rfl, f1⟩
    have F1 := Lib.hid f1
    clear f1 H
    go_wp2_with fail
    go_ret3
    exact ⟨by rw [HV2.out]; rfl, F1.out⟩
end
end Go.Proofs.YtaemgflhgdlmiaaGreat

namespace Go.Proofs.YtaemgflhgdlmiaaGreat
open Go.RowKit
variable {E F : Ex}
theorem has_cadd : Has 80 := fun _ _ => by kernel_rfl
theorem cut_nil (m : Nat) : cutN [] m = [] ∧ cutA [] m = 0 := ⟨cut_none (Nat.zero_le _), cutA_none (Nat.zero_le _)⟩
section
variable {X : Sx} (g h n b c : Nat) (k : Int) (l : List Pr) (w : World)
theorem add1_any (hn : n < 18446744073709551616) (s : StIs X w g h l) (hb : w.cell? ⟨b, 0, none⟩ = some (.int .i64 k)) (hc : w.cell? ⟨c, 0, none⟩ = some (.int .u64 (n : Nat))) :
    Calls Tryz.prog 80 #[.pointer (some ⟨g, 3, none⟩), .pointer (some ⟨b, 0, none⟩), .pointer (some ⟨c, 0, none⟩)] w fun e w' => e = .returned (.int .i64 (addE0 l k n : Nat)) ∧ ∃ h', Turned X w w' g h h' (addL0 l k n) := by
  have H := Lib.hid (add_any g h n k l w hn s)
  clear s hn
  go_enter Tryz.func80, Tryz.ntmps80
  go_wp2_with fail
  refine H.out.mono ?_
  rintro e w1 ⟨rfl, h', t⟩
  have T := Lib.hid t
  clear t
  go_wp2_with fail
  go_ret
  exact ⟨rfl, h', T.out⟩
end
section
variable {X Y : Sx} (g h g2 h2 b : Nat) (l l2 : List Pr) (w : World)
end
end Go.Proofs.YtaemgflhgdlmiaaGreat

namespace Go.Proofs.YtaemgflhgdlmiaaGreat
open Go.RowKit
variable {E F : Ex}
theorem Turned.back {X : Sx} {w W w' : World} {g h h' : Nat} {l : List Pr} (f : Fr S0 w W) (t : Turned X W w' g h h' l) : Turned X w w' g h h' l :=
  ⟨t.sto, t.row.imp id fun ⟨a, b⟩ => ⟨Nat.le_trans f.size a, b⟩, (f.mono fun _ _ h => h.elim).trans t.fr fun _ _ h => h⟩
theorem Turned.then {X Y : Sx} {w w1 w2 : World} {g h h1 h2 : Nat} {l l2 : List Pr} (t : Turned X w w1 g h h1 l) (u : Turned Y w1 w2 g h1 h2 l2) : Turned Y w w2 g h h2 l2 := by
  have hs := u.fr.size
  refine ⟨u.sto, ?_, t.fr.trans u.fr fun x hx e => ?_⟩
  · rcases u.row with rfl | ⟨a, b⟩
    · exact t.row.imp id fun ⟨a, b⟩ => ⟨a, by omega⟩
    · exact .inr ⟨Nat.le_trans t.fr.size a, b⟩
  · rcases e with e | e
    · exact .inl e
    · rcases t.row with rfl | ⟨a, b⟩
      · exact .inr e
      · omega
theorem Turned.on {X : Sx} {w w1 w2 : World} {g h h1 : Nat} {l : List Pr} (t : Turned X w w1 g h h1 l) (f : Fr S0 w1 w2) : Turned X w w2 g h h1 l :=
  ⟨t.sto.fr0 f, t.row.imp id fun ⟨a, b⟩ => ⟨a, Nat.lt_of_lt_of_le b f.size⟩, t.fr.trans0 f⟩
theorem Turned.setkf {X : Sx} {w w1 : World} {g h h1 : Nat} {l : List Pr} (t : Turned X w w1 g h h1 l) (k : Int) (f : Nat) :
    Turned ⟨X.b, k, f, X.e⟩ w ((w1.setCell ⟨g, 5, none⟩ (.int .i64 k)).setCell ⟨g, 6, none⟩ (.int .u64 (f : Int))) g h h1 l := by
  have fr : Fr (· = g) w1 ((w1.setCell ⟨g, 5, none⟩ (.int .i64 k)).setCell ⟨g, 6, none⟩ (.int .u64 (f : Int))) := (Fr.setCell (· = g) _ _ _ rfl).trans (Fr.setCell (· = g) _ _ _ rfl) fun _ _ h => h
  exact ⟨t.sto.setkf k f, t.row.imp id fun ⟨a, b⟩ => ⟨a, Nat.lt_of_lt_of_le b fr.size⟩, t.fr.trans fr fun _ _ e => .inl e⟩
theorem keyV_one {l : List Pr} (hp : Pos l) : keyV l 1 = hk l := by
  cases l with
  | nil => rfl
  | cons x r =>
    have := (pos_cons.1 hp).1
    have e : keyE (x :: r) 1 = 0 := by
      unfold keyE
      rw [if_neg (by simp), if_neg (by rw [ltot]; omega)]
    unfold keyV
    rw [if_pos e, hk_key hp]
theorem many_le : ∀ (l : List Pr) (k : Int), many l k ≤ ltot l
  | [], _ => Nat.le_refl _
  | x :: r, k => by
    have := many_le r k
    rw [many, ltot]
    split <;> omega
theorem many_take {l : List Pr} {k : Int} {j : Nat} (h : j < l.length) : many (l.take (j + 1)) k = many (l.take j) k + if l[j].1 = k then l[j].2 else 0 := by
  rw [List.take_succ_eq_append_getElem h, many_app, many, many]
  rfl
theorem many_take_le (l : List Pr) (k : Int) (j : Nat) : many (l.take j) k ≤ ltot l := Nat.le_trans (many_le _ _) (tot_take_le l j)
theorem cutA_le (l : List Pr) (m : Nat) : cutA l m ≤ ltot l := tot_take_le l _
section
variable {X : Sx} (C E g h m b nf : Nat) (x : Value) (l l1 fl : List Pr) (w : World)
end
section
variable {X : Sx} (C E g h m b nf : Nat) (x y : Value) (l l1 fl : List Pr) (w : World)
theorem within2_any (hC : Has C) (s : StIs X w g h l) (hX : X.b = m) (hm : 2 ≤ m ∧ m ≤ 4096) (hfl : PrI w (some ⟨b, 0, none⟩) fl) (hnf : fl.length = nf) (hb : b ≠ g ∧ b ≠ h ∧ b < w.heap.size) (hE : E < 9223372036854775808) (hsum : ltot l1 + ltot fl < 18446744073709551616) (hnf2 : nf ≤ 2)
    (hact : Calls Tryz.prog C #[.pointer (some ⟨g, 3, none⟩), x, y] w fun e w' => e = .returned (.int .i64 (E : Nat)) ∧ ∃ h', Turned X w w' g h h' l1) :
    Calls Tryz.prog 79 #[.pointer (some ⟨g, 2, none⟩), .func (.func C) #[] #[x, y], .slice (some ⟨b, 0, none⟩) nf nf] w fun e w' => e = .returned (.int .i64 (E : Nat)) ∧ ∃ h',
      (E ≠ 0 ∧ Turned X w w' g h h' l1) ∨ (E = 0 ∧ Turned ⟨m, hk (cutN l1 m), cutA l1 m + many fl (hk (cutN l1 m)), X.e⟩ w w' g h h' (cutN l1 m)) := by
  have HA := Lib.hid hact
  have hcf := hC #[.pointer (some ⟨g, 3, none⟩), x, y] w
  have HS := Lib.hid s.lt
  have HB := Lib.hid hb
  have HFL := Lib.hid hfl
  have HN := Lib.hid hnf
  have HSU := Lib.hid hsum
  have HXB := Lib.hid hX
  by_cases hE0 : E = 0
  · subst hE0
    clear hact hC s hX hfl hnf hb hE hsum
    go_enter Tryz.func79, Tryz.ntmps79
    go_wp2_with fail
    refine HA.out.mono ?_
    rintro e w1 ⟨rfl, h1, t1⟩
    have T1 := Lib.hid t1
    have hbl := HFL.out
    have HFL1 : Hid (PrI w1 (some ⟨b, 0, none⟩) fl) := Lib.hid (HFL.out.fr t1.fr fun a ha e => by
      obtain rfl := Option.some.inj ha
      rcases e with e | e
      · exact HB.out.1 e
      · exact HB.out.2.1 e)
    have c0 : w1.cell? ⟨g, 2, none⟩ = some (.int .i64 (m : Nat)) := by have := t1.sto.cb; rwa [HXB.out] at this
    have emost : most (m : Int) = m := by unfold most; omega
    have HCUT : Hid (∀ W, Fr S0 w1 W → Calls Tryz.prog 103 #[.pointer (some ⟨g, 3, none⟩), .int .i64 (m : Nat)] W fun e w' => e = .returned (.int .u64 (cutA l1 m : Nat)) ∧ ∃ h2, Turned X w1 w' g h1 h2 (cutN l1 m)) := Lib.hid fun W f => by
      have := cut_any g h1 (m : Int) l1 W (by omega) (T1.out.sto.fr0 f)
      rw [emost] at this
      exact this.mono fun e w' he => ⟨he.1, he.2.imp fun h2 t => t.back f⟩
    have HOK := Lib.hid t1.sto.ok
    clear t1 hbl HA HFL hcf emost
    obtain ⟨A, hA⟩ : ∃ A, cutA l1 m = A := ⟨_, rfl⟩
    rw [hA] at HCUT
    have HAA := Lib.hid hA
    clear hA
    go_wp2_with fail
    go_region_law (first
      | (go_simp; go_at_call 103; (with_reducible refine (HCUT.out _ (Fr.drew _ _)).mono ?_); rintro _ w2 ⟨rfl, h2, t2⟩; have T2 := Lib.hid t2; clear t2 c0 HCUT; dsimp only))
    all_goals
      have HKEY := Lib.hid (key_any g h2 1 _ w2 T2.out.sto (by decide))
      rw [keyV_one T2.out.sto.ok.pos] at HKEY
      have HFL2 : Hid (PrI w2 (some ⟨b, 0, none⟩) fl) := Lib.hid (HFL1.out.fr T2.out.fr fun a ha e => by
        obtain rfl := Option.some.inj ha
        rcases e with e | e
        · exact HB.out.1 e
        · rcases T1.out.row with h3 | h3
          · exact HB.out.2.1 (e.trans h3)
          · have e2 : b = h1 := e; have := HB.out.2.2; omega)
      obtain ⟨q, hq⟩ : ∃ q, hk (cutN l1 m) = q := ⟨_, rfl⟩
      obtain ⟨KE, hKE⟩ : ∃ KE, keyE (cutN l1 m) 1 = KE := ⟨_, rfl⟩
      rw [hq, hKE] at HKEY
      have HQ := Lib.hid hq
      have HT2 := Lib.hid (T1.out.then T2.out)
      clear HFL1 T1 T2 hKE hq
      go_wp2_with fail
      refine HKEY.out.mono ?_
      rintro e w3 ⟨rfl, f3⟩
      have T3 := Lib.hid (HT2.out.on f3)
      have HFL3 := Lib.hid (HFL2.out.fr0 f3)
      clear f3 HKEY HT2 HFL2
      go_wp2_with fail
      go_loopw [8, 12, 38] (fun s _ i wr => ∃ j N : Nat, j ≤ nf ∧ i = .int .i64 j ∧ s = .int .u64 N ∧ Hid (A + many (fl.take j) q = N) ∧ Hid (Fr S0 w3 wr)) (fun _ _ i _ => nf - (intOf i).toNat)
      case atStart => exact ⟨0, A, by omega, rfl, rfl, Lib.hid rfl, Lib.hid (Fr.refl _ _)⟩
      case round =>
        obtain ⟨j, N, hj, rfl, rfl, hN, hfr⟩ := hrel
        by_cases hjn : (j : Int) < (nf : Int)
        · have hjl : j < fl.length := by rw [HN.out]; omega
          obtain ⟨b', o', hp, d0, d1⟩ := (HFL3.out.fr0 hfr.out).at j hjl
          simp only [Option.some.injEq, Addr.mk.injEq] at hp
          obtain ⟨rfl, rfl, -⟩ := hp
          rw [Nat.zero_add] at d0 d1
          have e1 := many_take (k := q) hjl
          have hle := many_take_le fl q (j + 1)
          have hA2 := cutA_le l1 m
          rw [HAA.out] at hA2
          obtain ⟨⟨tk, tn⟩, ht⟩ : ∃ t, fl[j] = t := ⟨_, rfl⟩
          rw [ht] at d0 d1 e1
          simp only at d0 d1 e1
          by_cases hkq : tk = q
          · subst hkq
            rw [if_pos rfl] at e1
            obtain ⟨N', hN'⟩ : ∃ N', N + tn = N' := ⟨_, rfl⟩
            have HN2 : Hid (A + many (fl.take (j + 1)) tk = N') := Lib.hid (by have := hN.out; omega)
            have hlt : (N' : Int) < 18446744073709551616 := by have := hN.out; have := HSU.out; omega
            have esum : (N : Int) + (tn : Int) = (N' : Int) := by omega
            have hbq : (tk == tk) = true := beq_self_eq_true tk
            clear e1 hle hA2 ht hN' hN
            go_wp2_with fail
            go_roundw
            case rel => exact ⟨j + 1, N', by omega, by go_num, by go_num, HN2, Lib.hid (hfr.out.trans0 (Fr.alloc _ _ _))⟩
            case measure => simp [intOf]; omega
          · rw [if_neg hkq] at e1
            have HN2 : Hid (A + many (fl.take (j + 1)) q = N) := Lib.hid (by have := hN.out; omega)
            have hbq : (tk == q) = false := by rw [beq_eq_false_iff_ne]; exact hkq
            clear e1 hle hA2 ht hN hkq
            go_wp2_with fail
            go_roundw
            case rel => exact ⟨j + 1, N, by omega, by go_num, by go_num, HN2, Lib.hid (hfr.out.trans0 (Fr.alloc _ _ _))⟩
            case measure => simp [intOf]; omega
        · obtain rfl : j = nf := by omega
          have hN2 := hN.out
          rw [← HN.out, List.take_length] at hN2
          have HN2 := Lib.hid hN2
          have T4 := Lib.hid ((T3.out.on hfr.out).setkf q N)
          have z3 := (T3.out.on hfr.out).sto.fz 5
          obtain ⟨_, _, _, _, r⟩ := (T3.out.on hfr.out).sto.cells
          have c3 := r.ck
          have c4 := (r.setk q).cf
          have z4 := (r.setk q).fz 6
          clear hN2 hN hfr T3 HFL3 r
          go_wp2_with fail
          go_ret
          refine ⟨rfl, h2, ?_⟩
          have := T4.out
          rw [HXB.out] at this
          rw [HQ.out, HAA.out, HN2.out]
          exact this
  · have hEb : ((E : Int) == 0) = false := by rw [beq_eq_false_iff_ne]; omega
    have hEb2 : ((E : Int) != 0) = true := by rw [bne_iff_ne]; omega
    have HE0 := Lib.hid hE0
    clear hact hC s hX hfl hnf hb hsum hE0
    go_enter Tryz.func79, Tryz.ntmps79
    go_wp2_with fail
    refine HA.out.mono ?_
    rintro e w1 ⟨rfl, h1, t1⟩
    have T1 := Lib.hid t1
    clear t1 HA hcf
    go_wp2_with fail
    go_ret
    exact ⟨rfl, h1, .inl ⟨HE0.out, T1.out⟩⟩
end
end Go.Proofs.YtaemgflhgdlmiaaGreat

namespace Go.Proofs.YtaemgflhgdlmiaaGreat
open Go.RowKit
variable {E F : Ex}
theorem pri_one {W : World} {g : Nat} {k : Int} {n : Nat} {t : TypeId} (hb : W.heap[g]? = some (.cells #[.int .i64 k, .int .u64 (n : Nat)] t (0, 0))) : PrI W (some ⟨g, 0, none⟩) [(k, n)] := by
  refine ⟨by unfold maxLen; simp only [List.length_cons, List.length_nil]; omega, fun _ => ⟨g, 0, rfl, fun i hi => ?_⟩⟩
  have hi' : i < 1 := hi
  obtain rfl : i = 0 := by omega
  simp [World.cell?, hb]
theorem cell_row {w : World} {g : Nat} {v : Value} {t : TypeId} (h : w.heap[g]? = some (.cells #[v] t (0, 0))) : w.cell? ⟨g, 0, none⟩ = some v := by simp [World.cell?, h]
theorem addE0_cut {a : List Pr} {m : Nat} (hs : Srt a) (hp : Pos a) (hm : 1 ≤ m) (k : Int) (n : Nat) : addE0 (cutN a m) k n = addE0 a k n := by unfold addE0; rw [cut_tot hs hp hm]
theorem addE0_lt (l : List Pr) (k : Int) (n : Nat) : addE0 l k n < 9223372036854775808 := by unfold addE0; split <;> (try split) <;> (try split) <;> omega
theorem Good.addL {a : List Pr} (h : Good a) (k : Int) (n : Nat) : Good (addL0 a k n) := by
  unfold addL0
  by_cases e : addE0 a k n = 0
  · rw [if_pos e]
    obtain ⟨h1, h2, h3⟩ := addE0_zero e
    exact h.put h1 (h3 h.tot) h2
  · rw [if_neg e]; exact h
theorem col_add {W w' : World} {g h h' m n : Nat} {k0 k : Int} {a : List Pr} (ok : Good a) (m2 : 2 ≤ m) (m3 : m ≤ 4096) (key : cutA a m ≠ 0 → k0 = hk (cutN a m)) (X : Sx) (hX : X = ⟨m, k0, cutA a m, E⟩)
    (t : (addE0 a k n ≠ 0 ∧ Turned X W w' g h h' (addL0 (cutN a m) k n)) ∨ (addE0 a k n = 0 ∧ Turned ⟨m, hk (cutN (addL0 (cutN a m) k n) m), cutA (addL0 (cutN a m) k n) m + many [(k0, cutA a m)] (hk (cutN (addL0 (cutN a m) k n) m)), E⟩ W w' g h h' (cutN (addL0 (cutN a m) k n) m))) :
    TurnC E W w' g h h' m (addL0 a k n) := by
  subst hX
  have eE := addE0_cut ok.srt ok.pos (by omega : 1 ≤ m) k n
  have hg := ok.addL k n
  unfold addL0 at t hg ⊢
  rw [eE] at t
  rcases t with ⟨h0, t⟩ | ⟨h0, t⟩
  · rw [if_neg h0] at t hg ⊢
    exact ⟨⟨k0, t.sto, key, hg, m2, m3⟩, t.row, t.fr⟩
  · rw [if_pos h0] at t hg ⊢
    obtain ⟨f1, f2⟩ := fold_add (k := k) (n := n) ok.srt ok.pos (addE0_zero h0).1 (by omega : 1 ≤ m) key
    rw [f1] at t
    have e : cutA (lput (cutN a m) k n) m + many [(k0, cutA a m)] (hk (cutN (lput a k n) m)) = cutA (lput a k n) m := by
      rw [f2, many, many]; simp only; omega
    rw [e] at t
    exact ⟨⟨_, t.sto, fun _ => rfl, hg, m2, m3⟩, t.row, t.fr⟩
theorem TurnC.back {w W w' : World} {g h h' m : Nat} {l : List Pr} (f : Fr S0 w W) (t : TurnC E W w' g h h' m l) : TurnC E w w' g h h' m l :=
  ⟨t.sto, t.row.imp id fun ⟨a, b⟩ => ⟨Nat.le_trans f.size a, b⟩, (f.mono fun _ _ h => h.elim).trans t.fr fun _ _ h => h⟩
section
variable (g h m n : Nat) (k : Int) (a : List Pr) (w : World)
theorem cadd_any (hn : n < 18446744073709551616) (s : Col E w g h m a) (hh : h < w.heap.size) :
    Calls Tryz.prog 51 #[.pointer (some ⟨g, 2, none⟩), .int .i64 k, .int .u64 (n : Nat)] w fun e w' => e = .returned (.int .i64 (addE0 a k n : Nat)) ∧ ∃ h', TurnC E w w' g h h' m (addL0 a k n) := by
  obtain ⟨k0, s⟩ := s
  have c3 : w.cell? ⟨g, 5, none⟩ = some (.int .i64 k0) := s.is.ck
  have c4 : w.cell? ⟨g, 6, none⟩ = some (.int .u64 (cutA a m : Nat)) := s.is.cf
  have hgl := s.is.lt
  obtain ⟨F, hF⟩ : ∃ F, cutA a m = F := ⟨_, rfl⟩
  rw [hF] at c4
  have f1 := Fr.alloc S0 w (.cells #[.int .i64 k] 3)
  have f2 := f1.trans0 (Fr.alloc S0 _ (.cells #[.int .u64 (n : Nat)] 51))
  have f3 := f2.trans0 (Fr.alloc S0 _ (.cells #[.int .i64 k0, .int .u64 (F : Nat)] 97))
  have x3 := f2.cell c3 (fun h => h)
  have x4 := f2.cell c4 (fun h => h)
  have b1 := heap_alloc_new w (.cells #[.int .i64 k] 3)
  have b2 := heap_alloc_new (w.alloc (.cells #[.int .i64 k] 3)) (.cells #[.int .u64 (n : Nat)] 51)
  have b3 := heap_alloc_new ((w.alloc (.cells #[.int .i64 k] 3)).alloc (.cells #[.int .u64 (n : Nat)] 51)) (.cells #[.int .i64 k0, .int .u64 (F : Nat)] 97)
  have g1 := ((Fr.alloc S0 _ (.cells #[.int .u64 (n : Nat)] 51)).trans0 (Fr.alloc S0 _ (.cells #[.int .i64 k0, .int .u64 (F : Nat)] 97))).row b1 (fun h => h)
  have g2 := (Fr.alloc S0 _ (.cells #[.int .i64 k0, .int .u64 (F : Nat)] 97)).row b2 (fun h => h)
  have hE := addE0_cut s.ok.srt s.ok.pos (by have := s.m2; omega : 1 ≤ m) k n
  have hact := add1_any g h n w.heap.size (w.alloc (.cells #[.int .i64 k] 3)).heap.size k (cutN a m) _ hn (s.is.fr0 f3) (cell_row g1) (cell_row g2)
  rw [hE] at hact
  have hgood : Good (addL0 (cutN a m) k n) := (s.ok.cut (by have := s.m2; omega)).addL k n
  have HW := within2_any 80 (addE0 a k n) g h m ((w.alloc (.cells #[.int .i64 k] 3)).alloc (.cells #[.int .u64 (n : Nat)] 51)).heap.size 1 (.pointer (some ⟨w.heap.size, 0, none⟩)) (.pointer (some ⟨(w.alloc (.cells #[.int .i64 k] 3)).heap.size, 0, none⟩)) (cutN a m) (addL0 (cutN a m) k n) [(k0, F)] _ has_cadd (s.is.fr0 f3) rfl ⟨s.m2, s.m3⟩ (pri_one b3) rfl
    (by simp only [size_alloc]; omega) (addE0_lt _ _ _) (by have := hgood.tot; have := cutA_le a m; have := s.ok.tot; simp only [ltot]; omega) (by omega) hact
  simp only [size_alloc] at HW
  have HEND : Hid (∀ w' h', ((addE0 a k n ≠ 0 ∧ Turned ⟨m, k0, cutA a m, E⟩ (((w.alloc (.cells #[.int .i64 k] 3)).alloc (.cells #[.int .u64 (n : Nat)] 51)).alloc (.cells #[.int .i64 k0, .int .u64 (F : Nat)] 97)) w' g h h' (addL0 (cutN a m) k n)) ∨ (addE0 a k n = 0 ∧ Turned ⟨m, hk (cutN (addL0 (cutN a m) k n) m), cutA (addL0 (cutN a m) k n) m + many [(k0, F)] (hk (cutN (addL0 (cutN a m) k n) m)), E⟩ (((w.alloc (.cells #[.int .i64 k] 3)).alloc (.cells #[.int .u64 (n : Nat)] 51)).alloc (.cells #[.int .i64 k0, .int .u64 (F : Nat)] 97)) w' g h h' (cutN (addL0 (cutN a m) k n) m))) → TurnC E w w' g h h' m (addL0 a k n)) := Lib.hid fun w' h' t => by
    subst hF
    exact (col_add s.ok s.m2 s.m3 s.key _ rfl t).back f3
  have HWH := Lib.hid HW
  clear HW s c3 c4 f1 f2 f3 b1 b2 b3 g1 g2 hE hact hgood hF
  go_enter Tryz.func51, Tryz.ntmps51
  go_wp2_with fail
  refine HWH.out.mono ?_
  rintro e w1 ⟨rfl, h', t⟩
  have T := Lib.hid (HEND.out _ _ t)
  clear t HWH HEND x3 x4
  go_wp2_with fail
  go_ret
  exact ⟨rfl, h', T.out⟩
end
end Go.Proofs.YtaemgflhgdlmiaaGreat
