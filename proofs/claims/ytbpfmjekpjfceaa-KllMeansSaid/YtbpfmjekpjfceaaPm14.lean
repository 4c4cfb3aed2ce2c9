/- KcPack, KcAct -/
import Derived.Test.YtbpfmjekpjfceaaPm1
import Derived.Test.YtbpfmjekpjfceaaPm2
import Derived.Test.YtbpfmjekpjfceaaPm3
import Derived.Test.YtbpfmjekpjfceaaPm4
import Derived.Test.YtbpfmjekpjfceaaPm6
import Derived.Test.YtbpfmjekpjfceaaPm7
import Derived.Test.YtbpfmjekpjfceaaPm8
import Derived.Test.YtbpfmjekpjfceaaPm9
import Derived.Test.YtbpfmjekpjfceaaPm10
import Derived.Test.YtbpfmjekpjfceaaPm11
import Derived.Test.YtbpfmjekpjfceaaPm12
import Derived.Test.YtbpfmjekpjfceaaPm13
import Derived.Deep.LoopGhost
import Derived.Deep.RegionLaw
import Derived.Deep.RegionHeld3
import Derived.BigRegion
import Derived.WalkKit
import Derived.Maps.AppendAt
import Derived.Laws.AppendOwnNone
import Derived.Laws.OwnMore
import Derived.Lib.AppendZerosOnto
import Derived.Lib.SliceRun
import Derived.Lib.Walk
import Derived.Laws.BytesArg
import Derived.Lib.SlBytesConst
import Derived.WalkSpells
import Derived.WalkLawsBesides
import Derived.Deep.QuietTactic
import Derived.BigQuiet
import Derived.RegionTactic
import Derived.Deep.AppendLies
import Derived.Laws.ResultCell
import Derived.Laws.EntriesVeiled
import Derived.Lib.Hide
import Derived.Test.YtbpfmjekpjfceaaRows
import Derived.RangeFuncNested
import Derived.RangeFuncBound
import Derived.RangeFuncCalls
import Derived.RangeFuncLeaves
import Derived.Shelf.Abstract
import Derived.Shelf.RegionOpen
import Derived.OwnWalkIn
import Derived.TacticsInMore
import Derived.LoopNIn
import Derived.LoopIn
import Derived.StillTailTactics
import Derived.Laws.BitsAllLaws
set_option maxRecDepth 100000
set_option maxHeartbeats 8000000
namespace Go.Proofs.Ytbpfmjekpjfceaa
open Go.RowKit
def XpTurn (w w' : World) (g r : Nat) (rr : Option Nat) (C D : Nat → Prop) (k : Nat) (M : Lv) (T E : Nat) (bs : List Nat) (a : Nat) : Prop :=
  ∃ C' D', KsS w' g C' D' k M T E ∧ RdIs w' r rr bs a ∧ Fr (fun b => C b ∨ b = r) w w' ∧ (∀ b, C' b → C b ∨ w.heap.size ≤ b) ∧ ∀ b, D' b → D b ∨ w.heap.size ≤ b
structure Xap (w : World) (r : Nat) (rr : Option Nat) (C D : Nat → Prop) : Prop where
  rc : ¬ C r
  rd : ¬ D r
  lt : r < w.heap.size
  off : ∀ j, rr = some j → ¬ C j ∧ j < w.heap.size
section
variable {w W w' : World} {g r k T T2 E E2 a a2 : Nat} {rr : Option Nat} {C D : Nat → Prop} {M M2 : Lv} {bs : List Nat}
theorem XpTurn.start (s : KsS w g C D k M T E) (t : RdIs w r rr bs a) : XpTurn w w g r rr C D k M T E bs a :=
  ⟨C, D, s, t, Fr.refl _ _, fun _ h => .inl h, fun _ h => .inl h⟩
theorem XpTurn.on {C1 D1 : Nat → Prop} (ap : Xap w r rr C D) (x : RdIs W r rr bs a) (f : Fr (fun b => C b ∨ b = r) w W) (hC : ∀ b, C1 b → C b ∨ w.heap.size ≤ b) (hD : ∀ b, D1 b → D b ∨ w.heap.size ≤ b)
    (h : KsTurn W w' g C1 D1 k M2 T2 E2) : XpTurn w w' g r rr C D k M2 T2 E2 bs a := by
  obtain ⟨C2, D2, s2, f2, hC2, hD2⟩ := h
  have hr : ¬ C1 r := fun h => (hC r h).elim ap.rc fun h => by have := ap.lt; omega
  refine ⟨C2, D2, s2, x.fr f2 hr fun j hj h => ?_, f.trans f2 fun j hj h => ?_, fun b hb => ?_, fun b hb => ?_⟩
  · obtain ⟨h1, h2⟩ := ap.off j hj
    rcases hC _ h with h | h
    · exact h1 h
    · omega
  · rcases hC j h with h | h
    · exact .inl h
    · omega
  · rcases hC2 b hb with h | h
    · exact hC b h
    · exact .inr (Nat.le_trans f.size h)
  · rcases hD2 b hb with h | h
    · exact hD b h
    · exact .inr (Nat.le_trans f.size h)
theorem XpTurn.step (ap : Xap w r rr C D) (t : XpTurn w W g r rr C D k M T E bs a) (h : ∀ C1 D1, KsS W g C1 D1 k M T E → KsTurn W w' g C1 D1 k M2 T2 E2) : XpTurn w w' g r rr C D k M2 T2 E2 bs a := by
  obtain ⟨C1, D1, s, x, f, hC, hD⟩ := t
  exact XpTurn.on ap x f hC hD (h C1 D1 s)
theorem KsS.fr {S : Nat → Prop} (s : KsS w g C D k M T E) (f : Fr S w w') (ho : ∀ b, C b ∨ D b → ¬ S b) : KsS w' g C D k M T E := let ⟨p, n, c, rs, s⟩ := s; ⟨p, n, c, rs, s.fr f ho⟩
theorem XpTurn.coin (ap : Xap w r rr C D) (t : XpTurn w W g r rr C D k M T E bs a) (x : RdIs w' r rr bs a2) (f2 : Fr (· = r) W w') : XpTurn w w' g r rr C D k M T E bs a2 := by
  obtain ⟨C1, D1, s, -, f, hC, hD⟩ := t
  have hr : ¬ C1 r := fun h => (hC r h).elim ap.rc fun h => by have := ap.lt; omega
  have hr2 : ¬ D1 r := fun h => (hD r h).elim ap.rd fun h => by have := ap.lt; omega
  exact ⟨C1, D1, s.fr f2 fun b hb e => by subst e; exact hb.elim hr hr2, x, f.trans f2 fun j _ e => .inr e, hC, hD⟩
theorem XpTurn.fr0 (t : XpTurn w W g r rr C D k M T E bs a) (f2 : Fr S0 W w') : XpTurn w w' g r rr C D k M T E bs a := by
  obtain ⟨C1, D1, s, x, f, hC, hD⟩ := t
  exact ⟨C1, D1, s.fr f2 fun _ _ h => h, x.fr0 f2, f.trans f2 fun _ _ h => h.elim, hC, hD⟩
end
theorem ovI_some {k h : Nat} {L : Lv} (e : over k L = some h) : ovI k L = (h : Int) := by unfold ovI; rw [e]
theorem ovI_none {k : Nat} {L : Lv} (e : over k L = none) : ovI k L = -1 := by unfold ovI; rw [e]
theorem len_kept2 (L : Lv) (n : Nat) (h : kept L ≤ n) : ∀ l ∈ L, l.length ≤ n := fun l hl => Nat.le_trans (len_kept L l hl) h
theorem pack_kept (k : Nat) (bs : List Nat) (L : Lv) (E a : Nat) : kept (pack k bs L E a).1 ≤ kept L :=
  (pack_ind (fun M _ _ => kept M ≤ kept L) (fun M _ b _ e hp => by have := over_kept e (coin bs b); omega) _ L E a (Nat.le_refl _) (Nat.le_refl _)).1
structure Fine (L : Lv) (E : Nat) : Prop where
  top : Top L
  wt : wtL L ≤ 281474976710656
  kept : kept L ≤ 1000000
  asc : AscL L
  led : E ≤ 4611686018427387904
theorem Fine.comp {L : Lv} {E k h : Nat} (f : Fine L E) (e : over k L = some h) (c : Nat) : Fine (comp L h c) (ledg E (2 ^ h)) := by
  obtain ⟨h1, h2, -⟩ := over_some e
  have := room_two k L.length h h1
  exact ⟨comp_top c L h h1 (by omega) f.top, by rw [comp_wt]; exact f.wt, by have := over_kept e c; have := f.kept; omega, comp_asc c L h f.asc, (ledg_le E (2 ^ h) f.led).2⟩
section
variable (g r k T E a : Nat) (rr : Option Nat) (C D : Nat → Prop) (L : Lv) (bs : List Nat) (w : World)
abbrev tossF (r : Nat) : Value := .func (.func 20) #[.pointer (some ⟨r, 0, none⟩)] #[]
theorem xpack_any (s : KsS w g C D k L T E) (x : RdIs w r rr bs a) (ap : Xap w r rr C D) (hk : 8 ≤ k) (hk2 : k ≤ 4096) (hF : Fine L E) (hs : bs.length ≤ 140737488355328) :
    Calls Try.prog 50 #[.pointer (some ⟨g, 0, none⟩), tossF r] w fun e w' => e = .returned (.tuple #[]) ∧ XpTurn w w' g r rr C D k (pack k bs L E a).1 T (pack k bs L E a).2.1 bs (pack k bs L E a).2.2 := by
  have HT0 := Lib.hid (XpTurn.start s x)
  have HAP := Lib.hid ap
  have HF0 := Lib.hid hF
  have HK := Lib.hid (And.intro hk hk2)
  have HB := Lib.hid hs
  have HCR := Lib.hid (xcrowded_any g k T E C D L w s (by have := top_len hF.top hF.wt; omega) (by omega) (by omega))
  obtain ⟨PK, hPK⟩ : ∃ X, pack k bs L E a = X := ⟨_, rfl⟩
  have HP0 := Lib.hid hPK
  rw [hPK]
  clear s x ap hF hk hk2 hs hPK
  go_enter Try.func50, Try.ntmps50
  go_wp2_with fail
  refine HCR.out.mono ?_
  rintro e w1 ⟨rfl, f1⟩
  have HT1 := Lib.hid (HT0.out.fr0 f1)
  clear f1 HCR HT0
  go_wp2_with fail
  go_loopg [4] (kept L) (fun G hv wr => ∃ (M : Lv) (F b : Nat), hv = .int .i64 (ovI k M) ∧ G = kept M ∧ Hid (XpTurn w wr g r rr C D k M T F bs b) ∧ Hid (pack k bs M F b = PK) ∧ Hid (Fine M F))
  case atStart => exact ⟨L, E, a, rfl, rfl, HT1, HP0, HF0⟩
  case round =>
    obtain ⟨M, F, b, rfl, rfl, ht, hp, hm⟩ := hrel
    rcases hov : over k M with _ | h
    · rw [ovI_none hov]
      have HE : Hid (PK = (M, F, b)) := Lib.hid (by rw [← hp.out, pack_none hov])
      clear hov
      go_wp2_with fail
      go_end0
      exact ⟨rfl, by rw [HE.out]; exact ht.out⟩
    · rw [ovI_some hov]
      obtain ⟨hh, hr1, -⟩ := over_some hov
      have hr2 := room_two k M.length h hh
      have h49 := top_len hm.out.top hm.out.wt
      have HOV := Lib.hid hov
      have HCO : Hid (Calls Try.prog 20 #[.pointer (some ⟨r, 0, none⟩)] wr fun e w' => e = .returned (.int .i64 (coin bs b : Nat)) ∧ RdIs w' r rr bs (nxt bs b) ∧ Fr (· = r) wr w') := Lib.hid (by
        obtain ⟨C1, D1, s1, x1, -⟩ := ht.out
        exact xcoin_any r rr bs b wr x1 HB.out)
      have hcc := coin_two bs b
      have HNX : Hid (pack k bs (comp M h (coin bs b)) (ledg F (2 ^ h)) (nxt bs b) = PK) := Lib.hid (by rw [← hp.out, ← pack_some hov])
      obtain ⟨cc, hcoin⟩ : ∃ cc, coin bs b = cc := ⟨_, rfl⟩
      rw [hcoin] at HCO hcc HNX
      have HFN := Lib.hid (hm.out.comp hov cc)
      have HLT : Hid (kept (comp M h cc) < kept M) := Lib.hid (over_kept hov cc)
      have HHV : Hid (∀ C1 D1 W, KsS W g C1 D1 k M T F → Calls Try.prog 72 #[.pointer (some ⟨g, 0, none⟩), .int .i64 (h : Nat), .int .i64 (cc : Nat)] W fun e w' => e = .returned (.tuple #[]) ∧ KsTurn W w' g C1 D1 k (comp M h cc) T (ledg F (2 ^ h))) := Lib.hid fun C1 D1 W s1 =>
        xhalve_any g k T F h cc C1 D1 M W s1 hh (by omega) hcc (by omega) hm.out.asc (len_kept2 M _ hm.out.kept) hm.out.led
      have hh0 : (0 : Int) ≤ (h : Int) := by omega
      have hhb : (h : Int) ≤ 49 := by omega
      clear hov hh hr1 hr2 hcoin hp hcc h49
      go_wp2_with fail
      refine HCO.out.mono ?_
      rintro e w2 ⟨rfl, x2, f2⟩
      have HT2 := Lib.hid (ht.out.coin HAP.out x2 f2)
      clear x2 f2 HCO
      obtain ⟨C2, D2, s2, x2, f2, hC2, hD2⟩ := HT2.out
      have HX2 := Lib.hid (And.intro x2 (And.intro f2 (And.intro hC2 hD2)))
      have HHC := Lib.hid (HHV.out C2 D2 w2 s2)
      clear s2 x2 f2 hC2 hD2 HHV
      go_wp2_with fail
      refine HHC.out.mono ?_
      rintro e w3 ⟨rfl, t3⟩
      have HT3 := Lib.hid (XpTurn.on HAP.out HX2.out.1 HX2.out.2.1 HX2.out.2.2.1 HX2.out.2.2.2 t3)
      clear t3 HHC HX2 HT2
      obtain ⟨C3, D3, s3, -⟩ := HT3.out
      have HC3 := Lib.hid (xcrowded_any g k T (ledg F (2 ^ h)) C3 D3 (comp M h cc) w3 s3 (by have := top_len HFN.out.top HFN.out.wt; omega) (by have := HK.out; omega) (by have := HK.out; omega))
      clear s3
      go_wp2_with fail
      refine HC3.out.mono ?_
      rintro e w4 ⟨rfl, f4⟩
      have HT4 := Lib.hid (HT3.out.fr0 f4)
      clear f4 HC3
      go_wp2_with fail
      go_roundg (kept (comp M h cc))
      case measure => exact HLT.out
      case rel => exact ⟨comp M h cc, ledg F (2 ^ h), nxt bs b, rfl, rfl, HT4, HNX, HFN⟩
end
end Go.Proofs.Ytbpfmjekpjfceaa

namespace Go.Proofs.Ytbpfmjekpjfceaa
open Go.RowKit
theorem XpTurn.after {w W w' : World} {g r k T E a : Nat} {rr : Option Nat} {C D C1 D1 : Nat → Prop} {M : Lv} {bs : List Nat} (f : Fr (fun b => C b ∨ b = r) w W) (hC : ∀ b, C1 b → C b ∨ w.heap.size ≤ b) (hD : ∀ b, D1 b → D b ∨ w.heap.size ≤ b)
    (t : XpTurn W w' g r rr C1 D1 k M T E bs a) : XpTurn w w' g r rr C D k M T E bs a := by
  obtain ⟨C', D', s, x, f2, h1, h2⟩ := t
  refine ⟨C', D', s, x, f.trans f2 fun j hj h => ?_, fun b hb => ?_, fun b hb => ?_⟩
  · rcases h with h | h
    · rcases hC j h with h | h
      · exact .inl h
      · omega
    · exact .inr h
  · rcases h1 b hb with h | h
    · exact hC b h
    · exact .inr (Nat.le_trans f.size h)
  · rcases h2 b hb with h | h
    · exact hD b h
    · exact .inr (Nat.le_trans f.size h)
theorem Xap.later {w W : World} {r : Nat} {rr : Option Nat} {C D C1 D1 : Nat → Prop} (ap : Xap w r rr C D) (hs : w.heap.size ≤ W.heap.size) (hC : ∀ b, C1 b → C b ∨ w.heap.size ≤ b) (hD : ∀ b, D1 b → D b ∨ w.heap.size ≤ b) : Xap W r rr C1 D1 := by
  have hl := ap.lt
  refine ⟨fun h => (hC r h).elim ap.rc fun h => by omega, fun h => (hD r h).elim ap.rd fun h => by omega, by omega, fun j hj => ?_⟩
  obtain ⟨h1, h2⟩ := ap.off j hj
  exact ⟨fun h => (hC j h).elim h1 fun h => by omega, by omega⟩
section
variable (g k T E : Nat) (C D : Nat → Prop) (L : Lv) (w : World)
theorem xbeyond_any (s : KsS w g C D k L T E) (n h : Nat) (hT : T ≤ 281474976710656) (hh : h ≤ 60) :
    Calls Try.prog 47 #[.pointer (some ⟨g, 0, none⟩), .int .u64 (n : Nat), .int .i64 (h : Nat)] w fun e w' => e = .returned (.bool (decide ((281474976710656 - T) / 2 ^ h < n))) ∧ w' = w := by
  obtain ⟨p, m, c, rs, s⟩ := s
  have c2 := s.c2
  obtain ⟨U, hU⟩ : ∃ U, 281474976710656 - T = U := ⟨_, rfl⟩
  obtain ⟨V, hV⟩ : ∃ V, U / 2 ^ h = V := ⟨_, rfl⟩
  rw [hU, hV]
  have iU : (281474976710656 : Int) - (T : Int) = (U : Int) := by omega
  have wU : IntKind.u64.wrap ((281474976710656 : Int) - (T : Int)) = (U : Int) := by rw [iU, IntKind.wrap_u64]; omega
  have iV : (U : Int) / 2 ^ h = (V : Int) := by rw [← hV]; push_cast; rfl
  have hUb : (U : Int) ≤ 281474976710656 := by omega
  have hVb : (V : Int) ≤ 281474976710656 := by have := Nat.div_le_self U (2 ^ h); omega
  have hhi : (h : Int) < 64 := by omega
  have hh0 : (0 : Int) ≤ (h : Int) := by omega
  clear s hU hV hT
  by_cases hd : V < n
  · have kd : decide (V < n) = true := decide_eq_true hd
    rw [kd]
    clear hd
    go_enter Try.func47, Try.ntmps47
    go_wp2_with fail
    go_ret
    exact ⟨rfl, rfl⟩
  · have kd : decide (V < n) = false := decide_eq_false hd
    rw [kd]
    clear hd
    go_enter Try.func47, Try.ntmps47
    go_wp2_with fail
    go_ret
    exact ⟨rfl, rfl⟩
def XNew (w w' : World) (g : Nat) (C D : Nat → Prop) (k : Nat) (L : Lv) (T E : Nat) : Prop := KsS w' g C D k L T E ∧ Fr S0 w w' ∧ ∀ b, C b ∨ D b → w.heap.size ≤ b
theorem xnew_yes (hk : 8 ≤ k) (hk2 : k ≤ 4096) : Calls Try.prog 13 #[.int .i64 (k : Nat)] w fun e w' => e = .returned (.tuple #[.pointer (some ⟨w.heap.size, 0, none⟩), .int .i64 0]) ∧ XNew w w' w.heap.size (· = w.heap.size) (fun _ => False) k [] 0 0 := by
  have k1 : decide ((k : Int) < 8) = false := decide_eq_false (by omega)
  have k2 : decide ((4096 : Int) < (k : Int)) = false := decide_eq_false (by omega)
  clear hk hk2
  go_enter Try.func13, Try.ntmps13
  go_wp2_with fail
  go_ret2
  refine ⟨rfl, ⟨none, 0, 0, [], heap_alloc_new w _, World.ownsRow_nil _ _ _ _, Lvs.nil _ _, fun b h => by simp [Value.ownBlock] at h, rfl, fun _ _ h => h, fun b hb => ?_⟩, Fr.alloc _ _ _, fun b hb => ?_⟩
  · rcases hb with rfl | h
    · simp
    · exact h.elim
  · rcases hb with rfl | h
    · exact Nat.le_refl _
    · exact h.elim
end
theorem u64_and_one (x : Nat) (hx : x < 18446744073709551616) : bits .and .u64 (x : Int) 1 = ((x % 2 : Nat) : Int) := by
  have h := u64_and_nat x 1 hx (by decide)
  rw [Nat.and_one_is_mod] at h
  exact h
theorem fine_addN {L : Lv} {E : Nat} (f : Fine L E) (v : Int) (n : Nat) (hn : n ≤ 281474976710656 - wtL L) (hk : kept L ≤ 900000) : Fine (addN L v n) E := by
  have h1 := f.wt
  have h2 := addB_kept L v n 49
  exact ⟨addN_top L v n f.top, by rw [addN_wt L v n (by omega)]; omega, by unfold addN; omega, addN_asc L v n f.asc, f.led⟩
section
variable (g r k T E a n : Nat) (v : Int) (rr : Option Nat) (C D : Nat → Prop) (L : Lv) (bs : List Nat) (w : World)
theorem xadd_zero (c : Value) : Calls Try.prog 38 #[.pointer (some ⟨g, 0, none⟩), .int .i64 v, .int .u64 0, c] w fun e w' => e = .returned (.int .i64 4) ∧ w' = w := by
  go_enter Try.func38, Try.ntmps38
  go_wp2_with fail
  go_ret
  exact ⟨rfl, rfl⟩
theorem xadd_cap (s : KsS w g C D k L T E) (c : Value) (hn : 281474976710656 - T < n) (hT : T ≤ 281474976710656) : Calls Try.prog 38 #[.pointer (some ⟨g, 0, none⟩), .int .i64 v, .int .u64 (n : Nat), c] w fun e w' => e = .returned (.int .i64 6) ∧ w' = w := by
  have HB := xbeyond_any g k T E C D L w s n 0 hT (by omega)
  rw [Nat.pow_zero, Nat.div_one, decide_eq_true hn, show ((0 : Nat) : Int) = 0 from rfl] at HB
  have H := Lib.hid HB
  have k0 : ((n : Int) == 0) = false := by rw [beq_eq_false_iff_ne]; omega
  clear HB s hn
  go_enter Try.func38, Try.ntmps38
  go_wp2_with fail
  refine H.out.mono ?_
  rintro e w1 ⟨rfl, rfl⟩
  go_wp2_with fail
  go_ret
  exact ⟨rfl, rfl⟩
theorem xadd_yes (s : KsS w g C D k L T E) (x : RdIs w r rr bs a) (ap : Xap w r rr C D) (hk : 8 ≤ k) (hk2 : k ≤ 4096) (hF : Fine L E) (hkp : kept L ≤ 900000) (hs : bs.length ≤ 140737488355328) (h0 : 0 < n) (hT : T = wtL L) (hn : n ≤ 281474976710656 - T) :
    Calls Try.prog 38 #[.pointer (some ⟨g, 0, none⟩), .int .i64 v, .int .u64 (n : Nat), .pointer (some ⟨r, 0, none⟩)] w fun e w' => e = .returned (.int .i64 0) ∧
      XpTurn w w' g r rr C D k (pack k bs (addN L v n) E a).1 (T + n) (pack k bs (addN L v n) E a).2.1 bs (pack k bs (addN L v n) E a).2.2 := by
  have hwt := hF.wt
  have hTb : T ≤ 281474976710656 := by omega
  have HB := xbeyond_any g k T E C D L w s n 0 hTb (by omega)
  rw [Nat.pow_zero, Nat.div_one, decide_eq_false (by omega), show ((0 : Nat) : Int) = 0 from rfl] at HB
  have H := Lib.hid HB
  have k0 : ((n : Int) == 0) = false := by rw [beq_eq_false_iff_ne]; omega
  have HT0 := Lib.hid (KsTurn.same s (Fr.refl S0 w))
  have HX := Lib.hid x
  have HAP := Lib.hid ap
  have HF := Lib.hid hF
  have HFN := Lib.hid (fine_addN hF v n (by omega) hkp)
  have HKP := Lib.hid (And.intro hkp (And.intro hk hk2))
  have HBS := Lib.hid hs
  have hnb : n ≤ 281474976710656 := by omega
  have HTN := Lib.hid hTb
  have hmf : ∀ W : World, (Instr.makeFunc (.func 20) #[.pointer (some ⟨r, 0, none⟩)] #[]).run Try.prog W = .ok (.func (.func 20) #[.pointer (some ⟨r, 0, none⟩)] #[]) W := fun W => by rfl
  have hTi : (T : Int) ≤ 281474976710656 := by omega
  have hni : (n : Int) ≤ 281474976710656 := by omega
  clear HB s x ap hF hkp hk hk2 hs hn hT hwt h0
  go_enter Try.func38, Try.ntmps38
  go_wp2_with fail
  refine H.out.mono ?_
  rintro e w1 ⟨rfl, rfl⟩
  clear H
  go_wp2_with fail
  go_loopw [9, 17] (fun _ z wr => ∃ h : Nat, z = .int .i64 (h : Nat) ∧ h ≤ 49 ∧ Hid (KsTurn w1 wr g C D k (addB L v n h) T E)) (fun _ z _ => 49 - (intOf z).toNat)
  case atStart => exact ⟨0, rfl, by omega, HT0⟩
  case round =>
    obtain ⟨h, rfl, hh, ht⟩ := hrel
    by_cases hlt : (h : Int) < 49
    · obtain ⟨V, hV⟩ : ∃ V, n / 2 ^ h = V := ⟨_, rfl⟩
      have iV : (n : Int) / 2 ^ h = (V : Int) := by rw [← hV]; push_cast; rfl
      have hVb : V ≤ 281474976710656 := Nat.le_trans (by rw [← hV]; exact Nat.div_le_self _ _) hnb
      have hVi : (V : Int) ≤ 281474976710656 := by omega
      have hb := u64_and_one V (by omega)
      have hh0 : (0 : Int) ≤ (h : Int) := by omega
      have hh64 : (h : Int) < 64 := by omega
      rcases (by omega : V % 2 = 0 ∨ V % 2 = 1) with hp | hp
      · rw [hp, show ((0 : Nat) : Int) = 0 from rfl] at hb
        have HN : Hid (addB L v n (h + 1) = addB L v n h) := Lib.hid (by rw [addB, hV, if_neg (by omega)])
        clear hp hV
        go_wp2_with fail
        go_roundw
        case rel => exact ⟨h + 1, by go_num, by omega, by rw [HN.out]; exact ht⟩
        case measure => simp [intOf]; omega
      · rw [hp, show ((1 : Nat) : Int) = 1 from rfl] at hb
        have HN : Hid (addB L v n (h + 1) = putL (addB L v n h) h v) := Lib.hid (by rw [addB, hV, if_pos hp])
        obtain ⟨C1, D1, s1, f1, hC, hD⟩ := ht.out
        have HS1 := Lib.hid s1
        have HFR := Lib.hid (And.intro f1 (And.intro hC hD))
        have hkb := addB_kept L v n h
        have hkl := HKP.out.1
        have hlt' : ∀ b, C1 b → b < wr.heap.size := fun b hb => let ⟨p, m, c, rs, s⟩ := s1; s.below b (.inl hb)
        have HPUT : Hid (∀ W t, W = wr.alloc (.cells #[.int .i64 v] t) → Calls Try.prog 48 #[.pointer (some ⟨g, 0, none⟩), .int .i64 (h : Nat), .slice (some ⟨wr.heap.size, 0, none⟩) 1 1] W fun e w' => e = .returned (.tuple #[]) ∧ KsTurn w1 w' g C D k (addB L v n (h + 1)) T E) := Lib.hid fun W t e => by
          subst e
          have hp := xput_any g k T E h 1 1 C1 D1 (addB L v n h) (some ⟨wr.heap.size, 0, none⟩) [v] (wr.alloc (.cells #[.int .i64 v] t)) (HS1.out.fr (Fr.alloc S0 wr _) fun _ _ h => h) (Sz.one wr v t)
            (fun _ a ha hc => by obtain rfl := Option.some.inj ha; have := hlt' _ hc; simp only at this; omega) (List.pairwise_singleton _ _) (addB_ind _ L v n HF.out.asc (fun M h hM => putL_asc v M h hM) h) (by omega) (fun l hl => by have := len_kept _ l hl; omega) (by omega)
          refine hp.mono fun e w' hq => ⟨hq.1, ?_⟩
          rw [HN.out, ← putC_one]
          exact KsTurn.after HFR.out.1 HFR.out.2.1 HFR.out.2.2 (KsTurn.after ((Fr.alloc S0 wr _).mono fun _ _ h => h.elim) (fun _ h => .inl h) (fun _ h => .inl h) hq.2)
        clear hp hV ht s1 f1 hC hD hkb hkl hlt'
        go_wp2_with fail
        refine (HPUT.out _ _ rfl).mono ?_
        rintro e w3 ⟨rfl, t3⟩
        have HT3 := Lib.hid t3
        clear t3 HPUT HFR HS1
        go_wp2_with fail
        go_roundw
        case rel => exact ⟨h + 1, by go_num, by omega, HT3⟩
        case measure => simp [intOf]; omega
    · obtain rfl : h = 49 := by omega
      obtain ⟨C1, D1, ⟨p, m, c, rs, s1⟩, f1, hC, hD⟩ := ht.out
      have c2 := s1.c2
      have z2 := s1.z 2
      obtain ⟨s2, f2⟩ := s1.tot (T + n)
      rw [show ((T + n : Nat) : Int) = (T : Int) + (n : Int) from by push_cast; rfl] at s2 f2
      have hgC : C1 g := s1.self
      have f3 : Fr C w1 (wr.setCell ⟨g, 2, none⟩ (.int .u64 ((T : Int) + (n : Int)))) := f1.trans f2 fun j hj e => by
        rw [show j = g from e] at hj ⊢
        exact (hC g hgC).resolve_right (by omega)
      have x3 : RdIs (wr.setCell ⟨g, 2, none⟩ (.int .u64 ((T : Int) + (n : Int)))) r rr bs a := HX.out.fr f3 HAP.out.rc fun j hj => (HAP.out.off j hj).1
      have ap3 : Xap (wr.setCell ⟨g, 2, none⟩ (.int .u64 ((T : Int) + (n : Int)))) r rr C1 D1 := HAP.out.later f3.size hC hD
      have HPK := Lib.hid (xpack_any g r k (T + n) E a rr C1 D1 (addN L v n) bs _ ⟨p, m, c, rs, s2⟩ x3 ap3 HKP.out.2.1 HKP.out.2.2 HFN.out HBS.out)
      have HFR := Lib.hid (And.intro (f3.mono fun _ _ h => .inl h : Fr (fun b => C b ∨ b = r) w1 _) (And.intro hC hD))
      have hsum : (T : Int) + (n : Int) < 18446744073709551616 := by omega
      clear s1 f1 hC hD s2 f2 hgC f3 x3 ap3 ht
      go_wp2_with fail
      refine HPK.out.mono ?_
      rintro e w5 ⟨rfl, t5⟩
      have HT5 := Lib.hid (XpTurn.after HFR.out.1 HFR.out.2.1 HFR.out.2.2 t5)
      clear t5 HPK HFR
      go_wp2_with fail
      go_ret
      exact ⟨rfl, HT5.out⟩
end
end Go.Proofs.Ytbpfmjekpjfceaa
