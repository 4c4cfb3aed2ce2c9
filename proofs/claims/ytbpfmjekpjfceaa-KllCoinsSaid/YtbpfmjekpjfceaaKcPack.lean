/- The code's stacks: they are packed. -/
import Derived.Test.YtbpfmjekpjfceaaKcHalve
import Derived.Test.YtbpfmjekpjfceaaKcCrowd
import Derived.Test.YtbpfmjekpjfceaaKcCoin
import Derived.Deep.LoopGhost
namespace Go.Proofs.Ytbpfmjekpjfceaa
open Go.RowKit

/-- the stack g and the coins r, whose blocks are C, D and the coins' own, are these now -/
def XpTurn (w w' : World) (g r : Nat) (rr : Option Nat) (C D : Nat → Prop) (k : Nat) (M : Lv) (T E : Nat) (bs : List Nat) (a : Nat) : Prop :=
  ∃ C' D', KsS w' g C' D' k M T E ∧ RdIs w' r rr bs a ∧ Fr (fun b => C b ∨ b = r) w w' ∧ (∀ b, C' b → C b ∨ w.heap.size ≤ b) ∧ ∀ b, D' b → D b ∨ w.heap.size ≤ b
/-- the coins lie aside of the stack -/
structure Xap (w : World) (r : Nat) (rr : Option Nat) (C D : Nat → Prop) : Prop where
  rc : ¬ C r
  rd : ¬ D r
  lt : r < w.heap.size
  off : ∀ j, rr = some j → ¬ C j ∧ j < w.heap.size
section
variable {w W w' : World} {g r k T T2 E E2 a a2 : Nat} {rr : Option Nat} {C D : Nat → Prop} {M M2 : Lv} {bs : List Nat}
theorem XpTurn.start (s : KsS w g C D k M T E) (t : RdIs w r rr bs a) : XpTurn w w g r rr C D k M T E bs a :=
  ⟨C, D, s, t, Fr.refl _ _, fun _ h => .inl h, fun _ h => .inl h⟩
theorem XpTurn.on {C1 D1 : Nat → Prop} (ap : Xap w r rr C D) (x : RdIs W r rr bs a) (f : Fr (fun b => C b ∨ b = r) w W) (hC : ∀ b, C1 b → C b ∨ w.heap.size ≤ b) (hD : ∀ b, D1 b → D b ∨ w.heap.size ≤ b)
    (h : KsTurn W w' g C1 D1 k M2 T2 E2) : XpTurn w w' g r rr C D k M2 T2 E2 bs a := by
  obtain ⟨C2, D2, s2, f2, hC2, hD2⟩ := h
  have hr : ¬ C1 r := fun h => (hC r h).elim ap.rc fun h => by have := ap.lt; omega
  refine ⟨C2, D2, s2, x.fr f2 hr fun j hj h => ?_, f.trans f2 fun j hj h => ?_, fun b hb => ?_, fun b hb => ?_⟩
  · obtain ⟨h1, h2⟩ := ap.off j hj
    rcases hC _ h with h | h
    · exact h1 h
    · omega
  · rcases hC j h with h | h
    · exact .inl h
    · omega
  · rcases hC2 b hb with h | h
    · exact hC b h
    · exact .inr (Nat.le_trans f.size h)
  · rcases hD2 b hb with h | h
    · exact hD b h
    · exact .inr (Nat.le_trans f.size h)
theorem XpTurn.step (ap : Xap w r rr C D) (t : XpTurn w W g r rr C D k M T E bs a) (h : ∀ C1 D1, KsS W g C1 D1 k M T E → KsTurn W w' g C1 D1 k M2 T2 E2) : XpTurn w w' g r rr C D k M2 T2 E2 bs a := by
  obtain ⟨C1, D1, s, x, f, hC, hD⟩ := t
  exact XpTurn.on ap x f hC hD (h C1 D1 s)
theorem KsS.fr {S : Nat → Prop} (s : KsS w g C D k M T E) (f : Fr S w w') (ho : ∀ b, C b ∨ D b → ¬ S b) : KsS w' g C D k M T E := let ⟨p, n, c, rs, s⟩ := s; ⟨p, n, c, rs, s.fr f ho⟩
theorem XpTurn.coin (ap : Xap w r rr C D) (t : XpTurn w W g r rr C D k M T E bs a) (x : RdIs w' r rr bs a2) (f2 : Fr (· = r) W w') : XpTurn w w' g r rr C D k M T E bs a2 := by
  obtain ⟨C1, D1, s, -, f, hC, hD⟩ := t
  have hr : ¬ C1 r := fun h => (hC r h).elim ap.rc fun h => by have := ap.lt; omega
  have hr2 : ¬ D1 r := fun h => (hD r h).elim ap.rd fun h => by have := ap.lt; omega
  exact ⟨C1, D1, s.fr f2 fun b hb e => by subst e; exact hb.elim hr hr2, x, f.trans f2 fun j _ e => .inr e, hC, hD⟩
theorem XpTurn.fr0 (t : XpTurn w W g r rr C D k M T E bs a) (f2 : Fr S0 W w') : XpTurn w w' g r rr C D k M T E bs a := by
  obtain ⟨C1, D1, s, x, f, hC, hD⟩ := t
  exact ⟨C1, D1, s.fr f2 fun _ _ h => h, x.fr0 f2, f.trans f2 fun _ _ h => h.elim, hC, hD⟩
end
theorem ovI_some {k h : Nat} {L : Lv} (e : over k L = some h) : ovI k L = (h : Int) := by unfold ovI; rw [e]
theorem ovI_none {k : Nat} {L : Lv} (e : over k L = none) : ovI k L = -1 := by unfold ovI; rw [e]
theorem len_kept2 (L : Lv) (n : Nat) (h : kept L ≤ n) : ∀ l ∈ L, l.length ≤ n := fun l hl => Nat.le_trans (len_kept L l hl) h
theorem pack_kept (k : Nat) (bs : List Nat) (L : Lv) (E a : Nat) : kept (pack k bs L E a).1 ≤ kept L :=
  (pack_ind (fun M _ _ => kept M ≤ kept L) (fun M _ b _ e hp => by have := over_kept e (coin bs b); omega) _ L E a (Nat.le_refl _) (Nat.le_refl _)).1
/-- what a stack may hold while it is packed -/
structure Fine (L : Lv) (E : Nat) : Prop where
  top : Top L
  wt : wtL L ≤ 281474976710656
  kept : kept L ≤ 1000000
  asc : AscL L
  led : E ≤ 4611686018427387904
theorem Fine.comp {L : Lv} {E k h : Nat} (f : Fine L E) (e : over k L = some h) (c : Nat) : Fine (comp L h c) (ledg E (2 ^ h)) := by
  obtain ⟨h1, h2, -⟩ := over_some e
  have := room_two k L.length h h1
  exact ⟨comp_top c L h h1 (by omega) f.top, by rw [comp_wt]; exact f.wt, by have := over_kept e c; have := f.kept; omega, comp_asc c L h f.asc, (ledg_le E (2 ^ h) f.led).2⟩
section
variable (g r k T E a : Nat) (rr : Option Nat) (C D : Nat → Prop) (L : Lv) (bs : List Nat) (w : World)
abbrev tossF (r : Nat) : Value := .func (.func 20) #[.pointer (some ⟨r, 0, none⟩)] #[]
set_option maxRecDepth 100000 in
set_option maxHeartbeats 8000000 in
theorem xpack_any (s : KsS w g C D k L T E) (x : RdIs w r rr bs a) (ap : Xap w r rr C D) (hk : 8 ≤ k) (hk2 : k ≤ 4096) (hF : Fine L E) (hs : bs.length ≤ 140737488355328) :
    Calls Try.prog 50 #[.pointer (some ⟨g, 0, none⟩), tossF r] w fun e w' => e = .returned (.tuple #[]) ∧ XpTurn w w' g r rr C D k (pack k bs L E a).1 T (pack k bs L E a).2.1 bs (pack k bs L E a).2.2 := by
  have HT0 := Lib.hid (XpTurn.start s x)
  have HAP := Lib.hid ap
  have HF0 := Lib.hid hF
  have HK := Lib.hid (And.intro hk hk2)
  have HB := Lib.hid hs
  have HCR := Lib.hid (xcrowded_any g k T E C D L w s (by have := top_len hF.top hF.wt; omega) (by omega) (by omega))
  obtain ⟨PK, hPK⟩ : ∃ X, pack k bs L E a = X := ⟨_, rfl⟩
  have HP0 := Lib.hid hPK
  rw [hPK]
  clear s x ap hF hk hk2 hs hPK
  go_enter Try.func50, Try.ntmps50
  go_wp2_with fail
  refine HCR.out.mono ?_
  rintro e w1 ⟨rfl, f1⟩
  have HT1 := Lib.hid (HT0.out.fr0 f1)
  clear f1 HCR HT0
  go_wp2_with fail
  go_loopg [4] (kept L) (fun G hv wr => ∃ (M : Lv) (F b : Nat), hv = .int .i64 (ovI k M) ∧ G = kept M ∧ Hid (XpTurn w wr g r rr C D k M T F bs b) ∧ Hid (pack k bs M F b = PK) ∧ Hid (Fine M F))
  case atStart => exact ⟨L, E, a, rfl, rfl, HT1, HP0, HF0⟩
  case round =>
    obtain ⟨M, F, b, rfl, rfl, ht, hp, hm⟩ := hrel
    rcases hov : over k M with _ | h
    · rw [ovI_none hov]
      have HE : Hid (PK = (M, F, b)) := Lib.hid (by rw [← hp.out, pack_none hov])
      clear hov
      go_wp2_with fail
      go_end0
      exact ⟨rfl, by rw [HE.out]; exact ht.out⟩
    · rw [ovI_some hov]
      obtain ⟨hh, hr1, -⟩ := over_some hov
      have hr2 := room_two k M.length h hh
      have h49 := top_len hm.out.top hm.out.wt
      have HOV := Lib.hid hov
      have HCO : Hid (Calls Try.prog 20 #[.pointer (some ⟨r, 0, none⟩)] wr fun e w' => e = .returned (.int .i64 (coin bs b : Nat)) ∧ RdIs w' r rr bs (nxt bs b) ∧ Fr (· = r) wr w') := Lib.hid (by
        obtain ⟨C1, D1, s1, x1, -⟩ := ht.out
        exact xcoin_any r rr bs b wr x1 HB.out)
      have hcc := coin_two bs b
      have HNX : Hid (pack k bs (comp M h (coin bs b)) (ledg F (2 ^ h)) (nxt bs b) = PK) := Lib.hid (by rw [← hp.out, ← pack_some hov])
      obtain ⟨cc, hcoin⟩ : ∃ cc, coin bs b = cc := ⟨_, rfl⟩
      rw [hcoin] at HCO hcc HNX
      have HFN := Lib.hid (hm.out.comp hov cc)
      have HLT : Hid (kept (comp M h cc) < kept M) := Lib.hid (over_kept hov cc)
      have HHV : Hid (∀ C1 D1 W, KsS W g C1 D1 k M T F → Calls Try.prog 72 #[.pointer (some ⟨g, 0, none⟩), .int .i64 (h : Nat), .int .i64 (cc : Nat)] W fun e w' => e = .returned (.tuple #[]) ∧ KsTurn W w' g C1 D1 k (comp M h cc) T (ledg F (2 ^ h))) := Lib.hid fun C1 D1 W s1 =>
        xhalve_any g k T F h cc C1 D1 M W s1 hh (by omega) hcc (by omega) hm.out.asc (len_kept2 M _ hm.out.kept) hm.out.led
      have hh0 : (0 : Int) ≤ (h : Int) := by omega
      have hhb : (h : Int) ≤ 49 := by omega
      clear hov hh hr1 hr2 hcoin hp hcc h49
      go_wp2_with fail
      refine HCO.out.mono ?_
      rintro e w2 ⟨rfl, x2, f2⟩
      have HT2 := Lib.hid (ht.out.coin HAP.out x2 f2)
      clear x2 f2 HCO
      obtain ⟨C2, D2, s2, x2, f2, hC2, hD2⟩ := HT2.out
      have HX2 := Lib.hid (And.intro x2 (And.intro f2 (And.intro hC2 hD2)))
      have HHC := Lib.hid (HHV.out C2 D2 w2 s2)
      clear s2 x2 f2 hC2 hD2 HHV
      go_wp2_with fail
      refine HHC.out.mono ?_
      rintro e w3 ⟨rfl, t3⟩
      have HT3 := Lib.hid (XpTurn.on HAP.out HX2.out.1 HX2.out.2.1 HX2.out.2.2.1 HX2.out.2.2.2 t3)
      clear t3 HHC HX2 HT2
      obtain ⟨C3, D3, s3, -⟩ := HT3.out
      have HC3 := Lib.hid (xcrowded_any g k T (ledg F (2 ^ h)) C3 D3 (comp M h cc) w3 s3 (by have := top_len HFN.out.top HFN.out.wt; omega) (by have := HK.out; omega) (by have := HK.out; omega))
      clear s3
      go_wp2_with fail
      refine HC3.out.mono ?_
      rintro e w4 ⟨rfl, f4⟩
      have HT4 := Lib.hid (HT3.out.fr0 f4)
      clear f4 HC3
      go_wp2_with fail
      go_roundg (kept (comp M h cc))
      case measure => exact HLT.out
      case rel => exact ⟨comp M h cc, ledg F (2 ^ h), nxt bs b, rfl, rfl, HT4, HNX, HFN⟩
end
end Go.Proofs.Ytbpfmjekpjfceaa
