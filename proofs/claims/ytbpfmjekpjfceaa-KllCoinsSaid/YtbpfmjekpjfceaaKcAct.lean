/- The code's stacks: new ones; values come. -/
import Derived.Test.YtbpfmjekpjfceaaKcPack
import Derived.Laws.BitsAllLaws
namespace Go.Proofs.Ytbpfmjekpjfceaa
open Go.RowKit

theorem XpTurn.after {w W w' : World} {g r k T E a : Nat} {rr : Option Nat} {C D C1 D1 : Nat → Prop} {M : Lv} {bs : List Nat} (f : Fr (fun b => C b ∨ b = r) w W) (hC : ∀ b, C1 b → C b ∨ w.heap.size ≤ b) (hD : ∀ b, D1 b → D b ∨ w.heap.size ≤ b)
    (t : XpTurn W w' g r rr C1 D1 k M T E bs a) : XpTurn w w' g r rr C D k M T E bs a := by
  obtain ⟨C', D', s, x, f2, h1, h2⟩ := t
  refine ⟨C', D', s, x, f.trans f2 fun j hj h => ?_, fun b hb => ?_, fun b hb => ?_⟩
  · rcases h with h | h
    · rcases hC j h with h | h
      · exact .inl h
      · omega
    · exact .inr h
  · rcases h1 b hb with h | h
    · exact hC b h
    · exact .inr (Nat.le_trans f.size h)
  · rcases h2 b hb with h | h
    · exact hD b h
    · exact .inr (Nat.le_trans f.size h)
theorem Xap.later {w W : World} {r : Nat} {rr : Option Nat} {C D C1 D1 : Nat → Prop} (ap : Xap w r rr C D) (hs : w.heap.size ≤ W.heap.size) (hC : ∀ b, C1 b → C b ∨ w.heap.size ≤ b) (hD : ∀ b, D1 b → D b ∨ w.heap.size ≤ b) : Xap W r rr C1 D1 := by
  have hl := ap.lt
  refine ⟨fun h => (hC r h).elim ap.rc fun h => by omega, fun h => (hD r h).elim ap.rd fun h => by omega, by omega, fun j hj => ?_⟩
  obtain ⟨h1, h2⟩ := ap.off j hj
  exact ⟨fun h => (hC j h).elim h1 fun h => by omega, by omega⟩
section
variable (g k T E : Nat) (C D : Nat → Prop) (L : Lv) (w : World)
set_option maxRecDepth 100000 in
set_option maxHeartbeats 1000000 in
theorem xbeyond_any (s : KsS w g C D k L T E) (n h : Nat) (hT : T ≤ 281474976710656) (hh : h ≤ 60) :
    Calls Try.prog 47 #[.pointer (some ⟨g, 0, none⟩), .int .u64 (n : Nat), .int .i64 (h : Nat)] w fun e w' => e = .returned (.bool (decide ((281474976710656 - T) / 2 ^ h < n))) ∧ w' = w := by
  obtain ⟨p, m, c, rs, s⟩ := s
  have c2 := s.c2
  obtain ⟨U, hU⟩ : ∃ U, 281474976710656 - T = U := ⟨_, rfl⟩
  obtain ⟨V, hV⟩ : ∃ V, U / 2 ^ h = V := ⟨_, rfl⟩
  rw [hU, hV]
  have iU : (281474976710656 : Int) - (T : Int) = (U : Int) := by omega
  have wU : IntKind.u64.wrap ((281474976710656 : Int) - (T : Int)) = (U : Int) := by rw [iU, IntKind.wrap_u64]; omega
  have iV : (U : Int) / 2 ^ h = (V : Int) := by rw [← hV]; push_cast; rfl
  have hUb : (U : Int) ≤ 281474976710656 := by omega
  have hVb : (V : Int) ≤ 281474976710656 := by have := Nat.div_le_self U (2 ^ h); omega
  have hhi : (h : Int) < 64 := by omega
  have hh0 : (0 : Int) ≤ (h : Int) := by omega
  clear s hU hV hT
  by_cases hd : V < n
  · have kd : decide (V < n) = true := decide_eq_true hd
    rw [kd]
    clear hd
    go_enter Try.func47, Try.ntmps47
    go_wp2_with fail
    go_ret
    exact ⟨rfl, rfl⟩
  · have kd : decide (V < n) = false := decide_eq_false hd
    rw [kd]
    clear hd
    go_enter Try.func47, Try.ntmps47
    go_wp2_with fail
    go_ret
    exact ⟨rfl, rfl⟩
/-- a stack that is new to w, its blocks C and D -/
def XNew (w w' : World) (g : Nat) (C D : Nat → Prop) (k : Nat) (L : Lv) (T E : Nat) : Prop := KsS w' g C D k L T E ∧ Fr S0 w w' ∧ ∀ b, C b ∨ D b → w.heap.size ≤ b
set_option maxRecDepth 100000 in
set_option maxHeartbeats 1000000 in
theorem xnew_no (k : Int) (hk : ¬ (8 ≤ k ∧ k ≤ 4096)) : Calls Try.prog 13 #[.int .i64 k] w fun e w' => e = .returned (.tuple #[.pointer none, .int .i64 1]) ∧ w' = w := by
  by_cases h8 : k < 8
  · have k1 : decide (k < 8) = true := decide_eq_true h8
    go_enter Try.func13, Try.ntmps13
    go_wp2_with fail
    go_ret2
    exact ⟨rfl, rfl⟩
  · have h9 : 4096 < k := by omega
    have k1 : decide (k < 8) = false := decide_eq_false h8
    have k2 : decide (4096 < k) = true := decide_eq_true h9
    clear hk
    go_enter Try.func13, Try.ntmps13
    go_wp2_with fail
    go_ret2
    exact ⟨rfl, rfl⟩
set_option maxRecDepth 100000 in
set_option maxHeartbeats 1000000 in
theorem xnew_yes (hk : 8 ≤ k) (hk2 : k ≤ 4096) : Calls Try.prog 13 #[.int .i64 (k : Nat)] w fun e w' => e = .returned (.tuple #[.pointer (some ⟨w.heap.size, 0, none⟩), .int .i64 0]) ∧ XNew w w' w.heap.size (· = w.heap.size) (fun _ => False) k [] 0 0 := by
  have k1 : decide ((k : Int) < 8) = false := decide_eq_false (by omega)
  have k2 : decide ((4096 : Int) < (k : Int)) = false := decide_eq_false (by omega)
  clear hk hk2
  go_enter Try.func13, Try.ntmps13
  go_wp2_with fail
  go_ret2
  refine ⟨rfl, ⟨none, 0, 0, [], heap_alloc_new w _, World.ownsRow_nil _ _ _ _, Lvs.nil _ _, fun b h => by simp [Value.ownBlock] at h, rfl, fun _ _ h => h, fun b hb => ?_⟩, Fr.alloc _ _ _, fun b hb => ?_⟩
  · rcases hb with rfl | h
    · simp
    · exact h.elim
  · rcases hb with rfl | h
    · exact Nat.le_refl _
    · exact h.elim
end
theorem u64_and_one (x : Nat) (hx : x < 18446744073709551616) : bits .and .u64 (x : Int) 1 = ((x % 2 : Nat) : Int) := by
  have h := u64_and_nat x 1 hx (by decide)
  rw [Nat.and_one_is_mod] at h
  exact h
/-- the stack with one value more, so often -/
theorem fine_addN {L : Lv} {E : Nat} (f : Fine L E) (v : Int) (n : Nat) (hn : n ≤ 281474976710656 - wtL L) (hk : kept L ≤ 900000) : Fine (addN L v n) E := by
  have h1 := f.wt
  have h2 := addB_kept L v n 49
  exact ⟨addN_top L v n f.top, by rw [addN_wt L v n (by omega)]; omega, by unfold addN; omega, addN_asc L v n f.asc, f.led⟩
section
variable (g r k T E a n : Nat) (v : Int) (rr : Option Nat) (C D : Nat → Prop) (L : Lv) (bs : List Nat) (w : World)
set_option maxRecDepth 100000 in
set_option maxHeartbeats 1000000 in
theorem xadd_zero (c : Value) : Calls Try.prog 38 #[.pointer (some ⟨g, 0, none⟩), .int .i64 v, .int .u64 0, c] w fun e w' => e = .returned (.int .i64 4) ∧ w' = w := by
  go_enter Try.func38, Try.ntmps38
  go_wp2_with fail
  go_ret
  exact ⟨rfl, rfl⟩
set_option maxRecDepth 100000 in
set_option maxHeartbeats 1000000 in
theorem xadd_cap (s : KsS w g C D k L T E) (c : Value) (hn : 281474976710656 - T < n) (hT : T ≤ 281474976710656) : Calls Try.prog 38 #[.pointer (some ⟨g, 0, none⟩), .int .i64 v, .int .u64 (n : Nat), c] w fun e w' => e = .returned (.int .i64 6) ∧ w' = w := by
  have HB := xbeyond_any g k T E C D L w s n 0 hT (by omega)
  rw [Nat.pow_zero, Nat.div_one, decide_eq_true hn, show ((0 : Nat) : Int) = 0 from rfl] at HB
  have H := Lib.hid HB
  have k0 : ((n : Int) == 0) = false := by rw [beq_eq_false_iff_ne]; omega
  clear HB s hn
  go_enter Try.func38, Try.ntmps38
  go_wp2_with fail
  refine H.out.mono ?_
  rintro e w1 ⟨rfl, rfl⟩
  go_wp2_with fail
  go_ret
  exact ⟨rfl, rfl⟩
set_option maxRecDepth 100000 in
set_option maxHeartbeats 8000000 in
theorem xadd_yes (s : KsS w g C D k L T E) (x : RdIs w r rr bs a) (ap : Xap w r rr C D) (hk : 8 ≤ k) (hk2 : k ≤ 4096) (hF : Fine L E) (hkp : kept L ≤ 900000) (hs : bs.length ≤ 140737488355328) (h0 : 0 < n) (hT : T = wtL L) (hn : n ≤ 281474976710656 - T) :
    Calls Try.prog 38 #[.pointer (some ⟨g, 0, none⟩), .int .i64 v, .int .u64 (n : Nat), .pointer (some ⟨r, 0, none⟩)] w fun e w' => e = .returned (.int .i64 0) ∧
      XpTurn w w' g r rr C D k (pack k bs (addN L v n) E a).1 (T + n) (pack k bs (addN L v n) E a).2.1 bs (pack k bs (addN L v n) E a).2.2 := by
  have hwt := hF.wt
  have hTb : T ≤ 281474976710656 := by omega
  have HB := xbeyond_any g k T E C D L w s n 0 hTb (by omega)
  rw [Nat.pow_zero, Nat.div_one, decide_eq_false (by omega), show ((0 : Nat) : Int) = 0 from rfl] at HB
  have H := Lib.hid HB
  have k0 : ((n : Int) == 0) = false := by rw [beq_eq_false_iff_ne]; omega
  have HT0 := Lib.hid (KsTurn.same s (Fr.refl S0 w))
  have HX := Lib.hid x
  have HAP := Lib.hid ap
  have HF := Lib.hid hF
  have HFN := Lib.hid (fine_addN hF v n (by omega) hkp)
  have HKP := Lib.hid (And.intro hkp (And.intro hk hk2))
  have HBS := Lib.hid hs
  have hnb : n ≤ 281474976710656 := by omega
  have HTN := Lib.hid hTb
  have hmf : ∀ W : World, (Instr.makeFunc (.func 20) #[.pointer (some ⟨r, 0, none⟩)] #[]).run Try.prog W = .ok (.func (.func 20) #[.pointer (some ⟨r, 0, none⟩)] #[]) W := fun W => by rfl
  have hTi : (T : Int) ≤ 281474976710656 := by omega
  have hni : (n : Int) ≤ 281474976710656 := by omega
  clear HB s x ap hF hkp hk hk2 hs hn hT hwt h0
  go_enter Try.func38, Try.ntmps38
  go_wp2_with fail
  refine H.out.mono ?_
  rintro e w1 ⟨rfl, rfl⟩
  clear H
  go_wp2_with fail
  go_loopw [9, 17] (fun _ z wr => ∃ h : Nat, z = .int .i64 (h : Nat) ∧ h ≤ 49 ∧ Hid (KsTurn w1 wr g C D k (addB L v n h) T E)) (fun _ z _ => 49 - (intOf z).toNat)
  case atStart => exact ⟨0, rfl, by omega, HT0⟩
  case round =>
    obtain ⟨h, rfl, hh, ht⟩ := hrel
    by_cases hlt : (h : Int) < 49
    · obtain ⟨V, hV⟩ : ∃ V, n / 2 ^ h = V := ⟨_, rfl⟩
      have iV : (n : Int) / 2 ^ h = (V : Int) := by rw [← hV]; push_cast; rfl
      have hVb : V ≤ 281474976710656 := Nat.le_trans (by rw [← hV]; exact Nat.div_le_self _ _) hnb
      have hVi : (V : Int) ≤ 281474976710656 := by omega
      have hb := u64_and_one V (by omega)
      have hh0 : (0 : Int) ≤ (h : Int) := by omega
      have hh64 : (h : Int) < 64 := by omega
      rcases (by omega : V % 2 = 0 ∨ V % 2 = 1) with hp | hp
      · rw [hp, show ((0 : Nat) : Int) = 0 from rfl] at hb
        have HN : Hid (addB L v n (h + 1) = addB L v n h) := Lib.hid (by rw [addB, hV, if_neg (by omega)])
        clear hp hV
        go_wp2_with fail
        go_roundw
        case rel => exact ⟨h + 1, by go_num, by omega, by rw [HN.out]; exact ht⟩
        case measure => simp [intOf]; omega
      · rw [hp, show ((1 : Nat) : Int) = 1 from rfl] at hb
        have HN : Hid (addB L v n (h + 1) = putL (addB L v n h) h v) := Lib.hid (by rw [addB, hV, if_pos hp])
        obtain ⟨C1, D1, s1, f1, hC, hD⟩ := ht.out
        have HS1 := Lib.hid s1
        have HFR := Lib.hid (And.intro f1 (And.intro hC hD))
        have hkb := addB_kept L v n h
        have hkl := HKP.out.1
        have hlt' : ∀ b, C1 b → b < wr.heap.size := fun b hb => let ⟨p, m, c, rs, s⟩ := s1; s.below b (.inl hb)
        have HPUT : Hid (∀ W t, W = wr.alloc (.cells #[.int .i64 v] t) → Calls Try.prog 48 #[.pointer (some ⟨g, 0, none⟩), .int .i64 (h : Nat), .slice (some ⟨wr.heap.size, 0, none⟩) 1 1] W fun e w' => e = .returned (.tuple #[]) ∧ KsTurn w1 w' g C D k (addB L v n (h + 1)) T E) := Lib.hid fun W t e => by
          subst e
          have hp := xput_any g k T E h 1 1 C1 D1 (addB L v n h) (some ⟨wr.heap.size, 0, none⟩) [v] (wr.alloc (.cells #[.int .i64 v] t)) (HS1.out.fr (Fr.alloc S0 wr _) fun _ _ h => h) (Sz.one wr v t)
            (fun _ a ha hc => by obtain rfl := Option.some.inj ha; have := hlt' _ hc; simp only at this; omega) (List.pairwise_singleton _ _) (addB_ind _ L v n HF.out.asc (fun M h hM => putL_asc v M h hM) h) (by omega) (fun l hl => by have := len_kept _ l hl; omega) (by omega)
          refine hp.mono fun e w' hq => ⟨hq.1, ?_⟩
          rw [HN.out, ← putC_one]
          exact KsTurn.after HFR.out.1 HFR.out.2.1 HFR.out.2.2 (KsTurn.after ((Fr.alloc S0 wr _).mono fun _ _ h => h.elim) (fun _ h => .inl h) (fun _ h => .inl h) hq.2)
        clear hp hV ht s1 f1 hC hD hkb hkl hlt'
        go_wp2_with fail
        refine (HPUT.out _ _ rfl).mono ?_
        rintro e w3 ⟨rfl, t3⟩
        have HT3 := Lib.hid t3
        clear t3 HPUT HFR HS1
        go_wp2_with fail
        go_roundw
        case rel => exact ⟨h + 1, by go_num, by omega, HT3⟩
        case measure => simp [intOf]; omega
    · obtain rfl : h = 49 := by omega
      obtain ⟨C1, D1, ⟨p, m, c, rs, s1⟩, f1, hC, hD⟩ := ht.out
      have c2 := s1.c2
      have z2 := s1.z 2
      obtain ⟨s2, f2⟩ := s1.tot (T + n)
      rw [show ((T + n : Nat) : Int) = (T : Int) + (n : Int) from by push_cast; rfl] at s2 f2
      have hgC : C1 g := s1.self
      have f3 : Fr C w1 (wr.setCell ⟨g, 2, none⟩ (.int .u64 ((T : Int) + (n : Int)))) := f1.trans f2 fun j hj e => by
        rw [show j = g from e] at hj ⊢
        exact (hC g hgC).resolve_right (by omega)
      have x3 : RdIs (wr.setCell ⟨g, 2, none⟩ (.int .u64 ((T : Int) + (n : Int)))) r rr bs a := HX.out.fr f3 HAP.out.rc fun j hj => (HAP.out.off j hj).1
      have ap3 : Xap (wr.setCell ⟨g, 2, none⟩ (.int .u64 ((T : Int) + (n : Int)))) r rr C1 D1 := HAP.out.later f3.size hC hD
      have HPK := Lib.hid (xpack_any g r k (T + n) E a rr C1 D1 (addN L v n) bs _ ⟨p, m, c, rs, s2⟩ x3 ap3 HKP.out.2.1 HKP.out.2.2 HFN.out HBS.out)
      have HFR := Lib.hid (And.intro (f3.mono fun _ _ h => .inl h : Fr (fun b => C b ∨ b = r) w1 _) (And.intro hC hD))
      have hsum : (T : Int) + (n : Int) < 18446744073709551616 := by omega
      clear s1 f1 hC hD s2 f2 hgC f3 x3 ap3 ht
      go_wp2_with fail
      refine HPK.out.mono ?_
      rintro e w5 ⟨rfl, t5⟩
      have HT5 := Lib.hid (XpTurn.after HFR.out.1 HFR.out.2.1 HFR.out.2.2 t5)
      clear t5 HPK HFR
      go_wp2_with fail
      go_ret
      exact ⟨rfl, HT5.out⟩
end
end Go.Proofs.Ytbpfmjekpjfceaa
