/- The law on what is opened. -/
import Derived.Test.YtnckoghgplnhfaaGreatZlAlive
import Derived.Test.YtnckoghgplnhfaaGreatZlRefOpen
namespace Go.Proofs.YtnckoghgplnhfaaGreat
open Go.RowKit

/-- how opening ends: the text L, the error E -/
def TellsE (L : List Nat) (E : Int) (w : World) (e : Ending) (w' : World) : Prop :=
  ∃ q n c, e = .returned (.tuple #[.slice q n c, .int .i64 E]) ∧ Fr S0 w w' ∧ ∀ W, Fr S0 w' W → (convert 22 9 (.slice q n c)).run Tryz.prog W = .ok (.string (strB L)) W
theorem conv_none (w : World) : (convert 22 9 (.slice none 0 0)).run Tryz.prog w = .ok (.string (strB [])) w :=
  run_convert_bytes_nil w 22 5 Tryz.underlying22 Tryz.underlying5 0 0 9 Tryz.underlying9
def ansL : Res (List Nat) → List Nat
  | .ok T _ => T
  | .no _ => []
def ansE : Res (List Nat) → Int
  | .ok _ _ => 0
  | .no m => (m : Nat)
theorem OpenEnds.tells {x : Res (List Nat)} {w w' : World} {e : Ending} (h : OpenEnds x w e w') : TellsE (ansL x) (ansE x) w e w' := by
  obtain ⟨f, h⟩ := h
  cases x with
  | ok T k =>
    obtain ⟨v, rfl, hv⟩ := h
    obtain ⟨q, c, rfl, -, -, -⟩ := slForm hv.own
    exact ⟨q, _, c, rfl, f, fun W g => conv_own (g.owns hv.own (fun _ _ h => h))⟩
  | no m => exact ⟨none, 0, 0, h, f, fun W _ => conv_none W⟩
theorem ROpenEnds.tells {x : Res (List Nat)} {w w' : World} {e : Ending} (h : ROpenEnds x w e w') : TellsE (ansL x) (ansE x) w e w' := by
  obtain ⟨f, h⟩ := h
  cases x with
  | ok T k =>
    obtain ⟨q, c, rfl, own, -⟩ := h
    exact ⟨q, _, c, rfl, f, fun W g => conv_own (g.owns own (fun _ _ h => h))⟩
  | no m => exact ⟨none, 0, 0, h, f, fun W _ => conv_none W⟩
/-- both ways to open tell the same -/
theorem both_open (p : Option Addr) (n d : Nat) (T : List Nat) (limit : Int) (w : World) (hn : T.length = n) (hT : SlI w .u8 p T) (h8 : ∀ x ∈ T, x < 256) (hd : n ≤ d) (hdm : d ≤ maxLen) (hs : n ≤ 4000) :
    ∃ L E, (∀ W, Fr S0 w W → Calls Tryz.prog 10 #[.slice p n d, .int .i64 limit] W (TellsE L E W)) ∧ ∀ W, Fr S0 w W → Calls Tryz.prog 11 #[.slice p n d, .int .i64 limit] W (TellsE L E W) := by
  by_cases hl : 0 ≤ limit ∧ limit ≤ 1048576
  · obtain ⟨lim, rfl⟩ : ∃ lim : Nat, limit = lim := ⟨limit.toNat, by omega⟩
    refine ⟨ansL (zopen T lim), ansE (zopen T lim), fun W f => ?_, fun W f => ?_⟩
    · exact (open_any p n d lim T W hn (hT.fr0 f) h8 hd hdm (by omega) (by omega) rfl).mono fun _ _ h => h.tells
    · exact (ropen_any p n d lim T W hn (hT.fr0 f) h8 (fun T k e => infl_256 (fun x hx => h8 x (List.mem_of_mem_drop hx)) e) hd hdm hs (by omega) rfl).mono fun _ _ h => h.tells
  · refine ⟨ansL (.no 1), ansE (.no 1), fun W f => ?_, fun W f => ?_⟩
    · exact (open_bad p n d limit W hl rfl).mono fun _ _ h => h.tells
    · exact (ropen_bad p n d limit W hl rfl).mono fun _ _ h => h.tells

set_option maxRecDepth 100000 in
set_option maxHeartbeats 8000000 in
theorem law_opens (p : Option Addr) (d : Nat) (b : List Nat) (head : Bool) (limit : Int) (w : World) (hb : SlI w .u8 p b) (h8 : ∀ x ∈ b, x < 256) (hp : p = none → d = 0) (hd : b.length ≤ d) (hdm : d ≤ maxLen) :
    Calls Tryz.prog 4 #[.slice p b.length d, .bool head, .int .i64 limit] w fun r w' => r = .returned (.bool true) ∧ Fr S0 w w' := by
  have HAL := Lib.hid (alive9_any w)
  obtain ⟨n, hn⟩ : ∃ n, b.length = n := ⟨_, rfl⟩
  rw [hn] at hd ⊢
  by_cases hbig : n > 400
  · have hg : (n : Int) > 400 := by omega
    clear hb h8 hp hd hdm hn hbig
    go_enter Tryz.func4, Tryz.ntmps4
    go_wp2_with fail
    refine HAL.out.mono ?_
    rintro _ w1 ⟨rfl, f1⟩
    go_wp2_with fail
    go_ret
    exact ⟨rfl, f1⟩
  · have hg : ¬ (n : Int) > 400 := by omega
    cases head with
    | false =>
      obtain ⟨L, E, hO, hR⟩ := both_open p n d b limit w hn hb h8 hd hdm (by omega)
      have HO := Lib.hid hO
      have HR := Lib.hid hR
      have HZ : Hid (∀ W, Fr S0 w W → Calls Tryz.prog 12 #[.slice p n d] W fun e w' => e = .returned (.bool (hdB b)) ∧ Fr S0 W w') := Lib.hid fun W f => zhead_any p n d b W hn (hb.fr0 f) h8
      have HZR : Hid (∀ W, Fr S0 w W → Calls Tryz.prog 13 #[.slice p n d] W fun e w' => e = .returned (.bool (hdB b)) ∧ Fr S0 W w') := Lib.hid fun W f => rhead_any p n d b W hn (hb.fr0 f) h8
      generalize hdB b = H at HZ HZR
      clear hb h8 hp hd hdm hn hbig hO hR
      go_enter Tryz.func4, Tryz.ntmps4
      go_wp2_with fail
      refine HAL.out.mono ?_
      rintro _ w1 ⟨rfl, f1⟩
      have F1 := Lib.hid f1
      have KO := Lib.hid (HO.out w1 f1)
      clear f1 HAL HO
      go_wp2_with fail
      refine KO.out.mono ?_
      rintro _ w3 ⟨q3, n3, c3, rfl, f3, k3⟩
      have F3 := Lib.hid (F1.out.trans0 f3)
      have K3 := Lib.hid k3
      have KR := Lib.hid (HR.out w3 F3.out)
      clear f3 k3 KO HR F1
      go_wp2_with fail
      refine KR.out.mono ?_
      rintro _ w4 ⟨q4, n4, c4, rfl, f4, k4⟩
      have F4 := Lib.hid (F3.out.trans0 f4)
      have k3 := K3.out w4 f4
      have k4' := k4 w4 (Fr.refl _ _)
      have KZ := Lib.hid (HZ.out w4 F4.out)
      clear f4 k4 K3 KR F3 HZ
      go_wp2_with fail
      refine KZ.out.mono ?_
      rintro _ w5 ⟨rfl, f5⟩
      have F5 := Lib.hid (F4.out.trans0 f5)
      have KY := Lib.hid (HZR.out w5 F5.out)
      clear f5 KZ F4 HZR k3 k4'
      go_wp2_with fail
      refine KY.out.mono ?_
      rintro _ w6 ⟨rfl, f6⟩
      have F6 := Lib.hid (F5.out.trans0 f6)
      clear f6 KY F5
      go_wp2_with fail
      go_ret
      exact ⟨rfl, F6.out⟩
    | true =>
      have HSRC : Hid (∀ W, Fr S0 w W → SrcIs W (.slice p n d) n (u8s b)) := Lib.hid fun W f => by
        have k := SrcIs.ofSl (hb.fr0 f) hp
        rw [hn] at k
        exact k
      obtain ⟨N, hN⟩ : ∃ N, 2 + n = N := ⟨_, rfl⟩
      have HN := Lib.hid hN
      have HR : Hid (Room N) := Lib.hid (Room.mk (by omega))
      have HT : Hid ((120 :: 1 :: b).length = N ∧ (∀ x ∈ (120 :: 1 :: b), x < 256) ∧ N ≤ 4000) := Lib.hid ⟨by simp only [List.length_cons]; omega, by
        intro x hx
        simp only [List.mem_cons] at hx
        rcases hx with hx | hx | hx
        · omega
        · omega
        · exact h8 x hx, by omega⟩
      have HU : Hid (([.int .u8 120, .int .u8 1] : List Value) ++ u8s b = u8s (120 :: 1 :: b)) := Lib.hid rfl
      generalize 120 :: 1 :: b = T at HT HU
      clear hb h8 hp hd hdm hn hbig hN
      go_enter Tryz.func4, Tryz.ntmps4
      go_wp2_with fail
      refine HAL.out.mono ?_
      rintro _ w1 ⟨rfl, f1⟩
      have F1' := Lib.hid f1
      clear f1 HAL
      go_wp2_with (first
        | ((with_reducible show wpList _ _ _ (Oper.mk (some 19) _ _ _ _ _ :: _) _ _); refine app_many el8 (.tmp 17) (.tmp 18) (own_row2 w1 _ _ _) (HSRC.out _ (F1'.out.trans0 (Fr.alloc _ _ _))) HN.out rfl rfl rfl rfl (one8s _) HR.out ?_; intro p2 c2 w2 own2 g2 at2; have F1 : Hid (Fr S0 w w2) := Lib.hid ((F1'.out.trans0 (Fr.alloc _ _ _)).append g2 (fun k hk => by simp only [Value.ownBlock, Option.some.injEq] at hk; have := F1'.out.size; omega)); rw [HU.out] at own2; have O2 := Lib.hid own2; clear own2 g2 at2)
        | fail)
      obtain ⟨p', c', e2, -, h2c, h2m⟩ := slForm O2.out
      simp only [Value.slice.injEq, true_and] at e2
      obtain ⟨rfl, rfl⟩ := e2
      obtain ⟨L, E, hO, hR⟩ := both_open p2 N c2 T limit w2 HT.out.1 (SlI.ofOwns O2.out) HT.out.2.1 h2c h2m HT.out.2.2
      have KO := Lib.hid (hO w2 (Fr.refl _ _))
      have HR0 := Lib.hid hR
      have HR : Hid (∀ W, Fr S0 w2 W → Calls Tryz.prog 11 #[.slice p2 N c2, .int .i64 limit] W (TellsE L E W)) := HR0
      have HZ : Hid (∀ W, Fr S0 w2 W → Calls Tryz.prog 12 #[.slice p2 N c2] W fun e w' => e = .returned (.bool (hdB T)) ∧ Fr S0 W w') := Lib.hid fun W f => zhead_any p2 N c2 T W HT.out.1 ((SlI.ofOwns O2.out).fr0 f) HT.out.2.1
      have HZR : Hid (∀ W, Fr S0 w2 W → Calls Tryz.prog 13 #[.slice p2 N c2] W fun e w' => e = .returned (.bool (hdB T)) ∧ Fr S0 W w') := Lib.hid fun W f => rhead_any p2 N c2 T W HT.out.1 ((SlI.ofOwns O2.out).fr0 f) HT.out.2.1
      generalize hdB T = H at HZ HZR
      clear hO hR HT HU HSRC HN O2 h2c h2m
      refine KO.out.mono ?_
      rintro _ w3 ⟨q3, n3, c3, rfl, f3, k3⟩
      have F3 := Lib.hid f3
      have K3 := Lib.hid k3
      have KR := Lib.hid (HR.out w3 F3.out)
      clear f3 k3 KO HR HR0
      go_wp2_with fail
      refine KR.out.mono ?_
      rintro _ w4 ⟨q4, n4, c4, rfl, f4, k4⟩
      have F4 := Lib.hid (F3.out.trans0 f4)
      have k3 := K3.out w4 f4
      have k4' := k4 w4 (Fr.refl _ _)
      have KZ := Lib.hid (HZ.out w4 F4.out)
      clear f4 k4 K3 KR F3 HZ
      go_wp2_with fail
      refine KZ.out.mono ?_
      rintro _ w5 ⟨rfl, f5⟩
      have F5 := Lib.hid (F4.out.trans0 f5)
      have KY := Lib.hid (HZR.out w5 F5.out)
      clear f5 KZ F4 HZR k3 k4'
      go_wp2_with fail
      refine KY.out.mono ?_
      rintro _ w6 ⟨rfl, f6⟩
      have F6 := Lib.hid (F5.out.trans0 f6)
      clear f6 KY F5
      go_wp2_with fail
      go_ret
      exact ⟨rfl, F1.out.trans0 F6.out⟩
end Go.Proofs.YtnckoghgplnhfaaGreat
