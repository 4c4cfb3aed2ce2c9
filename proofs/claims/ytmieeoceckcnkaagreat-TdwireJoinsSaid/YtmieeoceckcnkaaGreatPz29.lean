/- RgTake -/
import Derived.Test.YtmieeoceckcnkaaGreatPz1
import Derived.Test.YtmieeoceckcnkaaGreatPz2
import Derived.Test.YtmieeoceckcnkaaGreatPz3
import Derived.Test.YtmieeoceckcnkaaGreatPz4
import Derived.Test.YtmieeoceckcnkaaGreatPz5
import Derived.Test.YtmieeoceckcnkaaGreatPz6
import Derived.Test.YtmieeoceckcnkaaGreatPz7
import Derived.Test.YtmieeoceckcnkaaGreatPz10
import Derived.Test.YtmieeoceckcnkaaGreatPz11
import Derived.Test.YtmieeoceckcnkaaGreatPz12
import Derived.Test.YtmieeoceckcnkaaGreatPz13
import Derived.Test.YtmieeoceckcnkaaGreatPz14
import Derived.Test.YtmieeoceckcnkaaGreatPz15
import Derived.BigQuiet
import Derived.BigRegion
import Derived.Deep.RegionHeld3
import Derived.Lib.AppendZerosOnto
import Derived.Lib.SliceRun
import Derived.Lib.Walk
import Derived.StillTailTactics
import Derived.Deep.RegionLaw
import Derived.Maps.AppendAt
import Derived.Laws.AppendOwnNone
import Derived.Laws.OwnMore
import Derived.Laws.Externs
import Derived.Shelf.Spec.BitsCarry
import Derived.Deep.CutBlock
import Derived.Deep.CutRange
import Derived.Deep.DeepCutAuto
import Derived.Lib.BitFns
import Derived.Shelf.Small.Bits
import Derived.Shelf.Strconv.Itoa0
import Derived.Shelf.Bits.Mul64
import Derived.Test.YtmieeoceckcnkaaGreatRows
import Derived.WalkKit
import Derived.WalkSpells
import Derived.WalkLawsBesides
import Derived.Deep.QuietTactic
import Derived.RegionTactic
import Derived.Deep.AppendLies
import Derived.Laws.ResultCell
import Derived.Laws.EntriesVeiled
import Derived.Lib.Hide
import Derived.Laws.BytesArg
import Derived.Lib.SlBytesConst
set_option maxRecDepth 100000
set_option maxHeartbeats 8000000
namespace Go.Proofs.YtmieeoceckcnkaaGreat
open Go.RowKit
section
variable (g : Nat) (C : Nat → Prop) (p : Option Addr) (n c : Nat) (q : Option Addr) (m e : Nat) (x : Dg) (w : World)
theorem rtake_any (g2 : Nat) (C2 : Nat → Prop) (p2 : Option Addr) (n2 c2 : Nat) (q2 : Option Addr) (m2 e2 : Nat) (y : Dg) (s : RgIs w g C p n c q m e x) (t : RgIs w g2 C2 p2 n2 c2 q2 m2 e2 y) (hN : x.all.length + y.all.length ≤ 400000000000) :
    Calls Tryz.prog 18 #[.pointer (some ⟨g, 0, none⟩), .pointer (some ⟨g2, 0, none⟩)] w fun e w' => e = .returned (.int .i64 (x.takeE y : Nat)) ∧ RTurn w w' g C (x.take y) := by
  have HS0 : Hid (∀ W, Fr S0 w W → RTurn w W g C x) := Lib.hid fun W f => RTurn.same ⟨p, n, c, q, m, e, s⟩ f
  have a0 := s.c0
  have d0 := t.c0
  unfold Dg.takeE Dg.take
  by_cases h1 : y.d = x.d
  · rw [if_neg (by simpa using h1)]
    have htx := s.good.tot
    have hty := t.good.tot
    have hnil := t.good.allNil
    have HAX := Lib.hid (fun W (f : Fr S0 w W) => rall_any g C p n c q m e x W (s.fr0 f) (by omega))
    have HAY := Lib.hid (fun W (f : Fr S0 w W) => rall_any g2 C2 p2 n2 c2 q2 m2 e2 y W (t.fr0 f) (by omega))
    have HTX := Lib.hid (fun pv cv W W2 (a : Acc 76 W2 W (.slice pv x.all.length cv) x.all.length x.all) => rtotal_any pv x.all.length cv x.all W (Sl.ofOwns a.own) (by have : wts x.all = x.tot := rfl; omega))
    have HTY := Lib.hid (fun pv cv W W2 (a : Acc 76 W2 W (.slice pv y.all.length cv) y.all.length y.all) => rtotal_any pv y.all.length cv y.all W (Sl.ofOwns a.own) (by have : wts y.all = y.tot := rfl; omega))
    rw [show wts x.all = x.tot from rfl] at HTX
    rw [show wts y.all = y.tot from rfl] at HTY
    obtain ⟨kx, ekx⟩ : ∃ k, x.all.length = k := ⟨_, rfl⟩
    obtain ⟨ky, eky⟩ : ∃ k, y.all.length = k := ⟨_, rfl⟩
    rw [ekx] at HAX HTX
    rw [eky] at HAY HTY
    obtain ⟨A, eA⟩ : ∃ A, x.d = A := ⟨_, rfl⟩
    obtain ⟨TX, eTX⟩ : ∃ T, x.tot = T := ⟨_, rfl⟩
    obtain ⟨TY, eTY⟩ : ∃ T, y.tot = T := ⟨_, rfl⟩
    obtain ⟨R, eR⟩ : ∃ R, 281474976710656 - TX = R := ⟨_, rfl⟩
    have iR : (281474976710656 : Int) - (TX : Int) = (R : Int) := by omega
    have bR : (R : Int) ≤ 281474976710656 := by omega
    have h1j : ((A : Int) != (A : Int)) = false := by rw [bne_eq_false_iff_eq]
    rw [h1, eA] at d0
    rw [eA] at a0
    rw [eTX] at HTX
    rw [eTY] at HTY hnil
    by_cases h3 : 281474976710656 < TX + TY
    · have hy0 : TY ≠ 0 := by omega
      rw [if_neg (by rw [eTY]; exact hy0), if_pos (by rw [eTX, eTY]; exact h3), if_pos (.inr (.inr (by rw [eTX, eTY]; exact h3)))]
      have hRu : (R : Int) < (TY : Int) := by omega
      have dR : decide (R < TY) = true := decide_eq_true (by omega)
      clear s t h1 htx hty hnil ekx eky eA eTX eTY eR h3 hy0 hN
      go_enter Tryz.func18, Tryz.ntmps18
      go_wp2_with fail
      go_quiet (fail)
      go_wp2_with fail
      refine (HAY.out _ (Fr.drewN S0 w _)).mono ?_
      rintro e1 w1 ⟨v1, rfl, a1⟩
      obtain ⟨pv, cv, rfl⟩ := slFormN a1.own
      have A1 := Lib.hid a1
      have F1 := Lib.hid ((Fr.drewN S0 w _).trans0 a1.fr)
      clear a1 HAY
      go_wp2_with fail
      refine (HTY.out _ _ _ _ A1.out).mono ?_
      rintro e2 w2 ⟨rfl, rfl⟩
      go_wp2_with fail
      refine (HAX.out _ F1.out).mono ?_
      rintro e3 w3 ⟨v3, rfl, a3⟩
      obtain ⟨pw, cw, rfl⟩ := slFormN a3.own
      have A3 := Lib.hid a3
      have F3 := Lib.hid (F1.out.trans0 a3.fr)
      clear a3 HAX
      go_wp2_with fail
      refine (HTX.out _ _ _ _ A3.out).mono ?_
      rintro e4 w4 ⟨rfl, rfl⟩
      go_wp2_with fail
      go_ret
      exact ⟨rfl, HS0.out _ F3.out⟩
    · have hRu : ¬ (R : Int) < (TY : Int) := by omega
      have dR : decide (R < TY) = false := decide_eq_false (by omega)
      by_cases h2 : TY = 0
      · rw [if_pos (by rw [eTY]; exact h2), if_pos (.inr (.inl (by rw [eTY]; exact h2)))]
        have hk0 : ky = 0 := by rw [← eky, hnil.2 h2]; rfl
        subst hk0
        clear s t h1 htx hty hnil ekx eky eA eTX eTY eR h3 hN
        subst h2
        go_enter Tryz.func18, Tryz.ntmps18
        go_wp2_with fail
        go_quiet (fail)
        go_wp2_with fail
        refine (HAY.out _ (Fr.drewN S0 w _)).mono ?_
        rintro e1 w1 ⟨v1, rfl, a1⟩
        obtain ⟨pv, cv, rfl⟩ := slFormN a1.own
        have A1 := Lib.hid a1
        have F1 := Lib.hid ((Fr.drewN S0 w _).trans0 a1.fr)
        clear a1 HAY
        go_wp2_with fail
        refine (HTY.out _ _ _ _ A1.out).mono ?_
        rintro e2 w2 ⟨rfl, rfl⟩
        go_wp2_with fail
        refine (HAX.out _ F1.out).mono ?_
        rintro e3 w3 ⟨v3, rfl, a3⟩
        obtain ⟨pw, cw, rfl⟩ := slFormN a3.own
        have A3 := Lib.hid a3
        have F3 := Lib.hid (F1.out.trans0 a3.fr)
        clear a3 HAX
        go_wp2_with fail
        refine (HTX.out _ _ _ _ A3.out).mono ?_
        rintro e4 w4 ⟨rfl, rfl⟩
        go_wp2_with fail
        go_ret
        exact ⟨rfl, HS0.out _ F3.out⟩
      · rw [if_neg (by rw [eTY]; exact h2), if_neg (by rw [eTX, eTY]; exact h3), if_neg (by rw [eTX, eTY, h1]; rintro (h | h | h) <;> first | exact h rfl | exact h2 h | exact h3 h)]
        have hy0 : y.all ≠ [] := fun h => h2 (hnil.1 h)
        have hk0 : ((ky : Int) == 0) = false := by
          rw [beq_eq_false_iff_ne]
          intro h
          have h9 : ky = 0 := by omega
          rw [h9] at eky
          exact hy0 (List.eq_nil_of_length_eq_zero eky)
        have hgood := s.good.come (l := y.all) (lo := y.lo) (hi := y.hi) t.good.fit hy0 t.good.l1 t.good.l2 t.good.h1 t.good.h2 (by rw [show wts y.all = y.tot from rfl, eTX, eTY]; omega)
        have hWl := s.slW.len
        have hmx : m ≤ kx := by rw [← ekx]; unfold Dg.all; rw [List.length_append]; omega
        have HEN := Lib.hid (fun W (f : Fr S0 w W) => rends_any g C p n c q m e x W (s.fr0 f) y.lo y.hi y.all (by omega))
        have HOW := Lib.hid (fun W W2 (f : Fr S0 w W) (f2 : Fr (· = g) W W2) => f2.owns (s.fr0 f).wait fun y hy e => (s.other y hy).1 e)
        have HCA := Lib.hid (fun W w5 w6 q' k' e' (f : Fr S0 w W) => (s.fr0 f).came (w5 := w5) (w6 := w6) (q' := q') (k := k') (e' := e') hgood)
        have HPR := Lib.hid (fun W C p n c q m e (s' : RgIs W g C p n c q m e (x.come y.all y.lo y.hi)) => rpress_any g C p n c q m e _ W s' (by rw [Dg.come_all, List.length_append, ekx, eky]; omega))
        have HR1 : Hid (Room (m + ky)) := Lib.hid (Room.mk (by omega))
        have HTC := Lib.hid (fun W (f : Fr S0 w W) => And.intro (t.fr0 f).c3 (t.fr0 f).c4)
        have HGL := Lib.hid s.lt
        obtain ⟨X1, eX1⟩ : ∃ X1, y.lo = X1 := ⟨_, rfl⟩
        obtain ⟨X2, eX2⟩ : ∃ X2, y.hi = X2 := ⟨_, rfl⟩
        obtain ⟨Y, eY⟩ : ∃ Y, y.all = Y := ⟨_, rfl⟩
        rw [eX1, eX2, eY] at HEN HCA HPR
        rw [eX1, eX2, eY]
        rw [eX1, eX2] at HTC
        rw [eY] at HAY HTY
        rw [eA] at HEN HCA
        obtain ⟨Z, eZ⟩ : ∃ Z, x.come Y X1 X2 = Z := ⟨_, rfl⟩
        rw [eZ] at HEN HCA HPR
        rw [eZ]
        clear s t h1 htx hty hnil ekx eky eA eTX eTY eR h3 hN hy0 hgood hWl hmx eX1 eX2 eY eZ
        go_enter Tryz.func18, Tryz.ntmps18
        go_wp2_with fail
        go_quiet (fail)
        go_wp2_with fail
        refine (HAY.out _ (Fr.drewN S0 w _)).mono ?_
        rintro e1 w1 ⟨v1, rfl, a1⟩
        obtain ⟨pv, cv, rfl⟩ := slFormN a1.own
        have A1 := Lib.hid a1
        have F1 := Lib.hid ((Fr.drewN S0 w _).trans0 a1.fr)
        clear a1 HAY
        go_wp2_with fail
        refine (HTY.out _ _ _ _ A1.out).mono ?_
        rintro e2 w2 ⟨rfl, rfl⟩
        go_wp2_with fail
        refine (HAX.out _ F1.out).mono ?_
        rintro e3 w3 ⟨v3, rfl, a3⟩
        obtain ⟨pw, cw, rfl⟩ := slFormN a3.own
        have A3 := Lib.hid a3
        have F3 := Lib.hid (F1.out.trans0 a3.fr)
        clear a3 HAX
        go_wp2_with fail
        refine (HTX.out _ _ _ _ A3.out).mono ?_
        rintro e4 w4 ⟨rfl, rfl⟩
        obtain ⟨k3, k4⟩ := HTC.out _ F3.out
        have HSY := Lib.hid (Sl.ofOwns (A1.out.fr0 A3.out.fr).own)
        have HYF : Hid (∀ a, pv = some a → w.heap.size ≤ a.block) := Lib.hid fun a ha => by
          have h9 := A1.out.fresh a.block (by rw [ha]; rfl)
          exact Nat.le_trans (Fr.drewN S0 w _).size h9
        clear HTX HTY A1 A3
        go_wp2_with fail
        go_region_law (first
          | (go_simp; go_at_call 38; (with_reducible refine (HEN.out _ (F3.out.trans0 (Fr.drew S0 _))).mono ?_); rintro _ w5 ⟨rfl, f5, b5⟩; have F5 := Lib.hid f5; have B5 := Lib.hid b5; clear f5 b5; dsimp only))
        all_goals
          have FD := Lib.hid (F3.out.trans0 (Fr.drew S0 w3))
          have k2 := (cells5 B5.out).2.2.1
          have HO5 := Lib.hid (HOW.out _ _ FD.out F5.out)
          have HS5 : Hid (Sl w5 pv ky cv Y) := Lib.hid ((HSY.out.fr0 (Fr.drew S0 _)).fr F5.out fun a ha (e : a.block = g) => by have := HYF.out a ha; have := HGL.out; omega)
          have HZ5 : Hid (w3.drew.heap.size ≤ w5.heap.size) := Lib.hid F5.out.size
          clear HEN HOW HSY HYF k3 k4
          go_wp2_with (at_builtin; refine app_own elAm (.tmp 41) (.tmp 42) HO5.out HS5.out rfl HR1.out rfl rfl rfl rfl ?_; intro q6 d6 w6 hown hgrow hat; obtain ⟨y0, y1, y2⟩ := HCA.out _ _ _ _ _ _ FD.out F5.out B5.out hown hgrow (hat.imp id fun h => ⟨_, h, HZ5.out⟩); have Y2 := Lib.hid y2; clear hown hgrow hat y2)
          obtain ⟨C1, s4, f4, hC4⟩ := Y2.out
          have HD4 := Lib.hid (And.intro ((FD.out.mono fun _ _ h => h.elim).trans f4 fun _ _ h => h) (fun b hb => (hC4 b hb).imp id fun h => Nat.le_trans FD.out.size h))
          have HPW := Lib.hid (HPR.out _ _ _ _ _ _ _ _ s4)
          clear Y2 s4 f4 hC4 HPR HCA
          go_wp2_with fail
          refine HPW.out.mono ?_
          rintro e7 w7 ⟨rfl, ht⟩
          have HT : Hid (RTurn w w7 g C Z.press) := Lib.hid (RTurn.after HD4.out.1 HD4.out.2 ht)
          clear ht HPW
          go_wp2_with fail
          go_ret
          exact ⟨rfl, HT.out⟩
  · rw [if_pos (by simpa using h1), if_pos (.inl h1)]
    have h1i : ((y.d : Int) != (x.d : Int)) = true := by rw [bne_iff_ne]; omega
    obtain ⟨A, eA⟩ : ∃ A, x.d = A := ⟨_, rfl⟩
    obtain ⟨B, eB⟩ : ∃ B, y.d = B := ⟨_, rfl⟩
    rw [eA] at a0 h1i
    rw [eB] at d0 h1i
    clear s t h1 eA eB
    go_enter Tryz.func18, Tryz.ntmps18
    go_wp2_with fail
    go_quiet (fail)
    go_wp2_with fail
    go_ret
    exact ⟨rfl, HS0.out _ (Fr.drewN _ _ _)⟩
end
end Go.Proofs.YtmieeoceckcnkaaGreat
