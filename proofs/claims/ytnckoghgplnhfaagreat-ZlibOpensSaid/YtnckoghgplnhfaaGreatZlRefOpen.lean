/- The document's answer: what a wrapped stream tells. -/
import Derived.Test.YtnckoghgplnhfaaGreatZlBase
import Derived.Test.YtnckoghgplnhfaaGreatInfReadsAll
namespace Go.Proofs.YtnckoghgplnhfaaGreat
open Go.RowKit

/-- how the reference's opening ends -/
def ROpenEnds (x : Res (List Nat)) (w : World) (e : Ending) (w' : World) : Prop :=
  Fr S0 w w' ∧ match x with
  | .ok T _ => ∃ q c, e = .returned (.tuple #[.slice q T.length c, .int .i64 0]) ∧ w'.ownsRow 0 5 1 (.slice q T.length c) T.length (u8s T) ∧ Fresh w (.slice q T.length c)
  | .no m => e = .returned (.tuple #[.slice none 0 0, .int .i64 (m : Nat)])
theorem ROpenEnds.no {x : Res (List Nat)} {w w' : World} {m : Nat} {M : Int} (h : x = .no m) (hm : (m : Int) = M) (hf : Fr S0 w w') : ROpenEnds x w (.returned (.tuple #[.slice none 0 0, .int .i64 M])) w' := by subst h hm; exact ⟨hf, rfl⟩
theorem ROpenEnds.ok {x : Res (List Nat)} {w w' : World} {T : List Nat} {k N : Nat} {q : Option Addr} {c : Nat} (h : x = .ok T k) (hf : Fr S0 w w') (hN : T.length = N) (ho : w'.ownsRow 0 5 1 (.slice q N c) N (u8s T)) (hv : Fresh w (.slice q N c)) : ROpenEnds x w (.returned (.tuple #[.slice q N c, .int .i64 0])) w' := by subst h hN; exact ⟨hf, q, c, rfl, ho, hv⟩

set_option maxRecDepth 100000 in
set_option maxHeartbeats 1000000 in
theorem ropen_bad {x : Res (List Nat)} (p : Option Addr) (n d : Nat) (limit : Int) (w : World) (h : ¬ (0 ≤ limit ∧ limit ≤ 1048576)) (hx : x = .no 1) :
    Calls Tryz.prog 11 #[.slice p n d, .int .i64 limit] w (ROpenEnds x w) := by
  have K := Lib.hid hx
  clear hx
  by_cases h0 : limit < 0
  · clear h
    go_enter Tryz.func11, Tryz.ntmps11
    go_wp2_with fail
    go_ret2
    exact ROpenEnds.no K.out rfl (Fr.refl _ _)
  · have h1 : limit > 1048576 := by omega
    clear h
    go_enter Tryz.func11, Tryz.ntmps11
    go_wp2_with fail
    go_ret2
    exact ROpenEnds.no K.out rfl (Fr.refl _ _)

theorem up8 (k : Nat) : upN k / 8 = (k + 7) / 8 := by unfold upN; omega
theorem infl_nil (lim : Nat) : infl [] lim = .no 20 := rBlocks_no (b := []) (lim := lim) (T := []) (k := 0) rfl

set_option maxRecDepth 100000 in
set_option maxHeartbeats 4000000 in
theorem ropen_any {x : Res (List Nat)} (p : Option Addr) (n d lim : Nat) (b : List Nat) (w : World) (hn : b.length = n) (hb : SlI w .u8 p b) (h8 : ∀ x ∈ b, x < 256) (hI8 : ∀ T k, infl (b.drop 2) lim = .ok T k → ∀ y ∈ T, y < 256) (hd : n ≤ d) (hdm : d ≤ maxLen) (hs : n ≤ 4000) (hl : lim ≤ 1048576) (hx : zopen b lim = x) :
    Calls Tryz.prog 11 #[.slice p n d, .int .i64 (lim : Nat)] w (ROpenEnds x w) := by
  have i1 : ¬ (lim : Int) < 0 := by omega
  have i2 : ¬ (lim : Int) > 1048576 := by omega
  by_cases h2 : n < 2
  · have K : Hid (x = .no 20) := Lib.hid (by rw [← hx]; unfold zopen; rw [if_pos (by omega)])
    have i3 : (n : Int) < 2 := by omega
    clear hn hb h8 hI8 hd hdm hs hl hx h2
    go_enter Tryz.func11, Tryz.ntmps11
    go_wp2_with fail
    go_ret2
    exact ROpenEnds.no K.out rfl (Fr.refl _ _)
  · obtain ⟨B, o, rfl, -⟩ := hb.at 0 (by omega)
    have i3 : ¬ (n : Int) < 2 := by omega
    have HX : Hid ((if hdB b = false then Res.no 90 else (infl (b.drop 2) lim).then fun T k => rest9 ((b.drop 2).drop (upN k / 8)) T) = x) := Lib.hid (by rw [← hx]; unfold zopen; exact (if_neg (by omega)).symm)
    have HH := Lib.hid (rhead_any (some ⟨B, o, none⟩) n d b w hn hb h8)
    cases hh : hdB b with
    | false =>
      rw [hh] at HX HH
      have K := Lib.hid HX.out.symm
      clear hn hb h8 hI8 hd hdm hs hl hx h2 hh HX
      go_enter Tryz.func11, Tryz.ntmps11
      go_wp2_with fail
      refine HH.out.mono ?_
      rintro _ w1 ⟨rfl, f1⟩
      go_wp2_with fail
      go_ret2
      exact ROpenEnds.no K.out rfl f1
    | true =>
      rw [hh] at HX HH
      have HX4 : Hid (((infl (b.drop 2) lim).then fun T k => rest9 ((b.drop 2).drop (upN k / 8)) T) = x) := Lib.hid (by have := HX.out; rw [if_neg (by decide)] at this; exact this)
      by_cases hd2 : d = 2
      · subst hd2
        obtain rfl : n = 2 := by omega
        have hb2 : b.drop 2 = [] := List.drop_eq_nil_of_le (by omega)
        rw [hb2, infl_nil] at HX4
        have K := Lib.hid HX4.out.symm
        have HR : Hid (∀ w', Calls Tryz.prog 26 #[.slice (some ⟨B, o, none⟩) 0 0, .int .i64 (lim : Nat)] w' fun e w'' => e = .returned (.tuple #[.slice none 0 0, .int .i64 0, .int .i64 20]) ∧ Fr S0 w' w'') := Lib.hid fun w' => by
          have k := sread_any blk_ok (some ⟨B, o, none⟩) 0 lim [] w' (SlI.nil _ _ _) (by simp) (by simp) hl
          rw [infl_nil] at k
          exact k.mono fun _ _ h => ⟨h.2, h.1⟩
        clear hn hb h8 hI8 hd hdm hs hl hx h2 hh HX hb2 HX4
        go_enter Tryz.func11, Tryz.ntmps11
        go_wp2_with fail
        refine HH.out.mono ?_
        rintro _ w1 ⟨rfl, f1⟩
        go_wp2_with fail
        refine (HR.out w1).mono ?_
        rintro _ w2 ⟨rfl, f2⟩
        go_wp2_with fail
        go_ret2
        exact ROpenEnds.no K.out rfl (f1.trans0 f2)
      · have HR : Hid (∀ w', Fr S0 w w' → Calls Tryz.prog 26 #[.slice (some ⟨B, o + 2, none⟩) (n - 2) (d - 2), .int .i64 (lim : Nat)] w' fun e w'' => RdAns (infl (b.drop 2) lim) w' w'' e) := Lib.hid fun w' f => by
          have k := sread_any blk_ok (some ⟨B, o + 2, none⟩) (d - 2) lim (b.drop 2) w' ((hb.fr0 f).drop 2) (fun x hx => h8 x (List.mem_of_mem_drop hx)) (by rw [List.length_drop]; omega) hl
          rw [List.length_drop, hn] at k
          exact k
        have i4 : (2 : Int) ≤ (n : Int) := by omega
        have i5 : (n : Int) ≤ (d : Int) := by omega
        have HB := Lib.hid hb
        have HN := Lib.hid hn
        have HU : Hid (∀ T k, infl (b.drop 2) lim = .ok T k → 2 + (k + 7) / 8 ≤ n) := Lib.hid fun T k e => by
          have := (infl_behind e).1
          rw [List.length_drop, hn] at this
          omega
        have HZ : Hid (∀ m, infl (b.drop 2) lim = .no m → m ≠ 0) := Lib.hid fun m e => infl_nz _ lim m e
        have HI8 := Lib.hid hI8
        have HC := Lib.hid (And.intro hd (And.intro hdm hs))
        have H8 := Lib.hid h8
        clear hn hb h8 hI8 hd hdm hs hl hx h2 hh HX
        go_enter Tryz.func11, Tryz.ntmps11
        go_wp2_with fail
        refine HH.out.mono ?_
        rintro _ w1 ⟨rfl, f1⟩
        have F1 := Lib.hid f1
        have KR := Lib.hid (HR.out w1 f1)
        clear f1 HH HR
        go_wp2_with fail
        refine KR.out.mono ?_
        rintro e w2 h2
        generalize infl (b.drop 2) lim = R at h2 HX4 HU HZ HI8
        cases R with
        | no m =>
          obtain ⟨f2, rfl⟩ := h2
          have hm : ((m : Int) != 0) = true := by rw [bne_iff_ne]; have := HZ.out m rfl; omega
          have K := Lib.hid HX4.out.symm
          have F2 := Lib.hid (F1.out.trans0 f2)
          clear f2 KR HX4 HU HZ HI8
          go_wp2_with fail
          go_ret2
          exact ROpenEnds.no K.out rfl F2.out
        | ok T k =>
          obtain ⟨f2, q, cq, rfl, own, fr⟩ := h2
          have F2 := Lib.hid (F1.out.trans0 f2)
          have HXR : Hid (rest9 ((b.drop 2).drop (upN k / 8)) T = x) := Lib.hid HX4.out
          rw [up8, List.drop_drop] at HXR
          have hV := HU.out T k rfl
          obtain ⟨U, hU⟩ : ∃ U, (k + 7) / 8 = U := ⟨_, rfl⟩
          rw [hU] at hV HXR ⊢
          obtain ⟨V, hV'⟩ : ∃ V, 2 + U = V := ⟨_, rfl⟩
          rw [hV'] at hV HXR
          have eV : (2 : Int) + (U : Int) = (V : Int) := by omega
          have i6 : (V : Int) ≤ (n : Int) := by omega
          have i7 : (n : Int) ≤ 4000 := by have := HC.out.2.2; omega
          have eW : wrap64 (V : Int) = (V : Int) := by unfold wrap64; omega
          have OW := Lib.hid own
          have HFT : Hid (Fresh w (.slice q T.length cq)) := Lib.hid (fresh_fr F1.out fr)
          have HT8 := Lib.hid (HI8.out T k rfl)
          obtain ⟨r, hr⟩ : ∃ r, b.drop V = r := ⟨_, rfl⟩
          have HRL : Hid (r.length = n - V) := Lib.hid (by rw [← hr, List.length_drop, HN.out])
          rw [hr] at HXR
          have HRr := Lib.hid hr
          obtain ⟨N, hNT⟩ : ∃ N, T.length = N := ⟨_, rfl⟩
          have HNT := Lib.hid hNT
          rw [hNT] at OW HFT ⊢
          clear f2 own fr KR HX4 HU HZ HI8 hU hV' hr hNT
          by_cases q4 : n - V < 4
          · have K : Hid (x = .no 20) := Lib.hid (by rw [← HXR.out]; unfold rest9; rw [if_pos (by rw [HRL.out]; exact q4)])
            by_cases q5 : d = V
            · subst q5
              obtain rfl : n = d := by have := HC.out; omega
              clear HRr HB HN H8 HXR
              go_wp2_with fail
              go_ret2
              exact ROpenEnds.no K.out rfl F2.out
            · go_wp2_with fail
              go_ret2
              exact ROpenEnds.no K.out rfl F2.out
          · have q5 : ¬ d = V := by have := HC.out; omega
            have hr2 : ∀ W, Fr S0 w W → SlI W .u8 (some ⟨B, o + V, none⟩) r := fun W f => by rw [← HRr.out]; exact (HB.out.fr0 f).drop V
            have hr8 : ∀ x ∈ r, x < 256 := fun x hx => by rw [← HRr.out] at hx; exact H8.out x (List.mem_of_mem_drop hx)
            have HCV : Hid (∀ W, Fr S0 w W → (convert 22 9 (.slice (some ⟨B, o + V, none⟩) 4 (d - V))).run Tryz.prog W = .ok (.string (strB (r.take 4))) W) := Lib.hid fun W f => conv_sl (hr2 W f) 4 (d - V) (by rw [HRL.out]; omega)
            have HSM : Hid (∀ W, Fr S0 w2 W → Calls Tryz.prog 19 #[.slice q N cq] W fun e w' => ∃ q' c', e = .returned (.slice q' 4 c') ∧ Fr S0 W w' ∧ RowNew W w' (.slice q' 4 c') (sum4 T)) := Lib.hid fun W f => rsum4_any q N cq T W HNT.out (SlI.ofOwns (f.owns OW.out (fun _ _ h => h))) HT8.out
            have hcap : (4 : Int) ≤ ((d - V : Nat) : Int) := by have := HC.out; omega
            have k2 := HCV.out w2.drew (F2.out.trans0 (Fr.drew _ _))
            obtain ⟨A, hA⟩ : ∃ A, r.take 4 = A := ⟨_, rfl⟩
            obtain ⟨S, hS⟩ : ∃ S, sum4 T = S := ⟨_, rfl⟩
            have HA8 : Hid (∀ x ∈ A, x < 256) := Lib.hid (by rw [← hA]; exact fun x hx => hr8 x (List.mem_of_mem_take hx))
            have HS8 : Hid (∀ x ∈ S, x < 256) := Lib.hid (by rw [← hS]; exact sum4_256 T)
            have HSL : Hid (S.length = 4) := Lib.hid (by rw [← hS]; rfl)
            have HXS : Hid ((if r.length < 4 then Res.no 20 else if A ≠ S then .no 91 else if 4 < r.length then .no 92 else .ok T 0) = x) := Lib.hid (by rw [← HXR.out, ← hA, ← hS]; rfl)
            rw [hA] at HCV k2
            rw [hS] at HSM
            clear hA hS hr2 hr8 HXR HRr HB HN H8
            by_cases qs : A = S
            · subst qs
              by_cases q6 : n - V > 4
              · have K : Hid (x = .no 92) := Lib.hid (by rw [← HXS.out, if_neg (by rw [HRL.out]; exact q4), if_neg (fun h => h rfl), if_pos (by rw [HRL.out]; exact q6)])
                go_wp2_with fail
                go_region_law (first
                  | (go_simp; go_at_call 19; (with_reducible refine (HSM.out _ (Fr.drew _ _)).mono ?_); rintro _ w3 ⟨q', c', rfl, f3, rn⟩; have k3 := HCV.out w3 (F2.out.trans0 ((Fr.drew S0 w2).trans0 f3)); have kS := conv_own rn.own; have F3 := Lib.hid ((Fr.drew S0 w2).trans0 f3); clear f3 rn; dsimp only))
                all_goals
                  go_wp2_with fail
                  go_ret2
                  exact ROpenEnds.no K.out rfl (F2.out.trans0 F3.out)
              · have K : Hid (x = .ok T 0) := Lib.hid (by rw [← HXS.out, if_neg (by rw [HRL.out]; exact q4), if_neg (fun h => h rfl), if_neg (by rw [HRL.out]; exact q6)])
                go_wp2_with fail
                go_region_law (first
                  | (go_simp; go_at_call 19; (with_reducible refine (HSM.out _ (Fr.drew _ _)).mono ?_); rintro _ w3 ⟨q', c', rfl, f3, rn⟩; have k3 := HCV.out w3 (F2.out.trans0 ((Fr.drew S0 w2).trans0 f3)); have kS := conv_own rn.own; have F3 := Lib.hid ((Fr.drew S0 w2).trans0 f3); clear f3 rn; dsimp only))
                all_goals
                  go_wp2_with fail
                  go_ret2
                  exact ROpenEnds.ok K.out (F2.out.trans0 F3.out) HNT.out (F3.out.owns OW.out (fun _ _ h => h)) HFT.out
            · have hne : ((strB A).toList == (strB S).toList) = false := by rw [strB_beq A S HA8.out HS8.out]; exact decide_eq_false qs
              have K : Hid (x = .no 91) := Lib.hid (by rw [← HXS.out, if_neg (by rw [HRL.out]; exact q4), if_pos qs])
              go_wp2_with fail
              go_region_law (first
                | (go_simp; go_at_call 19; (with_reducible refine (HSM.out _ (Fr.drew _ _)).mono ?_); rintro _ w3 ⟨q', c', rfl, f3, rn⟩; have k3 := HCV.out w3 (F2.out.trans0 ((Fr.drew S0 w2).trans0 f3)); have kS := conv_own rn.own; have F3 := Lib.hid ((Fr.drew S0 w2).trans0 f3); clear f3 rn; dsimp only))
              all_goals
                go_wp2_with fail
                go_ret2
                exact ROpenEnds.no K.out rfl (F2.out.trans0 F3.out)
end Go.Proofs.YtnckoghgplnhfaaGreat
