/- A length that comes some times. -/
import Derived.Test.YtmcmchldjfnneaaInfFixed
namespace Go.Proofs.Ytmcmchldjfnneaa
open Go.RowKit

/-- how the call ends -/
def RunEnds (x : Res (Nat × Nat)) (w : World) (gr : Nat) (r : Option Nat) (b : List Nat) (e : Ending) (w' : World) : Prop :=
  match x with
  | .ok xt j => e = .returned (.tuple #[.int .u8 (xt.1 : Nat), .int .i64 (xt.2 + 1 : Nat)]) ∧ RdTo w w' gr r b j
  | .no m => e = .panicked (chn m) ∧ Fr (· = gr) w w'
theorem RunEnds.of {x y : Res (Nat × Nat)} {w : World} {gr : Nat} {r : Option Nat} {b : List Nat} {e : Ending} {w' : World} (h : x = y) (k : RunEnds y w gr r b e w') : RunEnds x w gr r b e w' := by rw [h]; exact k
theorem last_get (l : List Nat) (h : 0 < l.length) : l.getLastD 0 = l[l.length - 1]'(by omega) := by
  cases l with
  | nil => simp at h
  | cons x r => rw [List.getLastD_eq_getLast?, List.getLast?_eq_some_getLast (by simp), Option.getD_some, List.getLast_eq_getElem]

section
variable {g gr : Nat} {r t : Option Nat} {b : List Nat} {k lim : Nat} {T : List Nat} {L S : Value}
set_option maxRecDepth 100000 in
set_option maxHeartbeats 2000000 in
theorem run_any (A B gc : Nat) (cl l : List Nat) (p : Option Addr) (d : Nat) (w : World) (h : StIs w g gr r t b k lim T L S) (hs : SetIs w A B gc cl) (hw : gr < A ∨ B ≤ gr) (h19 : cl.length ≤ 19)
    (hl : SlI w .u8 p l) (hp : Off (· = gr) p) (hL : l.length ≤ 1000) :
    Calls Try.prog 74 #[.pointer (some ⟨g, 0, none⟩), .pointer (some ⟨gc, 0, none⟩), .slice p l.length d] w (RunEnds (rRun b cl l k) w gr r b) := by
  have H := Lib.hid h
  have HSY := Lib.hid (symbol_any A B gc cl w h hs hw)
  have HL := Lib.hid hl
  have HP := Lib.hid hp
  have HE : Hid (∀ s k1, rSym b cl k = .ok s k1 → rRun b cl l k = if s = 16 then (rIf (decide (l ≠ [])) 62 k1).then fun _ k2 => (rGrp b 2 k2).then fun n k3 => .ok (l.getLastD 0, 2 + n) k3
    else if s = 17 then (rGrp b 3 k1).then fun n k2 => .ok (0, 2 + n) k2
    else if s = 18 then (rGrp b 7 k1).then fun n k2 => .ok (0, 10 + n) k2
    else .ok (s, 0) k1) := Lib.hid (fun s k1 q => by unfold rRun; rw [q, Res.then_ok])
  have HEN : Hid (∀ m, rSym b cl k = .no m → rRun b cl l k = .no m) := Lib.hid (fun m q => by unfold rRun; rw [q]; rfl)
  clear h hs hw hl hp
  go_enter Try.func74, Try.ntmps74
  go_wp2_with fail
  refine HSY.out.mono ?_
  intro e w1 h1
  rcases rd_cases h1 with ⟨s, k1, hx, rfl, t1⟩ | ⟨m, hx, rfl, f1⟩
  rotate_left
  · have K := Lib.hid (HEN.out m hx)
    clear hx h1 HE HEN
    go_wp2_with fail
    exact ⟨rfl, RunEnds.of K.out ⟨rfl, f1⟩⟩
  have HE1 := Lib.hid (HE.out s k1 hx)
  have hs19 : s < 19 := Nat.lt_of_lt_of_le (rSym_lt hx) h19
  have HF1 := Lib.hid t1.2
  have HT1 := Lib.hid t1
  have H1 := Lib.hid (H.out.read t1)
  have HL1 := Lib.hid (HL.out.fr t1.2 (fun _ => HP.out))
  clear hx h1 HE HEN t1 HSY h19
  by_cases h16 : s = 16
  · subst h16
    rw [if_pos rfl] at HE1
    by_cases hl0 : l = []
    · subst hl0
      have K : Hid (rRun b cl [] k = .no 62) := Lib.hid (by rw [HE1.out, rIf_no (by decide)]; rfl)
      have HD := Lib.hid (demand_no 62 w1)
      clear HE1 hL
      go_wp2_with fail
      refine HD.out.mono ?_
      rintro e w' ⟨rfl, rfl⟩
      go_wp2_with fail
      exact ⟨rfl, RunEnds.of K.out ⟨rfl, HF1.out⟩⟩
    · have hpos : 0 < l.length := List.length_pos_iff.2 hl0
      rw [rIf_yes (decide_eq_true hl0), Res.then_ok] at HE1
      have HD := Lib.hid (demand_yes 62 w1)
      obtain ⟨bb, oo, hpe, hcl⟩ := HL1.out.at (l.length - 1) (by omega)
      have hbne : bb ≠ gr := HP.out ⟨bb, oo, none⟩ hpe
      have HLG := Lib.hid (last_get l hpos)
      obtain ⟨x, hxx⟩ : ∃ x, l[l.length - 1]'(by omega) = x := ⟨_, rfl⟩
      rw [hxx] at hcl HLG
      rw [HLG.out] at HE1
      obtain ⟨M, hM⟩ : ∃ M, l.length = M + 1 := ⟨l.length - 1, by omega⟩
      rw [show l.length - 1 = M by omega] at hcl
      subst hpe
      have q1 : IntKind.i64.wrap (M : Int) = (M : Int) := IntWalk.i64_in _ (by omega)
      have q2 : (M : Int) < (M : Int) + 1 := by omega
      have q3 : (0 : Int) ≤ (M : Int) := by omega
      have q4 : decide (((M + 1 : Nat) : Int) > 0) = true := decide_eq_true (by omega)
      have HG : Hid (∀ W, Fr S0 w1 W → Calls Try.prog 28 #[.pointer (some ⟨g, 0, none⟩), .int .i64 2] W (RdEnds (rGrp b 2 k1) W gr r b)) := Lib.hid (fun W f => group_any 2 W (H1.out.fr0 f) (by decide))
      rw [hM]
      clear hl0 hpos HL HL1 HP hxx hL
      cases hx : rGrp b 2 k1 with
      | ok n j =>
        have HGY : Hid (∀ W, Fr S0 w1 W → Calls Try.prog 28 #[.pointer (some ⟨g, 0, none⟩), .int .i64 2] W (fun e w' => e = .returned (.int .i64 (n : Nat)) ∧ RdTo w w' gr r b j ∧ Fr (· = gr) w1 w')) := Lib.hid (fun W f =>
          (HG.out W f).mono (fun e w' q => by
            rw [hx] at q
            exact ⟨q.1, ⟨q.2.1, HF1.out.trans ((f.mono fun _ _ h => h.elim).trans q.2.2 (fun _ _ h => h)) (fun _ _ h => h)⟩, (f.mono fun _ _ h => h.elim).trans q.2.2 (fun _ _ h => h)⟩))
        have hn : n < 4 := (rGrp_lt hx).1
        have q5 : IntKind.i64.wrap ((3 : Int) + (n : Int)) = 3 + (n : Int) := IntWalk.i64_in _ (by omega)
        have HQ6 : Hid ((3 : Int) + (n : Int) = ((2 + n + 1 : Nat) : Int)) := Lib.hid (by omega)
        have K : Hid (rRun b cl l k = .ok (x, 2 + n) j) := Lib.hid (by rw [HE1.out, hx, Res.then_ok])
        clear hx HG HE1 hM HLG
        go_wp2_with fail
        refine HD.out.mono ?_
        rintro e w' ⟨rfl, rfl⟩
        clear HD
        go_wp2_with fail
        go_region_law (first
          | (go_simp; go_at_call 28; refine (HGY.out _ (Fr.drew _ _)).mono ?_; rintro e w4 ⟨rfl, t4, f4⟩; have hc4 := f4.cell hcl (fun e => hbne e); have HT4 := Lib.hid t4; clear f4 t4))
        all_goals (
          go_wp2_with fail
          go_ret2
          exact RunEnds.of K.out ⟨by rw [← HQ6.out]; rfl, HT4.out⟩)
      | no m =>
        have HGN : Hid (∀ W, Fr S0 w1 W → Calls Try.prog 28 #[.pointer (some ⟨g, 0, none⟩), .int .i64 2] W (fun e w' => (e = .returned (.int .i64 0) ∧ False) ∨ e = .panicked (chn m) ∧ Fr (· = gr) w w')) := Lib.hid (fun W f =>
          (HG.out W f).mono (fun e w' q => by
            rw [hx] at q
            exact .inr ⟨q.1, HF1.out.trans ((f.mono fun _ _ h => h.elim).trans q.2 (fun _ _ h => h)) (fun _ _ h => h)⟩))
        have K : Hid (rRun b cl l k = .no m) := Lib.hid (by rw [HE1.out, hx]; rfl)
        clear hx HG HE1 hM HLG
        go_wp2_with fail
        refine HD.out.mono ?_
        rintro e w' ⟨rfl, rfl⟩
        clear HD
        go_wp2_with fail
        go_region_law (first
          | (go_simp; go_at_call 28; refine (HGN.out _ (Fr.drew _ _)).mono ?_; rintro e w4 (⟨rfl, hF⟩ | ⟨rfl, f4⟩); have hc4 : w4.cell? ⟨bb, oo + M, none⟩ = some (.int .u8 (x : Nat)) := hF.elim; rotate_left; exact ⟨rfl, RunEnds.of K.out ⟨rfl, f4⟩⟩))
        all_goals exact hF.elim
  · rw [if_neg h16] at HE1
    have e16 : ((s : Int) == 16) = false := by rw [beq_eq_false_iff_ne]; omega
    have n16 : ¬ (s : Int) = 16 := by omega
    have HG := Lib.hid (fun c (hc : c ≤ 16) => group_any c w1 H1.out hc)
    clear HL HL1 HP
    by_cases h17 : s = 17
    · subst h17
      rw [if_pos rfl] at HE1
      have HG3 : Hid (Calls Try.prog 28 #[.pointer (some ⟨g, 0, none⟩), .int .i64 3] w1 (RdEnds (rGrp b 3 k1) w1 gr r b)) := Lib.hid (HG.out 3 (by decide))
      clear HG h16
      go_wp2_with fail
      refine HG3.out.mono ?_
      intro e w2 h2
      rcases rd_cases h2 with ⟨n, k2, hx, rfl, t2⟩ | ⟨m, hx, rfl, f2⟩
      · have K : Hid (rRun b cl l k = .ok (0, 2 + n) k2) := Lib.hid (by rw [HE1.out, hx, Res.then_ok])
        have hn : n < 8 := (rGrp_lt hx).1
        have HT2 := Lib.hid (HT1.out.trans t2)
        clear hx h2 t2 HE1 HG3
        go_wp2_with fail
        go_ret2
        exact RunEnds.of K.out ⟨by go_num, HT2.out⟩
      · have K : Hid (rRun b cl l k = .no m) := Lib.hid (by rw [HE1.out, hx]; rfl)
        have HF2 : Hid (Fr (· = gr) w w2) := Lib.hid (HF1.out.trans f2 (fun _ _ h => h))
        clear hx h2 f2 HE1 HG3
        go_wp2_with fail
        exact ⟨rfl, RunEnds.of K.out ⟨rfl, HF2.out⟩⟩
    · rw [if_neg h17] at HE1
      have e17 : ((s : Int) == 17) = false := by rw [beq_eq_false_iff_ne]; omega
      have n17 : ¬ (s : Int) = 17 := by omega
      by_cases h18 : s = 18
      · subst h18
        rw [if_pos rfl] at HE1
        have HG3 : Hid (Calls Try.prog 28 #[.pointer (some ⟨g, 0, none⟩), .int .i64 7] w1 (RdEnds (rGrp b 7 k1) w1 gr r b)) := Lib.hid (HG.out 7 (by decide))
        clear HG h16 h17
        go_wp2_with fail
        refine HG3.out.mono ?_
        intro e w2 h2
        rcases rd_cases h2 with ⟨n, k2, hx, rfl, t2⟩ | ⟨m, hx, rfl, f2⟩
        · have K : Hid (rRun b cl l k = .ok (0, 10 + n) k2) := Lib.hid (by rw [HE1.out, hx, Res.then_ok])
          have hn : n < 128 := (rGrp_lt hx).1
          have HT2 := Lib.hid (HT1.out.trans t2)
          clear hx h2 t2 HE1 HG3
          go_wp2_with fail
          go_ret2
          exact RunEnds.of K.out ⟨by go_num, HT2.out⟩
        · have K : Hid (rRun b cl l k = .no m) := Lib.hid (by rw [HE1.out, hx]; rfl)
          have HF2 : Hid (Fr (· = gr) w w2) := Lib.hid (HF1.out.trans f2 (fun _ _ h => h))
          clear hx h2 f2 HE1 HG3
          go_wp2_with fail
          exact ⟨rfl, RunEnds.of K.out ⟨rfl, HF2.out⟩⟩
      · rw [if_neg h18] at HE1
        have e18 : ((s : Int) == 18) = false := by rw [beq_eq_false_iff_ne]; omega
        have n18 : ¬ (s : Int) = 18 := by omega
        have hmod : (s : Int) % 256 = (s : Int) := by omega
        clear HG h16 h17 h18
        go_wp2_with fail
        go_ret2
        exact RunEnds.of HE1.out ⟨by go_num, HT1.out⟩
end
end Go.Proofs.Ytmcmchldjfnneaa
