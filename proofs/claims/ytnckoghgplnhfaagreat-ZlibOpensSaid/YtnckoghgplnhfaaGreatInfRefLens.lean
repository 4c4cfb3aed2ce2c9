/- The reference's lengths (made by tools/genlens.py). -/
import Derived.Test.YtnckoghgplnhfaaGreatInfRefSym
import Derived.Test.YtnckoghgplnhfaaGreatInfOne
namespace Go.Proofs.YtnckoghgplnhfaaGreat
open Go.RowKit

section
variable {w wr w' : World} {g : Nat} {pb : Option Addr} {cb : Nat} {t : Option Nat} {b : List Nat} {k lim : Nat} {T : List Nat} {E : Nat}
/-- a stream and a row of bytes that is younger than w -/
structure LenK (w wr : World) (g : Nat) (pb : Option Addr) (cb : Nat) (t : Option Nat) (b : List Nat) (k lim : Nat) (T : List Nat) (E : Nat) (v : Value) (n : Nat) (l : List Nat) : Prop where
  st : RfIs wr g pb cb t b k lim T E
  fr : Fr (· = g) w wr
  own : wr.ownsRow 0 5 1 v n (u8s l)
  fresh : Fresh w v
  lt : g < w.heap.size
  tlt : ∀ j, t = some j → j < w.heap.size
  blt : ∀ a, pb = some a → a.block < w.heap.size
theorem LenK.to {v : Value} {n k1 E1 : Nat} {l : List Nat} (h : LenK w wr g pb cb t b k lim T E v n l) (hs : RfIs w' g pb cb t b k1 lim T E1) (hf : Fr (· = g) wr w') : LenK w w' g pb cb t b k1 lim T E1 v n l :=
  ⟨hs, h.fr.trans hf (fun _ _ h => h), hf.owns h.own (fun j hj e => by have := h.fresh j hj; have := h.lt; omega), h.fresh, h.lt, h.tlt, h.blt⟩
theorem LenK.app {v v' : Value} {n N : Nat} {l l' : List Nat} {o : Obj} (h : LenK w wr g pb cb t b k lim T E v n l) (hg : (wr.alloc o).grownBy w' v.ownBlock) (own : w'.ownsRow 0 5 1 v' N (u8s l')) (hv : Fresh w v') : LenK w w' g pb cb t b k lim T E v' N l' := by
  have f : Fr (fun j => v.ownBlock = some j) wr w' := ((Fr.alloc S0 wr o).mono (fun _ _ h => h.elim)).trans (Fr.grown hg) (fun _ _ h => h)
  refine ⟨h.st.fr f (fun e => by have := h.fresh g e; have := h.lt; omega) (fun j hj e => by have := h.fresh j e; have := h.tlt j hj; omega) (fun a ha e => by have := h.fresh _ e; have := h.blt a ha; omega), h.fr.trans f (fun j hj e => by have := h.fresh j e; omega), own, hv, h.lt, h.tlt, h.blt⟩
/-- how it ends -/
def LenEnds (x : Res (List Nat)) (w w' : World) (g : Nat) (pb : Option Addr) (cb : Nat) (t : Option Nat) (b : List Nat) (lim : Nat) (T : List Nat) (e : Ending) : Prop :=
  match x with
  | .ok l j => ∃ v, e = .returned v ∧ LenK w w' g pb cb t b j lim T 0 v l.length l
  | .no m => ∃ v j, e = .returned v ∧ RfIs w' g pb cb t b j lim T m ∧ Fr (· = g) w w'
theorem LenEnds.ok {x : Res (List Nat)} {v : Value} {l : List Nat} {j : Nat} (h : x = .ok l j) (hk : LenK w w' g pb cb t b j lim T 0 v l.length l) : LenEnds x w w' g pb cb t b lim T (.returned v) := by
  subst h; exact ⟨v, rfl, hk⟩
theorem LenEnds.no {x : Res (List Nat)} {v : Value} {m j : Nat} (h : x = .no m) (hk : RfIs w' g pb cb t b j lim T m) (hf : Fr (· = g) w w') : LenEnds x w w' g pb cb t b lim T (.returned v) := by
  subst h; exact ⟨v, j, rfl, hk, hf⟩
theorem sym_nz {b l : List Nat} {k m : Nat} (hk : k ≤ 8 * b.length) (h : rSym b l k = .no m) : m ≠ 0 := fun e => (Nz.sym l).of b k hk (e ▸ h)
theorem grp_nz {b : List Nat} {c k m : Nat} (hk : k ≤ 8 * b.length) (h : rGrp b c k = .no m) : m ≠ 0 := fun e => (Nz.grp c).of b k hk (e ▸ h)
end

theorem LenK.app1 {w wr w' : World} {g : Nat} {pb : Option Addr} {cb : Nat} {t : Option Nat} {b : List Nat} {k lim : Nat} {T : List Nat} {E : Nat} {v : Value} {n q c x : Nat} {l : List Nat} {o : Obj} (h : LenK w wr g pb cb t b k lim T E v n l) (hg : (wr.alloc o).grownBy w' v.ownBlock) (own : w'.ownsRow 0 5 1 (.slice (some ⟨q, 0, none⟩) (n + 1) c) (n + 1) (u8s l ++ u8s [x])) (hat : v.ownBlock = some q ∨ q = wr.heap.size + 1) : LenK w w' g pb cb t b k lim T E (.slice (some ⟨q, 0, none⟩) (n + 1) c) (n + 1) (l ++ [x]) :=
  h.app hg (by rw [← u8s_append]; exact own) (fun j hj => by
    simp only [Value.ownBlock, Option.some.injEq] at hj
    subst hj
    rcases hat with e | e
    · exact h.fresh _ e
    · have := h.fr.size; omega)
/-- whether no error is there -/
def eOf (w : World) (g : Nat) : Nat := match w.cell? ⟨g, 4, none⟩ with
  | some (.int _ n) => if n = 0 then 1 else 0
  | _ => 0
def lenOf : Value → Nat
  | .slice _ n _ => n
  | _ => 0
theorem RfIs.eOf {w : World} {g : Nat} {pb : Option Addr} {cb : Nat} {t : Option Nat} {b : List Nat} {k lim : Nat} {T : List Nat} {E : Nat} (h : RfIs w g pb cb t b k lim T E) (hE : E ≠ 0) : eOf w g = 0 := by
  unfold Go.Proofs.YtnckoghgplnhfaaGreat.eOf
  rw [h.c4]
  show (if (E : Int) = 0 then 1 else 0) = 0
  rw [if_neg (by omega)]
theorem RfIs.eOf0 {w : World} {g : Nat} {pb : Option Addr} {cb : Nat} {t : Option Nat} {b : List Nat} {k lim : Nat} {T : List Nat} (h : RfIs w g pb cb t b k lim T 0) : Go.Proofs.YtnckoghgplnhfaaGreat.eOf w g = 1 := by
  unfold Go.Proofs.YtnckoghgplnhfaaGreat.eOf
  rw [h.c4]
  rfl
set_option maxRecDepth 100000 in
set_option maxHeartbeats 4000000 in
theorem slens_any {g : Nat} {pb : Option Addr} {cb : Nat} {t : Option Nat} {b : List Nat} {k lim : Nat} {T : List Nat} (p : Option Addr) (d many : Nat) (cl : List Nat) (w : World) (hne : b ≠ []) (h : RfIs w g pb cb t b k lim T 0) (hl : SlI w .u8 p cl) (hoff : ∀ a, p = some a → a.block ≠ g) (h15 : ∀ x ∈ cl, x ≤ 15) (h19 : cl.length = 19) (ok : okl cl) (hm : many ≤ 316) :
    Calls Tryz.prog 73 #[.pointer (some ⟨g, 0, none⟩), .slice p cl.length d, .int .i64 (many : Nat)] w fun e w' => LenEnds (rLens b cl many [] k) w w' g pb cb t b lim T e := by
  have K0 : LenK w w g pb cb t b k lim T 0 (.slice none 0 0) 0 [] := by
    obtain ⟨p', c', h1, h2, h3⟩ := h.ex
    exact ⟨h, Fr.refl _ _, ⟨rfl, .inl ⟨rfl, rfl⟩⟩, fresh_nil _ _, h.lt, fun j hj => (h2.lt j (h3.trans hj)).2, fun a ha => h.bits.lt (fun e => hne (List.length_eq_zero_iff.1 (by have := bts_length b; rw [e] at this; simp at this; omega))) a ha⟩
  have HK0 := Lib.hid K0
  have SY1 := Lib.hid (fun (W : World) (k1 i j : Nat) (hs : RfIs W g pb cb t b k1 lim T 0) (f : Fr (· = g) w W) (hx : rSym b cl k1 = .ok i j) => ssym_ok p d i j cl W hne hs (hl.fr f (fun _ a ha => hoff a ha)) h15 (by omega) ok hx)
  have SY2 := Lib.hid (fun (W : World) (k1 m : Nat) (hs : RfIs W g pb cb t b k1 lim T 0) (f : Fr (· = g) w W) (hx : rSym b cl k1 = .no m) => ssym_no p d m cl W hne hs (hl.fr f (fun _ a ha => hoff a ha)) h15 (by omega) ok hx)
  have GR1 := Lib.hid (fun (W : World) (k1 c n j : Nat) (hs : RfIs W g pb cb t b k1 lim T 0) (hc : c ≤ 16) (hx : rGrp b c k1 = .ok n j) => sgroup_at c n j W hne hs hc hx)
  have GR2 := Lib.hid (fun (W : World) (k1 c m : Nat) (hs : RfIs W g pb cb t b k1 lim T 0) (hc : c ≤ 16) (hx : rGrp b c k1 = .no m) => sgroup_not c m W hs hc hx)
  obtain ⟨RES, hRES⟩ : ∃ R, rLens b cl many [] k = R := ⟨_, rfl⟩
  have H0 := Lib.hid hRES
  have H19 := Lib.hid h19
  obtain ⟨NC, hNC⟩ : ∃ NC, cl.length = NC := ⟨_, rfl⟩
  rw [hRES]
  rw [hNC] at SY1 SY2 ⊢
  clear h hl hoff h15 ok K0 hRES hne h19 hNC
  go_enter Tryz.func73, Tryz.ntmps73
  go_wp2_with fail
  go_loopw [7, 8, 9, 10, 11] (fun v _ _ _ _ wr => ∃ (k1 E1 : Nat) (l : List Nat), l.length ≤ many ∧ LenK w wr g pb cb t b k1 lim T E1 v l.length l ∧ (∀ x ∈ l, x < 256) ∧ ((E1 = 0 ∧ rLens b cl many l k1 = RES) ∨ (E1 ≠ 0 ∧ RES = .no E1))) (fun v _ _ _ _ wr => 2 * (many - lenOf v) + eOf wr g)
  case atStart => exact ⟨k, 0, [], by simp, HK0.out, by simp, .inl ⟨rfl, H0.out⟩⟩
  case round =>
    obtain ⟨k1, E1, l, hlm, hk, hb8, hcase⟩ := hrel
    obtain ⟨pl, cl', rfl, -, -, -⟩ := slForm hk.own
    rcases hcase with ⟨rfl, heq⟩ | ⟨hE, heq⟩
    · by_cases hX : l.length < many
      · have ME : Hid (lenOf (.slice pl l.length cl') < many ∧ eOf wr g = 1) := Lib.hid ⟨hX, hk.st.eOf0⟩
        have c4 : wr.cell? ⟨g, 4, none⟩ = some (.int .i64 0) := hk.st.c4
        have HK1 := Lib.hid hk
        have HB8 := Lib.hid hb8
        have HEQ := Lib.hid heq
        have HLM := Lib.hid hlm
        obtain ⟨X, hXX⟩ : ∃ X, l.length = X := ⟨_, rfl⟩
        have HXX := Lib.hid hXX
        rw [hXX] at HK1 ME hX ⊢
        clear hk hb8 heq hlm hXX
        cases hx : rSym b cl k1 with
        | no M =>
          have HS := Lib.hid (SY2.out wr k1 M HK1.out.st HK1.out.fr hx)
          have HMZ := Lib.hid (sym_nz HK1.out.st.ins hx)
          have RN : Hid (RES = .no M) := Lib.hid (by rw [← HEQ.out]; exact rLens_no (by rw [HXX.out]; omega) (by unfold rRun; rw [hx]; rfl))
          clear hx
          go_wp2_with fail
          refine HS.out.mono ?_
          rintro e W ⟨k2, rfl, hst, hf⟩
          have HK := Lib.hid (HK1.out.to hst hf)
          clear hst hf HS HK1 c4
          have c4 := HK.out.st.c4
          have hmz2 : ¬ (M : Int) = 0 := by have := HMZ.out; omega
          have hov : ¬ (X : Int) + 1 > (many : Int) := by omega
          go_wp2_with fail
          go_loopw [7, 11] (fun v' i wr2 => v' = .slice pl X cl' ∧ i = .int .i64 0 ∧ W = wr2) (fun _ _ _ => 0)
          case atStart => exact ⟨rfl, rfl, rfl⟩
          case round =>
            obtain ⟨rfl, rfl, rfl⟩ := hrel
            go_wp2_with fail
            go_roundw
            case rel => exact ⟨k2, M, l, HLM.out, by rw [HXX.out]; exact HK.out, HB8.out, .inr ⟨HMZ.out, RN.out⟩⟩
            case measure => have h1 := ME.out; have h2 := HK.out.st.eOf (by exact HMZ.out); simp only [lenOf] at h1 ⊢; omega
        | ok s j =>
          have hs19 : s < 19 := by have := rSym_lt hx; have := H19.out; omega
          have HS := Lib.hid (SY1.out wr k1 s j HK1.out.st HK1.out.fr hx)
          have HX := Lib.hid hx
          clear hx
          go_wp2_with fail
          refine HS.out.mono ?_
          rintro e W2 ⟨rfl, hst, hf⟩
          have HK2 := Lib.hid (HK1.out.to hst hf)
          clear hst hf HS HK1 c4
          by_cases h16 : s = 16
          · subst h16
            by_cases h0 : X = 0
            · subst h0
              have hnil : l = [] := List.eq_nil_of_length_eq_zero HXX.out
              have RN : RES = .no 62 := by rw [← HEQ.out]; exact rLens_no (by rw [HXX.out]; omega) (by unfold rRun; rw [HX.out, Res.then_ok, if_pos rfl, hnil]; rfl)
              have HRN := Lib.hid RN
              have HFA := Lib.hid (sfail_ok 62 W2 HK2.out.st)
              clear RN hnil
              go_wp2_with fail
              refine HFA.out.mono ?_
              rintro e W1 ⟨rfl, hst, hf⟩
              have HE := Lib.hid (LenEnds.no (v := .slice none 0 0) HRN.out hst (HK2.out.fr.trans hf (fun _ _ h => h)))
              clear hst hf HFA HK2
              go_wp2_with fail
              go_ret
              exact HE.out
            · obtain ⟨Y, rfl⟩ : ∃ Y, X = Y + 1 := ⟨X - 1, by omega⟩
              obtain ⟨z, hz⟩ : ∃ z, l.getLastD 0 = z := ⟨_, rfl⟩
              have hlz : l[Y]? = some z := by
                rw [← hz]
                have h1 := HXX.out
                have h2 : l[l.length - 1]? = some (l.getLastD 0) := by
                  rw [← List.getLast?_eq_getElem?, List.getLastD_eq_getLast?]
                  cases hh : l.getLast? with
                  | none => rw [List.getLast?_eq_none_iff.1 hh] at h1; simp at h1
                  | some a => rfl
                rw [h1] at h2
                exact h2
              have hz256 : z < 256 := HB8.out z (List.mem_of_getElem? hlz)
              have own := HK2.out.own
              obtain ⟨qq, cap, hv, -, -⟩ := own.form (by omega)
              simp only [Value.slice.injEq] at hv
              obtain ⟨rfl, -, rfl⟩ := hv
              have hcell := own.cellAt Y (by omega)
              rw [show (u8s l)[Y]? = some (.int .u8 (z : Nat)) by unfold u8s; rw [List.getElem?_map, hlz]; rfl] at hcell
              have HZ := Lib.hid hz
              have HNN : Hid (l ≠ []) := Lib.hid (by intro h; have h1 := HXX.out; rw [h] at h1; simp at h1)
              clear own hz hlz
              cases hy : rGrp b 2 j with
              | no M =>
                have HMZ := Lib.hid (grp_nz HK2.out.st.ins hy)
                have RN : Hid (RES = .no M) := Lib.hid (by rw [← HEQ.out]; exact rLens_no (by rw [HXX.out]; omega) (by unfold rRun; rw [HX.out, Res.then_ok, if_pos rfl, rIf_yes (decide_eq_true HNN.out), Res.then_ok, HZ.out]; rw [hy]; rfl))
                have HG := Lib.hid (GR2.out W2 j 2 M HK2.out.st (by decide) hy)
                clear hy
                go_wp2_with fail
                refine HG.out.mono ?_
                rintro e W ⟨rfl, hst, hf⟩
                have HK := Lib.hid (HK2.out.to hst hf)
                obtain ⟨k2, hk2⟩ : ∃ k2, j = k2 := ⟨_, rfl⟩
                rw [hk2] at HK
                clear hst hf HG HK2
                have c4 := HK.out.st.c4
                have hmz2 : ¬ (M : Int) = 0 := by have := HMZ.out; omega
                by_cases hov : ((Y : Int) + 1) + 3 > (many : Int)
                · go_wp2_with fail
                  refine (sfail_err 62 W HK.out.st HMZ.out).mono ?_
                  rintro e w' ⟨rfl, rfl⟩
                  go_wp2_with fail
                  go_loopw [7, 11] (fun v' i wr2 => v' = .slice (some ⟨qq, 0, none⟩) (Y + 1) cl' ∧ i = .int .i64 0 ∧ W = wr2) (fun _ _ _ => 0)
                  case atStart => exact ⟨rfl, rfl, rfl⟩
                  case round =>
                    obtain ⟨rfl, rfl, rfl⟩ := hrel
                    go_wp2_with fail
                    go_roundw
                    case rel => exact ⟨k2, M, l, HLM.out, by rw [HXX.out]; exact HK.out, HB8.out, .inr ⟨HMZ.out, RN.out⟩⟩
                    case measure => have h1 := ME.out; have h2 := HK.out.st.eOf (by exact HMZ.out); simp only [lenOf] at h1 ⊢; omega
                · go_wp2_with fail
                  go_loopw [7, 11] (fun v' i wr2 => v' = .slice (some ⟨qq, 0, none⟩) (Y + 1) cl' ∧ i = .int .i64 0 ∧ W = wr2) (fun _ _ _ => 0)
                  case atStart => exact ⟨rfl, rfl, rfl⟩
                  case round =>
                    obtain ⟨rfl, rfl, rfl⟩ := hrel
                    go_wp2_with fail
                    go_roundw
                    case rel => exact ⟨k2, M, l, HLM.out, by rw [HXX.out]; exact HK.out, HB8.out, .inr ⟨HMZ.out, RN.out⟩⟩
                    case measure => have h1 := ME.out; have h2 := HK.out.st.eOf (by exact HMZ.out); simp only [lenOf] at h1 ⊢; omega
              | ok x k2 =>
                have hxl : x < 200 := by have := (rGrp_lt hy).1; omega
                have KR : rRun b cl l k1 = .ok (z, (2 + x)) k2 := by unfold rRun; rw [HX.out, Res.then_ok, if_pos rfl, rIf_yes (decide_eq_true HNN.out), Res.then_ok, HZ.out]; rw [hy]; rfl
                have KF : Hid (many < (Y + 1) + ((3 + x)) → RES = .no 62) := Lib.hid (fun q => by rw [← HEQ.out]; exact rLens_far (by rw [HXX.out]; omega) KR (by rw [HXX.out]; omega))
                have KG : Hid (¬ many < (Y + 1) + ((3 + x)) → RES = rLens b cl many (l ++ List.replicate ((3 + x)) (z)) k2) := Lib.hid (fun q => by
                  have := rLens_go (many := many) (by rw [HXX.out]; omega) KR (by rw [HXX.out]; omega)
                  rw [← HEQ.out, this, show (2 + x) + 1 = (3 + x) by omega])
                clear KR
                have HG := Lib.hid (GR1.out W2 j 2 x k2 HK2.out.st (by decide) hy)
                clear hy
                go_wp2_with fail
                refine HG.out.mono ?_
                rintro e W ⟨rfl, hst, hf⟩
                have HK := Lib.hid (HK2.out.to hst hf)
                clear hst hf HG HK2
                have c4' : W.cell? ⟨g, 4, none⟩ = some (.int .i64 0) := HK.out.st.c4
                by_cases hov : ((Y : Int) + 1) + (3 + (x : Int)) > (many : Int)
                · have RN : Hid (RES = .no 62) := Lib.hid (KF.out (by omega))
                  have HFA := Lib.hid (sfail_ok 62 W HK.out.st)
                  clear KF KG
                  go_wp2_with fail
                  refine HFA.out.mono ?_
                  rintro e W1 ⟨rfl, hst, hf⟩
                  have HK1 := Lib.hid (HK.out.to hst hf)
                  clear hst hf HFA HK c4'
                  obtain ⟨M, hM⟩ : ∃ M, 62 = M := ⟨_, rfl⟩
                  rw [hM] at HK1 RN
                  have HK := HK1
                  have HMZ : Hid (M ≠ 0) := Lib.hid (by omega)
                  obtain ⟨W, hW⟩ : ∃ W, W1 = W := ⟨_, rfl⟩
                  rw [hW] at HK ⊢
                  have c4 := HK.out.st.c4
                  have hmz2 : ¬ (M : Int) = 0 := by omega
                  clear hM HK1 hW
                  go_wp2_with fail
                  go_loopw [7, 11] (fun v' i wr2 => v' = .slice (some ⟨qq, 0, none⟩) (Y + 1) cl' ∧ i = .int .i64 0 ∧ W = wr2) (fun _ _ _ => 0)
                  case atStart => exact ⟨rfl, rfl, rfl⟩
                  case round =>
                    obtain ⟨rfl, rfl, rfl⟩ := hrel
                    go_wp2_with fail
                    go_roundw
                    case rel => exact ⟨k2, M, l, HLM.out, by rw [HXX.out]; exact HK.out, HB8.out, .inr ⟨HMZ.out, RN.out⟩⟩
                    case measure => have h1 := ME.out; have h2 := HK.out.st.eOf (by exact HMZ.out); simp only [lenOf] at h1 ⊢; omega
                · have KK : Hid (rLens b cl many (l ++ List.replicate (3 + x) z) k2 = RES) := Lib.hid (KG.out (by omega)).symm
                  clear KF KG
                  go_wp2_with fail
                  go_loopw [7, 11] (fun v' i wr2 => ∃ c : Nat, c ≤ (3 + x) ∧ i = .int .i64 c ∧ LenK w wr2 g pb cb t b k2 lim T 0 v' (Y + 1 + c) (l ++ List.replicate c z)) (fun _ i _ => (3 + x) - (intOf i).toNat)
                  case atStart => exact ⟨0, by omega, rfl, by rw [List.replicate_zero, List.append_nil]; exact HK.out⟩
                  case round =>
                    obtain ⟨c, hc, rfl, hkc⟩ := hrel
                    obtain ⟨pc, cc, rfl, -, -, -⟩ := slForm hkc.own
                    have HKC := Lib.hid hkc
                    have c5 : wr.cell? ⟨g, 4, none⟩ = some (.int .i64 0) := hkc.st.c4
                    have own := hkc.own
                    clear hkc c4'
                    by_cases hcl : (c : Int) < 3 + (x : Int)
                    · have HR : Hid (Room (Y + 1 + c + 1)) := Lib.hid (Room.mk (by omega))
                      go_wp2_with ((with_reducible show wpList _ _ _ (Oper.mk (some 77) _ _ _ _ _ :: _) _ _); refine app_one el8 (.tmp 74) (.tmp 76) rfl own rfl rfl rfl rfl rfl one8 HR.out ?_; intro q cap w1 hown hgrow hat hlt1; have HK5 := Lib.hid (HKC.out.app1 (x := z) hgrow hown hat); clear hgrow hat hlt1 hown)
                      go_roundw
                      case rel => exact ⟨c + 1, by omega, by go_num, by rw [List.replicate_succ', ← List.append_assoc]; exact HK5.out⟩
                      case measure => simp [intOf]; omega
                    · have HFI : Hid (LenK w wr g pb cb t b k2 lim T 0 (.slice pc (Y + 1 + c) cc) (l ++ List.replicate c z).length (l ++ List.replicate c z)) := Lib.hid (by rw [List.length_append, List.length_replicate, HXX.out]; exact HKC.out)
                      have hcN : c = (3 + x) := by omega
                      have HCN := Lib.hid hcN
                      have HB9 : Hid (∀ x ∈ l ++ List.replicate c z, x < 256) := Lib.hid (fun x hx => (List.mem_append.1 hx).elim (HB8.out x) (fun h => by have := (List.mem_replicate.1 h).2; omega))
                      clear hcN
                      go_wp2_with fail
                      go_roundw
                      case rel => exact ⟨k2, 0, l ++ List.replicate c z, by rw [List.length_append, List.length_replicate, HXX.out]; have := HCN.out; omega, HFI.out, HB9.out, .inl ⟨rfl, by rw [HCN.out]; exact KK.out⟩⟩
                      case measure => have h1 := ME.out; have h2 := HFI.out.st.eOf0; have h3 := HCN.out; simp only [lenOf] at h1 ⊢; omega
          · by_cases h17 : s = 17
            · subst h17
              cases hy : rGrp b 3 j with
              | no M =>
                have HMZ := Lib.hid (grp_nz HK2.out.st.ins hy)
                have RN : Hid (RES = .no M) := Lib.hid (by rw [← HEQ.out]; exact rLens_no (by rw [HXX.out]; omega) (by unfold rRun; rw [HX.out, Res.then_ok, if_neg (by decide), if_pos rfl]; rw [hy]; rfl))
                have HG := Lib.hid (GR2.out W2 j 3 M HK2.out.st (by decide) hy)
                clear hy
                go_wp2_with fail
                refine HG.out.mono ?_
                rintro e W ⟨rfl, hst, hf⟩
                have HK := Lib.hid (HK2.out.to hst hf)
                obtain ⟨k2, hk2⟩ : ∃ k2, j = k2 := ⟨_, rfl⟩
                rw [hk2] at HK
                clear hst hf HG HK2
                have c4 := HK.out.st.c4
                have hmz2 : ¬ (M : Int) = 0 := by have := HMZ.out; omega
                by_cases hov : (X : Int) + 3 > (many : Int)
                · go_wp2_with fail
                  refine (sfail_err 62 W HK.out.st HMZ.out).mono ?_
                  rintro e w' ⟨rfl, rfl⟩
                  go_wp2_with fail
                  go_loopw [7, 11] (fun v' i wr2 => v' = .slice pl X cl' ∧ i = .int .i64 0 ∧ W = wr2) (fun _ _ _ => 0)
                  case atStart => exact ⟨rfl, rfl, rfl⟩
                  case round =>
                    obtain ⟨rfl, rfl, rfl⟩ := hrel
                    go_wp2_with fail
                    go_roundw
                    case rel => exact ⟨k2, M, l, HLM.out, by rw [HXX.out]; exact HK.out, HB8.out, .inr ⟨HMZ.out, RN.out⟩⟩
                    case measure => have h1 := ME.out; have h2 := HK.out.st.eOf (by exact HMZ.out); simp only [lenOf] at h1 ⊢; omega
                · go_wp2_with fail
                  go_loopw [7, 11] (fun v' i wr2 => v' = .slice pl X cl' ∧ i = .int .i64 0 ∧ W = wr2) (fun _ _ _ => 0)
                  case atStart => exact ⟨rfl, rfl, rfl⟩
                  case round =>
                    obtain ⟨rfl, rfl, rfl⟩ := hrel
                    go_wp2_with fail
                    go_roundw
                    case rel => exact ⟨k2, M, l, HLM.out, by rw [HXX.out]; exact HK.out, HB8.out, .inr ⟨HMZ.out, RN.out⟩⟩
                    case measure => have h1 := ME.out; have h2 := HK.out.st.eOf (by exact HMZ.out); simp only [lenOf] at h1 ⊢; omega
              | ok x k2 =>
                have hxl : x < 200 := by have := (rGrp_lt hy).1; omega
                have KR : rRun b cl l k1 = .ok (0, (2 + x)) k2 := by unfold rRun; rw [HX.out, Res.then_ok, if_neg (by decide), if_pos rfl]; rw [hy]; rfl
                have KF : Hid (many < X + ((3 + x)) → RES = .no 62) := Lib.hid (fun q => by rw [← HEQ.out]; exact rLens_far (by rw [HXX.out]; omega) KR (by rw [HXX.out]; omega))
                have KG : Hid (¬ many < X + ((3 + x)) → RES = rLens b cl many (l ++ List.replicate ((3 + x)) (0)) k2) := Lib.hid (fun q => by
                  have := rLens_go (many := many) (by rw [HXX.out]; omega) KR (by rw [HXX.out]; omega)
                  rw [← HEQ.out, this, show (2 + x) + 1 = (3 + x) by omega])
                clear KR
                have HG := Lib.hid (GR1.out W2 j 3 x k2 HK2.out.st (by decide) hy)
                clear hy
                go_wp2_with fail
                refine HG.out.mono ?_
                rintro e W ⟨rfl, hst, hf⟩
                have HK := Lib.hid (HK2.out.to hst hf)
                clear hst hf HG HK2
                have c4' : W.cell? ⟨g, 4, none⟩ = some (.int .i64 0) := HK.out.st.c4
                by_cases hov : (X : Int) + (3 + (x : Int)) > (many : Int)
                · have RN : Hid (RES = .no 62) := Lib.hid (KF.out (by omega))
                  have HFA := Lib.hid (sfail_ok 62 W HK.out.st)
                  clear KF KG
                  go_wp2_with fail
                  refine HFA.out.mono ?_
                  rintro e W1 ⟨rfl, hst, hf⟩
                  have HK1 := Lib.hid (HK.out.to hst hf)
                  clear hst hf HFA HK c4'
                  obtain ⟨M, hM⟩ : ∃ M, 62 = M := ⟨_, rfl⟩
                  rw [hM] at HK1 RN
                  have HK := HK1
                  have HMZ : Hid (M ≠ 0) := Lib.hid (by omega)
                  obtain ⟨W, hW⟩ : ∃ W, W1 = W := ⟨_, rfl⟩
                  rw [hW] at HK ⊢
                  have c4 := HK.out.st.c4
                  have hmz2 : ¬ (M : Int) = 0 := by omega
                  clear hM HK1 hW
                  go_wp2_with fail
                  go_loopw [7, 11] (fun v' i wr2 => v' = .slice pl X cl' ∧ i = .int .i64 0 ∧ W = wr2) (fun _ _ _ => 0)
                  case atStart => exact ⟨rfl, rfl, rfl⟩
                  case round =>
                    obtain ⟨rfl, rfl, rfl⟩ := hrel
                    go_wp2_with fail
                    go_roundw
                    case rel => exact ⟨k2, M, l, HLM.out, by rw [HXX.out]; exact HK.out, HB8.out, .inr ⟨HMZ.out, RN.out⟩⟩
                    case measure => have h1 := ME.out; have h2 := HK.out.st.eOf (by exact HMZ.out); simp only [lenOf] at h1 ⊢; omega
                · have KK : Hid (rLens b cl many (l ++ List.replicate (3 + x) 0) k2 = RES) := Lib.hid (KG.out (by omega)).symm
                  clear KF KG
                  go_wp2_with fail
                  go_loopw [7, 11] (fun v' i wr2 => ∃ c : Nat, c ≤ (3 + x) ∧ i = .int .i64 c ∧ LenK w wr2 g pb cb t b k2 lim T 0 v' (X + c) (l ++ List.replicate c 0)) (fun _ i _ => (3 + x) - (intOf i).toNat)
                  case atStart => exact ⟨0, by omega, rfl, by rw [List.replicate_zero, List.append_nil]; exact HK.out⟩
                  case round =>
                    obtain ⟨c, hc, rfl, hkc⟩ := hrel
                    obtain ⟨pc, cc, rfl, -, -, -⟩ := slForm hkc.own
                    have HKC := Lib.hid hkc
                    have c5 : wr.cell? ⟨g, 4, none⟩ = some (.int .i64 0) := hkc.st.c4
                    have own := hkc.own
                    clear hkc c4'
                    by_cases hcl : (c : Int) < 3 + (x : Int)
                    · have HR : Hid (Room (X + c + 1)) := Lib.hid (Room.mk (by omega))
                      go_wp2_with ((with_reducible show wpList _ _ _ (Oper.mk (some 77) _ _ _ _ _ :: _) _ _); refine app_one el8 (.tmp 74) (.tmp 76) rfl own rfl rfl rfl rfl rfl one8 HR.out ?_; intro q cap w1 hown hgrow hat hlt1; have HK5 := Lib.hid (HKC.out.app1 (x := 0) hgrow hown hat); clear hgrow hat hlt1 hown)
                      go_roundw
                      case rel => exact ⟨c + 1, by omega, by go_num, by rw [List.replicate_succ', ← List.append_assoc]; exact HK5.out⟩
                      case measure => simp [intOf]; omega
                    · have HFI : Hid (LenK w wr g pb cb t b k2 lim T 0 (.slice pc (X + c) cc) (l ++ List.replicate c 0).length (l ++ List.replicate c 0)) := Lib.hid (by rw [List.length_append, List.length_replicate, HXX.out]; exact HKC.out)
                      have hcN : c = (3 + x) := by omega
                      have HCN := Lib.hid hcN
                      have HB9 : Hid (∀ x ∈ l ++ List.replicate c 0, x < 256) := Lib.hid (fun x hx => (List.mem_append.1 hx).elim (HB8.out x) (fun h => by have := (List.mem_replicate.1 h).2; omega))
                      clear hcN
                      go_wp2_with fail
                      go_roundw
                      case rel => exact ⟨k2, 0, l ++ List.replicate c 0, by rw [List.length_append, List.length_replicate, HXX.out]; have := HCN.out; omega, HFI.out, HB9.out, .inl ⟨rfl, by rw [HCN.out]; exact KK.out⟩⟩
                      case measure => have h1 := ME.out; have h2 := HFI.out.st.eOf0; have h3 := HCN.out; simp only [lenOf] at h1 ⊢; omega
            · by_cases h18 : s = 18
              · subst h18
                cases hy : rGrp b 7 j with
                | no M =>
                  have HMZ := Lib.hid (grp_nz HK2.out.st.ins hy)
                  have RN : Hid (RES = .no M) := Lib.hid (by rw [← HEQ.out]; exact rLens_no (by rw [HXX.out]; omega) (by unfold rRun; rw [HX.out, Res.then_ok, if_neg (by decide), if_neg (by decide), if_pos rfl]; rw [hy]; rfl))
                  have HG := Lib.hid (GR2.out W2 j 7 M HK2.out.st (by decide) hy)
                  clear hy
                  go_wp2_with fail
                  refine HG.out.mono ?_
                  rintro e W ⟨rfl, hst, hf⟩
                  have HK := Lib.hid (HK2.out.to hst hf)
                  obtain ⟨k2, hk2⟩ : ∃ k2, j = k2 := ⟨_, rfl⟩
                  rw [hk2] at HK
                  clear hst hf HG HK2
                  have c4 := HK.out.st.c4
                  have hmz2 : ¬ (M : Int) = 0 := by have := HMZ.out; omega
                  by_cases hov : (X : Int) + 11 > (many : Int)
                  · go_wp2_with fail
                    refine (sfail_err 62 W HK.out.st HMZ.out).mono ?_
                    rintro e w' ⟨rfl, rfl⟩
                    go_wp2_with fail
                    go_loopw [7, 11] (fun v' i wr2 => v' = .slice pl X cl' ∧ i = .int .i64 0 ∧ W = wr2) (fun _ _ _ => 0)
                    case atStart => exact ⟨rfl, rfl, rfl⟩
                    case round =>
                      obtain ⟨rfl, rfl, rfl⟩ := hrel
                      go_wp2_with fail
                      go_roundw
                      case rel => exact ⟨k2, M, l, HLM.out, by rw [HXX.out]; exact HK.out, HB8.out, .inr ⟨HMZ.out, RN.out⟩⟩
                      case measure => have h1 := ME.out; have h2 := HK.out.st.eOf (by exact HMZ.out); simp only [lenOf] at h1 ⊢; omega
                  · go_wp2_with fail
                    go_loopw [7, 11] (fun v' i wr2 => v' = .slice pl X cl' ∧ i = .int .i64 0 ∧ W = wr2) (fun _ _ _ => 0)
                    case atStart => exact ⟨rfl, rfl, rfl⟩
                    case round =>
                      obtain ⟨rfl, rfl, rfl⟩ := hrel
                      go_wp2_with fail
                      go_roundw
                      case rel => exact ⟨k2, M, l, HLM.out, by rw [HXX.out]; exact HK.out, HB8.out, .inr ⟨HMZ.out, RN.out⟩⟩
                      case measure => have h1 := ME.out; have h2 := HK.out.st.eOf (by exact HMZ.out); simp only [lenOf] at h1 ⊢; omega
                | ok x k2 =>
                  have hxl : x < 200 := by have := (rGrp_lt hy).1; omega
                  have KR : rRun b cl l k1 = .ok (0, (10 + x)) k2 := by unfold rRun; rw [HX.out, Res.then_ok, if_neg (by decide), if_neg (by decide), if_pos rfl]; rw [hy]; rfl
                  have KF : Hid (many < X + ((11 + x)) → RES = .no 62) := Lib.hid (fun q => by rw [← HEQ.out]; exact rLens_far (by rw [HXX.out]; omega) KR (by rw [HXX.out]; omega))
                  have KG : Hid (¬ many < X + ((11 + x)) → RES = rLens b cl many (l ++ List.replicate ((11 + x)) (0)) k2) := Lib.hid (fun q => by
                    have := rLens_go (many := many) (by rw [HXX.out]; omega) KR (by rw [HXX.out]; omega)
                    rw [← HEQ.out, this, show (10 + x) + 1 = (11 + x) by omega])
                  clear KR
                  have HG := Lib.hid (GR1.out W2 j 7 x k2 HK2.out.st (by decide) hy)
                  clear hy
                  go_wp2_with fail
                  refine HG.out.mono ?_
                  rintro e W ⟨rfl, hst, hf⟩
                  have HK := Lib.hid (HK2.out.to hst hf)
                  clear hst hf HG HK2
                  have c4' : W.cell? ⟨g, 4, none⟩ = some (.int .i64 0) := HK.out.st.c4
                  by_cases hov : (X : Int) + (11 + (x : Int)) > (many : Int)
                  · have RN : Hid (RES = .no 62) := Lib.hid (KF.out (by omega))
                    have HFA := Lib.hid (sfail_ok 62 W HK.out.st)
                    clear KF KG
                    go_wp2_with fail
                    refine HFA.out.mono ?_
                    rintro e W1 ⟨rfl, hst, hf⟩
                    have HK1 := Lib.hid (HK.out.to hst hf)
                    clear hst hf HFA HK c4'
                    obtain ⟨M, hM⟩ : ∃ M, 62 = M := ⟨_, rfl⟩
                    rw [hM] at HK1 RN
                    have HK := HK1
                    have HMZ : Hid (M ≠ 0) := Lib.hid (by omega)
                    obtain ⟨W, hW⟩ : ∃ W, W1 = W := ⟨_, rfl⟩
                    rw [hW] at HK ⊢
                    have c4 := HK.out.st.c4
                    have hmz2 : ¬ (M : Int) = 0 := by omega
                    clear hM HK1 hW
                    go_wp2_with fail
                    go_loopw [7, 11] (fun v' i wr2 => v' = .slice pl X cl' ∧ i = .int .i64 0 ∧ W = wr2) (fun _ _ _ => 0)
                    case atStart => exact ⟨rfl, rfl, rfl⟩
                    case round =>
                      obtain ⟨rfl, rfl, rfl⟩ := hrel
                      go_wp2_with fail
                      go_roundw
                      case rel => exact ⟨k2, M, l, HLM.out, by rw [HXX.out]; exact HK.out, HB8.out, .inr ⟨HMZ.out, RN.out⟩⟩
                      case measure => have h1 := ME.out; have h2 := HK.out.st.eOf (by exact HMZ.out); simp only [lenOf] at h1 ⊢; omega
                  · have KK : Hid (rLens b cl many (l ++ List.replicate (11 + x) 0) k2 = RES) := Lib.hid (KG.out (by omega)).symm
                    clear KF KG
                    go_wp2_with fail
                    go_loopw [7, 11] (fun v' i wr2 => ∃ c : Nat, c ≤ (11 + x) ∧ i = .int .i64 c ∧ LenK w wr2 g pb cb t b k2 lim T 0 v' (X + c) (l ++ List.replicate c 0)) (fun _ i _ => (11 + x) - (intOf i).toNat)
                    case atStart => exact ⟨0, by omega, rfl, by rw [List.replicate_zero, List.append_nil]; exact HK.out⟩
                    case round =>
                      obtain ⟨c, hc, rfl, hkc⟩ := hrel
                      obtain ⟨pc, cc, rfl, -, -, -⟩ := slForm hkc.own
                      have HKC := Lib.hid hkc
                      have c5 : wr.cell? ⟨g, 4, none⟩ = some (.int .i64 0) := hkc.st.c4
                      have own := hkc.own
                      clear hkc c4'
                      by_cases hcl : (c : Int) < 11 + (x : Int)
                      · have HR : Hid (Room (X + c + 1)) := Lib.hid (Room.mk (by omega))
                        go_wp2_with ((with_reducible show wpList _ _ _ (Oper.mk (some 77) _ _ _ _ _ :: _) _ _); refine app_one el8 (.tmp 74) (.tmp 76) rfl own rfl rfl rfl rfl rfl one8 HR.out ?_; intro q cap w1 hown hgrow hat hlt1; have HK5 := Lib.hid (HKC.out.app1 (x := 0) hgrow hown hat); clear hgrow hat hlt1 hown)
                        go_roundw
                        case rel => exact ⟨c + 1, by omega, by go_num, by rw [List.replicate_succ', ← List.append_assoc]; exact HK5.out⟩
                        case measure => simp [intOf]; omega
                      · have HFI : Hid (LenK w wr g pb cb t b k2 lim T 0 (.slice pc (X + c) cc) (l ++ List.replicate c 0).length (l ++ List.replicate c 0)) := Lib.hid (by rw [List.length_append, List.length_replicate, HXX.out]; exact HKC.out)
                        have hcN : c = (11 + x) := by omega
                        have HCN := Lib.hid hcN
                        have HB9 : Hid (∀ x ∈ l ++ List.replicate c 0, x < 256) := Lib.hid (fun x hx => (List.mem_append.1 hx).elim (HB8.out x) (fun h => by have := (List.mem_replicate.1 h).2; omega))
                        clear hcN
                        go_wp2_with fail
                        go_roundw
                        case rel => exact ⟨k2, 0, l ++ List.replicate c 0, by rw [List.length_append, List.length_replicate, HXX.out]; have := HCN.out; omega, HFI.out, HB9.out, .inl ⟨rfl, by rw [HCN.out]; exact KK.out⟩⟩
                        case measure => have h1 := ME.out; have h2 := HFI.out.st.eOf0; have h3 := HCN.out; simp only [lenOf] at h1 ⊢; omega
              · have hs256 : s < 256 := by omega
                obtain ⟨k2, hk2⟩ : ∃ k2, j = k2 := ⟨_, rfl⟩
                rw [hk2] at HX HK2
                have KR : rRun b cl l k1 = .ok (s, 0) k2 := by unfold rRun; rw [HX.out, Res.then_ok, if_neg h16, if_neg h17, if_neg h18]
                have KF : Hid (many < X + (1) → RES = .no 62) := Lib.hid (fun q => by rw [← HEQ.out]; exact rLens_far (by rw [HXX.out]; omega) KR (by rw [HXX.out]; omega))
                have KG : Hid (¬ many < X + (1) → RES = rLens b cl many (l ++ List.replicate (1) (s)) k2) := Lib.hid (fun q => by
                  have := rLens_go (many := many) (by rw [HXX.out]; omega) KR (by rw [HXX.out]; omega)
                  rw [← HEQ.out, this, show 0 + 1 = 1 by omega])
                clear KR
                have HK := HK2
                obtain ⟨W, hW⟩ : ∃ W, W2 = W := ⟨_, rfl⟩
                rw [hW] at HK ⊢
                have i16 : ((s : Int) == 16) = false := by rw [beq_eq_false_iff_ne]; omega
                have i17 : ((s : Int) == 17) = false := by rw [beq_eq_false_iff_ne]; omega
                have i18 : ((s : Int) == 18) = false := by rw [beq_eq_false_iff_ne]; omega
                clear hk2 HK2 hW h16 h17 h18
                have c4' : W.cell? ⟨g, 4, none⟩ = some (.int .i64 0) := HK.out.st.c4
                have hov : ¬ (X : Int) + 1 > (many : Int) := by omega
                have KK : Hid (rLens b cl many (l ++ List.replicate 1 s) k2 = RES) := Lib.hid (KG.out (by omega)).symm
                clear KF KG
                go_wp2_with fail
                go_loopw [7, 11] (fun v' i wr2 => ∃ c : Nat, c ≤ 1 ∧ i = .int .i64 c ∧ LenK w wr2 g pb cb t b k2 lim T 0 v' (X + c) (l ++ List.replicate c s)) (fun _ i _ => 1 - (intOf i).toNat)
                case atStart => exact ⟨0, by omega, rfl, by rw [List.replicate_zero, List.append_nil]; exact HK.out⟩
                case round =>
                  obtain ⟨c, hc, rfl, hkc⟩ := hrel
                  obtain ⟨pc, cc, rfl, -, -, -⟩ := slForm hkc.own
                  have HKC := Lib.hid hkc
                  have c5 : wr.cell? ⟨g, 4, none⟩ = some (.int .i64 0) := hkc.st.c4
                  have own := hkc.own
                  clear hkc c4'
                  by_cases hcl : (c : Int) < 1
                  · have HR : Hid (Room (X + c + 1)) := Lib.hid (Room.mk (by omega))
                    go_wp2_with ((with_reducible show wpList _ _ _ (Oper.mk (some 77) _ _ _ _ _ :: _) _ _); refine app_one el8 (.tmp 74) (.tmp 76) rfl own rfl rfl rfl rfl rfl one8 HR.out ?_; intro q cap w1 hown hgrow hat hlt1; have HK5 := Lib.hid (HKC.out.app1 (x := s) hgrow hown hat); clear hgrow hat hlt1 hown)
                    go_roundw
                    case rel => exact ⟨c + 1, by omega, by go_num, by rw [List.replicate_succ', ← List.append_assoc]; exact HK5.out⟩
                    case measure => simp [intOf]; omega
                  · have HFI : Hid (LenK w wr g pb cb t b k2 lim T 0 (.slice pc (X + c) cc) (l ++ List.replicate c s).length (l ++ List.replicate c s)) := Lib.hid (by rw [List.length_append, List.length_replicate, HXX.out]; exact HKC.out)
                    have hcN : c = 1 := by omega
                    have HCN := Lib.hid hcN
                    have HB9 : Hid (∀ x ∈ l ++ List.replicate c s, x < 256) := Lib.hid (fun x hx => (List.mem_append.1 hx).elim (HB8.out x) (fun h => by have := (List.mem_replicate.1 h).2; omega))
                    clear hcN
                    go_wp2_with fail
                    go_roundw
                    case rel => exact ⟨k2, 0, l ++ List.replicate c s, by rw [List.length_append, List.length_replicate, HXX.out]; have := HCN.out; omega, HFI.out, HB9.out, .inl ⟨rfl, by rw [HCN.out]; exact KK.out⟩⟩
                    case measure => have h1 := ME.out; have h2 := HFI.out.st.eOf0; have h3 := HCN.out; simp only [lenOf] at h1 ⊢; omega
      · have HF := Lib.hid (LenEnds.ok (v := .slice pl l.length cl') (heq.symm.trans (rLens_end (by omega))) hk)
        have c4 : wr.cell? ⟨g, 4, none⟩ = some (.int .i64 0) := hk.st.c4
        clear hk heq
        go_wp2_with fail
        go_ret
        exact HF.out
    · have c4 := hk.st.c4
      have hE2 : ¬ (E1 : Int) = 0 := by omega
      have HF := Lib.hid (LenEnds.no (v := .slice pl l.length cl') heq hk.st hk.fr)
      clear hk heq
      by_cases hX : (l.length : Int) < (many : Int)
      · go_wp2_with fail
        go_ret
        exact HF.out
      · go_wp2_with fail
        go_ret
        exact HF.out
end Go.Proofs.YtnckoghgplnhfaaGreat
