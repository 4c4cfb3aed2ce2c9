/- The reference's stored block (made by tools/genrefstored.py). -/
import Derived.Test.YtnckoghgplnhfaaGreatInfRefOut
namespace Go.Proofs.YtnckoghgplnhfaaGreat
open Go.RowKit

theorem byte_at (b : List Nat) (h8 : ∀ x ∈ b, x < 256) (i : Nat) (hi : i < b.length) : num (bitsAt b (8 * i) 8) = b[i] := by
  have h1 := byt_bts b h8
  have h2 := byt_get (bts b) i (by rw [h1]; exact hi)
  rw [List.getElem_of_eq h1] at h2
  exact h2.symm
theorem grp8 (b : List Nat) (h8 : ∀ x ∈ b, x < 256) (i : Nat) (hi : i < b.length) : rGrp b 8 (8 * i) = .ok b[i] (8 * i + 8) := by
  rw [rGrp_yes (by omega), byte_at b h8 i hi]
/-- all that a call of the reference meets when an error stands -/
structure Dead (w W : World) (g : Nat) (pb : Option Addr) (cb : Nat) (t t1 : Option Nat) (b : List Nat) (k lim : Nat) (T : List Nat) (M : Nat) : Prop where
  is : RfIs W g pb cb t1 b k lim T M
  nz : M ≠ 0
  fr : Fr (RfB g t) w W
  at' : t1 = t ∨ ∀ j, t1 = some j → w.heap.size ≤ j
section
variable {w W W' : World} {g : Nat} {pb : Option Addr} {cb : Nat} {t t1 : Option Nat} {b : List Nat} {k lim : Nat} {T : List Nat} {M : Nat}
theorem Dead.fr0 (h : Dead w W g pb cb t t1 b k lim T M) (f : Fr S0 W W') : Dead w W' g pb cb t t1 b k lim T M := ⟨h.is.fr0 f, h.nz, h.fr.trans0 f, h.at'⟩
theorem Dead.out {x : Res (List Nat)} (h : Dead w W g pb cb t t1 b k lim T M) (hx : x = .no M) : RfOut x w W g pb cb t b lim (.returned (.tuple #[])) :=
  RfOut.no hx ⟨t1, h.is, h.fr, h.at'⟩
theorem Dead.set {M0 : Nat} (hs : RfIs W g pb cb t1 b k lim T M0) (hf : Fr (RfB g t) w W) (ha : t1 = t ∨ ∀ j, t1 = some j → w.heap.size ≤ j) (m : Nat) (hm : m ≠ 0) : Dead w (W.setCell ⟨g, 4, none⟩ (.int .i64 (m : Nat))) g pb cb t t1 b k lim T m :=
  ⟨hs.setE m, hm, hf.trans (Fr.setCell (· = g) W ⟨g, 4, none⟩ _ rfl) fun _ _ e => .inl e, ha⟩
theorem Dead.of (hs : RfIs W' g pb cb t1 b k lim T M) (hf : Fr (RfB g t) w W) (ha : t1 = t ∨ ∀ j, t1 = some j → w.heap.size ≤ j) (h : Fr (· = g) W W') (hm : M ≠ 0) : Dead w W' g pb cb t t1 b k lim T M :=
  ⟨hs, hm, hf.trans h fun _ _ e => .inl e, ha⟩
end

/-- append(s, x...) at a step of a region that draws its order -/
theorem step_many {P : Program} {t e : TypeId} {z : Value} {bytes : Nat} (he : ElemOk P t e z 1 bytes) {ops : Array Oper} {o : Oper} {a : Act} {K : Act → World → Prop} {Q : Exit → Act → World → Prop} {E : Prop} {w : World} (s x : Operand)
    {v : Value} {n : Nat} {xs : List Value} (own : w.ownsRow 0 e 1 v n xs) {u : Value} {m : Nat} {ys : List Value} (hsrc : SrcIs w u m ys) {N : Nat} (hN : n + m = N)
    (hgd : o.guard = none) (ho : o.op = .call { callee := .builtin .append, args := #[s, x], argTypes := #[t, t] }) (hs : a.eval s = v) (hx : a.eval x = u) (h1 : ∀ y ∈ ys, y.oneCell' = true) (hr : Room N)
    (h : ∀ p c w', w'.ownsRow 0 e 1 (.slice p N c) N (xs ++ ys) → w.grownBy w' v.ownBlock → (Value.ownBlock (.slice p N c) = v.ownBlock ∨ Value.ownBlock (.slice p N c) = some w.heap.size) →
      K (a.put o.dst (.slice p N c)) w') :
    if Region.wanted o (yielded ops a.tmps) = true then Oper.wp P o a w K Q else E := by
  subst hN
  have hw : Region.wanted o (yielded ops a.tmps) = true := by simp [Region.wanted, hgd]
  rw [if_pos hw]
  obtain ⟨p, c, w', hrun, h2, h3, h4⟩ := run_many (ty := o.type) he own hsrc h1 hr
  unfold Oper.wp
  simp only [execOp, ho, resolve, invoke, builtin, Sem.run_bind, Sem.run_pure, Result.andThen_ok, List.map_toArray, List.map_cons, List.map_nil, hs, hx, hrun]
  exact h p c w' h2 h3 h4
/-- what was told grows by a byte, whichever of its slices the append began with -/
theorem RfIs.pushm {w w1 : World} {g : Nat} {pb : Option Addr} {cb : Nat} {t : Option Nat} {b : List Nat} {k lim : Nat} {T : List Nat} {E : Nat} {p5 pv p1 : Option Addr} {c5 cv c1 L N x : Nat} {o : Obj} (h : RfIs w g pb cb t b k lim T E) (hL : T.length = L) (hN : L + 1 = N)
    (hb : w.heap[g]? = some (.cells #[.slice pb (8 * b.length) cb, .int .i64 (k : Nat), .slice p5 L c5, .int .i64 (lim : Nat), .int .i64 (E : Nat)] 65 (0, 0)))
    (ht : Value.ownBlock (.slice p5 L c5) = t) (hv : Value.ownBlock (.slice pv L cv) = t) (hfit : N ≤ lim) (hpl : ∀ a, pb = some a → a.block < w.heap.size)
    (own : w1.ownsRow 0 5 1 (.slice p1 N c1) N (u8s T ++ u8s [x])) (hgrow : (w.alloc o).grownBy w1 (Value.ownBlock (.slice pv L cv))) (hat : Value.ownBlock (.slice p1 N c1) = Value.ownBlock (.slice pv L cv) ∨ Value.ownBlock (.slice p1 N c1) = some (w.alloc o).heap.size) :
    (∀ i, w1.frozen? ⟨g, i, none⟩ = false) ∧ w1.cell? ⟨g, 2, none⟩ = some (.slice p5 L c5) ∧ RfTo w (w1.setCell ⟨g, 2, none⟩ (.slice p1 N c1)) g pb cb t b k lim (T ++ [x]) E := by
  subst hL
  have e : Value.ownBlock (.slice pv T.length cv) = Value.ownBlock (.slice p5 T.length c5) := hv.trans ht.symm
  rw [e] at hgrow hat
  have hsz : (w.alloc o).heap.size = w.heap.size + 1 := by simp
  refine h.push hN hb ht hfit hpl own hgrow (fun j hj => ?_) ?_
  · rcases hat with e | e
    · exact .inl (e ▸ hj)
    · rw [e] at hj; cases hj; exact .inr (by omega)
  · rcases hat with e | e
    · exact .inl (e.trans ht)
    · refine .inr fun j hj => ?_
      rw [e] at hj; cases hj; omega

set_option maxRecDepth 100000 in
set_option maxHeartbeats 4000000 in
theorem sstored_any {g : Nat} {pb : Option Addr} {cb : Nat} {t : Option Nat} {b : List Nat} {k lim : Nat} {T : List Nat} (w : World) (hne : b ≠ []) (h8 : ∀ x ∈ b, x < 256) (h : RfIs w g pb cb t b k lim T 0) :
    Calls Tryz.prog 43 #[.pointer (some ⟨g, 0, none⟩)] w fun e w' => RfOut (rStored b lim T k) w w' g pb cb t b lim e := by
  have hpl : ∀ a, pb = some a → a.block < w.heap.size := fun a ha => h.bits.lt (fun e => hne (List.length_eq_zero_iff.1 (by have := bts_length b; rw [e] at this; simp at this; omega))) a ha
  have HPL := Lib.hid hpl
  have H8 := Lib.hid h8
  have HNE := Lib.hid hne
  have hfew := h.few
  have hins := h.ins
  have hlim := h.lims
  have c1 := h.c1
  have f1 := h.fz 1
  have HUP := Lib.hid (rup_any k w (by omega))
  have H1 := Lib.hid (h.setAt (upN k) (upN_le h.ins))
  have F1 : Hid (Fr (RfB g t) w (w.setCell ⟨g, 1, none⟩ (.int .i64 (upN k : Nat)))) := Lib.hid (h.setFr 1 _)
  obtain ⟨RES, hRES⟩ : ∃ R, rStored b lim T k = R := ⟨_, rfl⟩
  have HRES : Hid (RES = (rGrp b 16 (upN k)).then fun n k1 => (rGrp b 16 k1).then fun m k2 =>
    (rIf (decide (n + m = 65535)) 61 k2).then fun _ k2 => (rIf (decide (T.length + n ≤ lim)) 64 k2).then fun _ k2 =>
    (rIf (decide (k2 + 8 * n ≤ 8 * b.length)) 20 k2).then fun _ k2 => .ok (T ++ (b.drop (k2 / 8)).take n) (k2 + 8 * n)) := Lib.hid (by rw [← hRES]; rfl)
  rw [hRES]
  have HU8 : Hid (upN k % 8 = 0) := Lib.hid (by unfold upN; omega)
  obtain ⟨U, hU⟩ : ∃ U, upN k = U := ⟨_, rfl⟩
  rw [hU] at HUP H1 F1 HRES HU8
  have hUl := H1.out.ins
  clear h h8 hne hpl hRES hU
  go_enter Tryz.func43, Tryz.ntmps43
  go_wp2_with (go_at_call 67; refine HUP.out.mono ?_; rintro e w' ⟨rfl, rfl⟩)
  obtain ⟨W1, hW1⟩ : ∃ W1, w.setCell ⟨g, 1, none⟩ (.int .i64 (U : Nat)) = W1 := ⟨_, rfl⟩
  rw [hW1] at H1 F1
  rw [hW1]
  clear hW1 c1 f1 HUP
  cases hx : rGrp b 16 U with
  | no M =>
    have RN : Hid (RES = .no M) := Lib.hid (by rw [HRES.out, hx]; rfl)
    have HMZ := Lib.hid (grp_nz H1.out.ins hx)
    refine (sgroup_not 16 M W1 H1.out (by decide) hx).mono ?_
    rintro _ W8 ⟨rfl, hs2, hf2⟩
    have HD : Hid (Dead w W8 g pb cb t t b U lim T M) := Lib.hid (Dead.of hs2 F1.out (.inl rfl) hf2 HMZ.out)
    clear hx hs2 hf2
    go_wp2_with fail
    refine (sgroup_err 16 W8 HD.out.is HD.out.nz).mono ?_
    rintro _ w' ⟨rfl, rfl⟩
    obtain ⟨pM, cM, m2, -, -⟩ := HD.out.is.c2
    have m0 := HD.out.is.c0
    have m1 := HD.out.is.c1
    have m3 := HD.out.is.c3
    have m4 := HD.out.is.c4
    have mb : ((M : Int) == 0) = false := by have := HD.out.nz; simpa using this
    go_wp2_with fail
    go_quiet (fail)
    go_wp2_with fail
    go_quiet (fail)
    go_wp2_with fail
    go_loopw [4] (fun i wr => i = .int .i64 0 ∧ Dead w wr g pb cb t t b U lim T M) (fun _ _ => 0)
    case atStart => exact ⟨rfl, HD.out.fr0 (by first | exact Fr.refl _ _ | exact (Fr.drewN S0 _ _).trans0 (Fr.drewN _ _ _) | exact Fr.drewN _ _ _)⟩
    case round =>
      obtain ⟨rfl, hd9⟩ := hrel
      have HD9 := Lib.hid hd9
      have y4 := HD9.out.is.c4
      clear hd9
      go_wp2
      go_end0
      exact HD9.out.out RN.out
  | ok n k1 =>
    have hn := rGrp_lt hx
    have hn16 : n < 65536 := hn.1
    have hk1 : k1 = U + 16 := hn.2
    refine (sgroup_at 16 n k1 W1 HNE.out H1.out (by decide) hx).mono ?_
    rintro _ W2 ⟨rfl, hs2, hf2⟩
    have H2 := Lib.hid hs2
    have F2 : Hid (Fr (RfB g t) w W2) := Lib.hid (F1.out.trans hf2 fun _ _ e => .inl e)
    have HR2 : Hid (RES = (rGrp b 16 k1).then fun m k2 =>
      (rIf (decide (n + m = 65535)) 61 k2).then fun _ k2 => (rIf (decide (T.length + n ≤ lim)) 64 k2).then fun _ k2 =>
      (rIf (decide (k2 + 8 * n ≤ 8 * b.length)) 20 k2).then fun _ k2 => .ok (T ++ (b.drop (k2 / 8)).take n) (k2 + 8 * n)) := Lib.hid (by rw [HRES.out, hx]; rfl)
    clear hx hs2 hf2 hn HRES
    cases hy : rGrp b 16 k1 with
    | no M =>
      have RN : Hid (RES = .no M) := Lib.hid (by rw [HR2.out, hy]; rfl)
      have HMZ := Lib.hid (grp_nz H2.out.ins hy)
      go_wp2_with fail
      refine (sgroup_not 16 M W2 H2.out (by decide) hy).mono ?_
      rintro _ W8 ⟨rfl, hs3, hf3⟩
      have HD : Hid (Dead w W8 g pb cb t t b k1 lim T M) := Lib.hid (Dead.of hs3 F2.out (.inl rfl) hf3 HMZ.out)
      clear hy hs3 hf3
      obtain ⟨pM, cM, m2, -, -⟩ := HD.out.is.c2
      have m0 := HD.out.is.c0
      have m1 := HD.out.is.c1
      have m3 := HD.out.is.c3
      have m4 := HD.out.is.c4
      have mb : ((M : Int) == 0) = false := by have := HD.out.nz; simpa using this
      go_wp2_with fail
      go_quiet (fail)
      go_wp2_with fail
      go_quiet (fail)
      go_wp2_with fail
      go_loopw [4] (fun i wr => i = .int .i64 0 ∧ Dead w wr g pb cb t t b k1 lim T M) (fun _ _ => 0)
      case atStart => exact ⟨rfl, HD.out.fr0 (by first | exact Fr.refl _ _ | exact (Fr.drewN S0 _ _).trans0 (Fr.drewN _ _ _) | exact Fr.drewN _ _ _)⟩
      case round =>
        obtain ⟨rfl, hd9⟩ := hrel
        have HD9 := Lib.hid hd9
        have y4 := HD9.out.is.c4
        clear hd9
        by_cases hn0 : (0 : Int) < (n : Int)
        · go_wp2
          all_goals go_end0
          all_goals exact HD9.out.out RN.out
        · go_wp2
          all_goals go_end0
          all_goals exact HD9.out.out RN.out
    | ok m k2 =>
      have hm := rGrp_lt hy
      have hm16 : m < 65536 := hm.1
      have hk2 : k2 = k1 + 16 := hm.2
      go_wp2_with fail
      refine (sgroup_at 16 m k2 W2 HNE.out H2.out (by decide) hy).mono ?_
      rintro _ W3 ⟨rfl, hs3, hf3⟩
      have H3 := Lib.hid hs3
      have F3 : Hid (Fr (RfB g t) w W3) := Lib.hid (F2.out.trans hf3 fun _ _ e => .inl e)
      have HR3 : Hid (RES = (rIf (decide (n + m = 65535)) 61 k2).then fun _ k2 => (rIf (decide (T.length + n ≤ lim)) 64 k2).then fun _ k2 =>
        (rIf (decide (k2 + 8 * n ≤ 8 * b.length)) 20 k2).then fun _ k2 => .ok (T ++ (b.drop (k2 / 8)).take n) (k2 + 8 * n)) := Lib.hid (by rw [HR2.out, hy]; rfl)
      have c4 : W3.cell? ⟨g, 4, none⟩ = some (.int .i64 0) := hs3.c4
      have f4 := hs3.fz 4
      clear hy hs3 hf3 hm HR2
      by_cases h61 : n + m = 65535
      · have i61 : ((n : Int) + (m : Int) != 65535) = false := by simp; omega
        have HR4 : Hid (RES = (rIf (decide (T.length + n ≤ lim)) 64 k2).then fun _ k2 =>
          (rIf (decide (k2 + 8 * n ≤ 8 * b.length)) 20 k2).then fun _ k2 => .ok (T ++ (b.drop (k2 / 8)).take n) (k2 + 8 * n)) := Lib.hid (by rw [HR3.out, rIf_yes (decide_eq_true h61)]; rfl)
        obtain ⟨pT, cT, c2, -, -⟩ := H3.out.c2
        have c3 := H3.out.c3
        have c0 := H3.out.c0
        have c1 := H3.out.c1
        clear HR3
        by_cases h64 : T.length + n ≤ lim
        · have i64 : ¬ (n : Int) > (lim : Int) - (T.length : Int) := by omega
          have HR5 : Hid (RES = (rIf (decide (k2 + 8 * n ≤ 8 * b.length)) 20 k2).then fun _ k2 => .ok (T ++ (b.drop (k2 / 8)).take n) (k2 + 8 * n)) := Lib.hid (by rw [HR4.out, rIf_yes (decide_eq_true h64)]; rfl)
          clear HR4
          obtain ⟨N, hN⟩ : ∃ N, 8 * b.length = N := ⟨_, rfl⟩
          rw [hN] at c0
          by_cases h20 : k2 + 8 * n ≤ 8 * b.length
          · have i20 : ¬ 8 * (n : Int) > (N : Int) - (k2 : Int) := by omega
            have HOK : Hid (RES = .ok (T ++ (b.drop (k2 / 8)).take n) (k2 + 8 * n)) := Lib.hid (by rw [HR5.out, rIf_yes (decide_eq_true h20)]; rfl)
            have hN4 : N ≤ 40000 := by omega
            go_wp2_with fail
            go_quiet (fail)
            go_wp2_with fail
            go_quiet (fail)
            go_wp2_with fail
            have hQ8 : ∃ Q, k2 = 8 * Q ∧ k2 / 8 = Q := ⟨k2 / 8, by have := HU8.out; omega, rfl⟩
            obtain ⟨Q, hkQ, hQ⟩ := hQ8
            rw [hQ] at HOK
            have HKQ := Lib.hid hkQ
            have HNN := Lib.hid hN
            have H320 := Lib.hid h20
            have hlim2 := hlim.2
            clear hQ c4 f4 c2 c3 c0 c1 i61 i64 i20 hk1 hk2 hkQ hN h20
            go_loopw [4] (fun i wr => ∃ j : Nat, j ≤ n ∧ i = .int .i64 j ∧ RfTo w wr g pb cb t b (8 * (Q + j)) lim (T ++ (b.drop Q).take j) 0) (fun i _ => n - (intOf i).toNat)
            case atStart => exact ⟨0, by omega, rfl, by
              rw [show 8 * (Q + 0) = k2 by have := HKQ.out; omega, List.take_zero, List.append_nil]
              exact ⟨t, H3.out.fr0 ((Fr.drewN S0 _ _).trans0 (Fr.drewN _ _ _)), F3.out.trans0 ((Fr.drewN S0 _ _).trans0 (Fr.drewN _ _ _)), .inl rfl⟩⟩
            case round =>
              obtain ⟨j, hj, rfl, t1, hst, hfr, ht1⟩ := hrel
              have HST := Lib.hid hst
              have HFR := Lib.hid hfr
              have HT1 := Lib.hid ht1
              have y4 : wr.cell? ⟨g, 4, none⟩ = some (.int .i64 0) := hst.c4
              clear hst hfr ht1
              by_cases hjn : (j : Int) < (n : Int)
              · have hQj : Q + j < b.length := by have := HKQ.out; have := H320.out; omega
                have HX := Lib.hid (grp8 b H8.out (Q + j) hQj)
                have hx8 := H8.out _ (List.getElem_mem hQj)
                have HTK : Hid (T ++ (b.drop Q).take (j + 1) = (T ++ (b.drop Q).take j) ++ [b[Q + j]]) := Lib.hid (by
                  rw [List.take_succ_eq_append_getElem (by rw [List.length_drop]; omega), List.append_assoc]
                  simp)
                obtain ⟨x, hxe⟩ : ∃ x, b[Q + j] = x := ⟨_, rfl⟩
                rw [hxe] at HX hx8 HTK
                have hVL : (T ++ (b.drop Q).take j).length = T.length + j := by rw [List.length_append, List.length_take, List.length_drop]; omega
                obtain ⟨V, hV⟩ : ∃ V, T ++ (b.drop Q).take j = V := ⟨_, rfl⟩
                rw [hV] at HST HTK hVL
                have HVL : Hid (V.length = T.length + j) := Lib.hid hVL
                obtain ⟨L, hL⟩ : ∃ L, T.length + j = L := ⟨_, rfl⟩
                rw [hL] at HVL
                obtain ⟨pV, cV, m2, mo, mh⟩ := HST.out.c2
                rw [HVL.out] at m2 mo mh
                have MO := Lib.hid mo
                have MH := Lib.hid mh
                obtain ⟨NV, hNV⟩ : ∃ NV, L + 1 = NV := ⟨_, rfl⟩
                have HNV := Lib.hid hNV
                have HFIT : Hid (NV ≤ lim) := Lib.hid (by omega)
                have HR : Hid (Room NV) := Lib.hid (Room.mk (by omega))
                have HG := Lib.hid (sgroup_at 8 x _ wr.drew HNE.out (HST.out.fr0 (Fr.drew _ _)) (by decide) HX.out)
                have HPLr : Hid (∀ a, pb = some a → a.block < wr.heap.size) := Lib.hid (fun a ha => Nat.lt_of_lt_of_le (HPL.out a ha) HFR.out.size)
                have f2 := HST.out.fz 2
                have hwx : IntKind.u8.wrap (x : Int) = (x : Int) := IntWalk.u8_in _ (by omega)
                clear hxe hVL hV hL hNV mo mh HX
                go_wp2_with fail
                go_region_law (first
                  | (refine step_many el8 (.tmp 92) (.tmp 96) OA.out SR.out HNV.out rfl rfl rfl rfl (one8s [x]) HR.out ?_; intro p11 c11 w11 own11 g11 at11; obtain ⟨z1, z2, z3⟩ := RfIs.pushm (x := x) HS5.out HVL.out HNV.out HB5.out HT5.out MH.out HFIT.out HPL5.out own11 g11 at11; have Z3 := Lib.hid z3; have y2 := z1 2; clear own11 g11 at11 z1 z3)
                  | (refine step_many el8 (.tmp 92) (.tmp 96) OB.out SR.out HNV.out rfl rfl rfl rfl (one8s [x]) HR.out ?_; intro p11 c11 w11 own11 g11 at11; obtain ⟨z1, z2, z3⟩ := RfIs.pushm (x := x) HS5.out HVL.out HNV.out HB5.out HT5.out HT5.out HFIT.out HPL5.out own11 g11 at11; have Z3 := Lib.hid z3; have y2 := z1 2; clear own11 g11 at11 z1 z3)
                  | (go_simp; go_at_call 42; refine HG.out.mono ?_; rintro _ W5 ⟨rfl, hs5, hf5⟩; have HS5 := Lib.hid hs5; have HF5 := Lib.hid hf5; obtain ⟨p5, c5, hb5, ho5, ht5⟩ := hs5.ex; rw [HVL.out] at hb5 ho5 ht5; have HB5 := Lib.hid hb5; have HT5 := Lib.hid ht5; have OB := Lib.hid (ho5.alloc (.cells #[.int .u8 (x : Int)] 5)); have OA := Lib.hid ((hf5.owns ((Fr.drew S0 wr).owns MO.out fun _ _ h => h) (fun q hq e => HST.out.ap1 (by rw [← MH.out, hq, e]))).alloc (.cells #[.int .u8 (x : Int)] 5)); have SR : Hid (SrcIs (W5.alloc (.cells #[.int .u8 (x : Int)] 5)) (.slice (some ⟨W5.heap.size, 0, none⟩) 1 1) 1 (u8s [x])) := Lib.hid (SrcIs.ofOwns (own_one W5 (.int .u8 (x : Int)) 5)); have HPL5 : Hid (∀ a, pb = some a → a.block < W5.heap.size) := Lib.hid (fun a ha => Nat.lt_of_lt_of_le (HPLr.out a ha) hf5.size); have n2 : W5.cell? ⟨g, 2, none⟩ = some (.slice p5 L c5) := (by simp [World.cell?, hb5]); have n3 := (Fr.alloc S0 W5 (.cells #[.int .u8 (x : Int)] 5)).cell n2 (fun h => h); clear hs5 hf5 hb5 ho5 ht5))
                all_goals
                  clear y4 m2 f2 n2 n3 y2 hwx
                  go_wp2_with fail
                  go_roundw
                  case rel => exact ⟨j + 1, by omega, by simp, by
                    rw [HTK.out, show 8 * (Q + (j + 1)) = 8 * (Q + j) + 8 by omega]
                    exact RfTo.trans ((HFR.out.trans0 (Fr.drew S0 wr)).trans HF5.out fun _ _ e => .inl e) HT1.out Z3.out⟩
                  case measure => simp [intOf]; omega
              · have HFIN : Hid (RES = .ok (T ++ (b.drop Q).take j) (8 * (Q + j))) := Lib.hid (by rw [HOK.out, show j = n by omega, show k2 + 8 * n = 8 * (Q + n) by have := HKQ.out; omega])
                go_wp2
                go_end0
                exact RfOut.ok HFIN.out ⟨t1, HST.out, HFR.out, HT1.out⟩
          · have i20 : 8 * (n : Int) > (N : Int) - (k2 : Int) := by omega
            have RN' : Hid (RES = .no 20) := Lib.hid (by rw [HR5.out, rIf_no (decide_eq_false h20)]; rfl)
            have hN4 : N ≤ 40000 := by omega
            have RN := RN'
            have HE : Hid (∀ W, Fr S0 W3 W → Dead w (W.setCell ⟨g, 4, none⟩ (.int .i64 20)) g pb cb t t b k2 lim T 20) := Lib.hid (fun W f => Dead.set (H3.out.fr0 f) (F3.out.trans0 f) (.inl rfl) 20 (by decide))
            go_wp2_with fail
            go_quiet (fail)
            go_wp2_with fail
            go_quiet (fail)
            go_wp2_with fail
            go_loopw [4] (fun i wr => i = .int .i64 0 ∧ Dead w wr g pb cb t t b k2 lim T 20) (fun _ _ => 0)
            case atStart => exact ⟨rfl, HE.out _ (by first | exact Fr.refl _ _ | exact (Fr.drewN S0 _ _).trans0 (Fr.drewN _ _ _) | exact Fr.drewN _ _ _)⟩
            case round =>
              obtain ⟨rfl, hd9⟩ := hrel
              have HD9 := Lib.hid hd9
              have y4 : wr.cell? ⟨g, 4, none⟩ = some (.int .i64 20) := HD9.out.is.c4
              clear hd9
              by_cases hn0 : (0 : Int) < (n : Int)
              · go_wp2
                all_goals go_end0
                all_goals exact HD9.out.out RN.out
              · go_wp2
                all_goals go_end0
                all_goals exact HD9.out.out RN.out
        · have i64 : (n : Int) > (lim : Int) - (T.length : Int) := by omega
          have RN : Hid (RES = .no 64) := Lib.hid (by rw [HR4.out, rIf_no (decide_eq_false h64)]; rfl)
          have HE : Hid (∀ W, Fr S0 W3 W → Dead w (W.setCell ⟨g, 4, none⟩ (.int .i64 64)) g pb cb t t b k2 lim T 64) := Lib.hid (fun W f => Dead.set (H3.out.fr0 f) (F3.out.trans0 f) (.inl rfl) 64 (by decide))
          go_wp2_with fail
          go_quiet (fail)
          go_wp2_with fail
          obtain ⟨W8, hW8⟩ : ∃ W8, (W3.drewN nq).setCell ⟨g, 4, none⟩ (.int .i64 64) = W8 := ⟨_, rfl⟩
          have HD : Hid (Dead w W8 g pb cb t t b k2 lim T 64) := Lib.hid (by rw [← hW8]; exact HE.out _ (Fr.drewN _ _ _))
          rw [hW8]
          have m4 : W8.cell? ⟨g, 4, none⟩ = some (.int .i64 64) := HD.out.is.c4
          clear hW8 c0 c1 c2 c3 c4 f4
          go_quiet (fail)
          go_wp2_with fail
          go_loopw [4] (fun i wr => i = .int .i64 0 ∧ Dead w wr g pb cb t t b k2 lim T 64) (fun _ _ => 0)
          case atStart => exact ⟨rfl, HD.out.fr0 (by first | exact Fr.refl _ _ | exact (Fr.drewN S0 _ _).trans0 (Fr.drewN _ _ _) | exact Fr.drewN _ _ _)⟩
          case round =>
            obtain ⟨rfl, hd9⟩ := hrel
            have HD9 := Lib.hid hd9
            have y4 : wr.cell? ⟨g, 4, none⟩ = some (.int .i64 64) := HD9.out.is.c4
            clear hd9
            by_cases hn0 : (0 : Int) < (n : Int)
            · go_wp2
              all_goals go_end0
              all_goals exact HD9.out.out RN.out
            · go_wp2
              all_goals go_end0
              all_goals exact HD9.out.out RN.out
      · have i61 : ((n : Int) + (m : Int) == 65535) = false := by simp; omega
        have RN' : Hid (RES = .no 61) := Lib.hid (by rw [HR3.out, rIf_no (decide_eq_false h61)]; rfl)
        have RN := RN'
        have HE : Hid (Dead w (W3.setCell ⟨g, 4, none⟩ (.int .i64 61)) g pb cb t t b k2 lim T 61) := Lib.hid (Dead.set H3.out F3.out (.inl rfl) 61 (by decide))
        go_wp2_with fail
        obtain ⟨W8, hW8⟩ : ∃ W8, W3.setCell ⟨g, 4, none⟩ (.int .i64 61) = W8 := ⟨_, rfl⟩
        have HD : Hid (Dead w W8 g pb cb t t b k2 lim T 61) := Lib.hid (by rw [← hW8]; exact HE.out)
        rw [hW8]
        have m4 : W8.cell? ⟨g, 4, none⟩ = some (.int .i64 61) := HD.out.is.c4
        clear hW8 c4 f4
        go_quiet (fail)
        go_wp2_with fail
        go_quiet (fail)
        go_wp2_with fail
        go_loopw [4] (fun i wr => i = .int .i64 0 ∧ Dead w wr g pb cb t t b k2 lim T 61) (fun _ _ => 0)
        case atStart => exact ⟨rfl, HD.out.fr0 (by first | exact Fr.refl _ _ | exact (Fr.drewN S0 _ _).trans0 (Fr.drewN _ _ _) | exact Fr.drewN _ _ _)⟩
        case round =>
          obtain ⟨rfl, hd9⟩ := hrel
          have HD9 := Lib.hid hd9
          have y4 : wr.cell? ⟨g, 4, none⟩ = some (.int .i64 61) := HD9.out.is.c4
          clear hd9
          by_cases hn0 : (0 : Int) < (n : Int)
          · go_wp2
            all_goals go_end0
            all_goals exact HD9.out.out RN.out
          · go_wp2
            all_goals go_end0
            all_goals exact HD9.out.out RN.out
end Go.Proofs.YtnckoghgplnhfaaGreat
