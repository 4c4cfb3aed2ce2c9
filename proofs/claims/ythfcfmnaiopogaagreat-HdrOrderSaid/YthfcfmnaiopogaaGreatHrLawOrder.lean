/- The law on values that come in another order, or apart. -/
import Derived.Test.YthfcfmnaiopogaaGreatHrGot
import Derived.Test.YthfcfmnaiopogaaGreatHrOrdMath
import Derived.Test.YthfcfmnaiopogaaGreatHrLate
import Derived.Laws.OwnMore
namespace Go.Proofs.YthfcfmnaiopogaaGreat
open Go.RowKit Go.ChangeMaps

/-- append(s, x...) at a step of a region that draws its order -/
theorem step_many {P : Program} {t e : TypeId} {z : Value} {bytes : Nat} (he : ElemOk P t e z 1 bytes) {ops : Array Oper} {o : Oper} {a : Act} {K : Act → World → Prop} {Q : Exit → Act → World → Prop} {E : Prop} {w : World} (s x : Operand)
    {v : Value} {n : Nat} {xs : List Value} (own : w.ownsRow 0 e 1 v n xs) {u : Value} {m : Nat} {ys : List Value} (hsrc : SrcIs w u m ys) {N : Nat} (hN : n + m = N)
    (hgd : o.guard = none) (ho : o.op = .call { callee := .builtin .append, args := #[s, x], argTypes := #[t, t] }) (hs : a.eval s = v) (hx : a.eval x = u) (h1 : ∀ y ∈ ys, y.oneCell' = true) (hr : Room N)
    (h : ∀ p c w', w'.ownsRow 0 e 1 (.slice p N c) N (xs ++ ys) → w.grownBy w' v.ownBlock → (Value.ownBlock (.slice p N c) = v.ownBlock ∨ Value.ownBlock (.slice p N c) = some w.heap.size) →
      K (a.put o.dst (.slice p N c)) w') :
    if Region.wanted o (yielded ops a.tmps) = true then Oper.wp P o a w K Q else E := by
  subst hN
  have hw : Region.wanted o (yielded ops a.tmps) = true := by simp [Region.wanted, hgd]
  rw [if_pos hw]
  obtain ⟨p, c, w', hrun, h2, h3, h4⟩ := run_many (ty := o.type) he own hsrc h1 hr
  unfold Oper.wp
  simp only [execOp, ho, resolve, invoke, builtin, Sem.run_bind, Sem.run_pure, Result.andThen_ok, List.map_toArray, List.map_cons, List.map_nil, hs, hx, hrun]
  exact h p c w' h2 h3 h4
theorem SrcIs.ofZ {w : World} {p : Option Addr} {l : List Int} {m c : Nat} (h : ZI w p l) (hm : l.length = m) (hc : p = none → c = 0) : SrcIs w (.slice p m c) m (zs l) := by
  refine ⟨by simp [zs, hm], ?_⟩
  cases p with
  | none =>
    have : l = [] := by
      cases l with
      | nil => rfl
      | cons x r =>
        obtain ⟨b, o, hp, _⟩ := h 0 (by simp)
        cases hp
    subst this
    exact .inl ⟨by rw [hc rfl, ← hm]; rfl, by rw [← hm]; rfl⟩
  | some ad =>
    refine .inr ⟨ad, c, rfl, fun j v hj => ?_⟩
    have hjl : j < l.length := by
      have := (List.getElem?_eq_some_iff.1 hj).1
      simpa [zs] using this
    obtain ⟨b, o, hp, hcl⟩ := h j hjl
    obtain rfl := Option.some.inj hp
    have : v = .int .i64 l[j] := by
      have h2 : (zs l)[j]? = some (.int .i64 l[j]) := by simp [zs, hjl]
      rw [h2] at hj
      exact (Option.some.inj hj).symm
    rw [this]
    unfold Addr.add
    by_cases hj0 : j = 0
    · subst hj0
      simpa using hcl
    · rw [if_neg hj0]
      exact hcl
theorem ZI.ofOwns {w : World} {q : Option Addr} {n d : Nat} {l : List Int} (h : w.ownsRow 0 2 1 (.slice q n d) n (zs l)) : ZI w q l := by
  have hlen : l.length = n := by have h1 := h.1; simpa [zs] using h1
  intro i hi
  rcases h.2 with ⟨hv, hn⟩ | ⟨g, cap, cur, hv, _⟩
  · omega
  · simp only [Value.slice.injEq] at hv
    obtain ⟨rfl, -, rfl⟩ := hv
    refine ⟨g, 0, rfl, ?_⟩
    rw [Nat.zero_add]
    refine (h.cellAt _ (by omega)).trans ?_
    simp [zs, hi]
theorem AccZ.none (w wr : World) (f : Fr S0 w wr) : AccZ w wr (.slice none 0 0) 0 [] := ⟨World.ownsRow_nil _ _ _ _, fresh_nil _ _, f⟩
theorem ones_zs (l : List Int) : ∀ y ∈ zs l, y.oneCell' = true := fun y hy => by
  obtain ⟨x, -, rfl⟩ := List.mem_map.1 hy
  rfl
theorem RefIs.apart {W W' : World} {S : Nat → Prop} {g n c : Nat} {p : Option Addr} {M : Hm} (s : RefIs W g p n c M) (f : Fr S W W') (h1 : ¬ S g) (h2 : ∀ a, p = some a → ¬ S a.block) : RefIs W' g p n c M :=
  ⟨f.row s.blk h1, s.pri.fr f h2, s.len, s.off, s.good⟩
theorem recs_all (N : Hm) {vs : List Int} {m : Nat} (hm : vs.length = m) (h40 : m ≤ 40) : recs N vs [] (min m 40) = recL N vs := by
  rw [Nat.min_eq_left h40, recs_recL N vs m (by omega), ← hm, List.take_length]
theorem rev_take (b : List Int) {j k : Nat} (h : j + k + 1 = b.length) : b.reverse.take (j + 1) = b.reverse.take j ++ [b[k]'(by omega)] := by
  have hj : j < b.reverse.length := by simp; omega
  rw [List.take_succ_eq_append_getElem hj]
  congr 2
  rw [List.getElem_reverse]
  congr 1
  omega
theorem sl_none (w : World) : SlI w .u16 none [] := ⟨by decide, fun h => absurd rfl h⟩
section
variable (a d : Nat) (pa : Option Addr) (ma ca : Nat) (va : List Int) (pb : Option Addr) (mb cb : Nat) (vb : List Int) (w : World)
set_option maxRecDepth 100000 in
set_option maxHeartbeats 4000000 in
theorem law_order (hma : va.length = ma) (hza : ZI w pa va) (hva : ∀ v ∈ va, -9223372036854775808 ≤ v ∧ v ≤ 9223372036854775807) (hca : pa = none → ca = 0)
    (hmb : vb.length = mb) (hzb : ZI w pb vb) (hvb : ∀ v ∈ vb, -9223372036854775808 ≤ v ∧ v ≤ 9223372036854775807) (hcb : pb = none → cb = 0) :
    Calls Tryz.prog 6 #[.int .u64 (a : Nat), .int .u8 (d : Nat), .slice pa ma ca, .slice pb mb cb] w fun e w' => e = .returned (.bool true) ∧ Fr S0 w w' := by
  have HA := Lib.hid (alive_any w)
  obtain ⟨L, H, D, ⟨l0, lh, hh⟩, ⟨d1, d5⟩, hs, hsh⟩ := wshape_any a d 100000
  have HSH := Lib.hid hsh
  by_cases hba : 20 < ma
  · have hd1 : decide (20 < ma) = true := decide_eq_true hba
    have hd2 : (20 : Int) < (ma : Int) := by omega
    clear hsh hma hza hva hmb hzb hvb
    go_enter Tryz.func6, Tryz.ntmps6
    go_wp2_with fail
    refine HA.out.mono ?_
    rintro e w1 ⟨rfl, f1⟩
    have F1 := Lib.hid f1
    clear f1 HA
    go_wp2_with fail
    go_ret
    exact ⟨rfl, F1.out⟩
  have hd1 : decide (20 < ma) = false := decide_eq_false hba
  have hd2 : ¬ (20 : Int) < (ma : Int) := by omega
  by_cases hbb : 20 < mb
  · have hd3 : decide (20 < mb) = true := decide_eq_true hbb
    have hd4 : (20 : Int) < (mb : Int) := by omega
    clear hsh hma hza hva hmb hzb hvb
    go_enter Tryz.func6, Tryz.ntmps6
    go_wp2_with fail
    refine HA.out.mono ?_
    rintro e w1 ⟨rfl, f1⟩
    have F1 := Lib.hid f1
    clear f1 HA
    go_wp2_with fail
    go_ret
    exact ⟨rfl, F1.out⟩
  have hd3 : decide (20 < mb) = false := decide_eq_false hbb
  have hd4 : ¬ (20 : Int) < (mb : Int) := by omega
  obtain ⟨N, eN⟩ : ∃ N, Hm.new L H D true = N := ⟨_, rfl⟩
  have hng : N.Good := eN ▸ Hm.new_good L H D true d1 d5 l0 lh hh hs
  have HOT := Lib.hid (order_take N hng (by rw [← eN]; rfl) (by rw [← eN]; rfl) va vb (fun v hv => (hva v hv).2) (fun v hv => (hvb v hv).2) (by omega) (by omega))
  have HOB := Lib.hid (order_back N hng (by rw [← eN]; rfl) (by rw [← eN]; rfl) va vb (fun v hv => (hva v hv).2) (fun v hv => (hvb v hv).2) (by omega) (by omega))
  have REC := Lib.hid (fun (p : Option Addr) (m c : Nat) (vs : List Int) (hm : vs.length = m) (h40 : m ≤ 40) W (hz : ZI W p vs) (hv : ∀ v ∈ vs, -9223372036854775808 ≤ v ∧ v ≤ 9223372036854775807) => by
    have h1 := rec_got L H D true p m c vs none 0 0 [] W d1 d5 l0 lh hh hs hm hz hv rfl (sl_none W) (fun n hn => by cases hn)
    rw [eN, recs_all N hm h40] at h1
    exact h1)
  have HIN := Lib.hid (And.intro (And.intro hma (And.intro hza (And.intro hva hca))) (And.intro hmb (And.intro hzb (And.intro hvb hcb))))
  have la : ma ≤ 20 := by omega
  have lb : mb ≤ 20 := by omega
  clear hsh l0 lh hh d1 d5 hs hma hza hva hca hmb hzb hvb hcb eN hng
  go_enter Tryz.func6, Tryz.ntmps6
  go_wp2_with fail
  refine HA.out.mono ?_
  rintro e w1 ⟨rfl, f1⟩
  have F1 := Lib.hid f1
  clear f1 HA
  go_wp2_with fail
  refine (HSH.out _).mono ?_
  rintro e w2 ⟨rfl, f2⟩
  have F2 := Lib.hid (F1.out.trans0 f2)
  clear f2 F1 HSH
  have HBOX := box3a w2 (.int .i64 (L : Nat)) (.int .i64 (H : Nat)) (.int .i64 (D : Nat)) 30
  have HB := Lib.hid (fun W (f : Fr S0 (w2.alloc (.cells #[.int .i64 (L : Nat), .int .i64 (H : Nat), .int .i64 (D : Nat)] 30)) W) => And.intro (f.cell HBOX.1 (fun h => h)) (And.intro (f.cell HBOX.2.1 (fun h => h)) (f.cell HBOX.2.2 (fun h => h))))
  have F0 := Lib.hid (F2.out.trans0 (Fr.alloc S0 w2 (.cells #[.int .i64 (L : Nat), .int .i64 (H : Nat), .int .i64 (D : Nat)] 30)))
  clear HBOX
  go_wp2_with fail
  refine (REC.out _ _ _ va HIN.out.1.1 (by omega) _ (HIN.out.1.2.1.fr0 F0.out) HIN.out.1.2.2.1).mono ?_
  rintro e w3 ⟨x, hx, rx, px, nx, cx, rfl, gx⟩
  have GX := Lib.hid gx
  have F3 := Lib.hid (F0.out.trans0 gx.fr)
  obtain ⟨c0, c1, c2⟩ := HB.out _ gx.fr
  clear gx
  go_wp2_with fail
  refine (REC.out _ _ _ vb HIN.out.2.1 (by omega) _ (HIN.out.2.2.1.fr0 F3.out) HIN.out.2.2.2.1).mono ?_
  rintro e w4 ⟨y, hy, ry, py, ny, cy, rfl, gy⟩
  have GY := Lib.hid gy
  have F4 := Lib.hid (F3.out.trans0 gy.fr)
  have GF4 := Lib.hid (GX.out.fr.trans0 gy.fr)
  clear gy c0 c1 c2
  obtain ⟨c0, c1, c2⟩ := HB.out _ GF4.out
  have x0 := fun o => (Fr.alloc S0 w4 o).cell c0 (fun h => h)
  have x1 := fun o => (Fr.alloc S0 w4 o).cell c1 (fun h => h)
  have x2 := fun o => (Fr.alloc S0 w4 o).cell c2 (fun h => h)
  have HRA : Hid (Room ma) := Lib.hid (Room.mk (by omega))
  have HRB : Hid (Room (ma + mb)) := Lib.hid (Room.mk (by omega))
  have HFIRST := Lib.hid True.intro
  go_upto_region 12 with fail
  go_cut [14, 15] from 14 to 55 (fun xz yz wx => ∃ z hz rw pw nw cw WB, xz = .pointer (some ⟨z, 0, none⟩) ∧ yz = .pointer (some ⟨rw, 0, none⟩) ∧ Hid (Got WB wx z hz rw pw nw cw (recL N (va ++ vb)) ∧ Fr S0 w4 WB ∧ Fr S0 w4 wx))
  case first =>
   go_region_law (first
    | (refine step_many elZ (.tmp 48) (.tmp 49) (n := 0) (xs := []) (ys := zs va) (m := ma) (N := ma) (by first | exact own_none _ _ | exact (Fr.drew S0 _).owns (own_none _ _) (fun _ _ h => h)) (SrcIs.ofZ (HIN.out.1.2.1.fr0 (by first | exact F4.out.trans0 (Fr.alloc S0 _ _) | exact (F4.out.trans0 (Fr.drew S0 _)).trans0 (Fr.alloc S0 _ _) | exact (F4.out.trans0 (Fr.alloc S0 _ _)).trans0 (Fr.drew S0 _))) HIN.out.1.1 HIN.out.1.2.2.2) (Nat.zero_add _) rfl rfl rfl rfl (ones_zs _) HRA.out ?_; intro p6 c6 w6 own6 g6 at6; (have F6 : Hid (Fr S0 w4 w6) := Lib.hid (by first | exact fr_made (Fr.refl S0 w4) g6 | exact fr_made (Fr.drew S0 w4) g6)); (have V6 : Hid (Fresh w4 (.slice p6 ma c6)) := Lib.hid (by first | exact fresh_many (fresh_made (n := 0) (c := 0) (Fr.refl S0 w4)) (size_le (Fr.refl S0 w4)) at6 | exact fresh_many (fresh_made (n := 0) (c := 0) (Fr.drew S0 w4)) (size_le (Fr.drew S0 w4)) at6)); have O6 := Lib.hid own6; obtain ⟨y0, y1, y2⟩ := HB.out _ (GF4.out.trans0 F6.out); clear own6 g6 at6)
    | (refine step_many elZ (.tmp 50) (.tmp 51) (n := ma) (ys := zs vb) (m := mb) (N := ma + mb) (by first | exact O6.out | exact (Fr.drew S0 _).owns O6.out (fun _ _ h => h)) (SrcIs.ofZ (HIN.out.2.2.1.fr0 (by first | exact F4.out.trans0 F6.out | exact (F4.out.trans0 F6.out).trans0 (Fr.drew S0 _))) HIN.out.2.1 HIN.out.2.2.2.2) rfl rfl rfl rfl rfl (ones_zs _) HRB.out ?_; intro p7 c7 w7 own7 g7 at7; (have F7 : Hid (Fr S0 w4 w7) := Lib.hid (by first | exact F6.out.append g7 V6.out | exact (F6.out.trans0 (Fr.drew S0 _)).append g7 V6.out)); have O7 := Lib.hid own7; obtain ⟨z0, z1, z2⟩ := HB.out _ (GF4.out.trans0 F7.out); clear own7 g7 at7)
    | (go_simp; go_at_call 18; (have hm1 := HFIRST.out); clear hm1 HFIRST; (have FD : Hid (Fr S0 w7 _) := Lib.hid (by first | exact Fr.refl S0 w7 | exact Fr.drew S0 w7)); (with_reducible refine (REC.out p7 (ma + mb) c7 (va ++ vb) (by rw [List.length_append, HIN.out.1.1, HIN.out.2.1]) (by omega) _ (by first | exact (ZI.ofOwns (l := va ++ vb) (by have h1 := O7.out; rw [List.nil_append] at h1; simpa [zs] using h1)).fr0 FD.out) (fun v hv => (List.mem_append.1 hv).elim (HIN.out.1.2.2.1 v) (HIN.out.2.2.2.1 v))).mono ?_); rintro _ w8 ⟨z, hz, rw, pw, nw, cw, rfl, gz⟩; have GZ := Lib.hid gz; (have F8 : Hid (Fr S0 w4 w8) := Lib.hid ((F7.out.trans0 FD.out).trans0 gz.fr)); (have FB : Hid (Fr S0 w4 _) := Lib.hid (F7.out.trans0 FD.out)); clear gz)
    | fail)
   all_goals
    go_wp2_with fail
    go_meet
    exact ⟨_, _, _, _, _, _, _, rfl, rfl, Lib.hid ⟨GZ.out, FB.out, F8.out⟩⟩
  case rest =>
    obtain ⟨z, hz, rw, pw, nw, cw, WB, rfl, rfl, hcut2⟩ := hcut
    have GZ := Lib.hid hcut2.out.1
    have FB := Lib.hid hcut2.out.2.1
    have F48 := Lib.hid hcut2.out.2.2
    have F8 := Lib.hid (F4.out.trans0 hcut2.out.2.2)
    clear hcut2 c0 c1 c2 x0 x1 x2 HFIRST HRA HRB
    have wb1 : IntKind.i64.wrap ((mb : Int) - 1) = (mb : Int) - 1 := by rw [IntKind.wrap_i64]; omega
    go_wp2_with fail
    go_loopw [16, 17] (fun tl i wr => ∃ j : Nat, i = .int .i64 ((mb : Int) - 1 - (j : Int)) ∧ j ≤ mb ∧ Hid (AccZ wc wr tl (j) (vb.reverse.take j))) (fun _ i _ => (intOf i + 1).toNat)
    case atStart => exact ⟨0, by congr 1; omega, Nat.zero_le _, Lib.hid (AccZ.none _ _ (Fr.refl _ _))⟩
    case round =>
      obtain ⟨j1, rfl, hj1, ha1⟩ := hrel
      obtain ⟨pv1, cv1, rfl⟩ := slFormN ha1.out.own
      by_cases hlt : j1 < mb
      · obtain ⟨k, hk⟩ : ∃ k, mb - 1 - j1 = k := ⟨_, rfl⟩
        have e0 : (mb : Int) - 1 - (j1 : Int) = (k : Int) := by omega
        have hlv := HIN.out.2.1
        have HIX := Lib.hid (show j1 + k + 1 = vb.length by omega)
        obtain ⟨bb, oo, hpe, hcl0⟩ := HIN.out.2.2.1 k (by omega)
        have hcl := ha1.out.fr.cell (F8.out.cell hcl0 (fun h => h)) (fun h => h)
        have HTK := Lib.hid (rev_take vb HIX.out)
        obtain ⟨V, eV⟩ : ∃ V, vb[k]'(by omega) = V := ⟨_, rfl⟩
        rw [eV] at hcl HTK
        rw [e0]
        have e1 : (0 : Int) ≤ (k : Int) := by omega
        have e2 : decide ((0 : Int) ≤ (k : Int)) = true := decide_eq_true e1
        have e3 : (k : Int) < (mb : Int) := by omega
        have e4 : IntKind.i64.wrap ((k : Int) - 1) = (k : Int) - 1 := by rw [IntKind.wrap_i64]; omega
        have HRN : Hid (Room (j1 + 1)) := Lib.hid (Room.mk (by omega))
        clear eV hcl0 wb1 hlv
        subst hpe
        go_wp2_with ((with_reducible show wpList _ _ _ (Oper.mk (some 69) _ _ _ _ _ :: _) _ _); refine app_one elZ (.tmp 63) (.tmp 68) rfl ha1.out.own rfl rfl rfl rfl rfl one8 HRN.out ?_; intro g1 cap1 w9 hown hgrow hat hlt9; have HA9 := Lib.hid (ha1.out.app hown hgrow hat); clear hown hgrow hat hlt9)
        go_roundw
        case rel => exact ⟨j1 + 1, by congr 1; omega, by omega, Lib.hid (by rw [HTK.out]; exact HA9.out)⟩
        case measure => simp [intOf] <;> omega
      · obtain rfl : j1 = mb := by omega
        have e0 : ((j1 : Nat) : Int) - 1 - ((j1 : Nat) : Int) = -1 := by omega
        rw [e0]
        have wb2 : IntKind.i64.wrap ((ma : Int) - 1) = (ma : Int) - 1 := by rw [IntKind.wrap_i64]; omega
        go_wp2_with fail
        go_loopw [16, 18] (fun tl i wr => ∃ j : Nat, i = .int .i64 ((ma : Int) - 1 - (j : Int)) ∧ j ≤ ma ∧ Hid (AccZ wc wr tl (j1 + j) (vb.reverse ++ va.reverse.take j))) (fun _ i _ => (intOf i + 1).toNat)
        case atStart => exact ⟨0, by congr 1; omega, Nat.zero_le _, Lib.hid (by rw [List.take_zero, List.append_nil]; have h1 := ha1.out; rw [List.take_of_length_le (by have := HIN.out.2.1; simp; omega)] at h1; exact h1)⟩
        case round =>
          obtain ⟨j2, rfl, hj2, ha2⟩ := hrel
          obtain ⟨pv2, cv2, rfl⟩ := slFormN ha2.out.own
          by_cases hlt : j2 < ma
          · obtain ⟨k, hk⟩ : ∃ k, ma - 1 - j2 = k := ⟨_, rfl⟩
            have e0 : (ma : Int) - 1 - (j2 : Int) = (k : Int) := by omega
            have hlv := HIN.out.1.1
            have HIX := Lib.hid (show j2 + k + 1 = va.length by omega)
            obtain ⟨bb, oo, hpe, hcl0⟩ := HIN.out.1.2.1 k (by omega)
            have hcl := ha2.out.fr.cell (F8.out.cell hcl0 (fun h => h)) (fun h => h)
            have HTK := Lib.hid (rev_take va HIX.out)
            obtain ⟨V, eV⟩ : ∃ V, va[k]'(by omega) = V := ⟨_, rfl⟩
            rw [eV] at hcl HTK
            rw [e0]
            have e1 : (0 : Int) ≤ (k : Int) := by omega
            have e2 : decide ((0 : Int) ≤ (k : Int)) = true := decide_eq_true e1
            have e3 : (k : Int) < (ma : Int) := by omega
            have e4 : IntKind.i64.wrap ((k : Int) - 1) = (k : Int) - 1 := by rw [IntKind.wrap_i64]; omega
            have HRN : Hid (Room (j1 + j2 + 1)) := Lib.hid (Room.mk (by omega))
            clear eV hcl0 wb2 hlv
            subst hpe
            go_wp2_with ((with_reducible show wpList _ _ _ (Oper.mk (some 83) _ _ _ _ _ :: _) _ _); refine app_one elZ (.tmp 77) (.tmp 82) rfl ha2.out.own rfl rfl rfl rfl rfl one8 HRN.out ?_; intro g1 cap1 w9 hown hgrow hat hlt9; have HA9 := Lib.hid (ha2.out.app hown hgrow hat); clear hown hgrow hat hlt9)
            go_roundw
            case rel => exact ⟨j2 + 1, by congr 1; omega, by omega, Lib.hid (by rw [HTK.out]; exact (by rw [← List.append_assoc]; exact HA9.out))⟩
            case measure => simp [intOf] <;> omega
          · obtain rfl : j2 = ma := by omega
            have e0 : ((j2 : Nat) : Int) - 1 - ((j2 : Nat) : Int) = -1 := by omega
            rw [e0]
            have HLB := HIN.out.2.1
            have HLA := HIN.out.1.1
            have HBK := Lib.hid (show vb.reverse ++ va.reverse.take j2 = vb.reverse ++ va.reverse by rw [List.take_of_length_le (by simp; omega)])
            have HOWN := Lib.hid ha2.out.own
            rw [HBK.out] at HOWN
            obtain ⟨c0, c1, c2⟩ := HB.out _ ((GF4.out.trans0 F48.out).trans0 ha2.out.fr)
            have HVU := Lib.hid (show ∀ v ∈ vb.reverse ++ va.reverse, -9223372036854775808 ≤ v ∧ v ≤ 9223372036854775807 from fun v hv => (List.mem_append.1 hv).elim (fun h => HIN.out.2.2.2.1 v (List.mem_reverse.1 h)) fun h => HIN.out.1.2.2.1 v (List.mem_reverse.1 h))
            have HLU := Lib.hid (show (vb.reverse ++ va.reverse).length = j1 + j2 by simp; omega)
            go_wp2_with fail
            refine (REC.out pv2 (j1 + j2) cv2 (vb.reverse ++ va.reverse) HLU.out (by omega) _ (ZI.ofOwns HOWN.out) HVU.out).mono ?_
            rintro e w10 ⟨u, hu, ru, pu, nu, cu, rfl, gu⟩
            rw [HOB.out] at gu
            have GU := Lib.hid gu
            have FU := Lib.hid ((F48.out.trans0 ha2.out.fr).trans0 gu.fr)
            clear gu c0 c1 c2
            have HXX := Lib.hid (GX.out.hist.fr0 (GY.out.fr.trans0 FU.out))
            have HYY := Lib.hid (GY.out.hist.fr0 FU.out)
            have HZZ := Lib.hid (GZ.out.fr0 (ha2.out.fr.trans0 GU.out.fr))
            have HTA := Lib.hid (xtake_any x hx y hy _ _ w10 HXX.out HYY.out GY.out.len)
            rw [HOT.out.1, HOT.out.2] at HTA
            have HAP : Hid ((x < w4.heap.size ∧ hx < w4.heap.size) ∧ w4.heap.size ≤ WB.heap.size ∧ w.heap.size ≤ x ∧ w.heap.size ≤ hx) := Lib.hid (by
              have a1 := GX.out.hist.lt
              have a2 := GX.out.hist.mp.lt
              have a3 := GY.out.fr.size
              have a4 := FB.out.size
              have a5 := GX.out.xn
              have a6 := F0.out.size
              omega)
            clear HB HIN REC
            go_wp2_with fail
            refine HTA.out.mono ?_
            rintro e w11 ⟨rfl, hx11, f11⟩
            have HX11 := Lib.hid hx11
            have F11 := Lib.hid f11
            have AZ : Hid (∀ b, WB.heap.size ≤ b → ¬ (b = x ∨ b = hx)) := Lib.hid fun b hb e => by have := HAP.out; omega
            have RW := Lib.hid (HZZ.out.ref.apart f11 (AZ.out _ HZZ.out.xn.2.2) (fun a ha => AZ.out _ (HZZ.out.pn a ha).1))
            have SZ := Lib.hid (HZZ.out.hist.fr f11 (AZ.out _ HZZ.out.xn.1) (AZ.out _ HZZ.out.xn.2.1))
            have AU : Hid (∀ b, wr.heap.size ≤ b → ¬ (b = x ∨ b = hx)) := Lib.hid fun b hb e => AZ.out b (by have a1 := GZ.out.fr.size; have a2 := ha2.out.fr.size; omega) e
            have SU := Lib.hid (GU.out.hist.fr f11 (AU.out _ GU.out.xn.1) (AU.out _ GU.out.xn.2.1))
            have FE : Hid (Fr S0 w w11) := Lib.hid (((F4.out.trans0 FU.out)).trans f11 fun j hj e => by have := HAP.out; omega)
            have LZ := Lib.hid GZ.out.len
            have HK : Hid (nw ≤ 100000) := Lib.hid (by rw [← RW.out.len]; exact GZ.out.len)
            clear hx11 f11 HTA
            go_wp2_with fail
            refine (same_any readsX x _ rw pw nw cw _ w11 (.of HX11.out LZ.out) RW.out HK.out).mono ?_
            rintro e w12 ⟨rfl, f12⟩
            have F12 := Lib.hid f12
            clear f12
            go_wp2_with fail
            refine (same_any readsX z _ rw pw nw cw _ w12 (.of (SZ.out.fr0 F12.out) LZ.out) (RW.out.fr0 F12.out) HK.out).mono ?_
            rintro e w13 ⟨rfl, f13⟩
            have F13 := Lib.hid (F12.out.trans0 f13)
            clear f13
            go_wp2_with fail
            refine (same_any readsX u _ rw pw nw cw _ w13 (.of (SU.out.fr0 F13.out) LZ.out) (RW.out.fr0 F13.out) HK.out).mono ?_
            rintro e w14 ⟨rfl, f14⟩
            have F14 := Lib.hid (F13.out.trans0 f14)
            clear f14
            go_wp2_with fail
            go_ret
            exact ⟨rfl, FE.out.trans0 F14.out⟩
end
end Go.Proofs.YthfcfmnaiopogaaGreat
