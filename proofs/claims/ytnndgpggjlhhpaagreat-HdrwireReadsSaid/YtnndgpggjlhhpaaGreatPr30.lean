/- DefRefs -/
import Derived.Test.YtnndgpggjlhhpaaGreatPr1
import Derived.Test.YtnndgpggjlhhpaaGreatPr2
import Derived.Test.YtnndgpggjlhhpaaGreatPr15
import Derived.Test.YtnndgpggjlhhpaaGreatPr20
import Derived.Test.YtnndgpggjlhhpaaGreatPr22
import Derived.Test.YtnndgpggjlhhpaaGreatPr23
import Derived.Test.YtnndgpggjlhhpaaGreatPr25
import Derived.Test.YtnndgpggjlhhpaaGreatPr26
import Derived.Test.YtnndgpggjlhhpaaGreatPr27
import Derived.Test.YtnndgpggjlhhpaaGreatPr28
import Derived.Test.YtnndgpggjlhhpaaGreatPr29
import Derived.IntWalk
import Derived.Laws.MakeOwn
import Derived.BigRegion
import Derived.Laws.OwnMore
import Derived.Lib.MakeNoZero
import Derived.Laws.CopyOwn
import Derived.StillTailTactics
import Derived.WalkKit
import Derived.WalkSpells
import Derived.WalkLawsBesides
import Derived.Deep.QuietTactic
import Derived.BigQuiet
import Derived.RegionTactic
import Derived.Deep.AppendLies
import Derived.Deep.RegionLaw
import Derived.Laws.ResultCell
import Derived.Laws.EntriesVeiled
import Derived.Lib.Hide
import Derived.Test.YtnndgpggjlhhpaaGreatRows
import Derived.Laws.BytesArg
import Derived.Lib.SlBytesConst
import Derived.Maps.AppendAt
import Derived.Laws.AppendOwnNone
import Derived.DeepKeys4
import Derived.WideKeyPair
import Derived.MapKept
import Derived.ChangeMaps
import Derived.Laws.Cover3
import Derived.Deep.RegionHeld3
import Derived.Laws.Tables
import Derived.Defers
import Derived.Recover
set_option maxRecDepth 100000
set_option maxHeartbeats 8000000
namespace Go.Proofs.YtnndgpggjlhhpaaGreat
open Go.RowKit
theorem step_rows {P : Program} {t e : TypeId} {z : Value} {bytes : Nat} (he : ElemOk P t e z 1 bytes) {ops : Array Oper} {o : Oper} {a : Act} {K : Act → World → Prop} {Q : Exit → Act → World → Prop} {E : Prop} {w : World} (s x : Operand)
    {v : Value} {n : Nat} {xs : List Value} (own : w.ownsRow 0 e 1 v n xs) {u : Value} {m : Nat} {ys : List Value} (hsrc : SrcIs w u m ys) {N : Nat} (hN : n + m = N)
    (hgd : o.guard = none) (ho : o.op = .call { callee := .builtin .append, args := #[s, x], argTypes := #[t, t] }) (hs : a.eval s = v) (hx : a.eval x = u) (h1 : ∀ y ∈ ys, y.oneCell' = true) (hr : Room N)
    (h : ∀ p c w', w'.ownsRow 0 e 1 (.slice p N c) N (xs ++ ys) → w.grownBy w' v.ownBlock → (Value.ownBlock (.slice p N c) = v.ownBlock ∨ Value.ownBlock (.slice p N c) = some w.heap.size) →
      K (a.put o.dst (.slice p N c)) w') :
    if Region.wanted o (yielded ops a.tmps) = true then Oper.wp P o a w K Q else E := by
  subst hN
  have hw : Region.wanted o (yielded ops a.tmps) = true := by simp [Region.wanted, hgd]
  rw [if_pos hw]
  obtain ⟨p, c, w', hrun, h2, h3, h4⟩ := run_many (ty := o.type) he own hsrc h1 hr
  unfold Oper.wp
  simp only [execOp, ho, resolve, invoke, builtin, Sem.run_bind, Sem.run_pure, Result.andThen_ok, List.map_toArray, List.map_cons, List.map_nil, hs, hx, hrun]
  exact h p c w' h2 h3 h4
structure Grow (w3 w : World) (gb : Nat) (v : Value) (n : Nat) (L : List Nat) : Prop where
  own : w.ownsRow 0 5 1 v n (u8s L)
  fr : Fr (· = gb) w3 w
  wh : ∀ k, v.ownBlock = some k → k = gb ∨ w3.heap.size ≤ k
theorem Grow.fr0 {w3 w w' : World} {gb : Nat} {v : Value} {n : Nat} {L : List Nat} (h : Grow w3 w gb v n L) (f : Fr S0 w w') : Grow w3 w' gb v n L := ⟨f.owns h.own (fun _ _ h => h), h.fr.trans0 f, h.wh⟩
theorem Grow.app {w3 w w' : World} {gb : Nat} {v : Value} {n N : Nat} {L M : List Nat} {p : Option Addr} {c : Nat} (h : Grow w3 w gb v n L) (own : w'.ownsRow 0 5 1 (.slice p N c) N (u8s L ++ u8s M)) (g : w.grownBy w' v.ownBlock) (at' : Value.ownBlock (.slice p N c) = v.ownBlock ∨ Value.ownBlock (.slice p N c) = some w.heap.size) : Grow w3 w' gb (.slice p N c) N (L ++ M) := by
  refine ⟨by rw [← u8s_append]; exact own, h.fr.trans (Fr.grown g) fun j hj e => ?_, fun k hk => ?_⟩
  · rcases h.wh j e with q | q
    · exact q
    · omega
  · rcases at' with q | q
    · exact h.wh k (q ▸ hk)
    · rw [q] at hk
      cases hk
      exact .inr h.fr.size
theorem rb_any (c n : Nat) (w : World) (hc : c < 4294967296) (hn : n ≤ 15) :
    Calls Tryz.prog 134 #[.int .u32 c, .int .u8 n] w fun e w' => ∃ p d, e = .returned (.slice p n d) ∧ Fr S0 w w' ∧ SrcIs w' (.slice p n d) n (u8s (code c n)) := by
  refine (rbits5_any c n w hc hn).mono ?_
  rintro e w' ⟨v, rfl, f, hv⟩
  obtain ⟨p, d, rfl, -, -, -⟩ := slForm hv.own
  have h := SrcIs.ofOwns hv.own
  rw [code_length] at h ⊢
  exact ⟨p, d, rfl, f, h⟩
theorem rg_any (n c : Nat) (w : World) (hn : n < 4294967296) (hc : c ≤ 32) :
    Calls Tryz.prog 136 #[.int .u32 n, .int .i64 c] w fun e w' => ∃ p d, e = .returned (.slice p c d) ∧ Fr S0 w w' ∧ SrcIs w' (.slice p c d) c (u8s (grp n c)) := by
  refine (rgrp_any n c w hn hc).mono ?_
  rintro e w' ⟨v, rfl, f, hv⟩
  obtain ⟨p, d, rfl, -, -, -⟩ := slForm hv.own
  have h := SrcIs.ofOwns hv.own
  rw [grp_length] at h ⊢
  exact ⟨p, d, rfl, f, h⟩
theorem fx_cod (i : Nat) (h : i < 288) : cod fixLs i < 512 := by
  have key : ∀ k : Fin 288, cod fixLs k.val < 512 := by decide +kernel
  exact key ⟨i, h⟩
theorem fv_cod (i : Nat) (h : i < 32) : cod fives i = i := by
  have key : ∀ k : Fin 32, cod fives k.val = k.val := by decide +kernel
  exact key ⟨i, h⟩
theorem u8s_at (l : List Nat) (i : Nat) (h : i < l.length) : (u8s l)[i]? = some (.int .u8 (len l i : Nat)) := by
  rw [len_get l i h]; simp [u8s, h]
theorem u32s_at (l : List Nat) (i : Nat) (h : i < l.length) : (u32s (cods l))[i]? = some (.int .u32 (cod l i : Nat)) := by
  have h2 : i < (cods l).length := by rw [cods_length]; exact h
  have : (u32s (cods l))[i]? = some (.int .u32 ((cods l)[i] : Nat)) := by simp [u32s, h2]
  rw [this, cods_get]
theorem own_row3 (w : World) (x y z : Value) (t : TypeId) : (w.alloc (.cells #[x, y, z] t)).ownsRow 0 t 1 (.slice (some ⟨w.heap.size, 0, none⟩) 3 3) 3 [x, y, z] :=
  ⟨rfl, .inr ⟨w.heap.size, 3, #[x, y, z], rfl, Nat.zero_le _, heap_alloc_new w _, Nat.le_refl _, by decide, rfl, rfl⟩⟩
end Go.Proofs.YtnndgpggjlhhpaaGreat
namespace Go.Proofs.YtnndgpggjlhhpaaGreat
open Go.RowKit
theorem rfixed_text (p : Option Addr) (d : Nat) (b : List Nat) (w : World) (hb : SlI w .u8 p b) (h8 : ∀ x ∈ b, x < 256) (hL : b.length ≤ 1048576) :
    Calls Tryz.prog 93 #[.slice p b.length d] w fun e w' => ∃ v, e = .returned v ∧ Fr S0 w w' ∧ RowNew w w' v (fxd b) := by
  have HF := Lib.hid (rfixed_any w)
  have HB := Lib.hid hb
  have H8 := Lib.hid h8
  have HOK := Lib.hid (toks_ok b h8 b.length 0 (by omega))
  have HTL := Lib.hid (M.toks_le b)
  obtain ⟨m, hm⟩ : ∃ m, b.length = m := ⟨_, rfl⟩
  have HM := Lib.hid hm
  rw [hm] at hL ⊢
  clear hb h8 hm
  go_enter Tryz.func93, Tryz.ntmps93
  go_wp2_with fail
  refine HF.out.mono ?_
  rintro e w1 ⟨v1, rfl, f1, hv1⟩
  obtain ⟨p1, c1, rfl, hp1, -, -⟩ := slForm hv1.own
  have HV1 := Lib.hid hv1.own
  have HF1 := Lib.hid f1
  have HC := Lib.hid (rcodes_any p1 c1 fixLs w1 (SlI.ofOwns hv1.own) fx_15 (by rw [fixLs_length]; decide))
  rw [fixLs_length] at HC HV1 ⊢
  clear hv1 f1 HF
  go_wp2_with fail
  refine HC.out.mono ?_
  rintro e w2 ⟨v2, rfl, f2, hv2⟩
  obtain ⟨p2, c2, rfl, hp2, -, -⟩ := slForm hv2.own
  have HF2 : Hid (Fr S0 w w2) := Lib.hid (HF1.out.trans0 f2)
  have HV2 : Hid (w2.ownsRow 0 54 1 (.slice p2 288 c2) 288 (u32s (cods fixLs))) := Lib.hid (by have h := hv2.own; rw [cods_length, fixLs_length] at h; exact h)
  have HV12 : Hid (w2.ownsRow 0 5 1 (.slice p1 288 c1) 288 (u8s fixLs)) := Lib.hid (f2.owns HV1.out (fun _ _ h => h))
  rw [cods_length, fixLs_length]
  clear hv2 f2 HC HV1
  go_wp2_with fail
  have HFD : Hid (∀ w' : World, Fr S0 w2 w' → Calls Tryz.prog 133 #[.slice p m d] w' fun r w'' => ∃ q n d, r = .returned (.slice q n d) ∧ n = (M.toks b 0).length ∧ w''.ownsRow 0 186 3 (.slice q n d) n (M.tkl (M.toks b 0)) ∧ Fr S0 w' w'' ∧ Fresh w' (.slice q n d)) := Lib.hid (fun w' f => by
    have := M.rfind_any p d b w' (HB.out.fr0 (HF2.out.trans0 f)) (by rw [HM.out]; exact hL)
    rw [HM.out] at this
    exact this)
  obtain ⟨g1, k1, e1, -, -⟩ := HV12.out.form (by decide)
  obtain ⟨g2, k2, e2, -, -⟩ := HV2.out.form (by decide)
  simp only [Value.slice.injEq] at e1 e2
  obtain ⟨rfl, -, rfl⟩ := e1
  obtain ⟨rfl, -, rfl⟩ := e2
  obtain ⟨gb, hgb⟩ : ∃ gb, w2.heap.size = gb := ⟨_, rfl⟩
  have ng1 : g1 < gb := hgb ▸ (HV12.out.lt g1 rfl).2
  have ng2 : g2 < gb := hgb ▸ (HV2.out.lt g2 rfl).2
  have HC1 : Hid (∀ i, i < 288 → w2.cell? ⟨g1, i, none⟩ = some (.int .u8 (len fixLs i : Nat))) := Lib.hid fun i hi => (HV12.out.cellAt i (by omega)).trans (u8s_at _ _ (by rw [fixLs_length]; exact hi))
  have HC2 : Hid (∀ i, i < 288 → w2.cell? ⟨g2, i, none⟩ = some (.int .u32 (cod fixLs i : Nat))) := Lib.hid fun i hi => (HV2.out.cellAt i (by omega)).trans (u32s_at _ _ (by rw [fixLs_length]; exact hi))
  have ownb : (w2.alloc (.cells #[.int .u8 1, .int .u8 1, .int .u8 0] 5)).ownsRow 0 5 1 (.slice (some ⟨w2.heap.size, 0, none⟩) 3 3) 3 (u8s [1, 1, 0]) := own_row3 w2 _ _ _ _
  have f3 : Fr S0 w2 (w2.alloc (.cells #[.int .u8 1, .int .u8 1, .int .u8 0] 5)) := Fr.alloc _ _ _
  have hsz : (w2.alloc (.cells #[.int .u8 1, .int .u8 1, .int .u8 0] 5)).heap.size = gb + 1 := by rw [size_alloc, hgb]
  generalize w2.alloc (.cells #[.int .u8 1, .int .u8 1, .int .u8 0] 5) = w3 at ownb f3 hsz ⊢
  rw [hgb] at ownb
  rw [hgb]
  have HF3 := Lib.hid f3
  have HOB := Lib.hid ownb
  have HGB := Lib.hid hgb
  have KF := Lib.hid (HFD.out w3 f3)
  clear HFD ownb f3 hgb HV2 HV12 hp1 hp2
  refine KF.out.mono ?_
  rintro e w4 ⟨q, n, c, rfl, hn, own, f4, hv⟩
  have HNN := Lib.hid hn
  have HG4 : Hid (Grow w4 w4 gb (.slice (some ⟨gb, 0, none⟩) 3 3) 3 [1, 1, 0]) := Lib.hid ⟨f4.owns HOB.out (fun _ _ h => h), Fr.refl _ _, fun k hk => by cases hk; exact .inl rfl⟩
  have HQ : Hid (∀ k, Value.ownBlock (.slice q n c) = some k → k ≠ gb) := Lib.hid fun k hk e => by have := hv k hk; omega
  have HTK : Hid (∀ w', Fr (· = gb) w4 w' → M.TkI w' q (M.toks b 0)) := Lib.hid fun w' f' => by
    refine (M.TkI.ofOwns own).fr f' fun hne a ha e => ?_
    obtain ⟨gq, hq, -⟩ := (M.TkI.ofOwns own) hne
    rw [hq] at ha
    cases ha
    exact HQ.out gq (by rw [hq]; rfl) e
  have HK1 : Hid (∀ w' i, Fr (· = gb) w4 w' → i < 288 → w'.cell? ⟨g1, i, none⟩ = some (.int .u8 (len fixLs i : Nat)) ∧ w'.cell? ⟨g2, i, none⟩ = some (.int .u32 (cod fixLs i : Nat))) := Lib.hid fun w' i f' hi =>
    ⟨f'.cell ((HF3.out.trans0 f4).cell (HC1.out i hi) (fun h => h)) (fun e => by simp only at e; omega), f'.cell ((HF3.out.trans0 f4).cell (HC2.out i hi) (fun h => h)) (fun e => by simp only at e; omega)⟩
  have HF4 : Hid (Fr S0 w w4) := Lib.hid ((HF2.out.trans0 HF3.out).trans0 f4)
  have hsw : w.heap.size ≤ gb := by rw [← HGB.out]; exact HF2.out.size
  have hnm : n ≤ m := by rw [hn, ← HM.out]; exact HTL.out
  clear hn own f4 hv KF HC1 HC2 HF3 HOB HF2 HQ
  go_wp2_with fail
  go_loopw [5, 7, 8, 9, 10] (fun v i _ _ _ wr => ∃ (j N : Nat) (L : List Nat), j ≤ n ∧ i = .int .i64 j ∧ L = [1, 1, 0] ++ tksB ((M.toks b 0).take j) ∧ L.length = N ∧ Grow w4 wr gb v N L) (fun _ i _ _ _ _ => n - (intOf i).toNat)
  case atStart => exact ⟨0, 3, [1, 1, 0], by omega, rfl, rfl, rfl, HG4.out⟩
  case round =>
    obtain ⟨j, N, L, hj, rfl, hLe, hLN, hG⟩ := hrel
    have HLE := Lib.hid hLe
    have HLN := Lib.hid hLN
    have hNs : N ≤ 100000000 := by
      have := tksB_len ((M.toks b 0).take j) fun t ht => HOK.out t (List.mem_of_mem_take ht)
      rw [List.length_take] at this
      rw [← hLN, hLe, List.length_append]
      simp only [List.length_cons, List.length_nil]
      omega
    have G := Lib.hid hG
    obtain ⟨pv, cv, rfl, -, -, -⟩ := slForm hG.own
    clear hLe hLN hG
    by_cases hjn : (j : Int) < (n : Int)
    · have hjl : j < (M.toks b 0).length := by rw [← HNN.out]; omega
      obtain ⟨gq, rfl, c0, c1, c2⟩ := (HTK.out wr G.out.fr).at j hjl
      have HTJ : Hid ((M.toks b 0).take (j + 1) = (M.toks b 0).take j ++ [(M.toks b 0)[j]]) := Lib.hid (List.take_succ_eq_append_getElem hjl)
      have HOKJ := Lib.hid (HOK.out _ (List.getElem_mem hjl))
      obtain ⟨⟨tx, tl, td⟩, ht⟩ : ∃ t, (M.toks b 0)[j] = t := ⟨_, rfl⟩
      rw [ht] at c0 c1 c2 HTJ HOKJ
      dsimp only at c0 c1 c2
      have HNX : Hid (L ++ tkB (tx, tl, td) = [1, 1, 0] ++ tksB ((M.toks b 0).take (j + 1))) := Lib.hid (by rw [HTJ.out, tksB_append, tksB_one, HLE.out, List.append_assoc])
      have HCT : Hid (∀ w', Fr (· = gb) w4 w' → w'.cell? ⟨gq, j * 3 + 2, none⟩ = some (.int .i64 (td : Nat))) := Lib.hid fun w' f' => by
        obtain ⟨gq', hq', -, -, hc⟩ := (HTK.out w' f').at j hjl
        rw [ht] at hc
        obtain rfl : gq = gq' := by simpa using hq'
        exact hc
      clear ht hjl HTJ
      by_cases hd : td = 0
      · subst hd
        have hx : tx < 256 := by
          rcases HOKJ.out with h | h
          · exact h.2
          · exact absurd h.2.2.1 (by simp)
        obtain ⟨k1, k2⟩ := HK1.out wr tx G.out.fr (by omega)
        have l5 := fx_len tx (by omega)
        have l6 := fx_cod tx (by omega)
        have HTB : Hid (tkB (tx, tl, 0) = code (cod fixLs tx) (len fixLs tx)) := Lib.hid (by unfold tkB; rw [if_pos rfl, fx_eq])
        obtain ⟨x, hx1⟩ : ∃ x, len fixLs tx = x := ⟨_, rfl⟩
        obtain ⟨y, hy1⟩ : ∃ y, cod fixLs tx = y := ⟨_, rfl⟩
        rw [hx1] at k1 l5 HTB
        rw [hy1] at k2 l6 HTB
        have HBI := Lib.hid (fun w' => rb_any y x w' (by omega) (by omega))
        obtain ⟨N2, hN2⟩ : ∃ N2, N + x = N2 := ⟨_, rfl⟩
        have HN2 := Lib.hid hN2
        have HR2 : Hid (Room N2) := Lib.hid (Room.mk (by omega))
        have HEND : Hid ((L ++ code y x).length = N2 ∧ L ++ code y x = [1, 1, 0] ++ tksB ((M.toks b 0).take (j + 1))) := Lib.hid ⟨by rw [List.length_append, code_length, HLN.out]; exact hN2, by rw [← HTB.out]; exact HNX.out⟩
        have q1 : (tx : Int) < 288 := by omega
        have q2 : (j : Int) < (n : Int) := by omega
        clear hx1 hy1 hN2 HNX HTB HLN HLE HOKJ c1
        go_wp2_with fail
        go_region_law (first
          | (go_simp; go_at_call 134; refine (HBI.out _).mono ?_; rintro e w5 ⟨p5, c5, rfl, f5, hs5⟩; have G2 := Lib.hid (G.out.fr0 ((Fr.drew _ _).trans0 f5)); have S5 := Lib.hid hs5; clear f5 hs5; dsimp only)
          | (refine step_rows el8 (.tmp 29) (.tmp 46) G2.out.own S5.out HN2.out rfl rfl rfl rfl (ones _) HR2.out ?_; intro p11 c11 w11 own11 g11 at11; have G3 := Lib.hid (G2.out.app own11 g11 at11); clear own11 g11 at11))
        all_goals
          go_wp2_with fail
          go_roundw
          case rel => exact ⟨j + 1, N2, L ++ code y x, by omega, by go_num, HEND.out.2, HEND.out.1, G3.out⟩
          case measure => simp [intOf]; omega
      · have hok : 3 ≤ tl ∧ tl ≤ 258 ∧ 0 < td ∧ td ≤ 32768 := by
          rcases HOKJ.out with h | h
          · exact absurd h.1 hd
          · exact h
        obtain ⟨o1, o2, o3, o4⟩ := hok
        have l1 := lenS_is o1 o2
        have l2 := lenS_le tl
        have l3 := spnS_is o3 o4
        have l4 := spnS_le td
        have l5 := fx_len (lenS tl) (by omega)
        have l6 := fx_cod (lenS tl) (by omega)
        have l7 := baseN_le (lenS tl) l2.1 l2.2
        have l8 := farN_le (spnS td) l4
        have l9 := fv_len (spnS td) (by omega)
        have l10 := fv_cod (spnS td) (by omega)
        have HTB : Hid (tkB (tx, tl, td) = ((code (cod fixLs (lenS tl)) (len fixLs (lenS tl)) ++ grp (tl - baseN (lenS tl)) (baseC (lenS tl))) ++ (code (spnS td) 5 ++ grp (td - farN (spnS td)) (farC (spnS td))))) := Lib.hid (by
          unfold tkB
          rw [if_neg hd, fx_eq, numB, numB, l9, l10])
        have HLEN := Lib.hid (fun w' => rlength_yes tl w' o1 o2)
        have HSPN := Lib.hid (fun w' => rspan_yes td w' o3 o4)
        obtain ⟨k1, k2⟩ := HK1.out wr (lenS tl) G.out.fr (by omega)
        obtain ⟨s, hs⟩ : ∃ s, lenS tl = s := ⟨_, rfl⟩
        rw [hs] at l1 l2 l5 l6 l7 HTB HLEN k1 k2
        obtain ⟨x, hx1⟩ : ∃ x, len fixLs s = x := ⟨_, rfl⟩
        obtain ⟨y, hy1⟩ : ∃ y, cod fixLs s = y := ⟨_, rfl⟩
        rw [hx1] at k1 l5 HTB
        rw [hy1] at k2 l6 HTB
        obtain ⟨z, hz⟩ : ∃ z, baseC s = z := ⟨_, rfl⟩
        obtain ⟨r, hr⟩ : ∃ r, tl - baseN s = r := ⟨_, rfl⟩
        rw [hz, hr] at HTB HLEN
        rw [hz] at l1 l7
        obtain ⟨s2, hs2⟩ : ∃ s, spnS td = s := ⟨_, rfl⟩
        rw [hs2] at l3 l4 l8 HTB HSPN
        obtain ⟨z2, hz2⟩ : ∃ z, farC s2 = z := ⟨_, rfl⟩
        obtain ⟨r2, hr2⟩ : ∃ r, td - farN s2 = r := ⟨_, rfl⟩
        rw [hz2, hr2] at HTB HSPN
        rw [hz2] at l8
        have HB1 := Lib.hid (fun w' => rb_any y x w' (by omega) (by omega))
        have HB2 := Lib.hid (fun w' => rg_any r z w' (by omega) (by omega))
        have HB3 : Hid (∀ w', Calls Tryz.prog 134 #[.int .u32 s2, .int .u8 5] w' fun e w'' => ∃ p d, e = .returned (.slice p 5 d) ∧ Fr S0 w' w'' ∧ SrcIs w'' (.slice p 5 d) 5 (u8s (code s2 5))) := Lib.hid (fun w' => rb_any s2 5 w' (by omega) (by omega))
        have HB4 := Lib.hid (fun w' => rg_any r2 z2 w' (by omega) (by omega))
        obtain ⟨N1, hN1⟩ : ∃ X, N + x = X := ⟨_, rfl⟩
        obtain ⟨N2, hN2⟩ : ∃ X, N1 + z = X := ⟨_, rfl⟩
        obtain ⟨N3, hN3⟩ : ∃ X, N2 + 5 = X := ⟨_, rfl⟩
        obtain ⟨N4, hN4⟩ : ∃ X, N3 + z2 = X := ⟨_, rfl⟩
        have HN1 := Lib.hid hN1
        have HN2 := Lib.hid hN2
        have HN3 := Lib.hid hN3
        have HN4 := Lib.hid hN4
        have HR1 : Hid (Room N1 ∧ Room N2 ∧ Room N3 ∧ Room N4) := Lib.hid ⟨Room.mk (by omega), Room.mk (by omega), Room.mk (by omega), Room.mk (by omega)⟩
        have HEND : Hid ((L ++ code y x ++ grp r z ++ code s2 5 ++ grp r2 z2).length = N4 ∧ L ++ code y x ++ grp r z ++ code s2 5 ++ grp r2 z2 = [1, 1, 0] ++ tksB ((M.toks b 0).take (j + 1))) := Lib.hid
          ⟨by simp only [List.length_append, code_length, grp_length, HLN.out]; omega, by rw [← HNX.out, HTB.out]; simp only [List.append_assoc]⟩
        have q1 : (s : Int) < 288 := by omega
        have hne : ((td : Int) == 0) = false := by rw [beq_eq_false_iff_ne]; omega
        have hrs : r ≤ 100000 := by omega
        have hrs2 : r2 ≤ 100000 := by omega
        have hs2s : s2 ≤ 29 := l4
        clear l1 l2 l3 l4 l5 l6 l7 l8 l9 l10 hs hx1 hy1 hz hr hs2 hz2 hr2 hN1 hN2 hN3 hN4 HNX HTB HLN HLE HOKJ c0 o1 o2 o3 o4
        go_wp2_with fail
        refine (HLEN.out _).mono ?_
        rintro e w' ⟨rfl, rfl⟩
        clear HLEN
        go_wp2_with fail
        go_region_law (first
          | (go_simp; go_at_call 134; refine (HB1.out _).mono ?_; rintro e w5 ⟨p5, c5, rfl, f5, hs5⟩; have G2 := Lib.hid (G.out.fr0 ((Fr.drew _ _).trans0 f5)); have S5 := Lib.hid hs5; clear f5 hs5; dsimp only)
          | (refine step_rows el8 (.tmp 58) (.tmp 67) G2.out.own S5.out HN1.out rfl rfl rfl rfl (ones _) HR1.out.1 ?_; intro p11 c11 w11 own11 g11 at11; have G3 := Lib.hid (G2.out.app own11 g11 at11); clear own11 g11 at11))
        all_goals
          have KB := Lib.hid (HB2.out w11)
          clear c1 c2 k1 k2
          go_wp2_with fail
          refine KB.out.mono ?_
          rintro e w6 ⟨p6, c6, rfl, f6, hs6⟩
          have G4 := Lib.hid (G3.out.fr0 f6)
          have S6 := Lib.hid hs6
          clear f6 hs6 KB
          go_wp2_with (first
            | ((with_reducible show wpList _ _ _ (Oper.mk (some 74) _ _ _ _ _ :: _) _ _); refine app_many el8 (.tmp 69) (.tmp 73) G4.out.own S6.out HN2.out rfl rfl rfl rfl (ones _) HR1.out.2.1 ?_; intro p7 c7 w7 own7 g7 at7; have G5 := Lib.hid (G4.out.app own7 g7 at7); have d7 := HCT.out w7 G5.out.fr; clear own7 g7 at7)
            | fail)
          have KS := Lib.hid (HSPN.out w7)
          refine KS.out.mono ?_
          rintro e w' ⟨rfl, rfl⟩
          have KB := Lib.hid (HB3.out w7)
          clear KS d7
          go_wp2_with fail
          refine KB.out.mono ?_
          rintro e w8 ⟨p8, c8, rfl, f8, hs8⟩
          have G6 := Lib.hid (G5.out.fr0 f8)
          have S8 := Lib.hid hs8
          clear f8 hs8 KB
          go_wp2_with (first
            | ((with_reducible show wpList _ _ _ (Oper.mk (some 89) _ _ _ _ _ :: _) _ _); refine app_many el8 (.tmp 85) (.tmp 88) G6.out.own S8.out HN3.out rfl rfl rfl rfl (ones _) HR1.out.2.2.1 ?_; intro p9 c9 w9 own9 g9 at9; have G7 := Lib.hid (G6.out.app own9 g9 at9); have KB := Lib.hid (HB4.out w9); clear own9 g9 at9)
            | fail)
          refine KB.out.mono ?_
          rintro e w10 ⟨p10, c10, rfl, f10, hs10⟩
          have G8 := Lib.hid (G7.out.fr0 f10)
          have S10 := Lib.hid hs10
          clear f10 hs10 KB
          go_wp2_with (first
            | ((with_reducible show wpList _ _ _ (Oper.mk (some 95) _ _ _ _ _ :: _) _ _); refine app_many el8 (.tmp 90) (.tmp 94) G8.out.own S10.out HN4.out rfl rfl rfl rfl (ones _) HR1.out.2.2.2 ?_; intro p12 c12 w12 own12 g12 at12; have G9 := Lib.hid (G8.out.app own12 g12 at12); clear own12 g12 at12)
            | fail)
          go_roundw
          case rel => exact ⟨j + 1, N4, L ++ code y x ++ grp r z ++ code s2 5 ++ grp r2 z2, by omega, by go_num, HEND.out.2, HEND.out.1, G9.out⟩
          case measure => simp [intOf]; omega
    · have hTT : (M.toks b 0).take j = M.toks b 0 := List.take_of_length_le (by rw [← HNN.out]; omega)
      rw [hTT] at HLE
      obtain ⟨k1, k2⟩ := HK1.out wr 256 G.out.fr (by decide)
      have l5 := fx_len 256 (by decide)
      have l6 := fx_cod 256 (by decide)
      have HXE : Hid (L ++ code (cod fixLs 256) (len fixLs 256) = fxB b) := Lib.hid (by rw [HLE.out, ← fx_eq]; rfl)
      obtain ⟨x, hx1⟩ : ∃ x, len fixLs 256 = x := ⟨_, rfl⟩
      obtain ⟨y, hy1⟩ : ∃ y, cod fixLs 256 = y := ⟨_, rfl⟩
      rw [hx1] at k1 l5 HXE
      rw [hy1] at k2 l6 HXE
      have HBI := Lib.hid (fun w' => rb_any y x w' (by omega) (by omega))
      obtain ⟨N2, hN2⟩ : ∃ N2, N + x = N2 := ⟨_, rfl⟩
      have HN2 := Lib.hid hN2
      have HR2 : Hid (Room N2) := Lib.hid (Room.mk (by omega))
      have HFL : Hid ((fxB b).length = N2) := Lib.hid (by rw [← HXE.out, List.length_append, code_length, HLN.out]; exact hN2)
      have HBY : Hid (∀ (w' : World) (q : Option Addr) (d : Nat), SlI w' .u8 q (fxB b) → N2 ≤ d → Calls Tryz.prog 138 #[.slice q N2 d] w' fun e w'' => ∃ v, e = .returned v ∧ Fr S0 w' w'' ∧ RowNew w' w'' v (fxd b)) := Lib.hid fun w' q d h1 h2 => by
        have := rbytes_any q d (fxB b) w' h1 (fxB_bit b) (by rw [HFL.out]; omega) (by rw [HFL.out]; exact h2)
        rw [HFL.out] at this
        exact this
      clear hTT hx1 hy1 hN2 HLE HLN
      go_wp2_with fail
      go_region_law (first
        | (go_simp; go_at_call 134; refine (HBI.out _).mono ?_; rintro e w5 ⟨p5, c5, rfl, f5, hs5⟩; have G2 := Lib.hid (G.out.fr0 ((Fr.drew _ _).trans0 f5)); have S5 := Lib.hid hs5; clear f5 hs5; dsimp only)
        | (refine step_rows el8 (.tmp 96) (.tmp 103) G2.out.own S5.out HN2.out rfl rfl rfl rfl (ones _) HR2.out ?_; intro p11 c11 w11 own11 g11 at11; have G3 := Lib.hid (G2.out.app own11 g11 at11); clear own11 g11 at11))
      all_goals
        have hsl := G3.out.own
        rw [HXE.out] at hsl
        obtain ⟨pp, cc, hpe, -, hpn, -⟩ := slForm hsl
        simp only [Value.slice.injEq, true_and] at hpe
        obtain ⟨rfl, rfl⟩ := hpe
        have KB := Lib.hid (HBY.out w11 p11 c11 (SlI.ofOwns hsl) hpn)
        have HG3 : Hid (Fr S0 w w11) := Lib.hid (HF4.out.trans G3.out.fr (fun k hk e => by omega))
        clear hsl hpn
        go_wp2_with fail
        refine KB.out.mono ?_
        rintro e w6 ⟨v, rfl, f6, hv⟩
        have K3 := Lib.hid hv
        have K4 := Lib.hid f6
        clear f6 hv KB
        go_wp2_with fail
        go_ret
        exact ⟨v, rfl, HG3.out.trans0 K4.out, K3.out.own, fun j hj => Nat.le_trans HG3.out.size (K3.out.fresh j hj)⟩
end Go.Proofs.YtnndgpggjlhhpaaGreat
namespace Go.Proofs.YtnndgpggjlhhpaaGreat
open Go.RowKit
theorem own_row5 (w : World) (x y z a b : Value) (t : TypeId) : (w.alloc (.cells #[x, y, z, a, b] t)).ownsRow 0 t 1 (.slice (some ⟨w.heap.size, 0, none⟩) 5 5) 5 [x, y, z, a, b] :=
  ⟨rfl, .inr ⟨w.heap.size, 5, #[x, y, z, a, b], rfl, Nat.zero_le _, heap_alloc_new w _, Nat.le_refl _, by decide, rfl, rfl⟩⟩
structure RowG (w wr : World) (v : Value) (n : Nat) (L : List Nat) : Prop where
  own : wr.ownsRow 0 5 1 v n (u8s L)
  fr : Fr S0 w wr
  fresh : Fresh w v
theorem RowG.fr0 {w wr w' : World} {v : Value} {n : Nat} {L : List Nat} (h : RowG w wr v n L) (f : Fr S0 wr w') : RowG w w' v n L := ⟨f.owns h.own (fun _ _ h => h), h.fr.trans0 f, h.fresh⟩
theorem RowG.app {w wr w' : World} {v : Value} {n N : Nat} {L M : List Nat} {p : Option Addr} {c : Nat} (h : RowG w wr v n L) (own : w'.ownsRow 0 5 1 (.slice p N c) N (u8s L ++ u8s M)) (g : wr.grownBy w' v.ownBlock) (wh : Value.ownBlock (.slice p N c) = v.ownBlock ∨ Value.ownBlock (.slice p N c) = some wr.heap.size) : RowG w w' (.slice p N c) N (L ++ M) := by
  refine ⟨by rw [← u8s_append]; exact own, h.fr.append g h.fresh, fun k hk => ?_⟩
  rcases wh with q | q
  · exact h.fresh k (q ▸ hk)
  · rw [q] at hk; cases hk; exact h.fr.size
theorem SlI.add {w : World} {k : IntKind} {a : Addr} {l : List Nat} (h : SlI w k (some a) l) (n : Nat) : SlI w k (some (a.add n)) (l.drop n) := by
  by_cases hl : l = []
  · subst hl; rw [List.drop_nil]; exact SlI.nil _ _ _
  · obtain ⟨b, o, hp, -⟩ := h.2 hl
    obtain rfl := Option.some.inj hp
    have h2 := h.drop n
    unfold Addr.add
    split
    · rename_i h0; subst h0; simpa using h2
    · exact h2
theorem rstored_any (p : Option Addr) (d : Nat) (b : List Nat) (w : World) (hb : SlI w .u8 p b) (hp : p = none → d = 0) (hd : b.length ≤ d) (hL : b.length ≤ 1048576) :
    Calls Tryz.prog 94 #[.slice p b.length d] w fun e w' => ∃ v, e = .returned v ∧ Fr S0 w w' ∧ RowNew w w' v (sto b) := by
  have HB := Lib.hid hb
  have HP := Lib.hid hp
  have HSL := Lib.hid (sto_length b.length b (Nat.le_refl _))
  obtain ⟨m, hm⟩ : ∃ m, b.length = m := ⟨_, rfl⟩
  have HM := Lib.hid hm
  rw [hm] at hd hL ⊢
  clear hb hp hm
  go_enter Tryz.func94, Tryz.ntmps94
  go_wp2_with fail
  go_loopw [3, 4, 5, 6] (fun v i _ _ wr => ∃ (k N : Nat) (B : List Nat), k ≤ m ∧ i = .int .i64 k ∧ sto b = B ++ sto (b.drop k) ∧ B.length = N ∧ N ≤ 2 * k ∧ RowG w wr v N B) (fun _ i _ _ _ => m - (intOf i).toNat)
  case atStart => exact ⟨0, 0, [], by omega, rfl, rfl, rfl, by omega, ⟨World.ownsRow_nil _ _ _ _, Fr.refl _ _, fresh_nil _ _⟩⟩
  case round =>
    obtain ⟨k, N, B, hk, rfl, hsto, hBN, hNk, hG⟩ := hrel
    have HSTO := Lib.hid hsto
    have HBN := Lib.hid hBN
    have G := Lib.hid hG
    obtain ⟨pv, cv, rfl, -, -, -⟩ := slForm hG.own
    have HDL : Hid ((b.drop k).length = m - k) := Lib.hid (by rw [List.length_drop, HM.out])
    clear hsto hBN hG
    by_cases hgt : 65535 < m - k
    · have q2 : ((k : Int) + 65535 == (m : Int)) = false := by rw [beq_eq_false_iff_ne]; omega
      have htl : ((b.drop k).take 65535).length = 65535 := by rw [List.length_take, HDL.out]; omega
      obtain ⟨N2, hN2⟩ : ∃ N2, N + 5 + 65535 = N2 := ⟨_, rfl⟩
      obtain ⟨k2, hk2⟩ : ∃ k2, k + 65535 = k2 := ⟨_, rfl⟩
      have HN2 : Hid (N + 5 + (k2 - k) = N2) := Lib.hid (by omega)
      have HK2 := Lib.hid hk2
      have hN2k : N2 ≤ 2 * k2 := by omega
      have hk2m : k2 ≤ m ∧ k < k2 := by omega
      have e2 : (k : Int) + 65535 = (k2 : Int) := by omega
      have q2' : ((k2 : Int) == (m : Int)) = false := by rw [← e2]; exact q2
      have HSE0 : sto b = B ++ [0, 255, 255, 0, 0] ++ (b.drop k).take 65535 ++ sto (b.drop k2) := by
        rw [HSTO.out, sto_more (by rw [HDL.out]; omega), blk, htl, List.drop_drop, hk2]
        simp only [List.append_assoc]
      obtain ⟨T, hT⟩ : ∃ T, (b.drop k).take 65535 = T := ⟨_, rfl⟩
      rw [hT] at HSE0 htl
      have HSE := Lib.hid HSE0
      have HR : Hid (Room (N + 5) ∧ Room N2) := Lib.hid ⟨Room.mk (by omega), Room.mk (by omega)⟩
      have E5 : Hid (([.int .u8 0, .int .u8 255, .int .u8 255, .int .u8 0, .int .u8 0] : List Value) = u8s [0, 255, 255, 0, 0]) := Lib.hid rfl
      obtain ⟨a, rfl⟩ : ∃ a, p = some a := by
        cases p with
        | none => exact absurd (HP.out rfl) (by omega)
        | some a => exact ⟨a, rfl⟩
      have q3 : ¬ (d : Int) = (k : Int) := by omega
      have q4 : (k2 : Int) ≤ (d : Int) := by omega
      have HS : Hid (∀ w', Fr S0 w w' → SrcIs w' (.slice (some (a.add k)) (k2 - k) (d - k)) (k2 - k) (u8s T)) := Lib.hid fun w' f => by
        have := SrcIs.ofSl (c := d - k) (((HB.out.add k).take 65535).fr0 f) (fun h => by cases h)
        rw [hT, htl, show 65535 = k2 - k by omega] at this
        exact this
      have HEND : Hid ((B ++ [0, 255, 255, 0, 0] ++ T).length = N2) := Lib.hid (by rw [List.length_append, List.length_append, HBN.out, htl, ← hN2]; rfl)
      clear htl hT HSE0 hk2 hN2
      go_wp2_with (first
        | ((with_reducible show wpList _ _ _ (Oper.mk (some 35) _ _ _ _ _ :: _) _ _); refine app_many el8 (.tmp 18) (.tmp 34) (G.out.fr0 (Fr.alloc S0 wr _)).own (SrcIs.ofOwns (own_row5 wr _ _ _ _ _ _)) rfl rfl rfl rfl rfl (by rw [E5.out]; exact ones _) HR.out.1 ?_; intro p7 c7 w7 own7 g7 at7; rw [E5.out] at own7; have G5 := Lib.hid ((G.out.fr0 (Fr.alloc S0 wr _)).app own7 g7 at7); clear own7 g7 at7; have S5 := Lib.hid (HS.out w7 G5.out.fr))
        | ((with_reducible show wpList _ _ _ (Oper.mk (some 43) _ _ _ _ _ :: _) _ _); refine app_many el8 (.tmp 36) (.tmp 42) G5.out.own S5.out HN2.out rfl rfl rfl rfl (ones _) HR.out.2 ?_; intro p8 c8 w8 own8 g8 at8; have G6 := Lib.hid (G5.out.app own8 g8 at8); clear own8 g8 at8)
        | fail)
      go_roundw
      case rel => exact ⟨k2, N2, _, by omega, by go_num, HSE.out, HEND.out, by omega, G6.out⟩
      case measure => simp [intOf]; omega
    · obtain ⟨n, hn⟩ : ∃ n, m - k = n := ⟨_, rfl⟩
      have e1 : (m : Int) - (k : Int) = (n : Int) := by omega
      have q1 : (k : Int) + (n : Int) = (m : Int) := by omega
      have q2 : ((m : Int) == (m : Int)) = true := by rw [beq_iff_eq]
      have hn65 : n ≤ 65535 := by omega
      have HSE : Hid (sto b = B ++ [1, n % 256, n / 256, 255 - n % 256, 255 - n / 256] ++ b.drop k) := Lib.hid (by
        rw [HSTO.out, sto_last (by rw [HDL.out]; omega), blk, HDL.out, hn, List.append_assoc])
      have HR : Hid (Room (N + 5) ∧ Room (N + 5 + n)) := Lib.hid ⟨Room.mk (by omega), Room.mk (by omega)⟩
      have E5 : Hid (([.int .u8 1, .int .u8 ((n : Int) % 256), .int .u8 ((n : Int) / 256), .int .u8 (255 - (n : Int) % 256), .int .u8 (255 - (n : Int) / 256)] : List Value) = u8s [1, n % 256, n / 256, 255 - n % 256, 255 - n / 256]) := Lib.hid (by
        simp only [u8s, List.map_cons, List.map_nil]
        rw [show ((255 - n % 256 : Nat) : Int) = 255 - (n : Int) % 256 by omega, show ((255 - n / 256 : Nat) : Int) = 255 - (n : Int) / 256 by omega]
        simp)
      have HSRC : Hid (SlI w .u8 p b) := HB
      have HNN := Lib.hid hn
      by_cases hdk : d = k
      · have hn0 : n = 0 := by omega
        have HS : Hid (∀ w', SrcIs w' (.slice p n 0) n (u8s (b.drop k))) := Lib.hid fun w' => by
          have h0 : b.drop k = [] := List.eq_nil_of_length_eq_zero (by rw [HDL.out]; omega)
          rw [h0, hn0]
          exact SrcIs.ofSl (c := 0) (SlI.nil w' .u8 p) (fun _ => rfl)
        have HEND : Hid ((sto b).length = N + 5 + n) := Lib.hid (by rw [HSE.out, List.length_append, List.length_append, HBN.out, HDL.out]; simp; omega)
        clear hn0
        go_wp2_with (first
          | ((with_reducible show wpList _ _ _ (Oper.mk (some 35) _ _ _ _ _ :: _) _ _); refine app_many el8 (.tmp 18) (.tmp 34) (G.out.fr0 (Fr.alloc S0 wr _)).own (SrcIs.ofOwns (own_row5 wr _ _ _ _ _ _)) rfl rfl rfl rfl rfl (by rw [E5.out]; exact ones _) HR.out.1 ?_; intro p7 c7 w7 own7 g7 at7; rw [E5.out] at own7; have G5 := Lib.hid ((G.out.fr0 (Fr.alloc S0 wr _)).app own7 g7 at7); clear own7 g7 at7; have S5 := Lib.hid (HS.out w7))
          | ((with_reducible show wpList _ _ _ (Oper.mk (some 43) _ _ _ _ _ :: _) _ _); refine app_many el8 (.tmp 36) (.tmp 42) G5.out.own S5.out rfl rfl rfl rfl rfl (ones _) HR.out.2 ?_; intro p8 c8 w8 own8 g8 at8; have G6 := Lib.hid (G5.out.app own8 g8 at8); clear own8 g8 at8)
          | fail)
        rw [← HSE.out] at G6
        go_ret
        exact ⟨_, rfl, G6.out.fr, by rw [HEND.out]; exact G6.out.own, G6.out.fresh⟩
      · obtain ⟨a, rfl⟩ : ∃ a, p = some a := by
          cases p with
          | none => exact absurd (HP.out rfl) (by omega)
          | some a => exact ⟨a, rfl⟩
        have q3 : ¬ (d : Int) = (k : Int) := by omega
        have q4 : (m : Int) ≤ (d : Int) := by omega
        have q5 : (k : Int) ≤ (m : Int) := by omega
        have HS : Hid (∀ w', Fr S0 w w' → SrcIs w' (.slice (some (a.add k)) n (d - k)) n (u8s (b.drop k))) := Lib.hid fun w' f => by
          have := SrcIs.ofSl (c := d - k) ((HB.out.add k).fr0 f) (fun h => by cases h)
          rw [HDL.out, hn] at this
          exact this
        have HEND : Hid ((sto b).length = N + 5 + n) := Lib.hid (by rw [HSE.out, List.length_append, List.length_append, HBN.out, HDL.out]; simp; omega)
        go_wp2_with (first
          | ((with_reducible show wpList _ _ _ (Oper.mk (some 35) _ _ _ _ _ :: _) _ _); refine app_many el8 (.tmp 18) (.tmp 34) (G.out.fr0 (Fr.alloc S0 wr _)).own (SrcIs.ofOwns (own_row5 wr _ _ _ _ _ _)) rfl rfl rfl rfl rfl (by rw [E5.out]; exact ones _) HR.out.1 ?_; intro p7 c7 w7 own7 g7 at7; rw [E5.out] at own7; have G5 := Lib.hid ((G.out.fr0 (Fr.alloc S0 wr _)).app own7 g7 at7); clear own7 g7 at7; have S5 := Lib.hid (HS.out w7 G5.out.fr))
          | ((with_reducible show wpList _ _ _ (Oper.mk (some 43) _ _ _ _ _ :: _) _ _); refine app_many el8 (.tmp 36) (.tmp 42) G5.out.own S5.out rfl rfl rfl rfl rfl (ones _) HR.out.2 ?_; intro p8 c8 w8 own8 g8 at8; have G6 := Lib.hid (G5.out.app own8 g8 at8); clear own8 g8 at8)
          | fail)
        rw [← HSE.out] at G6
        go_ret
        exact ⟨_, rfl, G6.out.fr, by rw [HEND.out]; exact G6.out.own, G6.out.fresh⟩
theorem rbest_any (p : Option Addr) (d : Nat) (b : List Nat) (w : World) (hb : SlI w .u8 p b) (h8 : ∀ x ∈ b, x < 256) (hp : p = none → d = 0) (hd : b.length ≤ d) (hL : b.length ≤ 1048576) :
    Calls Tryz.prog 57 #[.slice p b.length d] w fun e w' => ∃ v, e = .returned v ∧ Fr S0 w w' ∧ RowNew w w' v (zbst b) := by
  have HS := Lib.hid (fun w' (f : Fr S0 w w') => rstored_any p d b w' (hb.fr0 f) hp hd hL)
  have HF := Lib.hid (rfixed_text p d b w hb h8 hL)
  have h1 := fxd_length b h8
  have h2 := sto_length b.length b (Nat.le_refl _)
  obtain ⟨m, hm⟩ : ∃ m, b.length = m := ⟨_, rfl⟩
  rw [hm] at HS HF h1 h2 hL ⊢
  have HB : Hid (zbst b = if (sto b).length < (fxd b).length then sto b else fxd b) := Lib.hid rfl
  obtain ⟨l1, hl1⟩ : ∃ l, sto b = l := ⟨_, rfl⟩
  obtain ⟨l2, hl2⟩ : ∃ l, fxd b = l := ⟨_, rfl⟩
  rw [hl1] at HS HB h2
  rw [hl2] at HF HB h1
  obtain ⟨n1, hn1⟩ : ∃ n, l1.length = n := ⟨_, rfl⟩
  obtain ⟨n2, hn2⟩ : ∃ n, l2.length = n := ⟨_, rfl⟩
  have HN1 := Lib.hid hn1
  have HN2 := Lib.hid hn2
  rw [hn1] at h2
  rw [hn2] at h1
  rw [hn1, hn2] at HB
  clear hb h8 hp hd hm hl1 hl2 hn1 hn2
  go_enter Tryz.func57, Tryz.ntmps57
  go_wp2_with fail
  refine HF.out.mono ?_
  rintro e w1 ⟨v1, rfl, f1, hv1⟩
  obtain ⟨p1, c1, rfl, -, -, -⟩ := slForm hv1.own
  have HV1 := Lib.hid hv1
  have HF1 := Lib.hid f1
  have K := Lib.hid (HS.out w1 f1)
  rw [HN2.out]
  clear hv1 f1 HS HF
  go_wp2_with fail
  refine K.out.mono ?_
  rintro e w2 ⟨v2, rfl, f2, hv2⟩
  obtain ⟨p2, c2, rfl, -, -, -⟩ := slForm hv2.own
  have HV2 := Lib.hid hv2
  have HF2 := Lib.hid f2
  rw [HN1.out]
  clear hv2 f2 K
  by_cases hlt : n1 < n2
  · have hlt' : (n1 : Int) < (n2 : Int) := by omega
    have HE : Hid (zbst b = l1) := Lib.hid (by rw [HB.out, if_pos hlt])
    go_wp2_with fail
    go_ret
    refine ⟨.slice p2 n1 c2, rfl, HF1.out.trans0 HF2.out, ?_, ?_⟩
    · rw [HE.out, ← HN1.out]; exact HV2.out.own
    · rw [← HN1.out]; exact fun j hj => Nat.le_trans HF1.out.size (HV2.out.fresh j hj)
  · have hlt' : ¬ (n1 : Int) < (n2 : Int) := by omega
    have HE : Hid (zbst b = l2) := Lib.hid (by rw [HB.out, if_neg hlt])
    go_wp2_with fail
    go_ret
    refine ⟨.slice p1 n2 c1, rfl, HF1.out.trans0 HF2.out, ?_, ?_⟩
    · rw [HE.out, ← HN2.out]; exact HF2.out.owns HV1.out.own (fun _ _ h => h)
    · rw [← HN2.out]; exact HV1.out.fresh
end Go.Proofs.YtnndgpggjlhhpaaGreat
