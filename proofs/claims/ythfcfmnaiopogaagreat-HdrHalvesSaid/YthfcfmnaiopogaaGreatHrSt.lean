/- The landed histograms: steps, as many as it takes. -/
import Derived.Test.YthfcfmnaiopogaaGreatHrEnd
import Derived.Test.YthfcfmnaiopogaaGreatHrAsk
import Derived.Test.YthfcfmnaiopogaaGreatHrSteps
namespace Go.Proofs.YthfcfmnaiopogaaGreat
open Go.RowKit Go.ChangeMaps

theorem info_step : (Tryz.prog.info? 135).map (fun i => (i.zero, i.size, i.bytes)) = some (some (.agg #[.int .i64 0, .int .u64 0, .int .u64 0]), 3, 24) := by kernel_rfl
theorem elStep : ElemOk Tryz.prog 85 135 (.agg #[.int .i64 0, .int .u64 0, .int .u64 0]) 3 24 := ⟨Tryz.underlying85, info_step, rfl, by decide, by decide⟩
def sts (l : List StT) : List Value := l.flatMap fun t => [.int .i64 t.1, .int .u64 (t.2.1 : Int), .int .u64 (t.2.2 : Int)]
theorem sts_snoc (l : List StT) (t : StT) : sts (l ++ [t]) = sts l ++ [.int .i64 t.1, .int .u64 (t.2.1 : Int), .int .u64 (t.2.2 : Int)] := by simp [sts]
theorem sts_len (l : List StT) : (sts l).length = l.length * 3 := by
  induction l with
  | nil => rfl
  | cons t l ih => rw [show sts (t :: l) = [.int .i64 t.1, .int .u64 (t.2.1 : Int), .int .u64 (t.2.2 : Int)] ++ sts l from rfl, List.length_append, ih, List.length_cons]; simp; omega
theorem sts_at : ∀ (l : List StT) (i : Nat) (h : i < l.length), (sts l)[i * 3]? = some (.int .i64 l[i].1) ∧ (sts l)[i * 3 + 1]? = some (.int .u64 (l[i].2.1 : Int)) ∧ (sts l)[i * 3 + 2]? = some (.int .u64 (l[i].2.2 : Int))
  | t :: l, 0, _ => by simp [sts]
  | t :: l, i + 1, h => by
    have := sts_at l i (by simpa using h)
    rw [show sts (t :: l) = [.int .i64 t.1, .int .u64 (t.2.1 : Int), .int .u64 (t.2.2 : Int)] ++ sts l from rfl]
    rw [List.getElem?_append_right (by simp; omega), List.getElem?_append_right (by simp; omega), List.getElem?_append_right (by simp; omega)]
    simp only [List.length_cons, List.length_nil, List.getElem_cons_succ]
    rw [show (i + 1) * 3 - (0 + 1 + 1 + 1) = i * 3 by omega, show (i + 1) * 3 + 1 - (0 + 1 + 1 + 1) = i * 3 + 1 by omega, show (i + 1) * 3 + 2 - (0 + 1 + 1 + 1) = i * 3 + 2 by omega]
    exact this
theorem one_st (x : Int) (y z : Nat) : ∀ u ∈ (#[Value.int .i64 x, Value.int .u64 (y : Int), Value.int .u64 (z : Int)]).toList, u.oneCell' = true := by
  intro u hu
  simp only [List.mem_cons, List.not_mem_nil, or_false] at hu
  rcases hu with rfl | rfl | rfl <;> rfl
theorem StI.ofOwns {w : World} {q : Option Addr} {n d : Nat} {l : List StT} (h : w.ownsRow 0 135 3 (.slice q n d) n (sts l)) : StI w q l := by
  have hlen : l.length * 3 = n * 3 := by have h1 := h.1; rw [sts_len] at h1; exact h1
  intro i hi
  rcases h.2 with ⟨hv, hn⟩ | ⟨g, cap, cur, hv, _⟩
  · omega
  · simp only [Value.slice.injEq] at hv
    obtain ⟨rfl, -, rfl⟩ := hv
    obtain ⟨h1, h2, h3⟩ := sts_at l i hi
    refine ⟨g, 0, rfl, ?_⟩
    rw [Nat.zero_add]
    exact ⟨(h.cellAt _ (by omega)).trans h1, (h.cellAt _ (by omega)).trans h2, (h.cellAt _ (by omega)).trans h3⟩
/-- a row of steps that is being made; the blocks of T may have turned -/
structure AccS (T : Nat → Prop) (w wr : World) (v : Value) (N : Nat) (L : List StT) : Prop where
  own : wr.ownsRow 0 135 3 v N (sts L)
  fresh : Fresh w v
  fr : Fr T w wr
section
variable {T : Nat → Prop} {w wr w2 w3 : World} {v : Value} {N : Nat} {L : List StT}
theorem AccS.len (h : AccS T w wr v N L) : L.length = N := by
  have := h.own.1
  rw [sts_len] at this
  omega
theorem AccS.on (h : AccS T w wr v N L) (f : Fr T wr w2) (hT : ∀ b, T b → b < w.heap.size) : AccS T w w2 v N L :=
  ⟨f.owns h.own fun k hk e => by have h1 := hT k e; have h2 := h.fresh k hk; omega, h.fresh, h.fr.trans f fun _ _ e => e⟩
end
def lenV : Value → Nat
  | .slice _ n _ => n
  | _ => 0
/-- what is counted up tv the i-th value -/
def cumU (M : Hm) (tv : Nat → Int) : Nat → Nat
  | 0 => 0
  | i + 1 => upt M.l (M.cell (tv i))
def stL (M : Hm) (tv : Nat → Int) (n : Nat) : List StT := (List.range n).map fun i => (tv i, cumU M tv (i + 1) - cumU M tv i, cumU M tv (i + 1))
theorem stL_succ (M : Hm) (tv : Nat → Int) (n : Nat) : stL M tv (n + 1) = stL M tv n ++ [(tv n, cumU M tv (n + 1) - cumU M tv n, cumU M tv (n + 1))] := by
  unfold stL
  rw [List.range_succ, List.map_append]
  rfl
section
variable (g h gt B J : Nat) (M : Hm) (w : World) (T : Nat → Prop) (cs : Array Value) (tv : Nat → Int) (I : Nat → World → Prop)
set_option maxRecDepth 100000 in
set_option maxHeartbeats 1000000 in
theorem xsteps_any (hX : ∀ W, Fr T w W → HistIs W g h M) (hTb : ∀ W, Fr T w W → TabIs W gt M.l) (hT : ∀ b, T b → b < w.heap.size) (hI : I 0 w) (hst : ∀ j W W', I j W → Fr (fun b => w.heap.size ≤ b) W W' → I j W') (hB : Has B)
    (hcl : ∀ j W, j < J → I j W → Fr T w W → Calls Tryz.prog B cs W fun e w' => e = .returned (.int .i64 (tv j)) ∧ I (j + 1) w' ∧ Fr T W w')
    (hto : ∀ j, j < J → 0 ≤ tv j ∧ tv j < 9223372036854775808) (hJ : J ≤ 100000) (hmono : ∀ j, j < J → cumU M tv j ≤ cumU M tv (j + 1)) (hend : cumU M tv J = ltot M.l) :
    Calls Tryz.prog 89 #[.pointer (some ⟨g, 0, none⟩), .pointer (some ⟨gt, 0, none⟩), .func (.func B) #[] cs] w fun e w' => ∃ n p c, e = .returned (.slice p n c) ∧ n ≤ J ∧ StI w' p (stL M tv n) ∧ (∀ i, i < n → cumU M tv i < ltot M.l) ∧ cumU M tv n = ltot M.l ∧ Fr T w w' := by
  have HX := Lib.hid hX
  have HTB := Lib.hid hTb
  have HT := Lib.hid hT
  have HST := Lib.hid hst
  have HCL := Lib.hid hcl
  have HTO := Lib.hid hto
  have HMO := Lib.hid hmono
  have HEND := Lib.hid hend
  have HCU : Hid (∀ j, cumU M tv j ≤ ltot M.l) := Lib.hid fun j => by cases j with | zero => exact Nat.zero_le _ | succ j => exact upt_le _ _
  have HII := Lib.hid hI
  have HTOT := Lib.hid (hX w (Fr.refl _ _)).good.tot
  have hcf := fun W => hB cs W
  have HR : Hid (∀ k, k ≤ 100000 → Room (k + 1)) := Lib.hid fun k hk => Room.mk (by omega)
  clear hX hTb hT hI hst hB hcl hto hmono hend
  go_enter Tryz.func89, Tryz.ntmps89
  go_wp2_with fail
  go_loopw [7, 8] (fun a b wr => ∃ j : Nat, b = .int .u64 (cumU M tv j : Nat) ∧ j ≤ J ∧ lenV a = j ∧ Hid (AccS T w wr a j (stL M tv j) ∧ I j wr ∧ ∀ i, i < j → cumU M tv i < ltot M.l)) (fun a _ _ => J - lenV a)
  case atStart => exact ⟨0, rfl, Nat.zero_le _, rfl, Lib.hid ⟨⟨World.ownsRow_nil _ _ _ _, fresh_nil _ _, Fr.refl _ _⟩, HII.out, fun i hi => absurd hi (Nat.not_lt_zero i)⟩⟩
  case round =>
    obtain ⟨j, rfl, hj, hlen, HK⟩ := hrel
    have hx := HX.out wr HK.out.1.fr
    have c8 := hx.c8
    obtain ⟨TT, eTT⟩ : ∃ T, ltot M.l = T := ⟨_, rfl⟩
    have HTT := Lib.hid eTT
    rw [eTT] at c8
    obtain ⟨X, eX⟩ : ∃ X, cumU M tv j = X := ⟨_, rfl⟩
    have HXX := Lib.hid eX
    rw [eX]
    have hXT : X ≤ TT := by rw [← eX, ← eTT]; exact HCU.out j
    have hTT : TT ≤ 4611686018427387904 := by rw [← eTT]; exact HTOT.out
    clear hx eTT eX
    by_cases hlt : X < TT
    · have hjJ : j < J := by
        rcases Nat.lt_or_ge j J with h1 | h1
        · exact h1
        · exfalso
          obtain rfl : j = J := by omega
          have := HEND.out
          rw [HXX.out, HTT.out] at this
          omega
      have HC := Lib.hid (HCL.out j wr hjJ HK.out.2.1 HK.out.1.fr)
      have hto := HTO.out j hjJ
      have HLE := Lib.hid (HMO.out j hjJ)
      obtain ⟨V, eV⟩ : ∃ V : Nat, tv j = V := ⟨(tv j).toNat, by omega⟩
      have HV := Lib.hid eV
      rw [eV] at HC hto
      obtain ⟨U, eU⟩ : ∃ U, cumU M tv (j + 1) = U := ⟨_, rfl⟩
      have HU := Lib.hid eU
      have hXU : X ≤ U := by rw [← eU, ← HXX.out]; exact HLE.out
      have hU : U ≤ 4611686018427387904 := by rw [← eU]; exact Nat.le_trans (HCU.out _) HTOT.out
      have HUP : Hid (upt M.l (idx M.u M.m V : Nat) = U) := Lib.hid (by rw [← eU, cumU, eV]; unfold Hm.cell; rw [show ((V : Nat) : Int).toNat = V by omega])
      have hV2 : V < 9223372036854775808 := by omega
      clear eU eV HLE hto
      go_wp2_with fail
      refine HC.out.mono ?_
      rintro e w1 ⟨rfl, i1, f1⟩
      have H1 := Lib.hid (And.intro i1 f1)
      clear i1 f1 HC c8
      go_wp2_with fail
      obtain ⟨W2, hW2⟩ : ∃ W, w1.alloc (.cells #[.int .i64 (V : Nat), .int .u64 0, .int .u64 0] 135) = W := ⟨_, rfl⟩
      rw [hW2]
      have f2 : Fr S0 w1 W2 := hW2 ▸ Fr.alloc _ _ _
      have hrow : W2.heap[w1.heap.size]? = some (.cells #[.int .i64 (V : Nat), .int .u64 0, .int .u64 0] 135 (0, 0)) := hW2 ▸ heap_alloc_new _ _
      have hbs : w.heap.size ≤ w1.heap.size := Nat.le_trans HK.out.1.fr.size H1.out.2.size
      obtain ⟨bb, hbb⟩ : ∃ b, w1.heap.size = b := ⟨_, rfl⟩
      have HBB := Lib.hid hbb
      rw [hbb] at hrow hbs
      rw [hbb]
      have b0 : W2.cell? ⟨bb, 0, none⟩ = some (.int .i64 (V : Nat)) := by simp [World.cell?, hrow]
      have HR2 : Hid (Fr T w W2) := Lib.hid ((HK.out.1.fr.trans H1.out.2 fun _ _ h => h).trans f2 fun _ _ h => h.elim)
      have HF12 := Lib.hid f2
      have HROW := Lib.hid hrow
      have HIX := Lib.hid (xindex_any g h M W2 (HX.out W2 HR2.out) (V : Nat) (by omega))
      rw [show ((V : Nat) : Int).toNat = V by omega] at HIX
      obtain ⟨K, eK⟩ : ∃ K, idx M.u M.m V = K := ⟨_, rfl⟩
      rw [eK] at HIX HUP
      have HUT := Lib.hid (fun W3 (f : Fr S0 W2 W3) => upto_any gt (K : Nat) M.l W3 (HTB.out W3 (HR2.out.trans f fun _ _ h => h.elim)))
      rw [HUP.out] at HUT
      clear f2 hrow hbs hbb hW2 eK
      refine HIX.out.mono ?_
      rintro e w3 ⟨rfl, f3⟩
      have F3 := Lib.hid f3
      clear f3 HIX b0
      go_wp2_with fail
      refine (HUT.out _ F3.out).mono ?_
      rintro e w4 ⟨rfl, f4⟩
      have F4 := Lib.hid (F3.out.trans0 f4)
      have row4 := F4.out.row HROW.out fun h => h
      clear f4 HUT F3
      obtain ⟨C, eC⟩ : ∃ C, U - X = C := ⟨_, rfl⟩
      have e1 : (U : Int) - (X : Int) = (C : Int) := by omega
      have HC := Lib.hid eC
      have hC : C ≤ 4611686018427387904 := by omega
      clear eC
      have z2 : w4.frozen? ⟨bb, 2, none⟩ = false := by simp [World.frozen?, row4]
      have c2 : w4.cell? ⟨bb, 2, none⟩ = some (.int .u64 0) := by simp [World.cell?, row4]
      have row5 := heap_setCell_same w4 bb 2 _ _ (.int .u64 (U : Nat)) row4
      have d2 : (w4.setCell ⟨bb, 2, none⟩ (.int .u64 (U : Nat))).cell? ⟨bb, 2, none⟩ = some (.int .u64 (U : Nat)) := by simp [World.cell?, row5]
      have d1 : (w4.setCell ⟨bb, 2, none⟩ (.int .u64 (U : Nat))).cell? ⟨bb, 1, none⟩ = some (.int .u64 0) := by simp [World.cell?, row5]
      have z1 : (w4.setCell ⟨bb, 2, none⟩ (.int .u64 (U : Nat))).frozen? ⟨bb, 1, none⟩ = false := by simp [World.frozen?, row5]
      have row6 := heap_setCell_same _ bb 1 _ _ (.int .u64 (C : Nat)) row5
      have k0 : ((w4.setCell ⟨bb, 2, none⟩ (.int .u64 (U : Nat))).setCell ⟨bb, 1, none⟩ (.int .u64 (C : Nat))).cell? ⟨bb, 0, none⟩ = some (.int .i64 (V : Nat)) := by simp [World.cell?, row6]
      have k1 : ((w4.setCell ⟨bb, 2, none⟩ (.int .u64 (U : Nat))).setCell ⟨bb, 1, none⟩ (.int .u64 (C : Nat))).cell? ⟨bb, 1, none⟩ = some (.int .u64 (C : Nat)) := by simp [World.cell?, row6]
      have k2 : ((w4.setCell ⟨bb, 2, none⟩ (.int .u64 (U : Nat))).setCell ⟨bb, 1, none⟩ (.int .u64 (C : Nat))).cell? ⟨bb, 2, none⟩ = some (.int .u64 (U : Nat)) := by simp [World.cell?, row6]
      obtain ⟨W6, hW6⟩ : ∃ W, (w4.setCell ⟨bb, 2, none⟩ (.int .u64 (U : Nat))).setCell ⟨bb, 1, none⟩ (.int .u64 (C : Nat)) = W := ⟨_, rfl⟩
      have HF6 : Hid (Fr S0 w1 W6) := Lib.hid (by
        rw [← hW6]
        refine ((HF12.out.trans0 F4.out).mono (T := fun b => b = bb) (fun _ _ h => h.elim)).trans (fr_cell _) (fun _ _ h => h) |>.trans (fr_cell _) (fun _ _ h => h) |>.mono fun b hb e => ?_
        have h1 := HBB.out
        have h2 : b = bb := e
        omega)
      have HA6 := Lib.hid (HK.out.1.on (H1.out.2.trans HF6.out fun _ _ h => h.elim) HT.out)
      have HRD := Lib.hid (HR.out j (by omega))
      rw [hW6] at k0 k1 k2
      clear row4 row5 row6 HF12 HROW
      go_wp2_with (first
        | ((with_reducible show wpList _ _ _ (Oper.mk (some 36) _ _ _ _ _ :: _) _ _); refine app_one elStep (.tmp 33) (.tmp 35) rfl HA6.out.own rfl rfl rfl rfl rfl (one_st V C U) HRD.out ?_; intro g1 cap1 w7 hown hgrow hat hlt7; have HOW := Lib.hid hown; have HGR := Lib.hid hgrow; have HAT := Lib.hid hat; clear hown hgrow hat hlt7)
        | (rw [hW6]))
      have HA7 : Hid (AccS T w w7 (.slice (some ⟨g1, 0, none⟩) (j + 1) cap1) (j + 1) (stL M tv (j + 1)) ∧ I (j + 1) w7 ∧ ∀ i, i < j + 1 → cumU M tv i < ltot M.l) := Lib.hid (by
        have hf7 := (HA6.out.fr.trans0 (Fr.alloc S0 W6 _)).append HGR.out HA6.out.fresh
        refine ⟨⟨?_, fun k hk => ?_, hf7⟩, ?_, fun i hi => ?_⟩
        · rw [stL_succ, sts_snoc, HV.out, HU.out, HXX.out, HC.out]
          exact HOW.out
        · obtain rfl := Option.some.inj hk
          rcases HAT.out with h1 | h1
          · exact HA6.out.fresh _ h1
          · have h2 := HA6.out.fr.size
            show w.heap.size ≤ g1
            omega
        · refine HST.out (j + 1) w1 w7 H1.out.1 ?_
          refine ((HF6.out.trans0 (Fr.alloc S0 W6 _)).mono (T := fun b => w.heap.size ≤ b) (fun _ _ h => h.elim)).trans (Fr.grown HGR.out) fun b _ hb => HA6.out.fresh b hb
        · rcases Nat.lt_or_ge i j with h1 | h1
          · exact HK.out.2.2 i h1
          · obtain rfl : i = j := by omega
            rw [HXX.out, HTT.out]
            exact hlt)
      go_roundw
      case rel => exact ⟨j + 1, by rw [HU.out], by omega, rfl, HA7⟩
      case measure =>
        show J - (j + 1) < J - lenV u7
        rw [hlen]
        omega
    · have hXe : X = TT := by omega
      subst hXe
      have hd : decide (X < X) = false := decide_eq_false hlt
      go_wp2_with fail
      go_ret
      obtain ⟨p, c, hv⟩ := slFormN HK.out.1.own
      rw [hv]
      refine ⟨j, p, c, rfl, hj, StI.ofOwns (hv ▸ HK.out.1.own), HK.out.2.2, by rw [HXX.out, HTT.out], HK.out.1.fr⟩
end
end Go.Proofs.YthfcfmnaiopogaaGreat
