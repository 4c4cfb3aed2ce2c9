/- The fixed block of a text; the shorter one. -/
import Derived.Test.YtfibhgohenkfbaaDefTok
import Derived.Test.YtfibhgohenkfbaaDefSto
import Derived.Test.YtfibhgohenkfbaaMatList
namespace Go.Proofs.Ytfibhgohenkfbaa
open Go.RowKit

theorem tkB_len (t : M.Tk) (h : TkOk t) : (tkB t).length ≤ 60 := by
  unfold tkB
  rw [fx_eq]
  rcases h with ⟨h1, h2⟩ | ⟨h1, h2, h3, h4⟩
  · rw [if_pos h1, code_length]
    have := fx_len t.1 (by omega)
    omega
  · rw [if_neg (by omega)]
    have l2 := lenS_le t.2.1
    have l4 := spnS_le t.2.2
    have l5 := fx_len (lenS t.2.1) (by omega)
    have l6 := fv_len (spnS t.2.2) (by omega)
    have l7 := baseN_le (lenS t.2.1) l2.1 l2.2
    have l8 := farN_le (spnS t.2.2) l4
    rw [List.length_append, numB, numB, List.length_append, List.length_append, code_length, code_length, grp_length, grp_length]
    omega
theorem tksB_len : ∀ (l : List M.Tk), (∀ t ∈ l, TkOk t) → (tksB l).length ≤ 60 * l.length
  | [], _ => by simp [tksB]
  | t :: r, h => by
    have h1 := tkB_len t (h t (by simp))
    have h2 := tksB_len r fun u hu => h u (by simp [hu])
    rw [show tksB (t :: r) = tkB t ++ tksB r from rfl, List.length_append, List.length_cons]
    omega
/-- a text's tokens can be written -/
theorem toks_ok (b : List Nat) (h8 : ∀ x ∈ b, x < 256) : ∀ (m k : Nat), b.length ≤ k + m → ∀ t ∈ M.toks b k, TkOk t
  | 0, k, h => by rw [M.toks_out b k (by omega)]; simp
  | m + 1, k, h => by
    by_cases hk : k < b.length
    · have hw := M.wid_pos b k hk
      rw [M.toks_in b k hk]
      intro t ht
      rcases List.mem_cons.1 ht with rfl | ht
      · rcases M.tok_is b k hk with ⟨e, -⟩ | ⟨s, d, e, h1, h2, h3, -, h4, -⟩
        · rw [e]; exact .inl ⟨rfl, by
            show b.getD k 0 < 256
            have : b.getD k 0 = b[k] := by simp [List.getD, hk]
            rw [this]
            exact h8 _ (List.getElem_mem hk)⟩
        · rw [e]; exact .inr ⟨h1, h2, h3, h4⟩
      · exact toks_ok b h8 m _ (by omega) t ht
    · rw [M.toks_out b k (by omega)]; simp
theorem fxB_len (b : List Nat) (h8 : ∀ x ∈ b, x < 256) : (fxB b).length ≤ 60 * b.length + 20 := by
  have h1 := tksB_len (M.toks b 0) (toks_ok b h8 b.length 0 (by omega))
  have h2 := M.toks_le b
  have h3 := fx_len 256 (by omega)
  unfold fxB
  rw [List.length_append, List.length_append, code_length, fx_eq]
  simp only [List.length_cons, List.length_nil]
  omega

set_option maxRecDepth 100000 in
set_option maxHeartbeats 2000000 in
theorem fixed_text (p : Option Addr) (d : Nat) (b : List Nat) (w : World) (hb : SlI w .u8 p b) (h8 : ∀ x ∈ b, x < 256) (hd : b.length ≤ d) (hL : b.length ≤ 1048576) :
    Calls Try.prog 9 #[.slice p b.length d] w fun e w' => ∃ v, e = .returned v ∧ Fr S0 w w' ∧ RowNew w w' v (fxd b) := by
  have HN := Lib.hid (newBlock_any w)
  have HB := Lib.hid hb
  have H8 := Lib.hid h8
  have HOK := Lib.hid (toks_ok b h8 b.length 0 (by omega))
  have HTL := Lib.hid (M.toks_le b)
  obtain ⟨m, hm⟩ : ∃ m, b.length = m := ⟨_, rfl⟩
  have HM := Lib.hid hm
  rw [hm] at hd hL ⊢
  clear hb h8 hm
  go_enter Try.func9, Try.ntmps9
  go_wp2_with fail
  refine HN.out.mono ?_
  rintro e w2 ⟨w1, A, B, gl, gs, rfl, h2, hs, f1⟩
  have HS := Lib.hid hs
  have HF1 := Lib.hid f1
  have H2 := Lib.hid h2
  have HF2 : Hid (Fr S0 w w2) := Lib.hid (h2.new f1 (Nat.le_refl _))
  have HFIND : Hid (Calls Try.prog 23 #[.slice p m d] w2 fun r w' => ∃ q n d, r = .returned (.slice q n d) ∧ n = (M.toks b 0).length ∧ w'.ownsRow 0 45 3 (.slice q n d) n (M.tkl (M.toks b 0)) ∧ Fr S0 w2 w' ∧ Fresh w2 (.slice q n d)) := Lib.hid (by
    have := M.find_any p d b w2 (HB.out.fr0 HF2.out) (by rw [HM.out]; exact hd) H8.out (by rw [HM.out]; exact hL)
    rw [HM.out] at this
    exact this)
  clear h2 hs f1 HN
  go_wp2_with fail
  refine HFIND.out.mono ?_
  rintro e w3 ⟨q, n, c, rfl, hn, own, f3, hv⟩
  obtain ⟨r, i1, i2, i3⟩ := H2.out.fr0 f3
  have HNN := Lib.hid hn
  have HOWN := Lib.hid own
  have HSO := Lib.hid (HS.out.on i1 i2 i3)
  have H3 : Hid (WrTo (Xb gl gs) w3 w3 w.heap.size r [1, 1, 0]) := Lib.hid i1.self
  have HR : Hid (∀ w' M, WrTo (Xb gl gs) w3 w' w.heap.size r M → Fr S0 w w') := Lib.hid fun w' M h' => (WrTo.step i2 i3 h').new HF1.out (Nat.le_refl _)
  have HQ : Hid (∀ k, Value.ownBlock (.slice q n c) = some k → ¬ WrB w.heap.size r k) := Lib.hid fun k hk e => by
    have a := hv k hk
    obtain ⟨r', j1, j2, j3⟩ := H2.out
    have := j1.lt
    have rr : r' = r := by
      have e1 := j1.fr0 f3
      obtain ⟨p1, c1, hb1, -, ho1⟩ := e1.ex
      obtain ⟨p2, c2, hb2, -, ho2⟩ := i1.ex
      rw [hb1] at hb2
      simp only [Option.some.injEq, Obj.cells.injEq, Wx.cs, Array.mk.injEq, List.cons.injEq, Value.slice.injEq, true_and, and_true] at hb2
      rw [← ho1, ← ho2, hb2.1, hb2.2]
    rcases e with e | e
    · omega
    · have := j1.rlt k (rr.trans e)
      omega
  have hnm : n ≤ m := by rw [hn, ← HM.out]; exact HTL.out
  clear hn own f3 hv HFIND H2 i1 i2 i3
  go_wp2_with fail
  have HTK : Hid (∀ w' L, WrTo (Xb gl gs) w3 w' w.heap.size r L → M.TkI w' q (M.toks b 0)) := Lib.hid fun w' L h' => by
    obtain ⟨r', -, f', -⟩ := h'
    refine (M.TkI.ofOwns HOWN.out).fr f' fun hne a ha e => ?_
    obtain ⟨gq, hq, -⟩ := (M.TkI.ofOwns HOWN.out) hne
    rw [hq] at ha
    cases ha
    exact HQ.out gq (by rw [hq]; rfl) e
  go_loopw [10] (fun i wr => ∃ j : Nat, j ≤ n ∧ i = .int .i64 j ∧ WrTo (Xb gl gs) w3 wr w.heap.size r ([1, 1, 0] ++ tksB ((M.toks b 0).take j))) (fun i _ => n - (intOf i).toNat)
  case atStart => exact ⟨0, by omega, rfl, H3.out⟩
  case round =>
    obtain ⟨j, hj, rfl, hto⟩ := hrel
    have HTO := Lib.hid hto
    clear hto
    by_cases hjn : (j : Int) < (n : Int)
    · have hjl : j < (M.toks b 0).length := by rw [← HNN.out]; omega
      obtain ⟨gq, rfl, c0, c1, c2⟩ := (HTK.out wr _ HTO.out).at j hjl
      have HTJ : Hid ((M.toks b 0).take (j + 1) = (M.toks b 0).take j ++ [(M.toks b 0)[j]]) := Lib.hid (List.take_succ_eq_append_getElem hjl)
      have HOKJ := Lib.hid (HOK.out _ (List.getElem_mem hjl))
      have HLJ : Hid (([1, 1, 0] ++ tksB ((M.toks b 0).take j)).length ≤ 100000000) := Lib.hid (by
        have := tksB_len ((M.toks b 0).take j) fun t ht => HOK.out t (List.mem_of_mem_take ht)
        rw [List.length_take] at this
        rw [List.length_append]
        simp only [List.length_cons, List.length_nil]
        omega)
      obtain ⟨⟨tx, tl, td⟩, ht⟩ : ∃ t, (M.toks b 0)[j] = t := ⟨_, rfl⟩
      rw [ht] at c0 c1 c2 HTJ HOKJ
      dsimp only at c0 c1 c2
      clear ht hjl
      go_wp2_with fail
      have HC := Lib.hid (token_to (tx, tl, td) _ (HTO.out.fr0 (Fr.alloc S0 wr (.cells #[.int .u8 (tx : Nat), .int .i64 (tl : Nat), .int .i64 (td : Nat)] 45))) HSO.out HOKJ.out (by have := HLJ.out; omega))
      clear c0 c1 c2
      refine HC.out.mono ?_
      rintro e w4 ⟨rfl, h4⟩
      rw [List.append_assoc, ← tksB_one, ← tksB_append, ← HTJ.out] at h4
      have K := Lib.hid h4
      clear h4 HC
      go_wp2_with fail
      go_roundw
      case rel => exact ⟨j + 1, by omega, by go_num, K.out⟩
      case measure => simp [intOf]; omega
    · have hTT : (M.toks b 0).take j = M.toks b 0 := List.take_of_length_le (by rw [← HNN.out]; omega)
      rw [hTT] at HTO
      have HE : Hid ([1, 1, 0] ++ tksB (M.toks b 0) ++ code (cod fixLs' 256) (len fixLs' 256) = fxB b) := Lib.hid rfl
      have hlb : (fxB b).length ≤ 100000000 := by have := fxB_len b H8.out; rw [HM.out] at this; omega
      have hlb2 : ([1, 1, 0] ++ tksB (M.toks b 0)).length ≤ 100000000 := by rw [← HE.out, List.length_append] at hlb; omega
      have HC := Lib.hid (close_any wr HTO.out HSO.out (by omega))
      rw [HE.out] at HC
      clear hTT hlb hlb2
      go_wp2_with fail
      refine HC.out.mono ?_
      rintro e w5 ⟨v, w4, rfl, h4, f5, hv⟩
      have K1 := Lib.hid (HR.out w4 _ h4)
      have K2 := Lib.hid f5
      have K3 := Lib.hid hv
      clear h4 f5 hv HC
      go_wp2_with fail
      go_ret
      exact ⟨v, rfl, K1.out.trans0 K2.out, K3.out.own, fun j hj => Nat.le_trans K1.out.size (K3.out.fresh j hj)⟩

theorem fxd_length (b : List Nat) (h8 : ∀ x ∈ b, x < 256) : (fxd b).length ≤ 8 * b.length + 4 := by
  have := fxB_len b h8
  unfold fxd
  rw [byt_length]
  omega
theorem fxB_bit (b : List Nat) : Bit01 (fxB b) := by
  unfold fxB
  refine Bit01.app (Bit01.app (fun x hx => by simp at hx; omega) ?_) (code_bit _ _)
  intro x hx
  obtain ⟨t, -, ht⟩ := List.mem_flatMap.1 hx
  unfold tkB at ht
  split at ht
  · exact code_bit _ _ x ht
  · simp only [numB, List.mem_append] at ht
    rcases ht with (ht | ht) | (ht | ht)
    · exact code_bit _ _ x ht
    · exact grp_bit _ _ x ht
    · exact code_bit _ _ x ht
    · exact grp_bit _ _ x ht
theorem fxd_256 (b : List Nat) : ∀ x ∈ fxd b, x < 256 := byt_lt _ (fxB_bit b)
theorem bst_256 (b : List Nat) (h8 : ∀ x ∈ b, x < 256) : ∀ x ∈ bst b, x < 256 := by
  unfold bst
  split
  · exact sto_256 b.length b (Nat.le_refl _) h8
  · exact fxd_256 b
theorem bst_length (b : List Nat) (h8 : ∀ x ∈ b, x < 256) : (bst b).length ≤ 8 * b.length + 5 := by
  have h1 := fxd_length b h8
  have h2 := sto_length b.length b (Nat.le_refl _)
  unfold bst
  split <;> omega

set_option maxRecDepth 100000 in
set_option maxHeartbeats 2000000 in
theorem best_any (p : Option Addr) (d : Nat) (b : List Nat) (w : World) (hb : SlI w .u8 p b) (h8 : ∀ x ∈ b, x < 256) (hp : p = none → d = 0) (hd : b.length ≤ d) (hL : b.length ≤ 1048576) :
    Calls Try.prog 13 #[.slice p b.length d] w fun e w' => ∃ v, e = .returned v ∧ Fr S0 w w' ∧ RowNew w w' v (bst b) := by
  have HS := Lib.hid (dsto_any p d b w hb h8 hp hd hL)
  have HF := Lib.hid (fun w' (f : Fr S0 w w') => fixed_text p d b w' (hb.fr0 f) h8 hd hL)
  have h1 := fxd_length b h8
  have h2 := sto_length b.length b (Nat.le_refl _)
  obtain ⟨m, hm⟩ : ∃ m, b.length = m := ⟨_, rfl⟩
  rw [hm] at HS HF h1 h2 hL ⊢
  have HB : Hid (bst b = if (sto b).length < (fxd b).length then sto b else fxd b) := Lib.hid rfl
  obtain ⟨l1, hl1⟩ : ∃ l, sto b = l := ⟨_, rfl⟩
  obtain ⟨l2, hl2⟩ : ∃ l, fxd b = l := ⟨_, rfl⟩
  rw [hl1] at HS HB h2
  rw [hl2] at HF HB h1
  obtain ⟨n1, hn1⟩ : ∃ n, l1.length = n := ⟨_, rfl⟩
  obtain ⟨n2, hn2⟩ : ∃ n, l2.length = n := ⟨_, rfl⟩
  have HN1 := Lib.hid hn1
  have HN2 := Lib.hid hn2
  rw [hn1] at h2
  rw [hn2] at h1
  rw [hn1, hn2] at HB
  clear hb h8 hp hd hm hl1 hl2 hn1 hn2
  go_enter Try.func13, Try.ntmps13
  go_wp2_with fail
  refine HS.out.mono ?_
  rintro e w1 ⟨v1, rfl, f1, hv1⟩
  obtain ⟨p1, c1, rfl, -, -, -⟩ := slForm hv1.own
  have HV1 := Lib.hid hv1
  have HF1 := Lib.hid f1
  have K := Lib.hid (HF.out w1 f1)
  rw [HN1.out]
  clear hv1 f1 HS HF
  go_wp2_with fail
  refine K.out.mono ?_
  rintro e w2 ⟨v2, rfl, f2, hv2⟩
  obtain ⟨p2, c2, rfl, -, -, -⟩ := slForm hv2.own
  have HV2 := Lib.hid hv2
  have HF2 := Lib.hid f2
  rw [HN2.out]
  clear hv2 f2 K
  by_cases hlt : n1 < n2
  · have hlt' : (n1 : Int) < (n2 : Int) := by omega
    have HE : Hid (bst b = l1) := Lib.hid (by rw [HB.out, if_pos hlt])
    go_wp2_with fail
    go_ret
    refine ⟨.slice p1 n1 c1, rfl, HF1.out.trans0 HF2.out, ?_, ?_⟩
    · rw [HE.out, ← HN1.out]; exact HF2.out.owns HV1.out.own (fun _ _ h => h)
    · rw [← HN1.out]; exact HV1.out.fresh
  · have hlt' : ¬ (n1 : Int) < (n2 : Int) := by omega
    have HE : Hid (bst b = l2) := Lib.hid (by rw [HB.out, if_neg hlt])
    go_wp2_with fail
    go_ret
    refine ⟨.slice p2 n2 c2, rfl, HF1.out.trans0 HF2.out, ?_, ?_⟩
    · rw [HE.out, ← HN2.out]; exact HV2.out.own
    · rw [← HN2.out]; exact fun j hj => Nat.le_trans HF1.out.size (HV2.out.fresh j hj)
end Go.Proofs.Ytfibhgohenkfbaa
