/- DefText, DefPure, DefLawParts in one text. -/
import Derived.Test.YtfibhgohenkfbaaDefAlive
import Derived.Test.YtfibhgohenkfbaaDefFixed
import Derived.Test.YtfibhgohenkfbaaInfMid
import Derived.Test.YtfibhgohenkfbaaDefRef2
import Derived.IntWalk
import Derived.Deep.RegionHeld3

/- The texts that the laws look at. -/
namespace Go.Proofs.Ytfibhgohenkfbaa
open Go.RowKit

/-- at most 300 bytes, or of few unlike ones -/
def txB (wide : Bool) (x : Nat) : Nat := if wide = true then x else x % 3
def txt (b : List Nat) (wide : Bool) : List Nat := (b.take 300).map (txB wide)
theorem txt_length (b : List Nat) (wide : Bool) : (txt b wide).length = min 300 b.length := by simp [txt]
theorem txt_256 (b : List Nat) (wide : Bool) (h : ∀ x ∈ b, x < 256) : ∀ x ∈ txt b wide, x < 256 := by
  intro x hx
  obtain ⟨y, hy, rfl⟩ := List.mem_map.1 hx
  have := h y (List.mem_of_mem_take hy)
  unfold txB
  split
  · exact this
  · omega
theorem txt_next (b : List Nat) (wide : Bool) (j : Nat) (hj : j < b.length) : (b.take (j + 1)).map (txB wide) = (b.take j).map (txB wide) ++ [txB wide b[j]] := by
  rw [List.take_succ_eq_append_getElem hj, List.map_append]; rfl

set_option maxRecDepth 100000 in
set_option maxHeartbeats 1000000 in
theorem text8_any (p : Option Addr) (d : Nat) (b : List Nat) (wide : Bool) (w : World) (hb : SlI w .u8 p b) (h8 : ∀ x ∈ b, x < 256) :
    Calls Try.prog 8 #[.slice p b.length d, .bool wide] w fun e w' => ∃ v, e = .returned v ∧ Fr S0 w w' ∧ RowNew w w' v (txt b wide) := by
  have HB := Lib.hid hb
  have H8 := Lib.hid h8
  have HR : Hid (∀ j : Nat, j < 300 → Room (j + 1)) := Lib.hid fun j h => Room.mk (by omega)
  have HX := Lib.hid (txt_next b wide)
  have HT : Hid (∀ j, j ≤ 300 → ¬ (j < b.length ∧ j < 300) → j ≤ b.length → (b.take j).map (txB wide) = txt b wide ∧ (txt b wide).length = j) := Lib.hid fun j h1 h2 h3 => by
    have e : b.take j = b.take 300 := by
      by_cases q : j = 300
      · rw [q]
      · rw [List.take_of_length_le (by omega), List.take_of_length_le (by omega)]
    exact ⟨by rw [e]; rfl, by rw [txt_length]; omega⟩
  obtain ⟨m, hm⟩ : ∃ m, b.length = m := ⟨_, rfl⟩
  have HM := Lib.hid hm
  rw [hm]
  clear hb h8 hm
  go_enter Try.func8, Try.ntmps8
  go_wp2_with fail
  go_loopw [5, 6] (fun v i wr => ∃ j : Nat, j ≤ m ∧ j ≤ 300 ∧ i = .int .i64 j ∧ Fr S0 w wr ∧ wr.ownsRow 0 5 1 v j (u8s ((b.take j).map (txB wide))) ∧ Fresh w v) (fun _ i _ => m - (intOf i).toNat)
  case atStart => exact ⟨0, by omega, by omega, rfl, Fr.refl _ _, World.ownsRow_nil _ _ _ _, fresh_nil _ _⟩
  case round =>
    obtain ⟨j, hj, hj3, rfl, hfr, own, hfv⟩ := hrel
    obtain ⟨pv, cv, rfl, -, -, -⟩ := slForm own
    have OWN := Lib.hid own
    have HFR := Lib.hid hfr
    have HFV := Lib.hid hfv
    clear own hfr hfv
    by_cases h1 : (j : Int) < (m : Int)
    · by_cases h2 : (j : Int) < 300
      · obtain ⟨g, o, hpe, hc⟩ := (HB.out.fr0 HFR.out).at j (by rw [HM.out]; omega)
        have HRJ := Lib.hid (HR.out j (by omega))
        have HXJ := Lib.hid (HX.out j (by rw [HM.out]; omega))
        have hx8 := H8.out _ (List.getElem_mem (show j < b.length by rw [HM.out]; omega))
        obtain ⟨x, hx⟩ : ∃ x, b[j]'(by rw [HM.out]; omega) = x := ⟨_, rfl⟩
        rw [hx] at hc HXJ hx8
        subst hpe
        clear hx
        cases wide with
        | true =>
          have HE : Hid (u8s ((b.take (j + 1)).map (txB true)) = u8s ((b.take j).map (txB true)) ++ [.int .u8 (x : Nat)]) := Lib.hid (by rw [HXJ.out, ← u8s_append]; rfl)
          go_wp2_with (first
            | ((with_reducible show wpList _ _ _ (Oper.mk (some 24) _ _ _ _ _ :: _) _ _); refine app_one el8 (.tmp 18) (.tmp 23) rfl OWN.out rfl rfl rfl rfl rfl one8 HRJ.out ?_; intro q1 c1 w1 own1 g1 at1 lt1; have F1 := Lib.hid ((HFR.out.trans0 (Fr.alloc S0 wr _)).append g1 HFV.out); have V1 := Lib.hid (fresh_app (n := j + 1) (c := c1) HFR.out HFV.out at1); have O1 := Lib.hid own1; clear own1 g1 at1 lt1)
            | fail)
          go_roundw
          case rel => exact ⟨j + 1, by omega, by omega, by go_num, F1.out, by rw [HE.out]; exact O1.out, V1.out⟩
          case measure => simp [intOf]; omega
        | false =>
          have HE : Hid (u8s ((b.take (j + 1)).map (txB false)) = u8s ((b.take j).map (txB false)) ++ [.int .u8 ((x : Int) % 3)]) := Lib.hid (by rw [HXJ.out, ← u8s_append]; rfl)
          go_wp2_with (first
            | ((with_reducible show wpList _ _ _ (Oper.mk (some 32) _ _ _ _ _ :: _) _ _); refine app_one el8 (.tmp 25) (.tmp 31) rfl OWN.out rfl rfl rfl rfl rfl one8 HRJ.out ?_; intro q1 c1 w1 own1 g1 at1 lt1; have F1 := Lib.hid ((HFR.out.trans0 (Fr.alloc S0 wr _)).append g1 HFV.out); have V1 := Lib.hid (fresh_app (n := j + 1) (c := c1) HFR.out HFV.out at1); have O1 := Lib.hid own1; clear own1 g1 at1 lt1)
            | fail)
          go_roundw
          case rel => exact ⟨j + 1, by omega, by omega, by go_num, F1.out, by rw [HE.out]; exact O1.out, V1.out⟩
          case measure => simp [intOf]; omega
      · obtain ⟨E1, E2⟩ := HT.out j hj3 (by rw [HM.out]; omega) (by rw [HM.out]; exact hj)
        have HE := Lib.hid E1
        have HE2 := Lib.hid E2
        clear E1 E2
        go_wp2_with fail
        go_ret
        exact ⟨_, rfl, HFR.out, by rw [HE2.out, ← HE.out]; exact OWN.out, HFV.out⟩
    · obtain ⟨E1, E2⟩ := HT.out j hj3 (by rw [HM.out]; omega) (by rw [HM.out]; exact hj)
      have HE := Lib.hid E1
      have HE2 := Lib.hid E2
      clear E1 E2
      go_wp2_with fail
      go_ret
      exact ⟨_, rfl, HFR.out, by rw [HE2.out, ← HE.out]; exact OWN.out, HFV.out⟩

/-- a row of bytes reads as a text -/
theorem cv8 {w : World} {q : Option Addr} {c N : Nat} {A : List Nat} (hA : A.length = N) (h : w.ownsRow 0 5 1 (.slice q N c) N (u8s A)) : (convert 22 9 (.slice q N c)).run Try.prog w = .ok (.string (strB A)) w := by
  subst hA; exact conv_own h
end Go.Proofs.Ytfibhgohenkfbaa

/- What was written is read: as numbers. -/
namespace Go.Proofs.Ytfibhgohenkfbaa

theorem bts_pad (L : List Nat) (h : Bit01 L) : ∃ Z, bts (byt L) = L ++ Z := by
  have e := slice_byt L h 0 L.length (by omega)
  rw [List.drop_zero, List.drop_zero, List.take_length] at e
  refine ⟨(bts (byt L)).drop L.length, ?_⟩
  have := List.take_append_drop L.length (bts (byt L))
  rw [e] at this
  exact this.symm
/-- at the bit k stands S -/
structure At (B : List Nat) (k : Nat) (S : List Nat) : Prop where
  le : k ≤ 8 * B.length
  eq : (bts B).drop k = S
theorem At.go {B : List Nat} {k : Nat} {Y R : List Nat} (h : At B k (Y ++ R)) : At B (k + Y.length) R := by
  have hl := congrArg List.length h.eq
  rw [List.length_drop, bts_length, List.length_append] at hl
  have := h.le
  refine ⟨by omega, ?_⟩
  rw [← List.drop_drop, h.eq, List.drop_left]
theorem At.fits {B : List Nat} {k : Nat} {Y R : List Nat} (h : At B k (Y ++ R)) : k + Y.length ≤ 8 * B.length := h.go.le
theorem At.grp {B : List Nat} {k n c : Nat} {R : List Nat} (h : At B k (grp n c ++ R)) (hn : n < 2 ^ c) : rGrp B c k = .ok n (k + c) := by
  have hf := h.fits
  rw [grp_length] at hf
  rw [rGrp_yes hf]
  unfold bitsAt
  rw [h.eq, List.take_left' (grp_length n c), num_grp, Nat.mod_eq_of_lt hn]
theorem At.sym {B l : List Nat} {k i : Nat} {R : List Nat} (h : At B k (code (cod l i) (len l i) ++ R)) (hi : 0 < len l i) (hc : cod l i < 2 ^ len l i) : rSym B l k = .ok i (k + len l i) := by
  refine rSym_hit ⟨hi, ?_, ?_⟩
  · rw [h.eq, List.length_append, code_length]; omega
  · rw [h.eq, List.take_left' (code_length _ _), val_code, Nat.mod_eq_of_lt hc]
theorem fx_two (i : Nat) (h : i < 288) : cod fixLs i < 2 ^ len fixLs i := by
  have key : ∀ k : Fin 288, cod fixLs k.val < 2 ^ len fixLs k.val := by decide +kernel
  exact key ⟨i, h⟩
theorem fv_two (i : Nat) (h : i < 32) : cod fives i < 2 ^ len fives i := by
  have key : ∀ k : Fin 32, cod fives k.val < 2 ^ len fives k.val := by decide +kernel
  exact key ⟨i, h⟩

/-- bytes told again are those that stand there -/
theorem again_run (b : List Nat) (k d s : Nat) (hd : 0 < d) (hdk : d ≤ k) (hs : k + s ≤ b.length) (hr : ∀ j, j < s → b.getD (k - d + j) 0 = b.getD (k + j) 0) : ∀ n, n ≤ s → again d n (b.take k) = b.take (k + n)
  | 0, _ => rfl
  | n + 1, hn => by
    rw [again_succ, again_run b k d s hd hdk hs hr n (by omega)]
    have hlen : (b.take (k + n)).length = k + n := by rw [List.length_take]; omega
    have e1 : (b.take (k + n)).getD (k + n - d) 0 = b.getD (k + n - d) 0 := by
      simp only [List.getD, List.getElem?_take]
      rw [if_pos (by omega)]
    rw [hlen, e1, show k + n - d = k - d + n by omega, hr n (by omega), show k + (n + 1) = k + n + 1 by omega, List.take_succ_eq_append_getElem (by omega)]
    congr 2
    simp only [List.getD]
    rw [List.getElem?_eq_getElem (by omega)]
    rfl

theorem tkB_two (s d : Nat) (hd : 0 < d) : tkB (0, s, d) = code (cod fixLs (lenS s)) (len fixLs (lenS s)) ++ (grp (s - baseN (lenS s)) (baseC (lenS s)) ++ (code (cod fives (spnS d)) (len fives (spnS d)) ++ grp (d - farN (spnS d)) (farC (spnS d)))) := by
  unfold tkB
  rw [if_neg (by simp only; omega), fx_eq, numB, numB, List.append_assoc]
set_option maxRecDepth 100000 in
theorem step_tok (b B R : List Nat) (k pos : Nat) (hk : k < b.length) (h8 : ∀ x ∈ b, x < 256) (h : At B pos (tkB (M.tok b k) ++ R)) :
    rStep B b.length fixLs' fives (b.take k) pos = .ok (false, b.take (k + M.wid (M.tok b k))) (pos + (tkB (M.tok b k)).length) := by
  have htl : (b.take k).length = k := by rw [List.length_take]; omega
  rcases M.tok_is b k hk with ⟨e, -⟩ | ⟨s, d, e, h3, h258, hd, hdk, hd2, hks, hrun, -⟩
  · rw [e] at h ⊢
    have hx : b.getD k 0 = b[k] := by simp [List.getD, hk]
    have hx8 : b.getD k 0 < 256 := by rw [hx]; exact h8 _ (List.getElem_mem hk)
    have l5 := fx_len (b.getD k 0) (by omega)
    have l6 := fx_two (b.getD k 0) (by omega)
    have ht : tkB (b.getD k 0, 0, 0) = code (cod fixLs (b.getD k 0)) (len fixLs (b.getD k 0)) := by unfold tkB; rw [if_pos rfl, fx_eq]
    rw [ht] at h ⊢
    rw [code_length, fx_eq]
    have hs := h.sym l5.1 l6
    unfold rStep
    rw [hs, Res.then_ok, if_pos hx8, htl, rIf_yes (decide_eq_true (by omega)), Res.then_ok]
    rw [show M.wid (b.getD k 0, 0, 0) = 1 from rfl, List.take_succ_eq_append_getElem hk, hx]
  · rw [e] at h ⊢
    have l1 := lenS_is h3 h258
    have l2 := lenS_le s
    have l3 := spnS_is hd hd2
    have l4 := spnS_le d
    have l5 := fx_len (lenS s) (by omega)
    have l6 := fx_two (lenS s) (by omega)
    have l9 := fv_len (spnS d) (by omega)
    have l10 := fv_two (spnS d) (by omega)
    have ht := tkB_two s d hd
    rw [ht] at h ⊢
    simp only [List.append_assoc] at h
    have a1 := h.sym l5.1 l6
    have h2 := h.go
    rw [code_length] at h2
    have a2 := h2.grp (by omega)
    have h3' := h2.go
    rw [grp_length] at h3'
    have a3 := h3'.sym (by omega) l10
    have h4 := h3'.go
    rw [code_length] at h4
    have a4 := h4.grp (by omega)
    have hrr : ∀ j, j < s → b.getD (k - d + j) 0 = b.getD (k + j) 0 := fun j hj => (M.run_all b 258 (k - d) k j (by rw [hrun]; exact hj)).2
    have hag := again_run b k d s hd hdk hks hrr s (Nat.le_refl _)
    have hwid : M.wid (0, s, d) = s := by unfold M.wid; rw [if_neg (by simp only; omega)]
    unfold rStep
    rw [fx_eq, a1, Res.then_ok, if_neg (by omega), if_neg (by omega)]
    unfold rBack
    rw [rIf_yes (decide_eq_true l2.2), Res.then_ok, a2, Res.then_ok, a3, Res.then_ok, rIf_yes (decide_eq_true l4), Res.then_ok, a4, Res.then_ok, htl,
      rIf_yes (decide_eq_true (by omega)), Res.then_ok, rIf_yes (decide_eq_true (by omega)), Res.then_ok, Res.then_ok,
      show farN (spnS d) + (d - farN (spnS d)) = d by omega, show baseN (lenS s) + (s - baseN (lenS s)) = s by omega, hag, hwid]
    congr 1
    simp only [List.length_append, code_length, grp_length]
    omega
theorem tkB_pos (b : List Nat) (k : Nat) (hk : k < b.length) (h8 : ∀ x ∈ b, x < 256) : 0 < (tkB (M.tok b k)).length := by
  rcases M.tok_is b k hk with ⟨e, -⟩ | ⟨s, d, e, h3, h258, hd, hdk, hd2, hks, hrun, -⟩
  · rw [e]
    have hx : b.getD k 0 = b[k] := by simp [List.getD, hk]
    have hx8 : b.getD k 0 < 256 := by rw [hx]; exact h8 _ (List.getElem_mem hk)
    unfold tkB
    rw [if_pos rfl, fx_eq, code_length]
    exact (fx_len _ (by omega)).1
  · rw [e]
    have l2 := lenS_le s
    rw [tkB_two s d hd, List.length_append, code_length]
    have := fx_len (lenS s) (by omega)
    omega
set_option maxRecDepth 100000 in
theorem syms_toks (b B R : List Nat) (h8 : ∀ x ∈ b, x < 256) : ∀ m k pos, b.length ≤ k + m → k ≤ b.length → At B pos (tksB (M.toks b k) ++ (code (cod fixLs' 256) (len fixLs' 256) ++ R)) →
    rSyms B b.length fixLs' fives (b.take k) pos = .ok b (pos + (tksB (M.toks b k)).length + len fixLs' 256)
  | m, k, pos, hm, hk, h => by
    by_cases hkl : k < b.length
    · cases m with
      | zero => omega
      | succ m =>
        have hw := M.wid_pos b k hkl
        have hp := tkB_pos b k hkl h8
        rw [M.toks_in b k hkl, show tksB (M.tok b k :: M.toks b (k + M.wid (M.tok b k))) = tkB (M.tok b k) ++ tksB (M.toks b (k + M.wid (M.tok b k))) from rfl, List.append_assoc] at h
        have hs := step_tok b B _ k pos hkl h8 h
        rw [rSyms_go hs (by omega) h.fits, syms_toks b B R h8 m _ _ (by omega) hw.2 h.go, M.toks_in b k hkl,
          show tksB (M.tok b k :: M.toks b (k + M.wid (M.tok b k))) = tkB (M.tok b k) ++ tksB (M.toks b (k + M.wid (M.tok b k))) from rfl, List.length_append]
        congr 1
        omega
    · obtain rfl : k = b.length := by omega
      rw [M.toks_out b _ (Nat.le_refl _)] at h ⊢
      have h2 : At B pos (code (cod fixLs 256) (len fixLs 256) ++ R) := by rw [← fx_eq]; exact h
      have hs := h2.sym (fx_len 256 (by decide)).1 (fx_two 256 (by decide))
      refine (rSyms_end (T1 := b) (k1 := pos + len fixLs 256) ?_).trans (by rw [fx_eq]; rfl)
      unfold rStep
      rw [fx_eq, hs, Res.then_ok, if_neg (by decide), if_pos rfl, List.take_length]
/-- the fixed block is read -/
theorem infl_fixed (b : List Nat) (h8 : ∀ x ∈ b, x < 256) : infl (fxd b) b.length = .ok b (fxB b).length := by
  obtain ⟨Z, hZ⟩ := bts_pad (fxB b) (fxB_bit b)
  obtain ⟨B, hB⟩ : ∃ B, fxd b = B := ⟨_, rfl⟩
  rw [show byt (fxB b) = B from hB] at hZ
  rw [hB]
  have h0 : At B 0 (grp 1 1 ++ (grp 1 2 ++ (tksB (M.toks b 0) ++ (code (cod fixLs' 256) (len fixLs' 256) ++ Z)))) := ⟨by omega, by
    rw [List.drop_zero, hZ]
    unfold fxB
    simp only [List.append_assoc]
    rfl⟩
  have a1 := h0.grp (by decide)
  have h1 := h0.go
  rw [grp_length] at h1
  have a2 := h1.grp (by decide)
  have h2 := h1.go
  rw [grp_length] at h2
  have a3 := syms_toks b B Z h8 b.length 0 _ (by omega) (by omega) h2
  rw [List.take_zero] at a3
  unfold infl
  refine (rBlocks_end (T1 := b) (k1 := 0 + 1 + 2 + (tksB (M.toks b 0)).length + len fixLs' 256) ?_).trans ?_
  · unfold rBlock
    rw [a1, Res.then_ok, a2, Res.then_ok]
    unfold rKind
    rw [if_neg (by decide), if_pos rfl]
    rw [show rSyms B b.length fixLs' (List.replicate 32 5) [] (0 + 1 + 2) = _ from a3, Res.then_ok]
    rfl
  · congr 1
    unfold fxB
    simp only [List.length_append, code_length, List.length_cons, List.length_nil]

theorem blocks_sto : ∀ (n : Nat) (b pre T : List Nat) (lim : Nat), b.length ≤ n → T.length + b.length ≤ lim → rBlocks (pre ++ sto b) lim T (8 * pre.length) = .ok (T ++ b) (8 * (pre.length + (sto b).length))
  | n, b, pre, T, lim, hn, hl => by
    by_cases h : b.length ≤ 65535
    · have hb := stored_block pre b [] lim T 1 (b.length % 256) (b.length / 256) (255 - b.length % 256) (255 - b.length / 256) rfl (by omega) (by omega) (by omega) (by omega) (by omega)
      rw [if_pos (by omega), if_pos hl, List.append_nil] at hb
      rw [sto_last h, show blk 1 b = 1 :: b.length % 256 :: b.length / 256 :: (255 - b.length % 256) :: (255 - b.length / 256) :: b from rfl]
      refine (rBlocks_end hb).trans ?_
      congr 1
      simp only [List.length_cons]
      omega
    · cases n with
      | zero => omega
      | succ n =>
        have htl : (b.take 65535).length = 65535 := by rw [List.length_take]; omega
        have hb := stored_block pre (b.take 65535) (sto (b.drop 65535)) lim T 0 ((b.take 65535).length % 256) ((b.take 65535).length / 256) (255 - (b.take 65535).length % 256) (255 - (b.take 65535).length / 256) rfl (by omega) (by omega) (by omega) (by omega) (by omega)
        rw [if_pos (by omega), if_pos (by omega)] at hb
        have e : pre ++ sto b = pre ++ (0 :: (b.take 65535).length % 256 :: (b.take 65535).length / 256 :: (255 - (b.take 65535).length % 256) :: (255 - (b.take 65535).length / 256) :: (b.take 65535 ++ sto (b.drop 65535))) := by
          rw [sto_more h, blk]; simp only [List.cons_append, List.nil_append]
        rw [← e] at hb
        have hlen : (pre ++ sto b).length = pre.length + 5 + (b.take 65535).length + (sto (b.drop 65535)).length := by
          rw [sto_more h, List.length_append, List.length_append, blk_length]; omega
        rw [rBlocks_go (T1 := T ++ b.take 65535) (k1 := 8 * (pre.length + 5 + (b.take 65535).length)) hb (by omega) (by omega)]
        have ih := blocks_sto n (b.drop 65535) (pre ++ blk 0 (b.take 65535)) (T ++ b.take 65535) lim (by rw [List.length_drop]; omega) (by rw [List.length_append, List.length_drop, htl]; omega)
        rw [List.append_assoc, ← sto_more h, List.length_append, blk_length, List.append_assoc, List.take_append_drop] at ih
        rw [show 8 * (pre.length + 5 + (b.take 65535).length) = 8 * (pre.length + ((b.take 65535).length + 5)) by omega, ih]
        congr 1
        rw [sto_more h, List.length_append, blk_length]
        omega
/-- stored blocks are read -/
theorem infl_sto (b : List Nat) : infl (sto b) b.length = .ok b (8 * (sto b).length) := by
  have := blocks_sto b.length b [] [] b.length (Nat.le_refl _) (by simp)
  simpa [infl] using this

/-- what was written any way is read, whatever stands behind it -/
def Reads (s b : List Nat) : Prop := ∀ x, ∃ K, infl (s ++ x) b.length = .ok b K ∧ upN K / 8 = s.length
theorem reads_fixed (b : List Nat) (h8 : ∀ x ∈ b, x < 256) : Reads (fxd b) b := fun x => by
  have h := infl_fixed b h8
  have e : upN (fxB b).length / 8 = (fxd b).length := by unfold fxd upN; rw [byt_length]; omega
  have q := (infl_behind h).2.1 x
  rw [e, List.take_length] at q
  exact ⟨_, q, e⟩
theorem reads_sto (b : List Nat) : Reads (sto b) b := fun x => by
  have h := infl_sto b
  have e : upN (8 * (sto b).length) / 8 = (sto b).length := by unfold upN; omega
  have q := (infl_behind h).2.1 x
  rw [e, List.take_length] at q
  exact ⟨_, q, e⟩
theorem reads_bst (b : List Nat) (h8 : ∀ x ∈ b, x < 256) : Reads (bst b) b := by
  unfold bst
  split
  · exact reads_sto b
  · exact reads_fixed b h8
end Go.Proofs.Ytfibhgohenkfbaa

/- The law on texts of more than one stored block. -/
namespace Go.Proofs.Ytfibhgohenkfbaa
open Go.RowKit

theorem make_big (w : World) (n : Nat) (hn : n ≤ 100000) : (Instr.makeSlice 22 (.int .i64 (n : Nat)) (.int .i64 (n : Nat))).run Try.prog w = .ok (.slice (some ⟨w.heap.size, 0, none⟩) n n) (w.alloc (.cells (zers .u8 n) 5)) := by
  obtain ⟨i, hi, hz, hs, hb⟩ := info_parts info_u8
  have := run_make w 22 5 i _ Try.underlying22 hi hz .i64 .i64 (n : Int) (n : Int) (by omega) (by omega) (by rw [hb]; omega) (by omega)
  rw [this, hs, Nat.mul_one, Int.toNat_natCast]
  rfl
theorem read_back {q : Option Addr} {c N NS d : Nat} {L S : List Nat} {w : World} (hL : L.length = N) (hS : S.length = NS) (h8 : ∀ x ∈ S, x < 256) (hb : SlI w .u8 q S) (hq : q = none → d = 0) (hN : N ≤ 1000000) (hs : NS ≤ 100000000) (hr : infl S N = .ok L (8 * NS)) (hc : c = d) :
    Calls Try.prog 15 #[.slice q NS c, .int .i64 N] w fun e w' => ∃ q' c', e = .returned (.tuple #[.slice q' N c', .int .i64 NS, .int .i64 0]) ∧ Fr S0 w w' ∧ w'.ownsRow 0 5 1 (.slice q' N c') N (u8s L) := by
  subst hL hS hc
  refine (read_yes hb h8 hq (by omega) (by omega) hr).mono ?_
  rintro e w' ⟨q', c', rfl, f, own, -⟩
  refine ⟨q', c', ?_, f, own⟩
  rw [show upN (8 * S.length) / 8 = S.length by unfold upN; omega]

set_option maxRecDepth 100000 in
set_option maxHeartbeats 8000000 in
theorem law_parts (n x : Nat) (w : World) (hn : n < 4294967296) (hx : x < 256) :
    Calls Try.prog 5 #[.int .u32 n, .int .u8 x] w fun r w' => r = .returned (.bool true) ∧ Fr S0 w w' := by
  have HAL := Lib.hid (alive8_any w)
  obtain ⟨N, hN⟩ : ∃ N : Nat, 65530 + n % 12 = N := ⟨_, rfl⟩
  have e1 : (65530 : Int) + (n : Int) % 12 = (N : Int) := by omega
  have hN1 : 65530 ≤ N ∧ N ≤ 65541 := by omega
  have hmk : ∀ w, (Instr.makeSlice 22 (.int .i64 (N : Nat)) (.int .i64 (N : Nat))).run Try.prog w = .ok (.slice (some ⟨w.heap.size, 0, none⟩) N N) (w.alloc (.cells (zers .u8 N) 5)) := fun w => make_big w N (by omega)
  clear hN
  go_enter Try.func5, Try.ntmps5
  go_wp2_with fail
  refine HAL.out.mono ?_
  rintro _ w1 ⟨rfl, f1⟩
  have F1 := Lib.hid f1
  clear f1 HAL
  go_wp2_with fail
  have o2 := zers_own w1 .u8 5 N (by omega)
  have f2 : Fr S0 w1 (w1.alloc (.cells (zers .u8 N) 5)) := Fr.alloc _ _ _
  obtain ⟨g, hg⟩ : ∃ g, w1.heap.size = g := ⟨_, rfl⟩
  rw [hg] at o2 ⊢
  generalize w1.alloc (.cells (zers .u8 N) 5) = w2 at o2 f2 ⊢
  have F2 := Lib.hid (F1.out.trans0 f2)
  have HG : Hid (w.heap.size ≤ g) := Lib.hid (by rw [← hg]; exact F1.out.size)
  have O2 : Hid (w2.ownsRow 0 5 1 (.slice (some ⟨g, 0, none⟩) N N) N (u8s (List.replicate N 0))) := Lib.hid o2
  clear o2 f2 hg hmk F1
  go_loopw [6] (fun i wr => ∃ (j : Nat) (L : List Nat), i = .int .i64 j ∧ j ≤ N + 7 ∧ L.length = N ∧ (∀ y ∈ L, y < 256) ∧ Fr S0 w wr ∧ wr.ownsRow 0 5 1 (.slice (some ⟨g, 0, none⟩) N N) N (u8s L)) (fun i _ => N - (intOf i).toNat)
  case atStart => exact ⟨0, List.replicate N 0, rfl, by omega, by simp, fun y hy => by rw [List.eq_of_mem_replicate hy]; decide, F2.out, O2.out⟩
  case round =>
    obtain ⟨j, L, rfl, hj, hL, hL8, hfr, own⟩ := hrel
    have HL := Lib.hid hL
    have HL8 := Lib.hid hL8
    have HFR := Lib.hid hfr
    have OWN := Lib.hid own
    clear hL hL8 hfr own
    by_cases hjn : (j : Int) < (N : Int)
    · have hu : j < (u8s L).length := by unfold u8s; rw [List.length_map, HL.out]; omega
      have k7 := OWN.out.cellAt j (by omega)
      have k8 := OWN.out.frozenAt j
      rw [List.getElem?_eq_getElem hu] at k7
      obtain ⟨u, hu'⟩ : ∃ u, (u8s L)[j] = u := ⟨_, rfl⟩
      rw [hu'] at k7
      have HS := Lib.hid (OWN.out.stored j (.int .u8 (x : Nat))).1
      have HSET : Hid ((u8s L).set j (.int .u8 (x : Nat)) = u8s (L.set j x)) := Lib.hid (by unfold u8s; rw [List.map_set])
      clear hu hu'
      go_wp2_with fail
      go_roundw
      case rel =>
        refine ⟨j + 7, L.set j x, by go_num, by omega, by rw [List.length_set]; exact HL.out, fun y hy => ?_, HFR.out.trans (Fr.setCell (· = g) _ ⟨g, j, none⟩ _ rfl) (fun q hq e => by have := HG.out; omega), by rw [← HSET.out]; exact HS.out⟩
        rcases List.mem_or_eq_of_mem_set hy with h | h
        · exact HL8.out y h
        · rw [h]; exact hx
      case measure => simp [intOf]; omega
    · have HST : Hid (Calls Try.prog 11 #[.slice (some ⟨g, 0, none⟩) N N] wr fun e w' => ∃ v, e = .returned v ∧ Fr S0 wr w' ∧ RowNew wr w' v (sto L)) := Lib.hid (by
        have := dsto_any (some ⟨g, 0, none⟩) N L wr (SlI.ofOwns OWN.out) HL8.out (fun h => by cases h) (by rw [HL.out]; exact Nat.le_refl _) (by rw [HL.out]; omega)
        rw [HL.out] at this
        exact this)
      have HRS : Hid (∀ w', Fr S0 wr w' → Calls Try.prog 12 #[.slice (some ⟨g, 0, none⟩) N N] w' fun e w'' => ∃ v, e = .returned v ∧ Fr S0 w' w'' ∧ RowNew w' w'' v (sto L)) := Lib.hid (fun w' f => by
        have := rstored_any (some ⟨g, 0, none⟩) N L w' (SlI.ofOwns (f.owns OWN.out (fun _ _ h => h))) (fun h => by cases h) (by rw [HL.out]; exact Nat.le_refl _) (by rw [HL.out]; omega)
        rw [HL.out] at this
        exact this)
      have H256 := Lib.hid (sto_256 L.length L (Nat.le_refl _) HL8.out)
      have HIN : Hid (infl (sto L) N = .ok L (8 * (sto L).length)) := Lib.hid (by have := infl_sto L; rw [HL.out] at this; exact this)
      have hlen : (sto L).length = if N ≤ 65535 then N + 5 else N + 10 := by
        by_cases h : N ≤ 65535
        · rw [if_pos h, sto_last (by rw [HL.out]; exact h), blk_length, HL.out]
        · rw [if_neg h, sto_more (by rw [HL.out]; exact h), List.length_append, blk_length, List.length_take, HL.out, sto_last (by rw [List.length_drop, HL.out]; omega), blk_length, List.length_drop, HL.out]
          omega
      obtain ⟨S, hS⟩ : ∃ S, sto L = S := ⟨_, rfl⟩
      rw [hS] at HST HRS H256 HIN hlen
      obtain ⟨NS, hNS⟩ : ∃ n, S.length = n := ⟨_, rfl⟩
      have HNS := Lib.hid hNS
      rw [hNS] at HIN hlen
      have hNSs : NS ≤ 100000 := by rw [hlen]; split <;> omega
      have HLEN := Lib.hid hlen
      clear hS hNS hlen
      go_wp2_with fail
      refine HST.out.mono ?_
      rintro _ w4 ⟨v, rfl, f4, hv⟩
      obtain ⟨q, c, rfl, hq, -, -⟩ := slForm hv.own
      have OS : Hid (w4.ownsRow 0 5 1 (.slice q NS c) NS (u8s S)) := Lib.hid (by have h := hv.own; rw [HNS.out] at h; exact h)
      have F4 := Lib.hid f4
      have HRD := Lib.hid (read_back (c := c) (d := c) HL.out HNS.out H256.out (SlI.ofOwns OS.out) hq (by omega) (by omega) HIN.out rfl)
      rw [HNS.out]
      clear hv hq f4 HST HIN
      go_wp2_with fail
      refine HRD.out.mono ?_
      rintro _ w5 ⟨q5, c5, rfl, f5, o5⟩
      have F5 := Lib.hid (F4.out.trans0 f5)
      have fd : Fr S0 w5 w5.drew := Fr.drew _ _
      have kout := cv8 HL.out (fd.owns o5 (fun _ _ h => h))
      have kt := cv8 HL.out (fd.owns (F5.out.owns OWN.out (fun _ _ h => h)) (fun _ _ h => h))
      have O5D := Lib.hid (fd.owns o5 (fun _ _ h => h))
      have OTD := Lib.hid (fd.owns (F5.out.owns OWN.out (fun _ _ h => h)) (fun _ _ h => h))
      have OS5 : Hid (w5.drew.ownsRow 0 5 1 (.slice q NS c) NS (u8s S)) := Lib.hid (fd.owns (f5.owns OS.out (fun _ _ h => h)) (fun _ _ h => h))
      have ks := cv8 HNS.out OS5.out
      have F6 := Lib.hid (F5.out.trans0 fd)
      clear f5 o5 fd HRD OS
      by_cases hb : N ≤ 65535
      · have hb' : ¬ (N : Int) > 65535 := by omega
        have z1 : ((NS : Int) == (N : Int) + 5) = true := by
          have hl := HLEN.out
          rw [if_pos hb] at hl
          rw [beq_iff_eq]; omega
        go_wp2_with fail
        have hNb : N ≤ 100000 := by omega
        have wr0 : IntKind.i64.wrap (5 * 1) = 5 := by decide
        have wr2 : IntKind.i64.wrap 5 = 5 := by decide
        have wr1 : IntKind.i64.wrap ((N : Int) + 5) = (N : Int) + 5 := IntWalk.i64_in _ (by omega)
        clear hj hb hb' HLEN HL8 H256 HG O2 F2 e1 hN1 hjn OWN F4 F5
        refine wp_region_noPanic ?_
        refine wp_region_held_drew (S := fun w' => (convert 22 9 (.slice q5 N c5)).run Try.prog w' = .ok (.string (strB L)) w' ∧ (convert 22 9 (.slice (some ⟨g, 0, none⟩) N N)).run Try.prog w' = .ok (.string (strB L)) w' ∧ (convert 22 9 (.slice q NS c)).run Try.prog w' = .ok (.string (strB S)) w') (by kernel_rfl) ⟨kout, kt, ks⟩ (fun hHeld => ?_)
        clear kout kt ks
        refine wpAnyH_take (i := 0) (oi := Oper.mk (some 42) _ _ _ _ _) (v := ?_) rfl (by kernel_rfl) (by kernel_rfl) (by kernel_rfl) (fun _ _ _ h => h) (Or.inl ⟨by rfl, ?_⟩) (by assumption) ?_
        rotate_left
        · (intro w hSw; (try dsimp only at hSw); go_simp <;> with_reducible rfl)
        simp only [Act.put, List.setIfInBounds_toArray, List.set_cons_zero, List.set_cons_succ]
        refine wpAnyH_take (i := 1) (oi := Oper.mk (some 43) _ _ _ _ _) (v := ?_) rfl (by kernel_rfl) (by kernel_rfl) (by kernel_rfl) (fun _ _ _ h => h) (Or.inl ⟨by rfl, ?_⟩) (by assumption) ?_
        rotate_left
        · (intro w hSw; (try dsimp only at hSw); go_simp <;> with_reducible rfl)
        simp only [Act.put, List.setIfInBounds_toArray, List.set_cons_zero, List.set_cons_succ]
        refine wpAnyH_take (i := 2) (oi := Oper.mk (some 44) _ _ _ _ _) (v := ?_) rfl (by kernel_rfl) (by kernel_rfl) (by kernel_rfl) (fun _ _ _ h => h) (Or.inl ⟨by rfl, ?_⟩) (by assumption) ?_
        rotate_left
        · (intro w hSw; (try dsimp only at hSw); go_simp <;> with_reducible rfl)
        simp only [Act.put, List.setIfInBounds_toArray, List.set_cons_zero, List.set_cons_succ]
        refine wpAnyH_take (i := 3) (oi := Oper.mk (some 45) _ _ _ _ _) (v := ?_) rfl (by kernel_rfl) (by kernel_rfl) (by kernel_rfl) (fun _ _ _ h => h) (Or.inl ⟨by rfl, ?_⟩) (by assumption) ?_
        rotate_left
        · (intro w hSw; (try dsimp only at hSw); go_simp <;> with_reducible rfl)
        simp only [Act.put, List.setIfInBounds_toArray, List.set_cons_zero, List.set_cons_succ]
        refine wpAnyH_take (i := 4) (oi := Oper.mk (some 46) _ _ _ _ _) (v := ?_) rfl (by kernel_rfl) (by kernel_rfl) (by kernel_rfl) (fun _ _ _ h => h) (Or.inl ⟨by rfl, ?_⟩) (by assumption) ?_
        rotate_left
        · (intro w hSw; (try dsimp only at hSw); go_simp <;> with_reducible rfl)
        simp only [Act.put, List.setIfInBounds_toArray, List.set_cons_zero, List.set_cons_succ]
        refine wpAnyH_take (i := 5) (oi := Oper.mk (some 47) _ _ _ _ _) (v := ?_) rfl (by kernel_rfl) (by kernel_rfl) (by kernel_rfl) (fun _ _ _ h => h) (Or.inl ⟨by rfl, ?_⟩) (by assumption) ?_
        rotate_left
        · (intro w hSw; (try dsimp only at hSw); go_simp <;> with_reducible rfl)
        simp only [Act.put, List.setIfInBounds_toArray, List.set_cons_zero, List.set_cons_succ]
        refine wpAnyH_take (i := 6) (oi := Oper.mk (some 48) _ _ _ _ _) (v := ?_) rfl (by kernel_rfl) (by kernel_rfl) (by kernel_rfl) (fun _ _ _ h => h) (Or.inl ⟨by rfl, ?_⟩) (by assumption) ?_
        rotate_left
        · (intro w hSw; (try dsimp only at hSw); go_simp <;> with_reducible rfl)
        simp only [Act.put, List.setIfInBounds_toArray, List.set_cons_zero, List.set_cons_succ]
        refine wpAnyH_take (i := 7) (oi := Oper.mk (some 49) _ _ _ _ _) (v := ?_) rfl (by kernel_rfl) (by kernel_rfl) (by kernel_rfl) (fun _ _ _ h => h) (Or.inl ⟨by rfl, ?_⟩) (by assumption) ?_
        rotate_left
        · (intro w hSw; (try dsimp only at hSw); go_simp <;> with_reducible rfl)
        simp only [Act.put, List.setIfInBounds_toArray, List.set_cons_zero, List.set_cons_succ]
        refine wpAnyH_take (i := 8) (oi := Oper.mk (some 50) _ _ _ _ _) (v := ?_) rfl (by kernel_rfl) (by kernel_rfl) (by kernel_rfl) (fun _ _ _ h => h) (Or.inl ⟨by rfl, ?_⟩) (by assumption) ?_
        rotate_left
        · (intro w hSw; (try dsimp only at hSw); go_simp <;> with_reducible rfl)
        simp only [Act.put, List.setIfInBounds_toArray, List.set_cons_zero, List.set_cons_succ]
        refine wpAnyH_take (i := 9) (oi := Oper.mk (some 51) _ _ _ _ _) (v := ?_) rfl (by kernel_rfl) (by kernel_rfl) (by kernel_rfl) (fun _ _ _ h => h) (Or.inl ⟨by rfl, ?_⟩) (by assumption) ?_
        rotate_left
        · (intro w hSw; (try dsimp only at hSw); go_simp <;> with_reducible rfl)
        simp only [Act.put, List.setIfInBounds_toArray, List.set_cons_zero, List.set_cons_succ]
        refine wpAnyH_take (i := 10) (oi := Oper.mk (some 52) _ _ _ _ _) (v := ?_) rfl (by kernel_rfl) (by kernel_rfl) (by kernel_rfl) (fun _ _ _ h => h) (Or.inl ⟨by rfl, ?_⟩) (by assumption) ?_
        rotate_left
        · (intro w hSw; (try dsimp only at hSw); go_simp <;> with_reducible rfl)
        simp only [Act.put, List.setIfInBounds_toArray, List.set_cons_zero, List.set_cons_succ]
        refine wpAnyH_take (i := 11) (oi := Oper.mk (some 53) _ _ _ _ _) (v := ?_) rfl (by kernel_rfl) (by kernel_rfl) (by kernel_rfl) (fun _ _ _ h => h) (Or.inl ⟨by rfl, ?_⟩) (by assumption) ?_
        rotate_left
        · (intro w hSw; (try dsimp only at hSw); go_simp <;> with_reducible rfl)
        simp only [Act.put, List.setIfInBounds_toArray, List.set_cons_zero, List.set_cons_succ]
        refine wpAnyH_take (i := 12) (oi := Oper.mk (some 54) _ _ _ _ _) (v := ?_) rfl (by kernel_rfl) (by kernel_rfl) (by kernel_rfl) (fun _ _ _ h => h) (Or.inl ⟨by rfl, ?_⟩) (by assumption) ?_
        rotate_left
        · (intro w hSw; (try dsimp only at hSw); go_simp <;> with_reducible rfl)
        simp only [Act.put, List.setIfInBounds_toArray, List.set_cons_zero, List.set_cons_succ]
        refine wpAnyH_take (i := 13) (oi := Oper.mk (some 55) _ _ _ _ _) (v := ?_) rfl (by kernel_rfl) (by kernel_rfl) (by kernel_rfl) (fun _ _ _ h => h) (Or.inl ⟨by rfl, ?_⟩) (by assumption) ?_
        rotate_left
        · (intro w hSw; (try dsimp only at hSw); go_simp <;> with_reducible rfl)
        simp only [Act.put, List.setIfInBounds_toArray, List.set_cons_zero, List.set_cons_succ]
        refine wpAnyH_take (i := 14) (oi := Oper.mk (some 56) _ _ _ _ _) (v := ?_) rfl (by kernel_rfl) (by kernel_rfl) (by kernel_rfl) (fun _ _ _ h => h) (Or.inl ⟨by rfl, ?_⟩) (by assumption) ?_
        rotate_left
        · (intro w hSw; (try dsimp only at hSw); go_simp <;> with_reducible rfl)
        simp only [Act.put, List.setIfInBounds_toArray, List.set_cons_zero, List.set_cons_succ]
        refine wpAnyH_take (i := 15) (oi := Oper.mk (some 57) _ _ _ _ _) (v := ?_) rfl (by kernel_rfl) (by kernel_rfl) (by kernel_rfl) (fun _ _ _ h => h) (Or.inl ⟨by rfl, ?_⟩) (by assumption) ?_
        rotate_left
        · (intro w hSw; (try dsimp only at hSw); go_simp <;> with_reducible rfl)
        simp only [Act.put, List.setIfInBounds_toArray, List.set_cons_zero, List.set_cons_succ]
        refine wpAnyH_take (i := 16) (oi := Oper.mk (some 58) _ _ _ _ _) (v := ?_) rfl (by kernel_rfl) (by kernel_rfl) (by kernel_rfl) (fun _ _ _ h => h) (Or.inl ⟨by rfl, ?_⟩) (by assumption) ?_
        rotate_left
        · (intro w hSw; (try dsimp only at hSw); go_simp <;> with_reducible rfl)
        simp only [Act.put, List.setIfInBounds_toArray, List.set_cons_zero, List.set_cons_succ]
        refine wpAnyH_take (i := 17) (oi := Oper.mk (some 59) _ _ _ _ _) (v := ?_) rfl (by kernel_rfl) (by kernel_rfl) (by kernel_rfl) (fun _ _ _ h => h) (Or.inl ⟨by rfl, ?_⟩) (by assumption) ?_
        rotate_left
        · (intro w hSw; (try dsimp only at hSw); go_simp <;> with_reducible rfl)
        simp only [Act.put, List.setIfInBounds_toArray, List.set_cons_zero, List.set_cons_succ]
        refine wpAnyH_take (i := 18) (oi := Oper.mk (some 60) _ _ _ _ _) (v := ?_) rfl (by kernel_rfl) (by kernel_rfl) (by kernel_rfl) (fun _ _ _ h => h) (Or.inl ⟨by rfl, ?_⟩) (by assumption) ?_
        rotate_left
        · (intro w hSw; (try dsimp only at hSw); go_simp <;> with_reducible rfl)
        simp only [Act.put, List.setIfInBounds_toArray, List.set_cons_zero, List.set_cons_succ]
        refine wpAnyH_take (i := 19) (oi := Oper.mk (some 61) _ _ _ _ _) (v := ?_) rfl (by kernel_rfl) (by kernel_rfl) (by kernel_rfl) (fun _ _ _ h => h) (Or.inl ⟨by rfl, ?_⟩) (by assumption) ?_
        rotate_left
        · (intro w hSw; (try dsimp only at hSw); go_simp <;> with_reducible rfl)
        simp only [Act.put, List.setIfInBounds_toArray, List.set_cons_zero, List.set_cons_succ]
        refine wpAnyH_take (i := 20) (oi := Oper.mk (some 62) _ _ _ _ _) (v := ?_) rfl (by kernel_rfl) (by kernel_rfl) (by kernel_rfl) (fun _ _ _ h => h) (Or.inl ⟨by rfl, ?_⟩) (by assumption) ?_
        rotate_left
        · (intro w hSw; (try dsimp only at hSw); go_simp <;> with_reducible rfl)
        simp only [Act.put, List.setIfInBounds_toArray, List.set_cons_zero, List.set_cons_succ]
        refine wpAnyH_take (i := 21) (oi := Oper.mk (some 63) _ _ _ _ _) (v := ?_) rfl (by kernel_rfl) (by kernel_rfl) (by kernel_rfl) (fun _ _ _ h => h) (Or.inl ⟨by rfl, ?_⟩) (by assumption) ?_
        rotate_left
        · (intro w hSw; (try dsimp only at hSw); go_simp <;> with_reducible rfl)
        simp only [Act.put, List.setIfInBounds_toArray, List.set_cons_zero, List.set_cons_succ]
        refine wpAnyH_take (i := 22) (oi := Oper.mk (some 64) _ _ _ _ _) (v := ?_) rfl (by kernel_rfl) (by kernel_rfl) (by kernel_rfl) (fun _ _ _ h => h) (Or.inl ⟨by rfl, ?_⟩) (by assumption) ?_
        rotate_left
        · (intro w hSw; (try dsimp only at hSw); go_simp <;> with_reducible rfl)
        simp only [Act.put, List.setIfInBounds_toArray, List.set_cons_zero, List.set_cons_succ]
        refine wpAnyH_take (i := 23) (oi := Oper.mk (some 65) _ _ _ _ _) (v := ?_) rfl (by kernel_rfl) (by kernel_rfl) (by kernel_rfl) (fun _ _ _ h => h) (Or.inl ⟨by rfl, ?_⟩) (by assumption) ?_
        rotate_left
        · (intro w hSw; (try dsimp only at hSw); go_simp <;> with_reducible rfl)
        simp only [Act.put, List.setIfInBounds_toArray, List.set_cons_zero, List.set_cons_succ]
        refine wpAnyH_take (i := 24) (oi := Oper.mk (some 66) _ _ _ _ _) (v := ?_) rfl (by kernel_rfl) (by kernel_rfl) (by kernel_rfl) (fun _ _ _ h => h) (Or.inl ⟨by rfl, ?_⟩) (by assumption) ?_
        rotate_left
        · (intro w hSw; (try dsimp only at hSw); go_simp <;> with_reducible rfl)
        simp only [Act.put, List.setIfInBounds_toArray, List.set_cons_zero, List.set_cons_succ]
        refine wpAnyH_take (i := 25) (oi := Oper.mk (some 67) _ _ _ _ _) (v := ?_) rfl (by kernel_rfl) (by kernel_rfl) (by kernel_rfl) (fun _ _ _ h => h) (Or.inl ⟨by rfl, ?_⟩) (by assumption) ?_
        rotate_left
        · (intro w hSw; (try dsimp only at hSw); go_simp <;> with_reducible rfl)
        simp only [Act.put, List.setIfInBounds_toArray, List.set_cons_zero, List.set_cons_succ]
        refine wpAnyH_take (i := 26) (oi := Oper.mk (some 68) _ _ _ _ _) (v := ?_) rfl (by kernel_rfl) (by kernel_rfl) (by kernel_rfl) (fun _ _ _ h => h) (Or.inl ⟨by rfl, ?_⟩) (by assumption) ?_
        rotate_left
        · (intro w hSw; (try dsimp only at hSw); go_simp <;> with_reducible rfl)
        simp only [Act.put, List.setIfInBounds_toArray, List.set_cons_zero, List.set_cons_succ]
        refine wpAnyH_take (i := 27) (oi := Oper.mk (some 69) _ _ _ _ _) (v := ?_) rfl (by kernel_rfl) (by kernel_rfl) (by kernel_rfl) (fun _ _ _ h => h) (Or.inl ⟨by rfl, ?_⟩) (by assumption) ?_
        rotate_left
        · (intro w hSw; (try dsimp only at hSw); go_simp <;> with_reducible rfl)
        simp only [Act.put, List.setIfInBounds_toArray, List.set_cons_zero, List.set_cons_succ]
        refine wpAnyH_take (i := 28) (oi := Oper.mk (some 70) _ _ _ _ _) (v := ?_) rfl (by kernel_rfl) (by kernel_rfl) (by kernel_rfl) (fun _ _ _ h => h) (Or.inl ⟨by rfl, ?_⟩) (by assumption) ?_
        rotate_left
        · (intro w hSw; (try dsimp only at hSw); go_simp <;> with_reducible rfl)
        simp only [Act.put, List.setIfInBounds_toArray, List.set_cons_zero, List.set_cons_succ]
        refine wpAnyH_ready (rs := [29]) (by kernel_rfl) (by simp) (AllReadyH.cons (o := Oper.mk (some 71) _ _ _ _ _) rfl (fun K hK => ?_) AllReadyH.nil)
        go_simp
        go_at_call 12
        refine (HRS.out _ F6.out).mono ?_
        rintro _ w7 ⟨v7, rfl, f7, hv7⟩
        obtain ⟨q7, c7, rfl, -, -, -⟩ := slForm hv7.own
        have o7 := hv7.own
        rw [HNS.out] at o7
        rw [HNS.out]
        have k7 := cv8 HNS.out o7
        have F7 := Lib.hid (F6.out.trans0 f7)
        refine hK.out _ _ ⟨cv8 HL.out (f7.owns O5D.out (fun _ _ h => h)), cv8 HL.out (f7.owns OTD.out (fun _ _ h => h)), cv8 HNS.out (f7.owns OS5.out (fun _ _ h => h))⟩ (fun hHeld7 => ?_)
        clear hK K f7 o7 hv7
        try simp only [Act.put, List.setIfInBounds_toArray, List.set_cons_zero, List.set_cons_succ]
        refine wpAnyH_ready (rs := [30]) (by kernel_rfl) (by simp) (AllReadyH.cons (o := Oper.mk (some 72) _ _ _ _ _) rfl (fun K hK => ?_) AllReadyH.nil)
        go_simp
        refine hK.out _ _ hHeld7 (fun _ => ?_)
        clear hK K
        try simp only [Act.put, List.setIfInBounds_toArray, List.set_cons_zero, List.set_cons_succ]
        refine wpAnyH_take (i := 31) (oi := Oper.mk (some 73) _ _ _ _ _) (v := ?_) rfl (by kernel_rfl) (by kernel_rfl) (by kernel_rfl) (fun _ _ _ h => h) (Or.inl ⟨by rfl, ?_⟩) (by assumption) ?_
        rotate_left
        · (intro w hSw; (try dsimp only at hSw); go_simp <;> with_reducible rfl)
        simp only [Act.put, List.setIfInBounds_toArray, List.set_cons_zero, List.set_cons_succ]
        refine wpAnyH_take (i := 32) (oi := Oper.mk (some 74) _ _ _ _ _) (v := ?_) rfl (by kernel_rfl) (by kernel_rfl) (by kernel_rfl) (fun _ _ _ h => h) (Or.inl ⟨by rfl, ?_⟩) (by assumption) ?_
        rotate_left
        · (intro w hSw; (try dsimp only at hSw); go_simp <;> with_reducible rfl)
        simp only [Act.put, List.setIfInBounds_toArray, List.set_cons_zero, List.set_cons_succ]
        refine wpAnyH_take (i := 33) (oi := Oper.mk (some 4) _ _ _ _ _) (v := ?_) rfl (by kernel_rfl) (by kernel_rfl) (by kernel_rfl) (fun _ _ _ h => h) (Or.inl ⟨by rfl, ?_⟩) (by assumption) ?_
        rotate_left
        · (intro w hSw; (try dsimp only at hSw); go_simp <;> with_reducible rfl)
        simp only [Act.put, List.setIfInBounds_toArray, List.set_cons_zero, List.set_cons_succ]
        refine wpAnyH_done (by kernel_rfl) ?_ _
        refine NoPanic.normal ?_
        go_wp2_with fail
        go_ret
        exact ⟨rfl, HFR.out.trans0 F7.out⟩
      · have hb' : (N : Int) > 65535 := by omega
        have z1 : ((NS : Int) == (N : Int) + 10) = true := by
          have hl := HLEN.out
          rw [if_neg hb] at hl
          rw [beq_iff_eq]; omega
        go_wp2_with fail
        have hNb : N ≤ 100000 := by omega
        have wr0 : IntKind.i64.wrap (5 * 2) = 10 := by decide
        have wr2 : IntKind.i64.wrap 10 = 10 := by decide
        have wr1 : IntKind.i64.wrap ((N : Int) + 10) = (N : Int) + 10 := IntWalk.i64_in _ (by omega)
        clear hj hb hb' HLEN HL8 H256 HG O2 F2 e1 hN1 hjn OWN F4 F5
        refine wp_region_noPanic ?_
        refine wp_region_held_drew (S := fun w' => (convert 22 9 (.slice q5 N c5)).run Try.prog w' = .ok (.string (strB L)) w' ∧ (convert 22 9 (.slice (some ⟨g, 0, none⟩) N N)).run Try.prog w' = .ok (.string (strB L)) w' ∧ (convert 22 9 (.slice q NS c)).run Try.prog w' = .ok (.string (strB S)) w') (by kernel_rfl) ⟨kout, kt, ks⟩ (fun hHeld => ?_)
        clear kout kt ks
        refine wpAnyH_take (i := 0) (oi := Oper.mk (some 42) _ _ _ _ _) (v := ?_) rfl (by kernel_rfl) (by kernel_rfl) (by kernel_rfl) (fun _ _ _ h => h) (Or.inl ⟨by rfl, ?_⟩) (by assumption) ?_
        rotate_left
        · (intro w hSw; (try dsimp only at hSw); go_simp <;> with_reducible rfl)
        simp only [Act.put, List.setIfInBounds_toArray, List.set_cons_zero, List.set_cons_succ]
        refine wpAnyH_take (i := 1) (oi := Oper.mk (some 43) _ _ _ _ _) (v := ?_) rfl (by kernel_rfl) (by kernel_rfl) (by kernel_rfl) (fun _ _ _ h => h) (Or.inl ⟨by rfl, ?_⟩) (by assumption) ?_
        rotate_left
        · (intro w hSw; (try dsimp only at hSw); go_simp <;> with_reducible rfl)
        simp only [Act.put, List.setIfInBounds_toArray, List.set_cons_zero, List.set_cons_succ]
        refine wpAnyH_take (i := 2) (oi := Oper.mk (some 44) _ _ _ _ _) (v := ?_) rfl (by kernel_rfl) (by kernel_rfl) (by kernel_rfl) (fun _ _ _ h => h) (Or.inl ⟨by rfl, ?_⟩) (by assumption) ?_
        rotate_left
        · (intro w hSw; (try dsimp only at hSw); go_simp <;> with_reducible rfl)
        simp only [Act.put, List.setIfInBounds_toArray, List.set_cons_zero, List.set_cons_succ]
        refine wpAnyH_take (i := 3) (oi := Oper.mk (some 45) _ _ _ _ _) (v := ?_) rfl (by kernel_rfl) (by kernel_rfl) (by kernel_rfl) (fun _ _ _ h => h) (Or.inl ⟨by rfl, ?_⟩) (by assumption) ?_
        rotate_left
        · (intro w hSw; (try dsimp only at hSw); go_simp <;> with_reducible rfl)
        simp only [Act.put, List.setIfInBounds_toArray, List.set_cons_zero, List.set_cons_succ]
        refine wpAnyH_take (i := 4) (oi := Oper.mk (some 46) _ _ _ _ _) (v := ?_) rfl (by kernel_rfl) (by kernel_rfl) (by kernel_rfl) (fun _ _ _ h => h) (Or.inl ⟨by rfl, ?_⟩) (by assumption) ?_
        rotate_left
        · (intro w hSw; (try dsimp only at hSw); go_simp <;> with_reducible rfl)
        simp only [Act.put, List.setIfInBounds_toArray, List.set_cons_zero, List.set_cons_succ]
        refine wpAnyH_take (i := 5) (oi := Oper.mk (some 47) _ _ _ _ _) (v := ?_) rfl (by kernel_rfl) (by kernel_rfl) (by kernel_rfl) (fun _ _ _ h => h) (Or.inl ⟨by rfl, ?_⟩) (by assumption) ?_
        rotate_left
        · (intro w hSw; (try dsimp only at hSw); go_simp <;> with_reducible rfl)
        simp only [Act.put, List.setIfInBounds_toArray, List.set_cons_zero, List.set_cons_succ]
        refine wpAnyH_take (i := 6) (oi := Oper.mk (some 48) _ _ _ _ _) (v := ?_) rfl (by kernel_rfl) (by kernel_rfl) (by kernel_rfl) (fun _ _ _ h => h) (Or.inl ⟨by rfl, ?_⟩) (by assumption) ?_
        rotate_left
        · (intro w hSw; (try dsimp only at hSw); go_simp <;> with_reducible rfl)
        simp only [Act.put, List.setIfInBounds_toArray, List.set_cons_zero, List.set_cons_succ]
        refine wpAnyH_take (i := 7) (oi := Oper.mk (some 49) _ _ _ _ _) (v := ?_) rfl (by kernel_rfl) (by kernel_rfl) (by kernel_rfl) (fun _ _ _ h => h) (Or.inl ⟨by rfl, ?_⟩) (by assumption) ?_
        rotate_left
        · (intro w hSw; (try dsimp only at hSw); go_simp <;> with_reducible rfl)
        simp only [Act.put, List.setIfInBounds_toArray, List.set_cons_zero, List.set_cons_succ]
        refine wpAnyH_take (i := 8) (oi := Oper.mk (some 50) _ _ _ _ _) (v := ?_) rfl (by kernel_rfl) (by kernel_rfl) (by kernel_rfl) (fun _ _ _ h => h) (Or.inl ⟨by rfl, ?_⟩) (by assumption) ?_
        rotate_left
        · (intro w hSw; (try dsimp only at hSw); go_simp <;> with_reducible rfl)
        simp only [Act.put, List.setIfInBounds_toArray, List.set_cons_zero, List.set_cons_succ]
        refine wpAnyH_take (i := 9) (oi := Oper.mk (some 51) _ _ _ _ _) (v := ?_) rfl (by kernel_rfl) (by kernel_rfl) (by kernel_rfl) (fun _ _ _ h => h) (Or.inl ⟨by rfl, ?_⟩) (by assumption) ?_
        rotate_left
        · (intro w hSw; (try dsimp only at hSw); go_simp <;> with_reducible rfl)
        simp only [Act.put, List.setIfInBounds_toArray, List.set_cons_zero, List.set_cons_succ]
        refine wpAnyH_take (i := 10) (oi := Oper.mk (some 52) _ _ _ _ _) (v := ?_) rfl (by kernel_rfl) (by kernel_rfl) (by kernel_rfl) (fun _ _ _ h => h) (Or.inl ⟨by rfl, ?_⟩) (by assumption) ?_
        rotate_left
        · (intro w hSw; (try dsimp only at hSw); go_simp <;> with_reducible rfl)
        simp only [Act.put, List.setIfInBounds_toArray, List.set_cons_zero, List.set_cons_succ]
        refine wpAnyH_take (i := 11) (oi := Oper.mk (some 53) _ _ _ _ _) (v := ?_) rfl (by kernel_rfl) (by kernel_rfl) (by kernel_rfl) (fun _ _ _ h => h) (Or.inl ⟨by rfl, ?_⟩) (by assumption) ?_
        rotate_left
        · (intro w hSw; (try dsimp only at hSw); go_simp <;> with_reducible rfl)
        simp only [Act.put, List.setIfInBounds_toArray, List.set_cons_zero, List.set_cons_succ]
        refine wpAnyH_take (i := 12) (oi := Oper.mk (some 54) _ _ _ _ _) (v := ?_) rfl (by kernel_rfl) (by kernel_rfl) (by kernel_rfl) (fun _ _ _ h => h) (Or.inl ⟨by rfl, ?_⟩) (by assumption) ?_
        rotate_left
        · (intro w hSw; (try dsimp only at hSw); go_simp <;> with_reducible rfl)
        simp only [Act.put, List.setIfInBounds_toArray, List.set_cons_zero, List.set_cons_succ]
        refine wpAnyH_take (i := 13) (oi := Oper.mk (some 55) _ _ _ _ _) (v := ?_) rfl (by kernel_rfl) (by kernel_rfl) (by kernel_rfl) (fun _ _ _ h => h) (Or.inl ⟨by rfl, ?_⟩) (by assumption) ?_
        rotate_left
        · (intro w hSw; (try dsimp only at hSw); go_simp <;> with_reducible rfl)
        simp only [Act.put, List.setIfInBounds_toArray, List.set_cons_zero, List.set_cons_succ]
        refine wpAnyH_take (i := 14) (oi := Oper.mk (some 56) _ _ _ _ _) (v := ?_) rfl (by kernel_rfl) (by kernel_rfl) (by kernel_rfl) (fun _ _ _ h => h) (Or.inl ⟨by rfl, ?_⟩) (by assumption) ?_
        rotate_left
        · (intro w hSw; (try dsimp only at hSw); go_simp <;> with_reducible rfl)
        simp only [Act.put, List.setIfInBounds_toArray, List.set_cons_zero, List.set_cons_succ]
        refine wpAnyH_take (i := 15) (oi := Oper.mk (some 57) _ _ _ _ _) (v := ?_) rfl (by kernel_rfl) (by kernel_rfl) (by kernel_rfl) (fun _ _ _ h => h) (Or.inl ⟨by rfl, ?_⟩) (by assumption) ?_
        rotate_left
        · (intro w hSw; (try dsimp only at hSw); go_simp <;> with_reducible rfl)
        simp only [Act.put, List.setIfInBounds_toArray, List.set_cons_zero, List.set_cons_succ]
        refine wpAnyH_take (i := 16) (oi := Oper.mk (some 58) _ _ _ _ _) (v := ?_) rfl (by kernel_rfl) (by kernel_rfl) (by kernel_rfl) (fun _ _ _ h => h) (Or.inl ⟨by rfl, ?_⟩) (by assumption) ?_
        rotate_left
        · (intro w hSw; (try dsimp only at hSw); go_simp <;> with_reducible rfl)
        simp only [Act.put, List.setIfInBounds_toArray, List.set_cons_zero, List.set_cons_succ]
        refine wpAnyH_take (i := 17) (oi := Oper.mk (some 59) _ _ _ _ _) (v := ?_) rfl (by kernel_rfl) (by kernel_rfl) (by kernel_rfl) (fun _ _ _ h => h) (Or.inl ⟨by rfl, ?_⟩) (by assumption) ?_
        rotate_left
        · (intro w hSw; (try dsimp only at hSw); go_simp <;> with_reducible rfl)
        simp only [Act.put, List.setIfInBounds_toArray, List.set_cons_zero, List.set_cons_succ]
        refine wpAnyH_take (i := 18) (oi := Oper.mk (some 60) _ _ _ _ _) (v := ?_) rfl (by kernel_rfl) (by kernel_rfl) (by kernel_rfl) (fun _ _ _ h => h) (Or.inl ⟨by rfl, ?_⟩) (by assumption) ?_
        rotate_left
        · (intro w hSw; (try dsimp only at hSw); go_simp <;> with_reducible rfl)
        simp only [Act.put, List.setIfInBounds_toArray, List.set_cons_zero, List.set_cons_succ]
        refine wpAnyH_take (i := 19) (oi := Oper.mk (some 61) _ _ _ _ _) (v := ?_) rfl (by kernel_rfl) (by kernel_rfl) (by kernel_rfl) (fun _ _ _ h => h) (Or.inl ⟨by rfl, ?_⟩) (by assumption) ?_
        rotate_left
        · (intro w hSw; (try dsimp only at hSw); go_simp <;> with_reducible rfl)
        simp only [Act.put, List.setIfInBounds_toArray, List.set_cons_zero, List.set_cons_succ]
        refine wpAnyH_take (i := 20) (oi := Oper.mk (some 62) _ _ _ _ _) (v := ?_) rfl (by kernel_rfl) (by kernel_rfl) (by kernel_rfl) (fun _ _ _ h => h) (Or.inl ⟨by rfl, ?_⟩) (by assumption) ?_
        rotate_left
        · (intro w hSw; (try dsimp only at hSw); go_simp <;> with_reducible rfl)
        simp only [Act.put, List.setIfInBounds_toArray, List.set_cons_zero, List.set_cons_succ]
        refine wpAnyH_take (i := 21) (oi := Oper.mk (some 63) _ _ _ _ _) (v := ?_) rfl (by kernel_rfl) (by kernel_rfl) (by kernel_rfl) (fun _ _ _ h => h) (Or.inl ⟨by rfl, ?_⟩) (by assumption) ?_
        rotate_left
        · (intro w hSw; (try dsimp only at hSw); go_simp <;> with_reducible rfl)
        simp only [Act.put, List.setIfInBounds_toArray, List.set_cons_zero, List.set_cons_succ]
        refine wpAnyH_take (i := 22) (oi := Oper.mk (some 64) _ _ _ _ _) (v := ?_) rfl (by kernel_rfl) (by kernel_rfl) (by kernel_rfl) (fun _ _ _ h => h) (Or.inl ⟨by rfl, ?_⟩) (by assumption) ?_
        rotate_left
        · (intro w hSw; (try dsimp only at hSw); go_simp <;> with_reducible rfl)
        simp only [Act.put, List.setIfInBounds_toArray, List.set_cons_zero, List.set_cons_succ]
        refine wpAnyH_take (i := 23) (oi := Oper.mk (some 65) _ _ _ _ _) (v := ?_) rfl (by kernel_rfl) (by kernel_rfl) (by kernel_rfl) (fun _ _ _ h => h) (Or.inl ⟨by rfl, ?_⟩) (by assumption) ?_
        rotate_left
        · (intro w hSw; (try dsimp only at hSw); go_simp <;> with_reducible rfl)
        simp only [Act.put, List.setIfInBounds_toArray, List.set_cons_zero, List.set_cons_succ]
        refine wpAnyH_take (i := 24) (oi := Oper.mk (some 66) _ _ _ _ _) (v := ?_) rfl (by kernel_rfl) (by kernel_rfl) (by kernel_rfl) (fun _ _ _ h => h) (Or.inl ⟨by rfl, ?_⟩) (by assumption) ?_
        rotate_left
        · (intro w hSw; (try dsimp only at hSw); go_simp <;> with_reducible rfl)
        simp only [Act.put, List.setIfInBounds_toArray, List.set_cons_zero, List.set_cons_succ]
        refine wpAnyH_take (i := 25) (oi := Oper.mk (some 67) _ _ _ _ _) (v := ?_) rfl (by kernel_rfl) (by kernel_rfl) (by kernel_rfl) (fun _ _ _ h => h) (Or.inl ⟨by rfl, ?_⟩) (by assumption) ?_
        rotate_left
        · (intro w hSw; (try dsimp only at hSw); go_simp <;> with_reducible rfl)
        simp only [Act.put, List.setIfInBounds_toArray, List.set_cons_zero, List.set_cons_succ]
        refine wpAnyH_take (i := 26) (oi := Oper.mk (some 68) _ _ _ _ _) (v := ?_) rfl (by kernel_rfl) (by kernel_rfl) (by kernel_rfl) (fun _ _ _ h => h) (Or.inl ⟨by rfl, ?_⟩) (by assumption) ?_
        rotate_left
        · (intro w hSw; (try dsimp only at hSw); go_simp <;> with_reducible rfl)
        simp only [Act.put, List.setIfInBounds_toArray, List.set_cons_zero, List.set_cons_succ]
        refine wpAnyH_take (i := 27) (oi := Oper.mk (some 69) _ _ _ _ _) (v := ?_) rfl (by kernel_rfl) (by kernel_rfl) (by kernel_rfl) (fun _ _ _ h => h) (Or.inl ⟨by rfl, ?_⟩) (by assumption) ?_
        rotate_left
        · (intro w hSw; (try dsimp only at hSw); go_simp <;> with_reducible rfl)
        simp only [Act.put, List.setIfInBounds_toArray, List.set_cons_zero, List.set_cons_succ]
        refine wpAnyH_take (i := 28) (oi := Oper.mk (some 70) _ _ _ _ _) (v := ?_) rfl (by kernel_rfl) (by kernel_rfl) (by kernel_rfl) (fun _ _ _ h => h) (Or.inl ⟨by rfl, ?_⟩) (by assumption) ?_
        rotate_left
        · (intro w hSw; (try dsimp only at hSw); go_simp <;> with_reducible rfl)
        simp only [Act.put, List.setIfInBounds_toArray, List.set_cons_zero, List.set_cons_succ]
        refine wpAnyH_ready (rs := [29]) (by kernel_rfl) (by simp) (AllReadyH.cons (o := Oper.mk (some 71) _ _ _ _ _) rfl (fun K hK => ?_) AllReadyH.nil)
        go_simp
        go_at_call 12
        refine (HRS.out _ F6.out).mono ?_
        rintro _ w7 ⟨v7, rfl, f7, hv7⟩
        obtain ⟨q7, c7, rfl, -, -, -⟩ := slForm hv7.own
        have o7 := hv7.own
        rw [HNS.out] at o7
        rw [HNS.out]
        have k7 := cv8 HNS.out o7
        have F7 := Lib.hid (F6.out.trans0 f7)
        refine hK.out _ _ ⟨cv8 HL.out (f7.owns O5D.out (fun _ _ h => h)), cv8 HL.out (f7.owns OTD.out (fun _ _ h => h)), cv8 HNS.out (f7.owns OS5.out (fun _ _ h => h))⟩ (fun hHeld7 => ?_)
        clear hK K f7 o7 hv7
        try simp only [Act.put, List.setIfInBounds_toArray, List.set_cons_zero, List.set_cons_succ]
        refine wpAnyH_ready (rs := [30]) (by kernel_rfl) (by simp) (AllReadyH.cons (o := Oper.mk (some 72) _ _ _ _ _) rfl (fun K hK => ?_) AllReadyH.nil)
        go_simp
        refine hK.out _ _ hHeld7 (fun _ => ?_)
        clear hK K
        try simp only [Act.put, List.setIfInBounds_toArray, List.set_cons_zero, List.set_cons_succ]
        refine wpAnyH_take (i := 31) (oi := Oper.mk (some 73) _ _ _ _ _) (v := ?_) rfl (by kernel_rfl) (by kernel_rfl) (by kernel_rfl) (fun _ _ _ h => h) (Or.inl ⟨by rfl, ?_⟩) (by assumption) ?_
        rotate_left
        · (intro w hSw; (try dsimp only at hSw); go_simp <;> with_reducible rfl)
        simp only [Act.put, List.setIfInBounds_toArray, List.set_cons_zero, List.set_cons_succ]
        refine wpAnyH_take (i := 32) (oi := Oper.mk (some 74) _ _ _ _ _) (v := ?_) rfl (by kernel_rfl) (by kernel_rfl) (by kernel_rfl) (fun _ _ _ h => h) (Or.inl ⟨by rfl, ?_⟩) (by assumption) ?_
        rotate_left
        · (intro w hSw; (try dsimp only at hSw); go_simp <;> with_reducible rfl)
        simp only [Act.put, List.setIfInBounds_toArray, List.set_cons_zero, List.set_cons_succ]
        refine wpAnyH_take (i := 33) (oi := Oper.mk (some 4) _ _ _ _ _) (v := ?_) rfl (by kernel_rfl) (by kernel_rfl) (by kernel_rfl) (fun _ _ _ h => h) (Or.inl ⟨by rfl, ?_⟩) (by assumption) ?_
        rotate_left
        · (intro w hSw; (try dsimp only at hSw); go_simp <;> with_reducible rfl)
        simp only [Act.put, List.setIfInBounds_toArray, List.set_cons_zero, List.set_cons_succ]
        refine wpAnyH_done (by kernel_rfl) ?_ _
        refine NoPanic.normal ?_
        go_wp2_with fail
        go_ret
        exact ⟨rfl, HFR.out.trans0 F7.out⟩
end Go.Proofs.Ytfibhgohenkfbaa
