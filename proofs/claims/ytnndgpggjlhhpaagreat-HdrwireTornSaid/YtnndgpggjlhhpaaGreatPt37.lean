/- DefPure -/
import Derived.Test.YtnndgpggjlhhpaaGreatPt1
import Derived.Test.YtnndgpggjlhhpaaGreatPt2
import Derived.Test.YtnndgpggjlhhpaaGreatPt15
import Derived.Test.YtnndgpggjlhhpaaGreatPt20
import Derived.Test.YtnndgpggjlhhpaaGreatPt22
import Derived.Test.YtnndgpggjlhhpaaGreatPt23
import Derived.Test.YtnndgpggjlhhpaaGreatPt25
import Derived.Test.YtnndgpggjlhhpaaGreatPt26
import Derived.Test.YtnndgpggjlhhpaaGreatPt27
import Derived.IntWalk
import Derived.Laws.MakeOwn
import Derived.BigRegion
import Derived.Laws.OwnMore
import Derived.Lib.MakeNoZero
import Derived.Laws.CopyOwn
import Derived.StillTailTactics
import Derived.WalkKit
import Derived.WalkSpells
import Derived.WalkLawsBesides
import Derived.Deep.QuietTactic
import Derived.BigQuiet
import Derived.RegionTactic
import Derived.Deep.AppendLies
import Derived.Deep.RegionLaw
import Derived.Laws.ResultCell
import Derived.Laws.EntriesVeiled
import Derived.Lib.Hide
import Derived.Test.YtnndgpggjlhhpaaGreatRows
import Derived.Laws.BytesArg
import Derived.Lib.SlBytesConst
import Derived.Maps.AppendAt
import Derived.Laws.AppendOwnNone
import Derived.DeepKeys4
import Derived.WideKeyPair
import Derived.MapKept
import Derived.ChangeMaps
import Derived.Laws.Cover3
import Derived.Deep.RegionHeld3
import Derived.Laws.Tables
import Derived.Defers
import Derived.Recover
set_option maxRecDepth 100000
set_option maxHeartbeats 8000000
namespace Go.Proofs.YtnndgpggjlhhpaaGreat
theorem bts_pad (L : List Nat) (h : Bit01 L) : ∃ Z, bts (byt L) = L ++ Z := by
  have e := slice_byt L h 0 L.length (by omega)
  rw [List.drop_zero, List.drop_zero, List.take_length] at e
  refine ⟨(bts (byt L)).drop L.length, ?_⟩
  have := List.take_append_drop L.length (bts (byt L))
  rw [e] at this
  exact this.symm
structure At (B : List Nat) (k : Nat) (S : List Nat) : Prop where
  le : k ≤ 8 * B.length
  eq : (bts B).drop k = S
theorem At.go {B : List Nat} {k : Nat} {Y R : List Nat} (h : At B k (Y ++ R)) : At B (k + Y.length) R := by
  have hl := congrArg List.length h.eq
  rw [List.length_drop, bts_length, List.length_append] at hl
  have := h.le
  refine ⟨by omega, ?_⟩
  rw [← List.drop_drop, h.eq, List.drop_left]
theorem At.fits {B : List Nat} {k : Nat} {Y R : List Nat} (h : At B k (Y ++ R)) : k + Y.length ≤ 8 * B.length := h.go.le
theorem At.grp {B : List Nat} {k n c : Nat} {R : List Nat} (h : At B k (grp n c ++ R)) (hn : n < 2 ^ c) : rGrp B c k = .ok n (k + c) := by
  have hf := h.fits
  rw [grp_length] at hf
  rw [rGrp_yes hf]
  unfold bitsAt
  rw [h.eq, List.take_left' (grp_length n c), num_grp, Nat.mod_eq_of_lt hn]
theorem At.sym {B l : List Nat} {k i : Nat} {R : List Nat} (h : At B k (code (cod l i) (len l i) ++ R)) (hi : 0 < len l i) (hc : cod l i < 2 ^ len l i) : rSym B l k = .ok i (k + len l i) := by
  refine rSym_hit ⟨hi, ?_, ?_⟩
  · rw [h.eq, List.length_append, code_length]; omega
  · rw [h.eq, List.take_left' (code_length _ _), val_code, Nat.mod_eq_of_lt hc]
theorem fx_two (i : Nat) (h : i < 288) : cod fixLs i < 2 ^ len fixLs i := by
  have key : ∀ k : Fin 288, cod fixLs k.val < 2 ^ len fixLs k.val := by decide +kernel
  exact key ⟨i, h⟩
theorem fv_two (i : Nat) (h : i < 32) : cod fives i < 2 ^ len fives i := by
  have key : ∀ k : Fin 32, cod fives k.val < 2 ^ len fives k.val := by decide +kernel
  exact key ⟨i, h⟩
theorem again_run (b : List Nat) (k d s : Nat) (hd : 0 < d) (hdk : d ≤ k) (hs : k + s ≤ b.length) (hr : ∀ j, j < s → b.getD (k - d + j) 0 = b.getD (k + j) 0) : ∀ n, n ≤ s → again d n (b.take k) = b.take (k + n)
  | 0, _ => rfl
  | n + 1, hn => by
    rw [again_succ, again_run b k d s hd hdk hs hr n (by omega)]
    have hlen : (b.take (k + n)).length = k + n := by rw [List.length_take]; omega
    have e1 : (b.take (k + n)).getD (k + n - d) 0 = b.getD (k + n - d) 0 := by
      simp only [List.getD, List.getElem?_take]
      rw [if_pos (by omega)]
    rw [hlen, e1, show k + n - d = k - d + n by omega, hr n (by omega), show k + (n + 1) = k + n + 1 by omega, List.take_succ_eq_append_getElem (by omega)]
    congr 2
    simp only [List.getD]
    rw [List.getElem?_eq_getElem (by omega)]
    rfl
theorem tkB_two (s d : Nat) (hd : 0 < d) : tkB (0, s, d) = code (cod fixLs (lenS s)) (len fixLs (lenS s)) ++ (grp (s - baseN (lenS s)) (baseC (lenS s)) ++ (code (cod fives (spnS d)) (len fives (spnS d)) ++ grp (d - farN (spnS d)) (farC (spnS d)))) := by
  unfold tkB
  rw [if_neg (by simp only; omega), fx_eq, numB, numB, List.append_assoc]
theorem step_tok (b B R : List Nat) (k pos : Nat) (hk : k < b.length) (h8 : ∀ x ∈ b, x < 256) (h : At B pos (tkB (M.tok b k) ++ R)) :
    rStep B b.length fixLs' fives (b.take k) pos = .ok (false, b.take (k + M.wid (M.tok b k))) (pos + (tkB (M.tok b k)).length) := by
  have htl : (b.take k).length = k := by rw [List.length_take]; omega
  rcases M.tok_is b k hk with ⟨e, -⟩ | ⟨s, d, e, h3, h258, hd, hdk, hd2, hks, hrun, -⟩
  · rw [e] at h ⊢
    have hx : b.getD k 0 = b[k] := by simp [List.getD, hk]
    have hx8 : b.getD k 0 < 256 := by rw [hx]; exact h8 _ (List.getElem_mem hk)
    have l5 := fx_len (b.getD k 0) (by omega)
    have l6 := fx_two (b.getD k 0) (by omega)
    have ht : tkB (b.getD k 0, 0, 0) = code (cod fixLs (b.getD k 0)) (len fixLs (b.getD k 0)) := by unfold tkB; rw [if_pos rfl, fx_eq]
    rw [ht] at h ⊢
    rw [code_length, fx_eq]
    have hs := h.sym l5.1 l6
    unfold rStep
    rw [hs, Res.then_ok, if_pos hx8, htl, rIf_yes (decide_eq_true (by omega)), Res.then_ok]
    rw [show M.wid (b.getD k 0, 0, 0) = 1 from rfl, List.take_succ_eq_append_getElem hk, hx]
  · rw [e] at h ⊢
    have l1 := lenS_is h3 h258
    have l2 := lenS_le s
    have l3 := spnS_is hd hd2
    have l4 := spnS_le d
    have l5 := fx_len (lenS s) (by omega)
    have l6 := fx_two (lenS s) (by omega)
    have l9 := fv_len (spnS d) (by omega)
    have l10 := fv_two (spnS d) (by omega)
    have ht := tkB_two s d hd
    rw [ht] at h ⊢
    simp only [List.append_assoc] at h
    have a1 := h.sym l5.1 l6
    have h2 := h.go
    rw [code_length] at h2
    have a2 := h2.grp (by omega)
    have h3' := h2.go
    rw [grp_length] at h3'
    have a3 := h3'.sym (by omega) l10
    have h4 := h3'.go
    rw [code_length] at h4
    have a4 := h4.grp (by omega)
    have hrr : ∀ j, j < s → b.getD (k - d + j) 0 = b.getD (k + j) 0 := fun j hj => (M.run_all b 258 (k - d) k j (by rw [hrun]; exact hj)).2
    have hag := again_run b k d s hd hdk hks hrr s (Nat.le_refl _)
    have hwid : M.wid (0, s, d) = s := by unfold M.wid; rw [if_neg (by simp only; omega)]
    unfold rStep
    rw [fx_eq, a1, Res.then_ok, if_neg (by omega), if_neg (by omega)]
    unfold rBack
    rw [rIf_yes (decide_eq_true l2.2), Res.then_ok, a2, Res.then_ok, a3, Res.then_ok, rIf_yes (decide_eq_true l4), Res.then_ok, a4, Res.then_ok, htl,
      rIf_yes (decide_eq_true (by omega)), Res.then_ok, rIf_yes (decide_eq_true (by omega)), Res.then_ok, Res.then_ok,
      show farN (spnS d) + (d - farN (spnS d)) = d by omega, show baseN (lenS s) + (s - baseN (lenS s)) = s by omega, hag, hwid]
    congr 1
    simp only [List.length_append, code_length, grp_length]
    omega
theorem tkB_pos (b : List Nat) (k : Nat) (hk : k < b.length) (h8 : ∀ x ∈ b, x < 256) : 0 < (tkB (M.tok b k)).length := by
  rcases M.tok_is b k hk with ⟨e, -⟩ | ⟨s, d, e, h3, h258, hd, hdk, hd2, hks, hrun, -⟩
  · rw [e]
    have hx : b.getD k 0 = b[k] := by simp [List.getD, hk]
    have hx8 : b.getD k 0 < 256 := by rw [hx]; exact h8 _ (List.getElem_mem hk)
    unfold tkB
    rw [if_pos rfl, fx_eq, code_length]
    exact (fx_len _ (by omega)).1
  · rw [e]
    have l2 := lenS_le s
    rw [tkB_two s d hd, List.length_append, code_length]
    have := fx_len (lenS s) (by omega)
    omega
theorem syms_toks (b B R : List Nat) (h8 : ∀ x ∈ b, x < 256) : ∀ m k pos, b.length ≤ k + m → k ≤ b.length → At B pos (tksB (M.toks b k) ++ (code (cod fixLs' 256) (len fixLs' 256) ++ R)) →
    rSyms B b.length fixLs' fives (b.take k) pos = .ok b (pos + (tksB (M.toks b k)).length + len fixLs' 256)
  | m, k, pos, hm, hk, h => by
    by_cases hkl : k < b.length
    · cases m with
      | zero => omega
      | succ m =>
        have hw := M.wid_pos b k hkl
        have hp := tkB_pos b k hkl h8
        rw [M.toks_in b k hkl, show tksB (M.tok b k :: M.toks b (k + M.wid (M.tok b k))) = tkB (M.tok b k) ++ tksB (M.toks b (k + M.wid (M.tok b k))) from rfl, List.append_assoc] at h
        have hs := step_tok b B _ k pos hkl h8 h
        rw [rSyms_go hs (by omega) h.fits, syms_toks b B R h8 m _ _ (by omega) hw.2 h.go, M.toks_in b k hkl,
          show tksB (M.tok b k :: M.toks b (k + M.wid (M.tok b k))) = tkB (M.tok b k) ++ tksB (M.toks b (k + M.wid (M.tok b k))) from rfl, List.length_append]
        congr 1
        omega
    · obtain rfl : k = b.length := by omega
      rw [M.toks_out b _ (Nat.le_refl _)] at h ⊢
      have h2 : At B pos (code (cod fixLs 256) (len fixLs 256) ++ R) := by rw [← fx_eq]; exact h
      have hs := h2.sym (fx_len 256 (by decide)).1 (fx_two 256 (by decide))
      refine (rSyms_end (T1 := b) (k1 := pos + len fixLs 256) ?_).trans (by rw [fx_eq]; rfl)
      unfold rStep
      rw [fx_eq, hs, Res.then_ok, if_neg (by decide), if_pos rfl, List.take_length]
theorem infl_fixed (b : List Nat) (h8 : ∀ x ∈ b, x < 256) : infl (fxd b) b.length = .ok b (fxB b).length := by
  obtain ⟨Z, hZ⟩ := bts_pad (fxB b) (fxB_bit b)
  obtain ⟨B, hB⟩ : ∃ B, fxd b = B := ⟨_, rfl⟩
  rw [show byt (fxB b) = B from hB] at hZ
  rw [hB]
  have h0 : At B 0 (grp 1 1 ++ (grp 1 2 ++ (tksB (M.toks b 0) ++ (code (cod fixLs' 256) (len fixLs' 256) ++ Z)))) := ⟨by omega, by
    rw [List.drop_zero, hZ]
    unfold fxB
    simp only [List.append_assoc]
    rfl⟩
  have a1 := h0.grp (by decide)
  have h1 := h0.go
  rw [grp_length] at h1
  have a2 := h1.grp (by decide)
  have h2 := h1.go
  rw [grp_length] at h2
  have a3 := syms_toks b B Z h8 b.length 0 _ (by omega) (by omega) h2
  rw [List.take_zero] at a3
  unfold infl
  refine (rBlocks_end (T1 := b) (k1 := 0 + 1 + 2 + (tksB (M.toks b 0)).length + len fixLs' 256) ?_).trans ?_
  · unfold rBlock
    rw [a1, Res.then_ok, a2, Res.then_ok]
    unfold rKind
    rw [if_neg (by decide), if_pos rfl]
    rw [show rSyms B b.length fixLs' (List.replicate 32 5) [] (0 + 1 + 2) = _ from a3, Res.then_ok]
    rfl
  · congr 1
    unfold fxB
    simp only [List.length_append, code_length, List.length_cons, List.length_nil]
theorem blocks_sto : ∀ (n : Nat) (b pre T : List Nat) (lim : Nat), b.length ≤ n → T.length + b.length ≤ lim → rBlocks (pre ++ sto b) lim T (8 * pre.length) = .ok (T ++ b) (8 * (pre.length + (sto b).length))
  | n, b, pre, T, lim, hn, hl => by
    by_cases h : b.length ≤ 65535
    · have hb := stored_block pre b [] lim T 1 (b.length % 256) (b.length / 256) (255 - b.length % 256) (255 - b.length / 256) rfl (by omega) (by omega) (by omega) (by omega) (by omega)
      rw [if_pos (by omega), if_pos hl, List.append_nil] at hb
      rw [sto_last h, show blk 1 b = 1 :: b.length % 256 :: b.length / 256 :: (255 - b.length % 256) :: (255 - b.length / 256) :: b from rfl]
      refine (rBlocks_end hb).trans ?_
      congr 1
      simp only [List.length_cons]
      omega
    · cases n with
      | zero => omega
      | succ n =>
        have htl : (b.take 65535).length = 65535 := by rw [List.length_take]; omega
        have hb := stored_block pre (b.take 65535) (sto (b.drop 65535)) lim T 0 ((b.take 65535).length % 256) ((b.take 65535).length / 256) (255 - (b.take 65535).length % 256) (255 - (b.take 65535).length / 256) rfl (by omega) (by omega) (by omega) (by omega) (by omega)
        rw [if_pos (by omega), if_pos (by omega)] at hb
        have e : pre ++ sto b = pre ++ (0 :: (b.take 65535).length % 256 :: (b.take 65535).length / 256 :: (255 - (b.take 65535).length % 256) :: (255 - (b.take 65535).length / 256) :: (b.take 65535 ++ sto (b.drop 65535))) := by
          rw [sto_more h, blk]; simp only [List.cons_append, List.nil_append]
        rw [← e] at hb
        have hlen : (pre ++ sto b).length = pre.length + 5 + (b.take 65535).length + (sto (b.drop 65535)).length := by
          rw [sto_more h, List.length_append, List.length_append, blk_length]; omega
        rw [rBlocks_go (T1 := T ++ b.take 65535) (k1 := 8 * (pre.length + 5 + (b.take 65535).length)) hb (by omega) (by omega)]
        have ih := blocks_sto n (b.drop 65535) (pre ++ blk 0 (b.take 65535)) (T ++ b.take 65535) lim (by rw [List.length_drop]; omega) (by rw [List.length_append, List.length_drop, htl]; omega)
        rw [List.append_assoc, ← sto_more h, List.length_append, blk_length, List.append_assoc, List.take_append_drop] at ih
        rw [show 8 * (pre.length + 5 + (b.take 65535).length) = 8 * (pre.length + ((b.take 65535).length + 5)) by omega, ih]
        congr 1
        rw [sto_more h, List.length_append, blk_length]
        omega
theorem infl_sto (b : List Nat) : infl (sto b) b.length = .ok b (8 * (sto b).length) := by
  have := blocks_sto b.length b [] [] b.length (Nat.le_refl _) (by simp)
  simpa [infl] using this
def Reads (s b : List Nat) : Prop := ∀ x, ∃ K, infl (s ++ x) b.length = .ok b K ∧ upN K / 8 = s.length
theorem reads_fixed (b : List Nat) (h8 : ∀ x ∈ b, x < 256) : Reads (fxd b) b := fun x => by
  have h := infl_fixed b h8
  have e : upN (fxB b).length / 8 = (fxd b).length := by unfold fxd upN; rw [byt_length]; omega
  have q := (infl_behind h).2.1 x
  rw [e, List.take_length] at q
  exact ⟨_, q, e⟩
theorem reads_sto (b : List Nat) : Reads (sto b) b := fun x => by
  have h := infl_sto b
  have e : upN (8 * (sto b).length) / 8 = (sto b).length := by unfold upN; omega
  have q := (infl_behind h).2.1 x
  rw [e, List.take_length] at q
  exact ⟨_, q, e⟩
theorem reads_bst (b : List Nat) (h8 : ∀ x ∈ b, x < 256) : Reads (zbst b) b := by
  unfold zbst
  split
  · exact reads_sto b
  · exact reads_fixed b h8
end Go.Proofs.YtnndgpggjlhhpaaGreat
