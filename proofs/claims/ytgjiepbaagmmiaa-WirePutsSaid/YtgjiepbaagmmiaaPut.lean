/- wire.Put: what it writes for any pattern and numbers. -/
import Derived.Test.YtgjiepbaagmmiaaPutSpec
import Derived.StillTailTactics
namespace Go.Proofs.Ytgjiepbaagmmiaa
open Go.RowKit

def PutPost (w : World) (e : Ending) (w' : World) (r : Except Nat (List Nat)) : Prop :=
  Fr S0 w w' ∧ match r with
  | .error x => e = .returned (.tuple #[.slice none 0 0, .int .i64 x])
  | .ok bs => ∃ v, e = .returned (.tuple #[v, .int .i64 0]) ∧ w'.ownsRow 0 5 1 v bs.length (u8s bs) ∧ Fresh w v

theorem rows_lt : ∀ (l ks : List Nat), rowsOf l = some ks → ∀ k ∈ ks, k < 10
  | [], ks, h => by simp [rowsOf] at h; subst h; simp
  | c :: r, ks, h => by
    simp only [rowsOf] at h
    cases hc : fIdx c <;> cases hr : rowsOf r <;> simp [hc, hr] at h
    subst h
    intro k hk
    simp at hk
    rcases hk with rfl | hk
    · exact (fIdx_some c _ hc).1
    · exact rows_lt r _ hr k hk
theorem forms_lt (l ks : List Nat) (h : formsS l = some ks) : ∀ k ∈ ks, k < 10 := by
  unfold formsS at h
  split at h
  · cases h
  · exact rows_lt l ks h
theorem pre_cons (bs e : List Nat) (r : Except Nat (List Nat)) : pre bs (pre e r) = pre (bs ++ e) r := by
  cases r <;> simp [pre]
theorem putRows_cons (k n : Nat) (ks ns : List Nat) : putRows (k :: ks) (n :: ns) = if fits k n then pre (enc k n) (putRows ks ns) else .error 5 := by
  rw [putRows]
  cases putRows ks ns <;> rfl
theorem pre_nil (r : Except Nat (List Nat)) : pre [] r = r := by cases r <;> simp [pre]
theorem putRows_step (ks l : List Nat) (i : Nat) (h1 : i < ks.length) (h2 : i < l.length) (bs : List Nat) (hf : fits ks[i] l[i] = true) :
    pre bs (putRows (ks.drop i) (l.drop i)) = pre (bs ++ enc ks[i] l[i]) (putRows (ks.drop (i + 1)) (l.drop (i + 1))) := by
  rw [List.drop_eq_getElem_cons h1, List.drop_eq_getElem_cons h2, putRows_cons, hf, if_pos rfl, pre_cons]
theorem putRows_bad (ks l : List Nat) (i : Nat) (h1 : i < ks.length) (h2 : i < l.length) (bs : List Nat) (hf : fits ks[i] l[i] = false) :
    pre bs (putRows (ks.drop i) (l.drop i)) = .error 5 := by
  rw [List.drop_eq_getElem_cons h1, List.drop_eq_getElem_cons h2, putRows_cons, hf]; rfl
theorem WrAt.fr {w w' : World} {S : Nat → Prop} {g : Nat} {v : Value} {bs : List Nat} (h : WrAt w g v bs) (hf : Fr S w w') (hg : ¬ S g) (hv : ∀ k, v.ownBlock = some k → ¬ S k) : WrAt w' g v bs :=
  ⟨hf.row h.1 hg, hf.owns h.2.1 hv, h.2.2⟩
theorem WrAt.alloc {w : World} {g : Nat} {v : Value} {bs : List Nat} (h : WrAt w g v bs) (o : Obj) : WrAt (w.alloc o) g v bs := h.fr (Fr.alloc S0 w o) (fun h => h) (fun _ _ h => h)
theorem WrAt.drewN {w : World} {g : Nat} {v : Value} {bs : List Nat} (h : WrAt w g v bs) (k : Nat) : WrAt (w.drewN k) g v bs := h
theorem fits_int {k n : Nat} (h : fits k n = true) : ((n : Int) / 2 ^ min (8 * most k) 64 != 0) = false := by
  unfold fits at h
  rw [beq_iff_eq] at h
  have : (n : Int) / 2 ^ min (8 * most k) 64 = ((n / 2 ^ min (8 * most k) 64 : Nat) : Int) := by rw [Int.natCast_ediv, Int.natCast_pow]; rfl
  rw [this, h]; rfl
theorem fits_int' {k n : Nat} (h : fits k n = false) : ((n : Int) / 2 ^ min (8 * most k) 64 != 0) = true := by
  unfold fits at h
  rw [beq_eq_false_iff_ne] at h
  have : (n : Int) / 2 ^ min (8 * most k) 64 = ((n / 2 ^ min (8 * most k) 64 : Nat) : Int) := by rw [Int.natCast_ediv, Int.natCast_pow]; rfl
  rw [this, bne_iff_ne]; omega
theorem putRows_nil : putRows [] [] = .ok [] := by simp [putRows]
theorem most_le (k : Nat) (hk : k < 10) : 1 ≤ most k ∧ most k ≤ 10 := by
  refine ten (fun k => 1 ≤ most k ∧ most k ≤ 10) k hk ?_ ?_ ?_ ?_ ?_ ?_ ?_ ?_ ?_ ?_ <;> decide

theorem put_close {w w1 wr X w' : World} {v u : Value} {bs : List Nat} {n : Nat} {xs : List Value} (hf1 : Fr S0 w w1) (own : w1.ownsRow 0 50 4 u n xs) (hfr : Fr S0 w wr) (hX : Fr S0 wr X) (hfv : Fresh w v)
    (own' : wr.ownsRow 0 50 4 u n xs) (hap : ∀ g, v.ownBlock = some g → u.ownBlock ≠ some g) (hto : WrTo X w' w1.heap.size v bs) :
    ∃ v', WrAt w' w1.heap.size v' bs ∧ Fr S0 w w' ∧ Fresh w v' ∧ w'.ownsRow 0 50 4 u n xs ∧ (∀ g, v'.ownBlock = some g → u.ownBlock ≠ some g) := by
  obtain ⟨v', hw', hf', hm'⟩ := hto
  have hX0 : Fr S0 w X := hfr.trans0 hX
  have hlt : ∀ g, u.ownBlock = some g → g < w1.heap.size := fun g hg => (own.lt g hg).2
  have hltX : ∀ g, u.ownBlock = some g → g < X.heap.size := fun g hg => Nat.lt_of_lt_of_le (own'.lt g hg).2 hX.size
  refine ⟨v', hw', hX0.trans hf' ?_, ?_, ?_, ?_⟩
  · rintro j hj (e | e)
    · have := hf1.size; omega
    · have := hfv j e; omega
  · intro g hg
    rcases hm' with hm | hm
    · exact hfv g (hm ▸ hg)
    · exact Nat.le_trans hX0.size (hm g hg)
  · refine hf'.owns (hX.owns own' (fun _ _ h => h)) ?_
    rintro g hg (e | e)
    · have := hlt g hg; omega
    · exact hap g e hg
  · intro g hg hu
    rcases hm' with hm | hm
    · exact hap g (hm ▸ hg) hu
    · have := hm g hg
      have := hltX g hu
      omega

set_option maxRecDepth 100000 in
set_option maxHeartbeats 4000000 in
theorem put_any (s : ByteArray) (p : Option Addr) (c : Nat) (l : List Nat) (w : World) (hs : s.size ≤ maxLen) (hl : SlI w .u64 p l) (hb : ∀ x ∈ l, x < 18446744073709551616) :
    Calls Try.prog 9 #[.string s, .slice p l.length c] w fun e w' => PutPost w e w' (putS (pat s) l) := by
  have hlen := hl.1
  unfold maxLen at hlen
  have HB := Lib.hid hb
  clear hb
  go_enter Try.func9, Try.ntmps9
  go_wp2_with fail
  refine (formsOf_any s w hs).mono ?_
  rintro e w1 ⟨hf1, hr⟩
  cases hfs : formsS (pat s) with
  | none =>
    rw [hfs] at hr
    subst hr
    have HE : Hid (putS (pat s) l = .error 22) := Lib.hid (by unfold putS; rw [hfs])
    clear hfs
    go_wp2
    go_ret2
    rw [HE.out]
    exact ⟨hf1, rfl⟩
  | some ks =>
    rw [hfs] at hr
    obtain ⟨vf, rfl, own, hfresh⟩ := hr
    have hk64 : ks.length ≤ 64 := by
      unfold formsS at hfs
      split at hfs
      · cases hfs
      · have := rowsOf_length _ _ hfs
        omega
    obtain ⟨pf, cf, rfl⟩ : ∃ pf cf, vf = .slice pf ks.length cf := by
      rcases own.2 with ⟨h, h0⟩ | ⟨g, cap, cur, h, _⟩
      · exact ⟨none, 0, by rw [h, h0]⟩
      · exact ⟨_, _, h⟩
    by_cases hne : (ks.length : Int) = (l.length : Int)
    · have HE : Hid (putS (pat s) l = putRows ks l) := Lib.hid (by unfold putS; rw [hfs]; simp only; rw [if_pos (by omega)])
      have hb : ((ks.length : Int) != (l.length : Int)) = false := by simp; omega
      have HN := Lib.hid hne
      have HF := Lib.hid hfs
      clear hfs hne
      go_wp2
      go_loopw [9, 10, 27] (fun _ _ i wr => ∃ (k : Nat) (bs : List Nat) (v : Value), k ≤ ks.length ∧ i = .int .i64 k ∧ bs.length ≤ 10 * k ∧ WrAt wr w1.heap.size v bs ∧ Fr S0 w wr ∧ Fresh w v ∧
        wr.ownsRow 0 50 4 (.slice pf ks.length cf) ks.length (rowCells ks) ∧ (∀ g, v.ownBlock = some g → Value.ownBlock (.slice pf ks.length cf) ≠ some g) ∧
        putRows ks l = pre bs (putRows (ks.drop k) (l.drop k))) (fun _ _ i _ => ks.length - (intOf i).toNat)
      case atStart =>
        refine ⟨0, [], .slice none 0 0, by omega, rfl, by decide, ⟨heap_alloc_new w1 _, World.ownsRow_nil _ _ _ _, by simp [Value.ownBlock]⟩, hf1.trans0 (Fr.alloc S0 w1 _), (fun g h => by simp [Value.ownBlock] at h), own.alloc _, (fun g h => by simp [Value.ownBlock] at h), ?_⟩
        rw [List.drop_zero, List.drop_zero, pre_nil]
      case round =>
        obtain ⟨k, bs, v, hk, rfl, hbl, hw, hfr, hfv, own', hap, hpr⟩ := hrel
        have HP := Lib.hid hpr
        clear hpr
        by_cases hlt : (k : Int) < (ks.length : Int)
        · have hkl : k < l.length := by have := HN.out; omega
          have hks : k < ks.length := by omega
          obtain ⟨gf, cf', hv, -, hgf⟩ := own'.form (by omega)
          simp only [Value.slice.injEq] at hv
          obtain ⟨rfl, -, rfl⟩ := hv
          obtain ⟨q0, q1, q2, q3⟩ := form_cells own' k hks
          obtain ⟨bl, ol, rfl, hcl⟩ := (hl.fr0 hfr).at k hkl
          obtain ⟨m, hm⟩ : ∃ m, ks[k] = m := ⟨_, rfl⟩
          obtain ⟨n, hn⟩ : ∃ n, l[k] = n := ⟨_, rfl⟩
          rw [hm] at q0 q1 q2 q3
          rw [hn] at hcl
          have HM := Lib.hid hm
          have HNN := Lib.hid hn
          have HN64 : Hid (n < 18446744073709551616) := Lib.hid (by rw [← hn]; exact HB.out l[k] (List.getElem_mem hkl))
          clear hm hn
          have hm10 := Lib.hid (forms_lt _ _ HF.out m (by rw [← HM.out]; exact List.getElem_mem hks))
          have hmo := most_le m hm10.out
          have hw8 : IntKind.i64.wrap (8 * (most m : Int)) = 8 * (most m : Int) := IntWalk.i64_in _ (by omega)
          have hp8 : 0 ≤ 8 * (most m : Int) := by omega
          have hbl : bl < wr.heap.size := World.block_lt_of_cell? _ _ hcl
          have hkI : (k : Int) < (l.length : Int) := by omega
          by_cases hfit : fits m n = true
          · have hq : ((n : Int) / 2 ^ min (8 * most m) 64 != 0) = false := fits_int hfit
            have HS := Lib.hid hfit
            clear hfit
            have hent := enter_put m hm10.out
            go_wp2
            go_quiet (fail)
            go_wp2
            go_region_law (go_simp; refine (put_row w1.heap.size n v bs _ ((hw.alloc _).drewN _) HN64.out (by omega) m hm10.out).mono ?_; rintro e w' ⟨rfl, hto⟩; dsimp only)
            all_goals
              obtain ⟨v', hw', hfr', hfv', own2, hap'⟩ := put_close hf1 own hfr ((Fr.alloc S0 wr _).trans0 (Fr.drewN S0 _ _)) hfv own' hap hto
              clear hto
              go_wp2
              go_roundw
              case rel =>
                refine ⟨k + 1, bs ++ enc m n, v', by omega, by go_num, ?_, hw', hfr', hfv', own2, hap', ?_⟩
                · have := enc_length m n hm10.out
                  rw [List.length_append]; omega
                · rw [HP.out, putRows_step ks l k hks hkl bs (by rw [HM.out, HNN.out]; exact HS.out), HM.out, HNN.out]
              case measure => simp [intOf]; omega
          · have hfit' : fits m n = false := by simpa using hfit
            have hq : ((n : Int) / 2 ^ min (8 * most m) 64 != 0) = true := fits_int' hfit'
            have HS : Hid (putS (pat s) l = .error 5) := Lib.hid (by rw [HE.out, HP.out]; exact putRows_bad ks l k hks hkl bs (by rw [HM.out, HNN.out]; exact hfit'))
            clear hfit hfit'
            go_wp2
            go_quiet (fail)
            go_wp2
            go_ret2
            rw [HS.out]
            exact ⟨(hfr.trans0 (Fr.alloc S0 _ _)).trans0 (Fr.drewN S0 _ _), rfl⟩
        · have HQ : Hid (putS (pat s) l = .ok bs) := Lib.hid (by
            have := HN.out
            rw [HE.out, HP.out, List.drop_eq_nil_of_le (by omega), List.drop_eq_nil_of_le (by omega), putRows_nil, pre, List.append_nil])
          have c0 := hw.c0
          go_wp2
          go_ret2
          rw [HQ.out]
          exact ⟨hfr, v, rfl, hw.2.1, hfv⟩
    · have HE : Hid (putS (pat s) l = .error 22) := Lib.hid (by unfold putS; rw [hfs]; simp only; rw [if_neg (by omega)])
      have hb : ((ks.length : Int) != (l.length : Int)) = true := by rw [bne_iff_ne]; exact hne
      clear hfs hne
      go_wp2
      go_ret2
      rw [HE.out]
      exact ⟨hf1, rfl⟩
end Go.Proofs.Ytgjiepbaagmmiaa
