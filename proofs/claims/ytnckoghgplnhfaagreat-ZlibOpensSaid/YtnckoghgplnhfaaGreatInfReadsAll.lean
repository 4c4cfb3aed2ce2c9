/- InflateReads: the reference's described block, its Read, and the law (laid in one text for the claim's sake). -/
import Derived.Test.YtnckoghgplnhfaaGreatInfRefStored
import Derived.Test.YtnckoghgplnhfaaGreatInfRefLens
import Derived.Test.YtnckoghgplnhfaaGreatInfRefTold
import Derived.Test.YtnckoghgplnhfaaGreatInfTwo
import Derived.Test.YtnckoghgplnhfaaGreatHufAll
import Derived.Test.YtnckoghgplnhfaaGreatInfOne
import Derived.Test.YtnckoghgplnhfaaGreatInfRefBlock
namespace Go.Proofs.YtnckoghgplnhfaaGreat
open Go.RowKit


/-- what a block of symbols does (InfRefBlock) -/
def BlkOk : Prop := ∀ (g : Nat) (pb : Option Addr) (cb : Nat) (t : Option Nat) (b : List Nat) (k lim : Nat) (T : List Nat) (p1 p2 : Option Addr) (d1 d2 : Nat) (l1 l2 : List Nat) (w : World), b ≠ [] → RfIs w g pb cb t b k lim T 0 → SlI w .u8 p1 l1 → (∀ a, p1 = some a → ¬ RfB g t a.block) → (∀ x ∈ l1, x ≤ 15) → l1.length ≤ 320 → okl l1 → SlI w .u8 p2 l2 → (∀ a, p2 = some a → ¬ RfB g t a.block) → (∀ x ∈ l2, x ≤ 15) → l2.length ≤ 320 → okl l2 →
  Calls Tryz.prog 44 #[.pointer (some ⟨g, 0, none⟩), .slice p1 l1.length d1, .slice p2 l2.length d2] w fun e w' => RfOut (rSyms b lim l1 l2 T k) w w' g pb cb t b lim e

theorem elI : ElemOk Tryz.prog 100 3 (.int .i64 0) 1 8 := ⟨Tryz.underlying100, by kernel_rfl, rfl, by decide, by decide⟩
theorem make_u8s (w : World) : (Instr.makeSlice 22 (.int .i64 19) (.int .i64 19)).run Tryz.prog w = .ok (.slice (some ⟨w.heap.size, 0, none⟩) 19 19) (w.alloc (.cells (zers .u8 19) 5)) := by
  obtain ⟨i, hi, hz, hs, hb⟩ := info_parts info_u8
  have := run_make w 22 5 i _ Tryz.underlying22 hi hz .i64 .i64 19 19 (by omega) (by omega) (by rw [hb]; omega) (by omega)
  rw [this, hs, Nat.mul_one]
  rfl
theorem cell_of5 {w : World} {g : Nat} {l : List Nat} {t : TypeId} (h : w.heap[g]? = some (.cells (u8s l).toArray t (0, 0))) (hl : l.length = 19) {s : Nat} (hs : s < 19) : ∃ v, w.cell? ⟨g, s, none⟩ = some v := by
  refine ⟨.int .u8 ((l.getD s 0 : Nat) : Int), ?_⟩
  simp [World.cell?, h, u8s, hl, hs]
theorem rLens_all {b cl : List Nat} {many : Nat} (h19 : cl.length ≤ 19) : ∀ (d : Nat) (l : List Nat) (k : Nat) (U : List Nat) (k' : Nat), many - l.length ≤ d → l.length ≤ many → (∀ x ∈ l, x ≤ 15) → rLens b cl many l k = .ok U k' → U.length = many ∧ ∀ x ∈ U, x ≤ 15 := by
  intro d
  induction d with
  | zero =>
    intro l k U k' hd hl h15 h
    rw [rLens_end (by omega)] at h
    simp only [Res.ok.injEq] at h
    obtain ⟨rfl, rfl⟩ := h
    exact ⟨by omega, h15⟩
  | succ d ih =>
    intro l k U k' hd hl h15 h
    by_cases hm : many ≤ l.length
    · rw [rLens_end hm] at h
      simp only [Res.ok.injEq] at h
      obtain ⟨rfl, rfl⟩ := h
      exact ⟨by omega, h15⟩
    · cases hx : rRun b cl l k with
      | no m => rw [rLens_no hm hx] at h; cases h
      | ok xn k1 =>
        obtain ⟨x, n⟩ := xn
        by_cases hf : many < l.length + n + 1
        · rw [rLens_far hm hx hf] at h; cases h
        · rw [rLens_go hm hx hf] at h
          refine ih _ k1 U k' (by rw [List.length_append, List.length_replicate]; omega) (by rw [List.length_append, List.length_replicate]; omega) (fun y hy => ?_) h
          rcases List.mem_append.1 hy with h1 | h1
          · exact h15 y h1
          · rw [(List.mem_replicate.1 h1).2]; exact (rRun_15 h19 h15 hx).1
theorem RfOut.from {x : Res (List Nat)} {w w1 w' : World} {g : Nat} {pb : Option Addr} {cb : Nat} {t : Option Nat} {b : List Nat} {lim : Nat} {e : Ending} (hf : Fr (RfB g t) w w1) (h : RfOut x w1 w' g pb cb t b lim e) : RfOut x w w' g pb cb t b lim e := by
  obtain ⟨he, h⟩ := h
  refine ⟨he, ?_⟩
  cases x with
  | ok T k => exact RfTo.trans hf (.inl rfl) h
  | no m => obtain ⟨T, j, h⟩ := h; exact ⟨T, j, RfTo.trans hf (.inl rfl) h⟩
theorem slens_n {g : Nat} {pb : Option Addr} {cb : Nat} {t : Option Nat} {b : List Nat} {k lim : Nat} {T : List Nat} (p : Option Addr) (n d many : Nat) (cl : List Nat) (w : World) (hn : cl.length = n) (hne : b ≠ []) (h : RfIs w g pb cb t b k lim T 0) (hl : SlI w .u8 p cl) (hoff : ∀ a, p = some a → a.block ≠ g) (h15 : ∀ x ∈ cl, x ≤ 15) (h19 : n = 19) (ok : okl cl) (hm : many ≤ 316) :
    Calls Tryz.prog 73 #[.pointer (some ⟨g, 0, none⟩), .slice p n d, .int .i64 (many : Nat)] w fun e w' => LenEnds (rLens b cl many [] k) w w' g pb cb t b lim T e := by
  subst hn
  exact slens_any p d many cl w hne h hl hoff h15 h19 ok hm
theorem sbad_n (p : Option Addr) (n d : Nat) (l : List Nat) (w : World) (hn : l.length = n) (hl : SlI w .u8 p l) (h15 : ∀ x ∈ l, x ≤ 15) (hL : n ≤ 320) :
    Calls Tryz.prog 74 #[.slice p n d] w fun e w' => e = .returned (.bool (decide (¬ okl l))) ∧ w = w' := by
  subst hn
  exact sbad_any p d l w hl h15 hL
theorem of_set {W : World} {g A : Nat} {pb : Option Addr} {cb : Nat} {t : Option Nat} {b : List Nat} {k lim : Nat} {T : List Nat} {M : Nat} {cl : List Nat} (hS : RfIs W g pb cb t b k lim T M) (hA : W.heap[A]? = some (.cells (u8s cl).toArray 5 (0, 0))) (h1 : g < A) (h2 : ∀ j, t = some j → j < A) (h3 : ∀ a, pb = some a → a.block < A) (s n : Nat) :
    RfIs (W.setCell ⟨A, s, none⟩ (.int .u8 (n : Nat))) g pb cb t b k lim T M ∧ (W.setCell ⟨A, s, none⟩ (.int .u8 (n : Nat))).heap[A]? = some (.cells (u8s (cl.set s n)).toArray 5 (0, 0)) ∧ Fr (· = A) W (W.setCell ⟨A, s, none⟩ (.int .u8 (n : Nat))) := by
  have hf := Fr.setCell (· = A) W ⟨A, s, none⟩ (.int .u8 (n : Nat)) rfl
  refine ⟨hS.fr hf (by omega) (fun j hj e => by have := h2 j hj; omega) (fun a ha e => by have := h3 a ha; omega), ?_, hf⟩
  rw [heap_setCell_same W A s _ _ _ hA, ← u8s_set]
theorem zers19 : zers .u8 19 = (u8s (List.replicate 19 0)).toArray := by kernel_rfl
theorem rcheck_n (p : Option Addr) (n d : Nat) (l : List Nat) (w : World) (hn : l.length = n) (hl : SlI w .u8 p l) (h8 : ∀ x ∈ l, x < 256) (hL : n ≤ 1000) :
    Calls Tryz.prog 72 #[.slice p n d] w fun e w' => e = .returned (.tuple #[.int .i64 (ckN l : Nat), .bool (ckF l)]) ∧ w = w' := by
  subst hn
  exact rcheck_any p d l w hl h8 hL

set_option maxRecDepth 100000 in
set_option maxHeartbeats 4000000 in
theorem sdesc_any (B : BlkOk) {g : Nat} {pb : Option Addr} {cb : Nat} {t : Option Nat} {b : List Nat} {k lim : Nat} {T : List Nat} (w : World) (hne : b ≠ []) (h : RfIs w g pb cb t b k lim T 0) :
    Calls Tryz.prog 46 #[.pointer (some ⟨g, 0, none⟩)] w fun e w' => RfOut ((rCodes b k).then fun c k1 => rSyms b lim c.1 c.2 T k1) w w' g pb cb t b lim e := by
  have hpl : ∀ a, pb = some a → a.block < w.heap.size := fun a ha => h.bits.lt (fun e => hne (List.length_eq_zero_iff.1 (by have := bts_length b; rw [e] at this; simp at this; omega))) a ha
  have HPL := Lib.hid hpl
  have HNE := Lib.hid hne
  have HB : Hid BlkOk := Lib.hid B
  have H0 := Lib.hid h
  have F0 : Hid (Fr (RfB g t) w w) := Lib.hid (Fr.refl _ _)
  obtain ⟨RES, hRES⟩ : ∃ R, ((rCodes b k).then fun c k1 => rSyms b lim c.1 c.2 T k1) = R := ⟨_, rfl⟩
  have HRES := Lib.hid hRES
  rw [hRES]
  clear h hne hpl hRES B
  go_enter Tryz.func46, Tryz.ntmps46
  go_wp2_with fail
  cases hx : rGrp b 5 k with
  | no M =>
    have RN : Hid (RES = .no M) := Lib.hid (by rw [← HRES.out]; unfold rCodes; rw [hx]; rfl)
    have HMZ := Lib.hid (grp_nz H0.out.ins hx)
    refine (sgroup_not 5 M w H0.out (by decide) hx).mono ?_
    rintro _ W8 ⟨rfl, hs, hf⟩
    have HD : Hid (Dead w W8 g pb cb t t b k lim T M) := Lib.hid (Dead.of hs F0.out (.inl rfl) hf HMZ.out)
    clear hx hs hf
    go_wp2_with fail
    refine (sgroup_err 5 W8 HD.out.is HD.out.nz).mono ?_
    rintro _ w' ⟨rfl, rfl⟩
    go_wp2_with fail
    refine (sgroup_err 4 W8 HD.out.is HD.out.nz).mono ?_
    rintro _ w' ⟨rfl, rfl⟩
    have mk := make_u8s
    go_wp2_with (go_at_call 71; refine (sfail_err _ _ HD.out.is HD.out.nz).mono ?_; rintro _ w9 ⟨rfl, rfl⟩)
    all_goals
      go_loopw [7] (fun i wr => i = .int .i64 0 ∧ Dead w wr g pb cb t t b k lim T M ∧ SlI wr .u8 (some ⟨W8.heap.size + 1, 0, none⟩) (List.replicate 19 0)) (fun _ _ => 0)
      case atStart => exact ⟨rfl, HD.out.fr0 ((Fr.alloc S0 _ _).trans0 (Fr.alloc _ _ _)), by
        have h1 := zers_own (W8.alloc (.cells #[.int .i64 16, .int .i64 17, .int .i64 18, .int .i64 0, .int .i64 8, .int .i64 7, .int .i64 9, .int .i64 6, .int .i64 10, .int .i64 5, .int .i64 11, .int .i64 4, .int .i64 12, .int .i64 3, .int .i64 13, .int .i64 2, .int .i64 14, .int .i64 1, .int .i64 15] 3)) .u8 5 19 (by decide)
        rw [size_alloc] at h1
        exact SlI.ofOwns h1⟩
      case round =>
        obtain ⟨rfl, hd9, hs9⟩ := hrel
        have HD9 := Lib.hid hd9
        have HS9 := Lib.hid hs9
        have y4 := HD9.out.is.c4
        have yb : ((M : Int) == 0) = false := by have := HD9.out.nz; simpa using this
        have yc : ((M : Int) != 0) = true := by have := HD9.out.nz; simpa using this
        clear hd9 hs9
        go_wp2_with fail
        all_goals
          refine (rcheck_n _ 19 19 (List.replicate 19 0) _ (by simp) HS9.out (fun x hx => by have := (List.mem_replicate.1 hx).2; omega) (by omega)).mono ?_
          rintro _ w' ⟨rfl, rfl⟩
          obtain ⟨CN, hCN⟩ : ∃ CN, ckN (List.replicate 19 0) = CN := ⟨_, rfl⟩
          obtain ⟨CF, hCF⟩ : ∃ CF, ckF (List.replicate 19 0) = CF := ⟨_, rfl⟩
          rw [hCN, hCF]
          clear hCN hCF
          go_wp2_with (go_at_call 71; refine (sfail_err _ _ HD9.out.is HD9.out.nz).mono ?_; rintro _ w9 ⟨rfl, rfl⟩)
          all_goals
            ((try simp only [Exit.inBlock, Exit.then]); refine bodyPost_ret (results_none rfl _ _ _) rfl ?_)
            exact HD9.out.out RN.out
  | ok n1 k1 =>
    have hn1 : n1 < 32 := (rGrp_lt hx).1
    have HR1 : Hid (RES = (((rGrp b 5 k1).then fun n2 k2 => (rGrp b 4 k2).then fun n3 k3 =>
      (rIf (decide (257 + n1 ≤ 286 ∧ 1 + n2 ≤ 30)) 62 k3).then fun _ k3 =>
      (rCode b (4 + n3) k3).then fun cl k4 => (rLens b cl (257 + n1 + (1 + n2)) [] k4).then fun l k5 =>
      (rIf (decide (l.getD 256 0 ≠ 0 ∧ okl (l.take (257 + n1)) ∧ okl (l.drop (257 + n1)))) 62 k5).then fun _ k5 =>
      .ok (l.take (257 + n1), l.drop (257 + n1)) k5).then fun c k1 => rSyms b lim c.1 c.2 T k1)) := Lib.hid (by rw [← HRES.out]; unfold rCodes; rw [hx]; rfl)
    refine (sgroup_at 5 n1 k1 w HNE.out H0.out (by decide) hx).mono ?_
    rintro _ W1 ⟨rfl, hs, hf⟩
    have H1 := Lib.hid hs
    have F1 : Hid (Fr (RfB g t) w W1) := Lib.hid (F0.out.trans hf fun _ _ e => .inl e)
    clear hx hs hf HRES
    go_wp2_with fail
    cases hx : rGrp b 5 k1 with
    | no M =>
      have RN : Hid (RES = .no M) := Lib.hid (by rw [HR1.out, hx]; rfl)
      have HMZ := Lib.hid (grp_nz H1.out.ins hx)
      refine (sgroup_not 5 M W1 H1.out (by decide) hx).mono ?_
      rintro _ W8 ⟨rfl, hs, hf⟩
      have HD : Hid (Dead w W8 g pb cb t t b k1 lim T M) := Lib.hid (Dead.of hs F1.out (.inl rfl) hf HMZ.out)
      clear hx hs hf
      go_wp2_with fail
      refine (sgroup_err 4 W8 HD.out.is HD.out.nz).mono ?_
      rintro _ w' ⟨rfl, rfl⟩
      have mk := make_u8s
      go_wp2_with (go_at_call 71; refine (sfail_err _ _ HD.out.is HD.out.nz).mono ?_; rintro _ w9 ⟨rfl, rfl⟩)
      all_goals
        go_loopw [7] (fun i wr => i = .int .i64 0 ∧ Dead w wr g pb cb t t b k1 lim T M ∧ SlI wr .u8 (some ⟨W8.heap.size + 1, 0, none⟩) (List.replicate 19 0)) (fun _ _ => 0)
        case atStart => exact ⟨rfl, HD.out.fr0 ((Fr.alloc S0 _ _).trans0 (Fr.alloc _ _ _)), by
          have h1 := zers_own (W8.alloc (.cells #[.int .i64 16, .int .i64 17, .int .i64 18, .int .i64 0, .int .i64 8, .int .i64 7, .int .i64 9, .int .i64 6, .int .i64 10, .int .i64 5, .int .i64 11, .int .i64 4, .int .i64 12, .int .i64 3, .int .i64 13, .int .i64 2, .int .i64 14, .int .i64 1, .int .i64 15] 3)) .u8 5 19 (by decide)
          rw [size_alloc] at h1
          exact SlI.ofOwns h1⟩
        case round =>
          obtain ⟨rfl, hd9, hs9⟩ := hrel
          have HD9 := Lib.hid hd9
          have HS9 := Lib.hid hs9
          have y4 := HD9.out.is.c4
          have yb : ((M : Int) == 0) = false := by have := HD9.out.nz; simpa using this
          have yc : ((M : Int) != 0) = true := by have := HD9.out.nz; simpa using this
          clear hd9 hs9
          go_wp2_with fail
          all_goals
            refine (rcheck_n _ 19 19 (List.replicate 19 0) _ (by simp) HS9.out (fun x hx => by have := (List.mem_replicate.1 hx).2; omega) (by omega)).mono ?_
            rintro _ w' ⟨rfl, rfl⟩
            obtain ⟨CN, hCN⟩ : ∃ CN, ckN (List.replicate 19 0) = CN := ⟨_, rfl⟩
            obtain ⟨CF, hCF⟩ : ∃ CF, ckF (List.replicate 19 0) = CF := ⟨_, rfl⟩
            rw [hCN, hCF]
            clear hCN hCF
            go_wp2_with (go_at_call 71; refine (sfail_err _ _ HD9.out.is HD9.out.nz).mono ?_; rintro _ w9 ⟨rfl, rfl⟩)
            all_goals
              ((try simp only [Exit.inBlock, Exit.then]); refine bodyPost_ret (results_none rfl _ _ _) rfl ?_)
              exact HD9.out.out RN.out
    | ok n2 k2 =>
      have hn2 : n2 < 32 := (rGrp_lt hx).1
      have HR2 : Hid (RES = (((rGrp b 4 k2).then fun n3 k3 =>
        (rIf (decide (257 + n1 ≤ 286 ∧ 1 + n2 ≤ 30)) 62 k3).then fun _ k3 =>
        (rCode b (4 + n3) k3).then fun cl k4 => (rLens b cl (257 + n1 + (1 + n2)) [] k4).then fun l k5 =>
        (rIf (decide (l.getD 256 0 ≠ 0 ∧ okl (l.take (257 + n1)) ∧ okl (l.drop (257 + n1)))) 62 k5).then fun _ k5 =>
        .ok (l.take (257 + n1), l.drop (257 + n1)) k5).then fun c k1 => rSyms b lim c.1 c.2 T k1)) := Lib.hid (by rw [HR1.out, hx]; rfl)
      refine (sgroup_at 5 n2 k2 W1 HNE.out H1.out (by decide) hx).mono ?_
      rintro _ W2 ⟨rfl, hs, hf⟩
      have H2 := Lib.hid hs
      have F2 : Hid (Fr (RfB g t) w W2) := Lib.hid (F1.out.trans hf fun _ _ e => .inl e)
      clear hx hs hf HR1
      go_wp2_with fail
      cases hx : rGrp b 4 k2 with
      | no M =>
        have RN : Hid (RES = .no M) := Lib.hid (by rw [HR2.out, hx]; rfl)
        have HMZ := Lib.hid (grp_nz H2.out.ins hx)
        refine (sgroup_not 4 M W2 H2.out (by decide) hx).mono ?_
        rintro _ W8 ⟨rfl, hs, hf⟩
        have HD : Hid (Dead w W8 g pb cb t t b k2 lim T M) := Lib.hid (Dead.of hs F2.out (.inl rfl) hf HMZ.out)
        clear hx hs hf
        have mk := make_u8s
        go_wp2_with (go_at_call 71; refine (sfail_err _ _ HD.out.is HD.out.nz).mono ?_; rintro _ w9 ⟨rfl, rfl⟩)
        all_goals
          go_loopw [7] (fun i wr => i = .int .i64 0 ∧ Dead w wr g pb cb t t b k2 lim T M ∧ SlI wr .u8 (some ⟨W8.heap.size + 1, 0, none⟩) (List.replicate 19 0)) (fun _ _ => 0)
          case atStart => exact ⟨rfl, HD.out.fr0 ((Fr.alloc S0 _ _).trans0 (Fr.alloc _ _ _)), by
            have h1 := zers_own (W8.alloc (.cells #[.int .i64 16, .int .i64 17, .int .i64 18, .int .i64 0, .int .i64 8, .int .i64 7, .int .i64 9, .int .i64 6, .int .i64 10, .int .i64 5, .int .i64 11, .int .i64 4, .int .i64 12, .int .i64 3, .int .i64 13, .int .i64 2, .int .i64 14, .int .i64 1, .int .i64 15] 3)) .u8 5 19 (by decide)
            rw [size_alloc] at h1
            exact SlI.ofOwns h1⟩
          case round =>
            obtain ⟨rfl, hd9, hs9⟩ := hrel
            have HD9 := Lib.hid hd9
            have HS9 := Lib.hid hs9
            have y4 := HD9.out.is.c4
            have yb : ((M : Int) == 0) = false := by have := HD9.out.nz; simpa using this
            have yc : ((M : Int) != 0) = true := by have := HD9.out.nz; simpa using this
            clear hd9 hs9
            go_wp2_with fail
            all_goals
              refine (rcheck_n _ 19 19 (List.replicate 19 0) _ (by simp) HS9.out (fun x hx => by have := (List.mem_replicate.1 hx).2; omega) (by omega)).mono ?_
              rintro _ w' ⟨rfl, rfl⟩
              obtain ⟨CN, hCN⟩ : ∃ CN, ckN (List.replicate 19 0) = CN := ⟨_, rfl⟩
              obtain ⟨CF, hCF⟩ : ∃ CF, ckF (List.replicate 19 0) = CF := ⟨_, rfl⟩
              rw [hCN, hCF]
              clear hCN hCF
              go_wp2_with (go_at_call 71; refine (sfail_err _ _ HD9.out.is HD9.out.nz).mono ?_; rintro _ w9 ⟨rfl, rfl⟩)
              all_goals
                ((try simp only [Exit.inBlock, Exit.then]); refine bodyPost_ret (results_none rfl _ _ _) rfl ?_)
                exact HD9.out.out RN.out
      | ok n3 k3 =>
        have hn3 : n3 < 16 := (rGrp_lt hx).1
        have HR3 : Hid (RES = (((rIf (decide (257 + n1 ≤ 286 ∧ 1 + n2 ≤ 30)) 62 k3).then fun _ k3 =>
          (rCode b (4 + n3) k3).then fun cl k4 => (rLens b cl (257 + n1 + (1 + n2)) [] k4).then fun l k5 =>
          (rIf (decide (l.getD 256 0 ≠ 0 ∧ okl (l.take (257 + n1)) ∧ okl (l.drop (257 + n1)))) 62 k5).then fun _ k5 =>
          .ok (l.take (257 + n1), l.drop (257 + n1)) k5).then fun c k1 => rSyms b lim c.1 c.2 T k1)) := Lib.hid (by rw [HR2.out, hx]; rfl)
        refine (sgroup_at 4 n3 k3 W2 HNE.out H2.out (by decide) hx).mono ?_
        rintro _ W3 ⟨rfl, hs, hf⟩
        have H3 := Lib.hid hs
        have F3 : Hid (Fr (RfB g t) w W3) := Lib.hid (F2.out.trans hf fun _ _ e => .inl e)
        clear hx hs hf HR2
        by_cases hbig : 257 + n1 ≤ 286 ∧ 1 + n2 ≤ 30
        · have HR4 : Hid (RES = (((rCode b (4 + n3) k3).then fun cl k4 => (rLens b cl (257 + n1 + (1 + n2)) [] k4).then fun l k5 =>
            (rIf (decide (l.getD 256 0 ≠ 0 ∧ okl (l.take (257 + n1)) ∧ okl (l.drop (257 + n1)))) 62 k5).then fun _ k5 =>
            .ok (l.take (257 + n1), l.drop (257 + n1)) k5).then fun c k1 => rSyms b lim c.1 c.2 T k1)) := Lib.hid (by rw [HR3.out, rIf_yes (decide_eq_true hbig)]; rfl)
          have i1 : decide ((286 : Int) < (n1 : Int) + 257) = false := decide_eq_false (by omega)
          have i2 : decide ((30 : Int) < (n2 : Int) + 1) = false := decide_eq_false (by omega)
          have mk := make_u8s
          obtain ⟨MY, hMY⟩ : ∃ MY, 4 + n3 = MY := ⟨_, rfl⟩
          have eMY : (n3 : Int) + 4 = (MY : Int) := by omega
          have hMY19 : MY ≤ 19 := by omega
          rw [hMY] at HR4
          clear HR3 hMY
          go_wp2_with fail
          obtain ⟨W4, hW4⟩ : ∃ W4, (W3.alloc (.cells #[.int .i64 16, .int .i64 17, .int .i64 18, .int .i64 0, .int .i64 8, .int .i64 7, .int .i64 9, .int .i64 6, .int .i64 10, .int .i64 5, .int .i64 11, .int .i64 4, .int .i64 12, .int .i64 3, .int .i64 13, .int .i64 2, .int .i64 14, .int .i64 1, .int .i64 15] 3)).alloc (.cells (zers .u8 19) 5) = W4 := ⟨_, rfl⟩
          have hAB : W4.heap[W3.heap.size + 1]? = some (.cells (u8s (List.replicate 19 0)).toArray 5 (0, 0)) := by
            rw [← hW4]
            have h1 := heap_alloc_new (W3.alloc (.cells #[.int .i64 16, .int .i64 17, .int .i64 18, .int .i64 0, .int .i64 8, .int .i64 7, .int .i64 9, .int .i64 6, .int .i64 10, .int .i64 5, .int .i64 11, .int .i64 4, .int .i64 12, .int .i64 3, .int .i64 13, .int .i64 2, .int .i64 14, .int .i64 1, .int .i64 15] 3)) (.cells (zers .u8 19) 5)
            rw [size_alloc] at h1
            rw [← zers19]
            exact h1
          have hOB : W4.heap[W3.heap.size]? = some (.cells ordC 3 (0, 0)) := by
            rw [← hW4]
            exact (Fr.alloc S0 _ _).row (heap_alloc_new W3 (.cells #[.int .i64 16, .int .i64 17, .int .i64 18, .int .i64 0, .int .i64 8, .int .i64 7, .int .i64 9, .int .i64 6, .int .i64 10, .int .i64 5, .int .i64 11, .int .i64 4, .int .i64 12, .int .i64 3, .int .i64 13, .int .i64 2, .int .i64 14, .int .i64 1, .int .i64 15] 3)) (fun h => h)
          have f4 : Fr S0 W3 W4 := by rw [← hW4]; exact (Fr.alloc S0 _ _).trans0 (Fr.alloc _ _ _)
          rw [hW4]
          obtain ⟨OB, hOBe⟩ : ∃ OB, W3.heap.size = OB := ⟨_, rfl⟩
          rw [hOBe] at hOB hAB
          rw [hOBe]
          have HGO : Hid (g < OB ∧ (∀ j, t = some j → j < OB) ∧ (∀ a, pb = some a → a.block < OB) ∧ w.heap.size ≤ OB) := Lib.hid ⟨by rw [← hOBe]; exact H3.out.lt, fun j hj => by obtain ⟨p', c', h1, h2, h3⟩ := H3.out.ex; rw [← hOBe]; exact (h2.lt j (h3.trans hj)).2, fun a ha => by have := HPL.out a ha; have := F3.out.size; omega, by rw [← hOBe]; exact F3.out.size⟩
          have H4 := Lib.hid (H3.out.fr0 f4)
          have F4 := Lib.hid (F3.out.trans0 f4)
          have HAB := Lib.hid hAB
          have HOB := Lib.hid hOB
          clear hW4 hOBe f4 mk hAB hOB
          go_loopw [7] (fun i wr => ∃ (j k4 M : Nat) (cl : List Nat), j ≤ MY ∧ i = .int .i64 j ∧ wr.heap[OB]? = some (.cells ordC 3 (0, 0)) ∧ wr.heap[OB + 1]? = some (.cells (u8s cl).toArray 5 (0, 0)) ∧ cl.length = 19 ∧ (∀ x ∈ cl, x ≤ 7) ∧ RfIs wr g pb cb t b k4 lim T M ∧ Fr (RfB g t) w wr ∧ ((M = 0 ∧ rShort b (order.take MY) (List.replicate 19 0) k3 = rShort b ((order.take MY).drop j) cl k4) ∨ (M ≠ 0 ∧ RES = .no M))) (fun i _ => MY - (intOf i).toNat)
          case atStart => exact ⟨0, k3, 0, List.replicate 19 0, by omega, rfl, HOB.out, HAB.out, by simp, fun x hx => by have := (List.mem_replicate.1 hx).2; omega, H4.out, F4.out, .inl ⟨rfl, rfl⟩⟩
          case round =>
            obtain ⟨j, k4, M, cl, hj, rfl, ho, ha, h19, h7, hst, hfr, hor⟩ := hrel
            have HO := Lib.hid ho
            have HA := Lib.hid ha
            have H19 := Lib.hid h19
            have H7 := Lib.hid h7
            have HST := Lib.hid hst
            have HFR := Lib.hid hfr
            have hsl : SlI wr .u8 (some ⟨OB + 1, 0, none⟩) cl := SlI.ofBlock ha rfl (by rw [h19]; decide)
            have HSL := Lib.hid hsl
            rcases hor with ⟨rfl, heq⟩ | ⟨hMz, hRN⟩
            · have HEQ := Lib.hid heq
              have y4 : wr.cell? ⟨g, 4, none⟩ = some (.int .i64 0) := hst.c4
              clear ho ha h19 h7 hst hfr heq hsl
              by_cases hjm : (j : Int) < (MY : Int)
              · have hjo : j < order.length := by have : order.length = 19 := rfl; omega
                have hs19 := order_lt j hjo
                have HDR : Hid ((order.take MY).drop j = order[j] :: (order.take MY).drop (j + 1)) := Lib.hid (order_drop MY j hMY19 (by omega))
                have o1 : wr.cell? ⟨OB, j, none⟩ = some (.int .i64 (order[j] : Nat)) := by simp only [World.cell?, HO.out]; exact ordC_at j hjo
                obtain ⟨s, hs⟩ : ∃ s, order[j] = s := ⟨_, rfl⟩
                rw [hs] at hs19 HDR o1
                have hj19 : (j : Int) < 19 := by omega
                have hsI : (s : Int) < 19 := by omega
                clear hs hjo
                cases hx : rGrp b 3 k4 with
                | no M =>
                  have RN : Hid (RES = .no M) := Lib.hid (by rw [HR4.out]; unfold rCode; rw [HEQ.out, HDR.out, rShort, hx]; rfl)
                  have HMZ := Lib.hid (grp_nz HST.out.ins hx)
                  have HG := Lib.hid (sgroup_not 3 M wr.drew (HST.out.fr0 (Fr.drew _ _)) (by decide) hx)
                  have hw0 : IntKind.u8.wrap 0 = 0 := rfl
                  clear hx
                  go_wp2_with fail
                  go_region_law (go_simp; go_at_call 42; refine HG.out.mono ?_; rintro _ W5 ⟨rfl, hs5, hf5⟩; have HS5 := Lib.hid hs5; have HF5 := Lib.hid hf5; have HA5 := Lib.hid (hf5.row ((Fr.drew S0 wr).row HA.out (fun h => h)) (by have := HGO.out.1; omega)); have HO5 := Lib.hid (hf5.row ((Fr.drew S0 wr).row HO.out (fun h => h)) (by have := HGO.out.1; omega)); have o2 : W5.cell? ⟨OB, j, none⟩ = some (.int .i64 (s : Nat)) := (hf5.cell ((Fr.drew S0 wr).cell o1 (fun h => h)) (by have := HGO.out.1; show ¬ OB = g; omega)); obtain ⟨v5, a5⟩ := cell_of5 HA5.out H19.out hs19; have z5 : W5.frozen? ⟨OB + 1, s, none⟩ = false := (by simp [World.frozen?, HA5.out]); clear hs5 hf5)
                  all_goals
                    obtain ⟨q1, q2, q3⟩ := of_set HS5.out HA5.out (by have := HGO.out.1; omega) (fun q hq => by have := HGO.out.2.1 q hq; omega) (fun a ha => by have := HGO.out.2.2.1 a ha; omega) s 0
                    have Q1 := Lib.hid q1
                    have Q2 := Lib.hid q2
                    have Q3 := Lib.hid q3
                    clear o2 z5 a5 y4 o1 q1 q2 q3 hw0
                    go_wp2_with fail
                    go_roundw
                    case rel => exact ⟨j + 1, k4, M, cl.set s 0, by omega, by simp, Q3.out.row HO5.out (by omega), Q2.out, by rw [List.length_set]; exact H19.out, fun x hx => by
                      rcases List.mem_or_eq_of_mem_set hx with h1 | h1
                      · exact H7.out x h1
                      · omega, Q1.out, ((HFR.out.trans0 (Fr.drew S0 _)).trans HF5.out fun _ _ e => .inl e).trans Q3.out fun q hq e => by have := HGO.out.2.2.2; omega, .inr ⟨HMZ.out, RN.out⟩⟩
                    case measure => simp [intOf]; omega
                | ok n j2 =>
                  have HX := Lib.hid hx
                  have hn8 : n < 8 := (rGrp_lt hx).1
                  have HG := Lib.hid (sgroup_at 3 n j2 wr.drew HNE.out (HST.out.fr0 (Fr.drew _ _)) (by decide) hx)
                  have hwn : IntKind.u8.wrap (n : Int) = (n : Int) := IntWalk.u8_in _ (by omega)
                  clear hx
                  go_wp2_with fail
                  go_region_law (go_simp; go_at_call 42; refine HG.out.mono ?_; rintro _ W5 ⟨rfl, hs5, hf5⟩; have HS5 := Lib.hid hs5; have HF5 := Lib.hid hf5; have HA5 := Lib.hid (hf5.row ((Fr.drew S0 wr).row HA.out (fun h => h)) (by have := HGO.out.1; omega)); have HO5 := Lib.hid (hf5.row ((Fr.drew S0 wr).row HO.out (fun h => h)) (by have := HGO.out.1; omega)); have o2 : W5.cell? ⟨OB, j, none⟩ = some (.int .i64 (s : Nat)) := (hf5.cell ((Fr.drew S0 wr).cell o1 (fun h => h)) (by have := HGO.out.1; show ¬ OB = g; omega)); obtain ⟨v5, a5⟩ := cell_of5 HA5.out H19.out hs19; have z5 : W5.frozen? ⟨OB + 1, s, none⟩ = false := (by simp [World.frozen?, HA5.out]); clear hs5 hf5)
                  all_goals
                    obtain ⟨q1, q2, q3⟩ := of_set HS5.out HA5.out (by have := HGO.out.1; omega) (fun q hq => by have := HGO.out.2.1 q hq; omega) (fun a ha => by have := HGO.out.2.2.1 a ha; omega) s n
                    have Q1 := Lib.hid q1
                    have Q2 := Lib.hid q2
                    have Q3 := Lib.hid q3
                    clear o2 z5 a5 y4 o1 q1 q2 q3 hwn
                    go_wp2_with fail
                    go_roundw
                    case rel => exact ⟨j + 1, j2, 0, cl.set s n, by omega, by simp, Q3.out.row HO5.out (by omega), Q2.out, by rw [List.length_set]; exact H19.out, fun x hx => by
                      rcases List.mem_or_eq_of_mem_set hx with h1 | h1
                      · exact H7.out x h1
                      · omega, Q1.out, ((HFR.out.trans0 (Fr.drew S0 _)).trans HF5.out fun _ _ e => .inl e).trans Q3.out fun q hq e => by have := HGO.out.2.2.2; omega, .inl ⟨rfl, by rw [HEQ.out, HDR.out, rShort, HX.out, Res.then_ok]⟩⟩
                    case measure => simp [intOf]; omega
              · have hjM : j = MY := by omega
                have KE : Hid (rShort b (order.take MY) (List.replicate 19 0) k3 = .ok cl k4) := Lib.hid (by rw [HEQ.out, List.drop_eq_nil_of_le (by rw [List.length_take]; omega)]; rfl)
                have hnl : ¬ (320 < cl.length ∨ long cl = true) := by
                  rw [long_none (fun x hx => by have := H7.out x hx; omega)]
                  rintro (h | h)
                  · have := H19.out; omega
                  · cases h
                have HNL := Lib.hid hnl
                clear hnl
                by_cases hf : ful cl
                · have hck := ck_ok HNL.out (.inl hf)
                  rw [decide_eq_true hf] at hck
                  have HCK := Lib.hid hck
                  have HR5 : Hid (RES = (((rLens b cl (257 + n1 + (1 + n2)) [] k4).then fun l k5 =>
                    (rIf (decide (l.getD 256 0 ≠ 0 ∧ okl (l.take (257 + n1)) ∧ okl (l.drop (257 + n1)))) 62 k5).then fun _ k5 =>
                    .ok (l.take (257 + n1), l.drop (257 + n1)) k5).then fun c k1 => rSyms b lim c.1 c.2 T k1)) := Lib.hid (by rw [HR4.out]; unfold rCode; rw [KE.out, Res.then_ok, rIf_yes (decide_eq_true hf)]; rfl)
                  have HOK : Hid (okl cl) := Lib.hid (.inl hf)
                  have eMANY : (n1 : Int) + 257 + ((n2 : Int) + 1) = ((257 + n1 + (1 + n2) : Nat) : Int) := by omega
                  obtain ⟨MANY, hMANY⟩ : ∃ MANY, 257 + n1 + (1 + n2) = MANY := ⟨_, rfl⟩
                  rw [hMANY] at eMANY HR5
                  have hMANY3 : MANY ≤ 316 := by omega
                  clear hck hf hjM
                  go_wp2_with fail
                  refine (rcheck_n _ 19 19 cl _ H19.out HSL.out (fun x hx => by have := H7.out x hx; omega) (by omega)).mono ?_
                  rintro _ w' ⟨rfl, rfl⟩
                  rw [HCK.out.1, HCK.out.2]
                  go_wp2_with fail
                  refine (slens_n _ 19 19 MANY cl _ H19.out HNE.out HST.out HSL.out (fun a ha => by cases ha; have := HGO.out.1; show OB + 1 ≠ g; omega) (fun x hx => by have := H7.out x hx; omega) rfl HOK.out hMANY3).mono ?_
                  rintro e W5 hL
                  cases hl : rLens b cl MANY [] k4 with
                  | no M =>
                    rw [hl] at hL
                    obtain ⟨v, jm, rfl, hs5, hf5⟩ := hL
                    have RN : Hid (RES = .no M) := Lib.hid (by rw [HR5.out, hl]; rfl)
                    have HMZ : Hid (M ≠ 0) := Lib.hid (fun e => (Nz.lens cl MANY _ [] (Nat.le_refl _)).of b k4 HST.out.ins (e ▸ hl))
                    have HD : Hid (Dead w W5 g pb cb t t b jm lim T M) := Lib.hid (Dead.of hs5 HFR.out (.inl rfl) hf5 HMZ.out)
                    have y8 := hs5.c4
                    have yc : ((M : Int) != 0) = true := by have := HMZ.out; simpa using this
                    clear hs5 hf5 hl y4
                    go_wp2_with fail
                    ((try simp only [Exit.inBlock, Exit.then]); refine bodyPost_ret (results_none rfl _ _ _) rfl ?_)
                    exact HD.out.out RN.out
                  | ok l j5 =>
                    rw [hl] at hL
                    obtain ⟨v, rfl, hk⟩ := hL
                    obtain ⟨hlen, h15⟩ := rLens_all (many := MANY) (show cl.length ≤ 19 by have := H19.out; omega) MANY [] k4 l j5 (by simp) (by simp) (fun x hx => by cases hx) hl
                    have HR6 : Hid (RES = (((rIf (decide (l.getD 256 0 ≠ 0 ∧ okl (l.take (257 + n1)) ∧ okl (l.drop (257 + n1)))) 62 j5).then fun _ k5 =>
                      .ok (l.take (257 + n1), l.drop (257 + n1)) k5).then fun c k1 => rSyms b lim c.1 c.2 T k1)) := Lib.hid (by rw [HR5.out, hl]; rfl)
                    have HK := Lib.hid hk
                    have own := hk.own
                    rw [hlen] at own
                    obtain ⟨pv, cv, rfl, -, hlc, -⟩ := slForm own
                    have HV : Hid (SlI W5 .u8 pv l) := Lib.hid (SlI.ofOwns own)
                    have HFV := Lib.hid hk.fresh
                    have H15 := Lib.hid h15
                    have HLEN := Lib.hid hlen
                    have HF5 : Hid (Fr (RfB g t) w W5) := Lib.hid (HFR.out.trans hk.fr fun _ _ e => .inl e)
                    have y8 : W5.cell? ⟨g, 4, none⟩ = some (.int .i64 0) := hk.st.c4
                    have y9 := hk.st.fz 4
                    obtain ⟨N1, hN1⟩ : ∃ N1, 257 + n1 = N1 := ⟨_, rfl⟩
                    rw [hN1] at HR6
                    have eN1 : (n1 : Int) + 257 = (N1 : Int) := by omega
                    obtain ⟨Bv, ov, rfl, hcx⟩ := HV.out.at 256 (by omega)
                    have HXG := Lib.hid (getD_at l 256 (by omega))
                    obtain ⟨x, hx⟩ : ∃ x, l[256]'(by omega) = x := ⟨_, rfl⟩
                    rw [hx] at hcx HXG
                    have HOFF : Hid (Bv ≠ g ∧ t ≠ some Bv) := Lib.hid (by
                      have h1 := HFV.out Bv rfl
                      have h2 := HST.out.lt
                      refine ⟨by omega, fun e => ?_⟩
                      obtain ⟨p', c', h3, h4, h5⟩ := HST.out.ex
                      have := (h4.lt Bv (h5.trans e)).2
                      omega)
                    have q256 : (256 : Int) < (MANY : Int) := by omega
                    have r1 : (N1 : Int) ≤ (cv : Int) := by omega
                    have r2 : (N1 : Int) ≤ (MANY : Int) := by omega
                    have r3 : (MANY : Int) ≤ (cv : Int) := by omega
                    have r4 : ¬ cv = N1 := by omega
                    have r5 : N1 ≤ 320 := by omega
                    have HTL : Hid ((l.take N1).length = N1) := Lib.hid (by rw [List.length_take]; omega)
                    have HDL : Hid ((l.drop N1).length = MANY - N1) := Lib.hid (by rw [List.length_drop, hlen])
                    have hd320 : MANY - N1 ≤ 320 := by omega
                    clear hl hk own hx hlen h15 hN1 y4 hMANY hlc
                    have RNO : Hid (¬ (l.getD 256 0 ≠ 0 ∧ okl (l.take N1) ∧ okl (l.drop N1)) → RES = .no 62) := Lib.hid (fun hc => by rw [HR6.out, rIf_no (decide_eq_false hc)]; rfl)
                    have FIN : Hid (RES = .no 62 → RfOut RES w (W5.setCell ⟨g, 4, none⟩ (.int .i64 62)) g pb cb t b lim (.returned (.tuple #[]))) := Lib.hid (fun hc => (Dead.set HK.out.st HF5.out (.inl rfl) 62 (by decide)).out hc)
                    by_cases hx0 : x = 0
                    · have RN := Lib.hid (RNO.out (fun h => h.1 (by rw [HXG.out, hx0])))
                      have ex : ((x : Int) == 0) = true := by simp [hx0]
                      clear hx0
                      go_wp2_with fail
                      ((try simp only [Exit.inBlock, Exit.then]); refine bodyPost_ret (results_none rfl _ _ _) rfl ?_)
                      exact FIN.out RN.out
                    · have ex : ((x : Int) == 0) = false := by simpa using hx0
                      have HS1 : Hid (SlI W5 .u8 (some ⟨Bv, ov, none⟩) (l.take N1)) := Lib.hid (HV.out.take N1)
                      have HS2 : Hid (SlI W5 .u8 (some ⟨Bv, ov + N1, none⟩) (l.drop N1)) := Lib.hid (HV.out.drop N1)
                      have HB1 := Lib.hid (sbad_n (some ⟨Bv, ov, none⟩) N1 cv (l.take N1) W5 HTL.out HS1.out (fun y hy => H15.out y (List.mem_of_mem_take hy)) r5)
                      have HB2 := Lib.hid (sbad_n (some ⟨Bv, ov + N1, none⟩) (MANY - N1) (cv - N1) (l.drop N1) W5 HDL.out HS2.out (fun y hy => H15.out y (List.mem_of_mem_drop hy)) hd320)
                      by_cases ok1 : okl (l.take N1)
                      · rw [show decide (¬ okl (l.take N1)) = false from decide_eq_false (fun h => h ok1)] at HB1
                        by_cases ok2 : okl (l.drop N1)
                        · rw [show decide (¬ okl (l.drop N1)) = false from decide_eq_false (fun h => h ok2)] at HB2
                          have HR7 : Hid (RES = rSyms b lim (l.take N1) (l.drop N1) T j5) := Lib.hid (by rw [HR6.out, rIf_yes (decide_eq_true ⟨by rw [HXG.out]; exact hx0, ok1, ok2⟩)]; rfl)
                          have HBK := Lib.hid (HB.out g pb cb t b j5 lim T (some ⟨Bv, ov, none⟩) (some ⟨Bv, ov + N1, none⟩) cv (cv - N1) (l.take N1) (l.drop N1) W5.drew HNE.out (HK.out.st.fr0 (Fr.drew _ _)) (HS1.out.fr0 (Fr.drew _ _)) (fun a ha => by cases ha; rintro (h | h); exact HOFF.out.1 h; exact HOFF.out.2 h) (fun y hy => H15.out y (List.mem_of_mem_take hy)) (by rw [HTL.out]; exact r5) ok1 (HS2.out.fr0 (Fr.drew _ _)) (fun a ha => by cases ha; rintro (h | h); exact HOFF.out.1 h; exact HOFF.out.2 h) (fun y hy => H15.out y (List.mem_of_mem_drop hy)) (by rw [HDL.out]; exact hd320) ok2)
                          rw [HTL.out, HDL.out] at HBK
                          clear ok1 ok2 hx0
                          go_wp2_with fail
                          refine HB1.out.mono ?_
                          rintro _ w' ⟨rfl, rfl⟩
                          go_wp2_with fail
                          refine HB2.out.mono ?_
                          rintro _ w' ⟨rfl, rfl⟩
                          go_wp2_with fail
                          go_region_law (go_simp; go_at_call 44; refine HBK.out.mono ?_; rintro e w9 hout; have HE := hout.1; subst HE; have HOUT := Lib.hid (RfOut.from (HF5.out.trans0 (Fr.drew S0 W5)) hout); rw [← HR7.out] at HOUT; clear hout)
                          all_goals
                            go_wp2_with fail
                            go_end0
                            exact HOUT.out
                        · rw [show decide (¬ okl (l.drop N1)) = true from decide_eq_true ok2] at HB2
                          have RN := Lib.hid (RNO.out (fun h => ok2 h.2.2))
                          clear ok1 ok2 hx0
                          go_wp2_with fail
                          refine HB1.out.mono ?_
                          rintro _ w' ⟨rfl, rfl⟩
                          go_wp2_with fail
                          refine HB2.out.mono ?_
                          rintro _ w' ⟨rfl, rfl⟩
                          go_wp2_with fail
                          ((try simp only [Exit.inBlock, Exit.then]); refine bodyPost_ret (results_none rfl _ _ _) rfl ?_)
                          exact FIN.out RN.out
                      · rw [show decide (¬ okl (l.take N1)) = true from decide_eq_true ok1] at HB1
                        have RN := Lib.hid (RNO.out (fun h => ok1 h.2.1))
                        clear ok1 hx0
                        go_wp2_with fail
                        refine HB1.out.mono ?_
                        rintro _ w' ⟨rfl, rfl⟩
                        go_wp2_with fail
                        ((try simp only [Exit.inBlock, Exit.then]); refine bodyPost_ret (results_none rfl _ _ _) rfl ?_)
                        exact FIN.out RN.out
                · have RN' : Hid (RES = .no 62) := Lib.hid (by rw [HR4.out]; unfold rCode; rw [KE.out, Res.then_ok, rIf_no (decide_eq_false hf)]; rfl)
                  have HCK : Hid ((ckN cl = 0 ∨ ckN cl = 62) ∧ ckF cl = false) := Lib.hid (by
                    by_cases ok : okl cl
                    · have h1 := ck_ok HNL.out ok
                      rw [decide_eq_false hf] at h1
                      exact ⟨.inl h1.1, h1.2⟩
                    · have h1 := ck_no HNL.out ok
                      exact ⟨.inr h1.1, h1.2⟩)
                  clear hf hjM
                  go_wp2_with fail
                  refine (rcheck_n _ 19 19 cl _ H19.out HSL.out (fun x hx => by have := H7.out x hx; omega) (by omega)).mono ?_
                  rintro _ w' ⟨rfl, rfl⟩
                  rw [HCK.out.2]
                  obtain ⟨CN, hCN⟩ : ∃ CN, ckN cl = CN := ⟨_, rfl⟩
                  rw [hCN]
                  clear hCN
                  go_wp2_with fail
                  all_goals
                    refine (sfail_ok 62 _ HST.out).mono ?_
                    rintro _ W8 ⟨rfl, hst8, hf8⟩
                    have HD : Hid (Dead w W8 g pb cb t t b k4 lim T 62) := Lib.hid (Dead.of hst8 HFR.out (.inl rfl) hf8 (by decide))
                    have y8 : W8.cell? ⟨g, 4, none⟩ = some (.int .i64 62) := hst8.c4
                    clear hst8 hf8 y4
                    go_wp2_with fail
                    ((try simp only [Exit.inBlock, Exit.then]); refine bodyPost_ret (results_none rfl _ _ _) rfl ?_)
                    exact HD.out.out RN'.out
            · have HD9 : Hid (Dead w wr g pb cb t t b k4 lim T M) := Lib.hid ⟨hst, hMz, hfr, .inl rfl⟩
              have RN := Lib.hid hRN
              have y4 := hst.c4
              have yb : ((M : Int) == 0) = false := by simpa using hMz
              have yc : ((M : Int) != 0) = true := by simpa using hMz
              clear ho ha h19 h7 hst hfr hsl hMz hRN
              go_wp2_with fail
              all_goals
                refine (rcheck_n _ 19 19 cl _ H19.out HSL.out (fun x hx => by have := H7.out x hx; omega) (by omega)).mono ?_
                rintro _ w' ⟨rfl, rfl⟩
                obtain ⟨CN, hCN⟩ : ∃ CN, ckN cl = CN := ⟨_, rfl⟩
                obtain ⟨CF, hCF⟩ : ∃ CF, ckF cl = CF := ⟨_, rfl⟩
                rw [hCN, hCF]
                clear hCN hCF
                go_wp2_with (go_at_call 71; refine (sfail_err _ _ HD9.out.is HD9.out.nz).mono ?_; rintro _ w9 ⟨rfl, rfl⟩)
                all_goals
                  ((try simp only [Exit.inBlock, Exit.then]); refine bodyPost_ret (results_none rfl _ _ _) rfl ?_)
                  exact HD9.out.out RN.out
        · have RN' : Hid (RES = .no 62) := Lib.hid (by rw [HR3.out, rIf_no (decide_eq_false hbig)]; rfl)
          obtain ⟨M, hM⟩ : ∃ M : Nat, 62 = M := ⟨_, rfl⟩
          have RN : Hid (RES = .no M) := Lib.hid (by rw [← hM]; exact RN'.out)
          have K62 : Hid (∀ W8, RfIs W8 g pb cb t b k3 lim T 62 → Fr (· = g) W3 W8 → Dead w W8 g pb cb t t b k3 lim T M) := Lib.hid (fun W8 h1 h2 => Dead.of (hM ▸ h1) F3.out (.inl rfl) h2 (by omega))
          by_cases hb1 : 257 + n1 ≤ 286
          · have i1 : ¬ (n1 : Int) + 257 > 286 := by omega
            have i2 : (n2 : Int) + 1 > 30 := by omega
            go_wp2_with fail
            refine (sfail_ok 62 _ H3.out).mono ?_
            rintro _ W8 ⟨rfl, hst, hf⟩
            have HD := Lib.hid (K62.out W8 hst hf)
            clear hst hf hM
            have mk := make_u8s
            go_wp2_with (go_at_call 71; refine (sfail_err _ _ HD.out.is HD.out.nz).mono ?_; rintro _ w9 ⟨rfl, rfl⟩)
            all_goals
              go_loopw [7] (fun i wr => i = .int .i64 0 ∧ Dead w wr g pb cb t t b k3 lim T M ∧ SlI wr .u8 (some ⟨W8.heap.size + 1, 0, none⟩) (List.replicate 19 0)) (fun _ _ => 0)
              case atStart => exact ⟨rfl, HD.out.fr0 ((Fr.alloc S0 _ _).trans0 (Fr.alloc _ _ _)), by
                have h1 := zers_own (W8.alloc (.cells #[.int .i64 16, .int .i64 17, .int .i64 18, .int .i64 0, .int .i64 8, .int .i64 7, .int .i64 9, .int .i64 6, .int .i64 10, .int .i64 5, .int .i64 11, .int .i64 4, .int .i64 12, .int .i64 3, .int .i64 13, .int .i64 2, .int .i64 14, .int .i64 1, .int .i64 15] 3)) .u8 5 19 (by decide)
                rw [size_alloc] at h1
                exact SlI.ofOwns h1⟩
              case round =>
                obtain ⟨rfl, hd9, hs9⟩ := hrel
                have HD9 := Lib.hid hd9
                have HS9 := Lib.hid hs9
                have y4 := HD9.out.is.c4
                have yb : ((M : Int) == 0) = false := by have := HD9.out.nz; simpa using this
                have yc : ((M : Int) != 0) = true := by have := HD9.out.nz; simpa using this
                clear hd9 hs9
                go_wp2_with fail
                all_goals
                  refine (rcheck_n _ 19 19 (List.replicate 19 0) _ (by simp) HS9.out (fun x hx => by have := (List.mem_replicate.1 hx).2; omega) (by omega)).mono ?_
                  rintro _ w' ⟨rfl, rfl⟩
                  obtain ⟨CN, hCN⟩ : ∃ CN, ckN (List.replicate 19 0) = CN := ⟨_, rfl⟩
                  obtain ⟨CF, hCF⟩ : ∃ CF, ckF (List.replicate 19 0) = CF := ⟨_, rfl⟩
                  rw [hCN, hCF]
                  clear hCN hCF
                  go_wp2_with (go_at_call 71; refine (sfail_err _ _ HD9.out.is HD9.out.nz).mono ?_; rintro _ w9 ⟨rfl, rfl⟩)
                  all_goals
                    ((try simp only [Exit.inBlock, Exit.then]); refine bodyPost_ret (results_none rfl _ _ _) rfl ?_)
                    exact HD9.out.out RN.out
          · have i1 : (n1 : Int) + 257 > 286 := by omega
            go_wp2_with fail
            refine (sfail_ok 62 _ H3.out).mono ?_
            rintro _ W8 ⟨rfl, hst, hf⟩
            have HD := Lib.hid (K62.out W8 hst hf)
            clear hst hf hM
            have mk := make_u8s
            go_wp2_with (go_at_call 71; refine (sfail_err _ _ HD.out.is HD.out.nz).mono ?_; rintro _ w9 ⟨rfl, rfl⟩)
            all_goals
              go_loopw [7] (fun i wr => i = .int .i64 0 ∧ Dead w wr g pb cb t t b k3 lim T M ∧ SlI wr .u8 (some ⟨W8.heap.size + 1, 0, none⟩) (List.replicate 19 0)) (fun _ _ => 0)
              case atStart => exact ⟨rfl, HD.out.fr0 ((Fr.alloc S0 _ _).trans0 (Fr.alloc _ _ _)), by
                have h1 := zers_own (W8.alloc (.cells #[.int .i64 16, .int .i64 17, .int .i64 18, .int .i64 0, .int .i64 8, .int .i64 7, .int .i64 9, .int .i64 6, .int .i64 10, .int .i64 5, .int .i64 11, .int .i64 4, .int .i64 12, .int .i64 3, .int .i64 13, .int .i64 2, .int .i64 14, .int .i64 1, .int .i64 15] 3)) .u8 5 19 (by decide)
                rw [size_alloc] at h1
                exact SlI.ofOwns h1⟩
              case round =>
                obtain ⟨rfl, hd9, hs9⟩ := hrel
                have HD9 := Lib.hid hd9
                have HS9 := Lib.hid hs9
                have y4 := HD9.out.is.c4
                have yb : ((M : Int) == 0) = false := by have := HD9.out.nz; simpa using this
                have yc : ((M : Int) != 0) = true := by have := HD9.out.nz; simpa using this
                clear hd9 hs9
                go_wp2_with fail
                all_goals
                  refine (rcheck_n _ 19 19 (List.replicate 19 0) _ (by simp) HS9.out (fun x hx => by have := (List.mem_replicate.1 hx).2; omega) (by omega)).mono ?_
                  rintro _ w' ⟨rfl, rfl⟩
                  obtain ⟨CN, hCN⟩ : ∃ CN, ckN (List.replicate 19 0) = CN := ⟨_, rfl⟩
                  obtain ⟨CF, hCF⟩ : ∃ CF, ckF (List.replicate 19 0) = CF := ⟨_, rfl⟩
                  rw [hCN, hCF]
                  clear hCN hCF
                  go_wp2_with (go_at_call 71; refine (sfail_err _ _ HD9.out.is HD9.out.nz).mono ?_; rintro _ w9 ⟨rfl, rfl⟩)
                  all_goals
                    ((try simp only [Exit.inBlock, Exit.then]); refine bodyPost_ret (results_none rfl _ _ _) rfl ?_)
                    exact HD9.out.out RN.out



/-- what it answers -/
def RdAns (x : Res (List Nat)) (w w' : World) (e : Ending) : Prop :=
  Fr S0 w w' ∧ match x with
  | .ok T k => ∃ q c, e = .returned (.tuple #[.slice q T.length c, .int .i64 ((k + 7) / 8 : Nat), .int .i64 0]) ∧ w'.ownsRow 0 5 1 (.slice q T.length c) T.length (u8s T) ∧ Fresh w (.slice q T.length c)
  | .no m => e = .returned (.tuple #[.slice none 0 0, .int .i64 0, .int .i64 (m : Nat)])
theorem RdAns.no {x : Res (List Nat)} {w w' : World} {m : Nat} (h : x = .no m) (hf : Fr S0 w w') : RdAns x w w' (.returned (.tuple #[.slice none 0 0, .int .i64 0, .int .i64 (m : Nat)])) := by
  subst h; exact ⟨hf, rfl⟩
theorem RdAns.ok {x : Res (List Nat)} {w w' : World} {T : List Nat} {k : Nat} {q : Option Addr} {c : Nat} (h : x = .ok T k) (hf : Fr S0 w w') (ho : w'.ownsRow 0 5 1 (.slice q T.length c) T.length (u8s T)) (hn : Fresh w (.slice q T.length c)) : RdAns x w w' (.returned (.tuple #[.slice q T.length c, .int .i64 ((k + 7) / 8 : Nat), .int .i64 0])) := by
  subst h; exact ⟨hf, q, c, rfl, ho, hn⟩
/-- a stream of one's own: all that is written is new -/
theorem RfTo.new {w0 w w' : World} {g : Nat} {pb : Option Addr} {cb : Nat} {t : Option Nat} {b : List Nat} {k lim : Nat} {T : List Nat} {E : Nat} (hf : Fr S0 w0 w) (hg : w0.heap.size ≤ g) (ht : ∀ j, t = some j → w0.heap.size ≤ j) (h : RfTo w w' g pb cb t b k lim T E) : Fr S0 w0 w' ∧ ∃ t', RfIs w' g pb cb t' b k lim T E ∧ ∀ j, t' = some j → w0.heap.size ≤ j := by
  obtain ⟨t', h1, h2, h3⟩ := h
  refine ⟨hf.trans h2 fun j hj e => ?_, t', h1, fun j hj => ?_⟩
  · rcases e with e | e
    · omega
    · have := ht j e; omega
  · rcases h3 with h3 | h3
    · exact ht j (h3 ▸ hj)
    · exact Nat.le_trans hf.size (h3 j hj)
theorem RfIs.made {w1 : World} {b : List Nat} {pb : Option Addr} {cb lim : Nat} (own : w1.ownsRow 0 5 1 (.slice pb (8 * b.length) cb) (8 * b.length) (u8s (bts b))) (hz : pb = none → cb = 0) (hc : 8 * b.length ≤ cb) (hm : cb ≤ maxLen) (hL : b.length ≤ 4000) (hl : lim ≤ 1048576) :
    RfIs (w1.alloc (.cells #[.slice pb (8 * b.length) cb, .int .i64 0, .slice none 0 0, .int .i64 (lim : Nat), .int .i64 0] 65)) w1.heap.size pb cb none b 0 lim [] 0 := by
  have f := Fr.alloc S0 w1 (.cells #[.slice pb (8 * b.length) cb, .int .i64 0, .slice none 0 0, .int .i64 (lim : Nat), .int .i64 0] 65)
  refine ⟨⟨none, 0, heap_alloc_new w1 _, World.ownsRow_nil _ _ _ _, rfl⟩, (SlI.ofOwns own).fr0 f, hz, hc, hm, by omega, by omega, ⟨by simp, hl⟩, by simp, fun a ha => ⟨?_, by simp⟩⟩
  by_cases hb : bts b = []
  · have hlen := bts_length b
    rw [hb] at hlen
    simp only [List.length_nil] at hlen
    rcases own.2 with ⟨hv, _⟩ | ⟨q, cap, cur, hv, _, hq, _⟩
    · simp only [Value.slice.injEq] at hv
      rw [hv.1] at ha
      cases ha
    · simp only [Value.slice.injEq] at hv
      rw [hv.1] at ha
      obtain rfl := Option.some.inj ha
      have := (Array.getElem?_eq_some_iff.1 hq).1
      show q ≠ w1.heap.size
      omega
  · have := (SlI.ofOwns own).lt hb a ha
    omega

/-- how it goes on behind a block -/
def RdNext (RES : Res (List Nat)) (w W' : World) (g : Nat) (pb : Option Addr) (cb : Nat) (b : List Nat) (k lim last : Nat) : Prop :=
  ∃ (k' : Nat) (T' : List Nat) (E' : Nat) (t' : Option Nat), RfIs W' g pb cb t' b k' lim T' E' ∧ Fr S0 w W' ∧ (∀ j, t' = some j → w.heap.size ≤ j) ∧ (E' = 0 → k < k' ∧ k' ≤ 8 * b.length) ∧
    ((E' = 0 ∧ last = 0 ∧ rBlocks b lim T' k' = RES) ∨ (E' = 0 ∧ last = 1 ∧ RES = .ok T' k') ∨ (E' ≠ 0 ∧ RES = .no E'))
theorem rd_next {RES : Res (List Nat)} {w W W' : World} {g : Nat} {pb : Option Addr} {cb : Nat} {t : Option Nat} {b : List Nat} {k k1 k2 lim last kind : Nat} {T : List Nat} {e : Ending} (hw : Fr S0 w W) (hg : w.heap.size ≤ g) (ht : ∀ j, t = some j → w.heap.size ≤ j) (hk : k ≤ 8 * b.length) (hres : rBlocks b lim T k = RES)
    (h1 : rGrp b 1 k = .ok last k1) (h2 : rGrp b 2 k1 = .ok kind k2) (hout : RfOut (rKind b lim T kind k2) W W' g pb cb t b lim e) : RdNext RES w W' g pb cb b k lim last := by
  have hl := rGrp_lt h1
  have hl2 := rGrp_lt h2
  have hb : rBlock b lim T k = (rKind b lim T kind k2).then fun T1 k3 => .ok (decide (last = 1), T1) k3 := by unfold rBlock; rw [h1, Res.then_ok, h2, Res.then_ok]
  have hk2 : k2 ≤ 8 * b.length := by
    have := (Loc.grp 1).of b k last k1 h1 hk
    exact ((Loc.grp 2).of b k1 kind k2 h2 this.2.1).2.1
  obtain ⟨_, hout⟩ := hout
  cases hx : rKind b lim T kind k2 with
  | no m =>
    rw [hx] at hout hb
    obtain ⟨T', j, hto⟩ := hout
    obtain ⟨hf, t', hs, ht'⟩ := RfTo.new hw hg ht hto
    have hm : m ≠ 0 := fun e => (Nz.kind lim T kind).of b k2 hk2 (e ▸ hx)
    exact ⟨j, T', m, t', hs, hf, ht', fun h => absurd h hm, .inr (.inr ⟨hm, by rw [← hres]; exact rBlocks_no hb⟩)⟩
  | ok T1 k3 =>
    rw [hx] at hout hb
    obtain ⟨hf, t', hs, ht'⟩ := RfTo.new hw hg ht hout
    have hk3 := (Loc.kind lim T kind).of b k2 T1 k3 hx hk2
    have hkk : k < k3 ∧ k3 ≤ 8 * b.length := ⟨by omega, hk3.2.1⟩
    refine ⟨k3, T1, 0, t', hs, hf, ht', fun _ => hkk, ?_⟩
    rcases (show last = 0 ∨ last = 1 by omega) with e | e
    · subst e
      exact .inl ⟨rfl, rfl, by rw [← hres]; exact (rBlocks_go hb hkk.1 hkk.2).symm⟩
    · subst e
      exact .inr (.inl ⟨rfl, rfl, by rw [← hres]; exact rBlocks_end hb⟩)

theorem make_32 (w : World) : (Instr.makeSlice 22 (.int .i64 32) (.int .i64 32)).run Tryz.prog w = .ok (.slice (some ⟨w.heap.size, 0, none⟩) 32 32) (w.alloc (.cells (zers .u8 32) 5)) := by
  obtain ⟨i, hi, hz, hs, hb⟩ := info_parts info_u8
  have := run_make w 22 5 i _ Tryz.underlying22 hi hz .i64 .i64 32 32 (by omega) (by omega) (by rw [hb]; omega) (by omega)
  rw [this, hs, Nat.mul_one]
  rfl
def five (i : Nat) : List Nat := List.replicate i 5 ++ List.replicate (32 - i) 0
theorem five_set (i : Nat) (h : i < 32) : (five i).set i 5 = five (i + 1) := by
  have : ∀ i, i < 32 → (five i).set i 5 = five (i + 1) := by decide
  exact this i h
theorem five_len (i : Nat) (h : i ≤ 32) : (five i).length = 32 := by simp [five]; omega
theorem zers32 : zers .u8 32 = (u8s (five 0)).toArray := by kernel_rfl
theorem cell_in {w : World} {g : Nat} {l : List Nat} {t : TypeId} (h : w.heap[g]? = some (.cells (u8s l).toArray t (0, 0))) {s : Nat} (hs : s < l.length) : ∃ v, w.cell? ⟨g, s, none⟩ = some v := by
  refine ⟨.int .u8 ((l.getD s 0 : Nat) : Int), ?_⟩
  simp [World.cell?, h, u8s, hs]
theorem rd_less {wr W' : World} {g : Nat} {pb : Option Addr} {cb : Nat} {t' : Option Nat} {b : List Nat} {k k' lim : Nat} {T' : List Nat} {E' : Nat} (h : eOf wr g = 1 ∧ atOf wr g = k ∧ k ≤ 8 * b.length) (hs : RfIs W' g pb cb t' b k' lim T' E') (h4 : E' = 0 → k < k' ∧ k' ≤ 8 * b.length) :
    eOf W' g * (8 * b.length + 1 - atOf W' g) < eOf wr g * (8 * b.length + 1 - atOf wr g) := by
  rw [h.1, h.2.1, hs.atOf]
  by_cases e : E' = 0
  · subst e
    have := h4 rfl
    rw [hs.eOf0]
    omega
  · rw [hs.eOf e]
    omega

set_option maxRecDepth 100000 in
set_option maxHeartbeats 4000000 in
theorem sread_any (B : BlkOk) (p : Option Addr) (d lim : Nat) (b : List Nat) (w : World) (hl : SlI w .u8 p b) (h8 : ∀ x ∈ b, x < 256) (hL : b.length ≤ 4000) (hlim : lim ≤ 1048576) :
    Calls Tryz.prog 26 #[.slice p b.length d, .int .i64 (lim : Nat)] w fun e w' => RdAns (infl b lim) w w' e := by
  have HB := Lib.hid B
  have H8 := Lib.hid h8
  have HBITS := Lib.hid (rbits_any p d b w hl h8 (by omega))
  obtain ⟨RES, hRES⟩ : ∃ R, infl b lim = R := ⟨_, rfl⟩
  have HRES : Hid (rBlocks b lim [] 0 = RES) := Lib.hid hRES
  rw [hRES]
  obtain ⟨m, hm⟩ : ∃ m, b.length = m := ⟨_, rfl⟩
  have HM := Lib.hid hm
  rw [hm] at hL HBITS
  rw [hm]
  clear hl h8 B hRES hm
  go_enter Tryz.func26, Tryz.ntmps26
  go_wp2_with fail
  refine HBITS.out.mono ?_
  rintro _ w1 ⟨v, rfl, f1, hrow⟩
  have own := hrow.own
  have hfresh := hrow.fresh
  obtain ⟨pb, cb, rfl, hz, hlc, hcm⟩ := slForm own
  have hN := bts_length b
  rw [hN] at own hlc hfresh
  rw [hN]
  have HI := Lib.hid (RfIs.made own hz hlc hcm (by rw [HM.out]; exact hL) hlim)
  have HF1 := Lib.hid f1
  have HFB := Lib.hid hfresh
  obtain ⟨NB, hNB⟩ : ∃ NB, 8 * b.length = NB := ⟨_, rfl⟩
  rw [hNB] at HI
  rw [hNB]
  clear f1 hrow own hfresh hz hlc hcm hN
  go_wp2_with fail
  obtain ⟨W0, hW0⟩ : ∃ W0, w1.alloc (.cells #[.slice pb NB cb, .int .i64 0, .slice none 0 0, .int .i64 (lim : Nat), .int .i64 0] 65) = W0 := ⟨_, rfl⟩
  have HW0 : Hid (Fr S0 w W0) := Lib.hid (by rw [← hW0]; exact HF1.out.trans0 (Fr.alloc _ _ _))
  obtain ⟨g, hg⟩ : ∃ g, w1.heap.size = g := ⟨_, rfl⟩
  rw [hW0, hg] at HI
  rw [hW0, hg]
  have HGW : Hid (w.heap.size ≤ g) := Lib.hid (by rw [← hg]; exact HF1.out.size)
  have HNB := Lib.hid hNB
  clear hW0 hg hNB
  go_loopw [8, 9, 10, 11] (fun l _ _ _ wr => ∃ (k L E : Nat) (T : List Nat) (t : Option Nat), l = .int .i64 L ∧ RfIs wr g pb cb t b k lim T E ∧ Fr S0 w wr ∧ (∀ j, t = some j → w.heap.size ≤ j) ∧ ((E = 0 ∧ L = 0 ∧ rBlocks b lim T k = RES) ∨ (E = 0 ∧ L = 1 ∧ RES = .ok T k) ∨ (E ≠ 0 ∧ RES = .no E))) (fun _ _ _ _ wr => eOf wr g * (8 * b.length + 1 - atOf wr g))
  case atStart => exact ⟨0, 0, 0, [], none, rfl, HI.out, HW0.out, (fun j h => by simp at h), .inl ⟨rfl, rfl, HRES.out⟩⟩
  case round =>
    obtain ⟨k, L, E, T, t, rfl, hst, hfr, htn, hor⟩ := hrel
    have HST := Lib.hid hst
    have HFR := Lib.hid hfr
    have HTN := Lib.hid htn
    have y4 := hst.c4
    rcases hor with ⟨rfl, rfl, hres⟩ | ⟨rfl, rfl, hres⟩ | ⟨hE, hres⟩
    · have HEQ := Lib.hid hres
      have y4' : wr.cell? ⟨g, 4, none⟩ = some (.int .i64 0) := y4
      have ME : Hid (eOf wr g = 1 ∧ atOf wr g = k ∧ k ≤ 8 * b.length) := Lib.hid ⟨hst.eOf0, hst.atOf, hst.ins⟩
      clear hst hfr htn hres y4
      cases hx : rGrp b 1 k with
      | no M =>
        have RN : Hid (RES = .no M) := Lib.hid (by rw [← HEQ.out]; exact rBlocks_no (by unfold rBlock; rw [hx]; rfl))
        have HMZ := Lib.hid (grp_nz HST.out.ins hx)
        have HG := Lib.hid (sgroup_not 1 M wr HST.out (by decide) hx)
        clear hx
        go_wp2_with fail
        refine HG.out.mono ?_
        rintro _ W8 ⟨rfl, hs, hf⟩
        have H8s := Lib.hid hs
        have F8 : Hid (Fr S0 w W8) := Lib.hid (HFR.out.trans hf fun j hj e => by have := HGW.out; omega)
        clear hs hf HG y4'
        go_wp2_with fail
        refine (sgroup_err 2 W8 H8s.out HMZ.out).mono ?_
        rintro _ w' ⟨rfl, rfl⟩
        have y8 := H8s.out.c4
        have yc : ((M : Int) != 0) = true := by have := HMZ.out; simpa using this
        go_wp2_with fail
        go_quiet (fail)
        go_wp2
        exact bodyPost_ret (v := .tuple #[.slice none 0 0, .int .i64 0, .int .i64 (M : Int)]) (by simp [results, Tryz.results26, go_sem]) rfl (RdAns.no RN.out (F8.out.trans0 (Fr.drewN _ _ _)))
      | ok last k1 =>
        have HNE : Hid (b ≠ []) := Lib.hid (by rintro rfl; rw [rGrp_no (by simp)] at hx; cases hx)
        have HG := Lib.hid (sgroup_at 1 last k1 wr HNE.out HST.out (by decide) hx)
        have HX := Lib.hid hx
        have hl2 := (rGrp_lt hx).1
        clear hx
        go_wp2_with fail
        refine HG.out.mono ?_
        rintro _ W2 ⟨rfl, hs, hf⟩
        have H2s := Lib.hid hs
        have F2 : Hid (Fr S0 w W2) := Lib.hid (HFR.out.trans hf fun j hj e => by have := HGW.out; omega)
        clear hs hf HG y4'
        go_wp2_with fail
        cases hy : rGrp b 2 k1 with
        | no M =>
          have RN : Hid (RES = .no M) := Lib.hid (by rw [← HEQ.out]; exact rBlocks_no (by unfold rBlock; rw [HX.out, Res.then_ok, hy]; rfl))
          have HMZ := Lib.hid (grp_nz H2s.out.ins hy)
          refine (sgroup_not 2 M W2 H2s.out (by decide) hy).mono ?_
          rintro _ W8 ⟨rfl, hs, hf⟩
          have H8s := Lib.hid hs
          have F8 : Hid (Fr S0 w W8) := Lib.hid (F2.out.trans hf fun j hj e => by have := HGW.out; omega)
          clear hs hf hy
          have y8 := H8s.out.c4
          have yc : ((M : Int) != 0) = true := by have := HMZ.out; simpa using this
          go_wp2_with fail
          go_quiet (fail)
          go_wp2
          exact bodyPost_ret (v := .tuple #[.slice none 0 0, .int .i64 0, .int .i64 (M : Int)]) (by simp [results, Tryz.results26, go_sem]) rfl (RdAns.no RN.out (F8.out.trans0 (Fr.drewN _ _ _)))
        | ok kind k2 =>
          have HY := Lib.hid hy
          have hk4 := (rGrp_lt hy).1
          refine (sgroup_at 2 kind k2 W2 HNE.out H2s.out (by decide) hy).mono ?_
          rintro _ W3 ⟨rfl, hs, hf⟩
          have H3s := Lib.hid hs
          have F3 : Hid (Fr S0 w W3) := Lib.hid (F2.out.trans hf fun j hj e => by have := HGW.out; omega)
          have y3 : W3.cell? ⟨g, 4, none⟩ = some (.int .i64 0) := hs.c4
          have NX : Hid (∀ W' e, RfOut (rKind b lim T kind k2) W3 W' g pb cb t b lim e → RdNext RES w W' g pb cb b k lim last) := Lib.hid (fun W' e ho => rd_next F3.out HGW.out HTN.out ME.out.2.2 HEQ.out HX.out HY.out ho)
          clear hs hf hy
          rcases (show kind = 0 ∨ kind = 1 ∨ kind = 2 ∨ kind = 3 by omega) with rfl | rfl | rfl | rfl
          · go_wp2_with fail
            refine (sstored_any W3 HNE.out H8.out H3s.out).mono ?_
            rintro e W4 hout
            have he := hout.1
            subst he
            have HN := Lib.hid (NX.out W4 _ hout)
            clear hout
            obtain ⟨k', T', E', t', n1, n2, n3, n4, n5⟩ := HN.out
            have N4 := Lib.hid n4
            have N1 := Lib.hid n1
            have N5 := Lib.hid n5
            have N2 := Lib.hid n2
            have N3 := Lib.hid n3
            clear n1 n2 n3 n4 n5 y3
            go_wp2_with fail
            go_roundw
            case rel => exact ⟨k', last, E', T', t', rfl, N1.out, N2.out, N3.out, N5.out⟩
            case measure => exact rd_less ME.out N1.out N4.out
          · have mk := make_32
            go_wp2_with fail
            obtain ⟨W4, hW4⟩ : ∃ W4, W3.alloc (.cells (zers .u8 32) 5) = W4 := ⟨_, rfl⟩
            have hB4 : W4.heap[W3.heap.size]? = some (.cells (u8s (five 0)).toArray 5 (0, 0)) := by rw [← hW4, ← zers32]; exact heap_alloc_new W3 _
            have HF4 : Hid (Fr S0 W3 W4) := Lib.hid (by rw [← hW4]; exact Fr.alloc _ _ _)
            rw [hW4]
            obtain ⟨SB, hSB⟩ : ∃ SB, W3.heap.size = SB := ⟨_, rfl⟩
            have HSB := Lib.hid hSB
            rw [hSB] at hB4
            rw [hSB]
            have HB4 := Lib.hid hB4
            clear hB4 hW4 hSB mk
            go_loopw [11] (fun i wr => ∃ q : Nat, q ≤ 32 ∧ i = .int .i64 q ∧ wr.heap[SB]? = some (.cells (u8s (five q)).toArray 5 (0, 0)) ∧ Fr S0 W3 wr) (fun i _ => 32 - (intOf i).toNat)
            case atStart => exact ⟨0, by omega, rfl, HB4.out, HF4.out⟩
            case round =>
              obtain ⟨q, hq, rfl, hb, hf⟩ := hrel
              have HBQ := Lib.hid hb
              have HFQ := Lib.hid hf
              clear hb hf
              by_cases hq3 : (q : Int) < 32
              · obtain ⟨v0, hv0⟩ := cell_in HBQ.out (s := q) (by rw [five_len q hq]; omega)
                have z0 : wr.frozen? ⟨SB, q, none⟩ = false := by simp [World.frozen?, HBQ.out]
                have HS5 : Hid ((wr.setCell ⟨SB, q, none⟩ (.int .u8 5)).heap[SB]? = some (.cells (u8s (five (q + 1))).toArray 5 (0, 0)) ∧ Fr S0 W3 (wr.setCell ⟨SB, q, none⟩ (.int .u8 5))) := Lib.hid ⟨by
                  rw [heap_setCell_same wr SB q _ _ _ HBQ.out, ← five_set q (by omega), ← u8s_set]
                  rfl, HFQ.out.trans (Fr.setCell (· = SB) wr ⟨SB, q, none⟩ _ rfl) fun j hj e => by have := HSB.out; omega⟩
                go_wp2_with fail
                go_roundw
                case rel => exact ⟨q + 1, by omega, by simp, HS5.out.1, HS5.out.2⟩
                case measure => simp [intOf]; omega
              · have HB5 : Hid (wr.heap[SB]? = some (.cells (u8s (List.replicate 32 5)).toArray 5 (0, 0))) := Lib.hid (by have h1 := HBQ.out; rw [show q = 32 by omega] at h1; simpa [five] using h1)
                go_wp2_with fail
                refine (rfixed_any wr).mono ?_
                rintro _ W6 ⟨vf, rfl, f6, hrow⟩
                obtain ⟨pf, cf, rfl, -, -, -⟩ := slForm hrow.own
                have HFX := Lib.hid hrow
                have F6 := Lib.hid (HFQ.out.trans0 f6)
                have S5 : Hid (SlI W6 .u8 (some ⟨SB, 0, none⟩) (List.replicate 32 5)) := Lib.hid (SlI.ofBlock (f6.row HB5.out (fun h => h)) rfl (by decide))
                have HTL : Hid (g < SB ∧ ∀ j, t = some j → j < SB) := Lib.hid ⟨by rw [← HSB.out]; exact H3s.out.lt, fun j hj => by obtain ⟨p', c', h1, h2, h3⟩ := H3s.out.ex; rw [← HSB.out]; exact (h2.lt j (h3.trans hj)).2⟩
                have HSZ := Lib.hid HFQ.out.size
                have HBK := Lib.hid (HB.out g pb cb t b k2 lim T pf (some ⟨SB, 0, none⟩) cf 32 fixLs (List.replicate 32 5) W6 HNE.out (H3s.out.fr0 F6.out) (SlI.ofOwns HFX.out.own) (fun a ha => by
                  have h1 := HFX.out.fresh a.block (by rw [ha]; rfl)
                  have h2 := HTL.out
                  have h3 := HSB.out
                  have h4 := HSZ.out
                  rintro (e | e)
                  · omega
                  · have := h2.2 _ e; omega) fix_15 (by rw [fixLs_length]; decide) (.inl fix_ful) S5.out (fun a ha => by
                  obtain rfl := Option.some.inj ha
                  have h2 := HTL.out
                  rintro (e | e)
                  · have : SB = g := e
                    omega
                  · have := h2.2 SB e
                    omega) (fun x hx => by have := (List.mem_replicate.1 hx).2; omega) (by decide) (.inl five_ful))
                rw [fixLs_length, List.length_replicate] at HBK
                rw [fixLs_length]
                clear hrow f6
                go_wp2_with fail
                refine HBK.out.mono ?_
                rintro e W7 hout
                have he := hout.1
                subst he
                have HK : Hid (rKind b lim T 1 k2 = rSyms b lim fixLs (List.replicate 32 5) T k2) := Lib.hid (by unfold rKind; rw [if_neg (by decide), if_pos rfl, fix_eq])
                have HN := Lib.hid (NX.out W7 _ (by rw [HK.out]; exact RfOut.from (F6.out.mono fun _ _ h => h.elim) hout))
                clear hout
                obtain ⟨k', T', E', t', n1, n2, n3, n4, n5⟩ := HN.out
                have N4 := Lib.hid n4
                have N1 := Lib.hid n1
                have N5 := Lib.hid n5
                have N2 := Lib.hid n2
                have N3 := Lib.hid n3
                clear n1 n2 n3 n4 n5 y3
                go_wp2_with fail
                go_roundw
                case rel => exact ⟨k', last, E', T', t', rfl, N1.out, N2.out, N3.out, N5.out⟩
                case measure => exact rd_less ME.out N1.out N4.out
          · go_wp2_with fail
            refine (sdesc_any HB.out W3 HNE.out H3s.out).mono ?_
            rintro e W4 hout
            have he := hout.1
            subst he
            have HN := Lib.hid (NX.out W4 _ hout)
            clear hout
            obtain ⟨k', T', E', t', n1, n2, n3, n4, n5⟩ := HN.out
            have N4 := Lib.hid n4
            have N1 := Lib.hid n1
            have N5 := Lib.hid n5
            have N2 := Lib.hid n2
            have N3 := Lib.hid n3
            clear n1 n2 n3 n4 n5 y3
            go_wp2_with fail
            go_roundw
            case rel => exact ⟨k', last, E', T', t', rfl, N1.out, N2.out, N3.out, N5.out⟩
            case measure => exact rd_less ME.out N1.out N4.out
          · have z3 := H3s.out.fz 4
            have HN : Hid (RdNext RES w (W3.setCell ⟨g, 4, none⟩ (.int .i64 60)) g pb cb b k lim last) := Lib.hid (NX.out _ (.returned (.tuple #[])) (RfOut.no (T := T) (j := k2) (m := 60) rfl ⟨t, H3s.out.setE 60, (Fr.setCell _ _ _ _ (.inl rfl)), .inl rfl⟩))
            obtain ⟨k', T', E', t', n1, n2, n3, n4, n5⟩ := HN.out
            have N4 := Lib.hid n4
            have N1 := Lib.hid n1
            have N5 := Lib.hid n5
            have N2 := Lib.hid n2
            have N3 := Lib.hid n3
            clear n1 n2 n3 n4 n5
            go_wp2_with fail
            go_roundw
            case rel => exact ⟨k', last, E', T', t', rfl, N1.out, N2.out, N3.out, N5.out⟩
            case measure => exact rd_less ME.out N1.out N4.out
    · have HEQ := Lib.hid hres
      have y4' : wr.cell? ⟨g, 4, none⟩ = some (.int .i64 0) := y4
      obtain ⟨pT, cT, c2, own, hown⟩ := hst.c2
      have OWN := Lib.hid own
      have NEW : Hid (Fresh w (.slice pT T.length cT)) := Lib.hid (fun j hj => htn j (by rw [← hown]; exact hj))
      have c1 := hst.c1
      have hk32 := hst.few
      have hins := hst.ins
      have hq : ((k : Int) + 7).tdiv 8 = (((k + 7) / 8 : Nat) : Int) := by rw [Int.tdiv_eq_ediv_of_nonneg (by omega)]; omega
      have hq2 : ((k : Int) + 7) / 8 = (((k + 7) / 8 : Nat) : Int) := by omega
      obtain ⟨Q, hQ⟩ : ∃ Q, (k + 7) / 8 = Q := ⟨_, rfl⟩
      rw [hQ] at hq hq2
      have HQ := Lib.hid hQ
      clear hst hfr htn hres y4 own hown hQ
      go_wp2_with fail
      go_quiet (fail)
      go_wp2
      have HA := Lib.hid (RdAns.ok HEQ.out (HFR.out.trans0 (Fr.drewN S0 wr nq)) ((Fr.drewN S0 wr nq).owns OWN.out fun _ _ h => h) NEW.out)
      rw [HQ.out] at HA
      exact bodyPost_ret (v := .tuple #[.slice pT T.length cT, .int .i64 (Q : Int), .int .i64 0]) (by simp [results, Tryz.results26, go_sem]) rfl HA.out
    · have RN := Lib.hid hres
      have yb : ((E : Int) == 0) = false := by simpa using hE
      have yc : ((E : Int) != 0) = true := by simpa using hE
      clear hst hfr htn hres
      by_cases hL0 : L = 0
      · subst hL0
        go_wp2_with fail
        go_quiet (fail)
        go_wp2
        exact bodyPost_ret (v := .tuple #[.slice none 0 0, .int .i64 0, .int .i64 (E : Int)]) (by simp [results, Tryz.results26, go_sem]) rfl (RdAns.no RN.out (HFR.out.trans0 (Fr.drewN _ _ _)))
      · have yl : ((L : Int) == 0) = false := by simpa using hL0
        go_wp2_with fail
        go_quiet (fail)
        go_wp2
        exact bodyPost_ret (v := .tuple #[.slice none 0 0, .int .i64 0, .int .i64 (E : Int)]) (by simp [results, Tryz.results26, go_sem]) rfl (RdAns.no RN.out (HFR.out.trans0 (Fr.drewN _ _ _)))
set_option maxRecDepth 100000 in
set_option maxHeartbeats 1000000 in
theorem sread_bad (p : Option Addr) (n d : Nat) (limit : Int) (w : World) (h : ¬ (0 ≤ limit ∧ limit ≤ 1048576)) :
    Calls Tryz.prog 26 #[.slice p n d, .int .i64 limit] w fun e w' => e = .returned (.tuple #[.slice none 0 0, .int .i64 0, .int .i64 1]) ∧ Fr S0 w w' := by
  by_cases h0 : limit < 0
  · clear h
    go_enter Tryz.func26, Tryz.ntmps26
    go_wp2
    exact bodyPost_ret (v := .tuple #[.slice none 0 0, .int .i64 0, .int .i64 1]) (by simp [results, Tryz.results26, go_sem]) rfl ⟨rfl, Fr.refl _ _⟩
  · have h1 : limit > 1048576 := by omega
    have h0' : decide (limit < 0) = false := decide_eq_false h0
    clear h
    go_enter Tryz.func26, Tryz.ntmps26
    go_wp2
    exact bodyPost_ret (v := .tuple #[.slice none 0 0, .int .i64 0, .int .i64 1]) (by simp [results, Tryz.results26, go_sem]) rfl ⟨rfl, Fr.refl _ _⟩

theorem read_at {p : Option Addr} {d : Nat} {b T : List Nat} {lim k : Nat} {L U : Int} {w : World} (hb : SlI w .u8 p b) (h8 : ∀ x ∈ b, x < 256) (hp : p = none → d = 0) (hL : b.length ≤ 140737488355328) (hl : lim ≤ 1048576) (hx : infl b lim = .ok T k) (eL : (lim : Int) = L) (eU : ((upN k / 8 : Nat) : Int) = U) :
    ∀ W, Fr S0 w W → Calls Tryz.prog 40 #[.slice p b.length d, .int .i64 L] W fun e w' => ∃ q c, e = .returned (.tuple #[.slice q T.length c, .int .i64 U, .int .i64 0]) ∧ Fr S0 W w' ∧ w'.ownsRow 0 5 1 (.slice q T.length c) T.length (u8s T) := fun W f => by
  subst eL eU
  exact (read_yes (hb.fr0 f) h8 hp hL hl hx).mono fun e w' ⟨q, c, h1, h2, h3, _⟩ => ⟨q, c, h1, h2, h3⟩
theorem read_not {p : Option Addr} {d : Nat} {b : List Nat} {lim m : Nat} {L M : Int} {w : World} (hb : SlI w .u8 p b) (h8 : ∀ x ∈ b, x < 256) (hp : p = none → d = 0) (hL : b.length ≤ 140737488355328) (hl : lim ≤ 1048576) (hx : infl b lim = .no m) (eL : (lim : Int) = L) (eM : (m : Int) = M) :
    ∀ W, Fr S0 w W → Calls Tryz.prog 40 #[.slice p b.length d, .int .i64 L] W fun e w' => e = .returned (.tuple #[.slice none 0 0, .int .i64 0, .int .i64 M]) ∧ Fr S0 W w' := fun W f => by
  subst eL eM
  exact read_no (hb.fr0 f) h8 hp hL hl hx




theorem conv_n {w : World} {p : Option Addr} {l : List Nat} (h : SlI w .u8 p l) (n c : Nat) (hn : l.length = n) : (convert 22 9 (.slice p n c)).run Tryz.prog w = .ok (.string (strB l)) w := by
  have := conv_sl h n c (by omega)
  rwa [List.take_of_length_le (by omega)] at this

theorem blk_ok : BlkOk := fun _ _ _ _ _ _ _ _ p1 p2 d1 d2 l1 l2 w hne h hl1 ho1 h1 hL1 ok1 hl2 ho2 h2 hL2 ok2 => sblock_any p1 p2 d1 d2 l1 l2 w hne h hl1 ho1 h1 hL1 ok1 hl2 ho2 h2 hL2 ok2
end Go.Proofs.YtnckoghgplnhfaaGreat
