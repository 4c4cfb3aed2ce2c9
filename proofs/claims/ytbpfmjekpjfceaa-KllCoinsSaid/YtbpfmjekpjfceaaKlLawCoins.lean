/- The law of coins. -/
import Derived.Test.YtbpfmjekpjfceaaKlAlive
import Derived.Test.YtbpfmjekpjfceaaKcTell
import Derived.Test.YtbpfmjekpjfceaaRegMono
namespace Go.Proofs.Ytbpfmjekpjfceaa
open Go.RowKit

/-- the code's coins and the document's, each one step on or not yet -/
structure Cs (w : World) (r : Nat) (rr : Option Nat) (r2 : Nat) (p : Option Addr) (n c : Nat) (bs : List Nat) (a : Nat) (x y : Bool) (W : World) : Prop where
  k : RdIs W r rr bs (if x then nxt bs a else a)
  d : RcIs W r2 p n c bs (if y then nxt bs a else a)
  ne : r ≠ r2
  nr : ∀ j, rr = some j → j ≠ r2
  off : bs ≠ [] → Off (· = r) p
  new : w.heap.size ≤ r ∧ w.heap.size ≤ r2
  fr : Fr S0 w W
section
variable {w W : World} {r r2 n c a : Nat} {rr : Option Nat} {p : Option Addr} {bs : List Nat} {x y : Bool}
theorem Cs.fr0 {W' : World} (h : Cs w r rr r2 p n c bs a x y W) (f : Fr S0 W W') : Cs w r rr r2 p n c bs a x y W' := ⟨h.k.fr0 f, h.d.fr0 f, h.ne, h.nr, h.off, h.new, h.fr.trans0 f⟩
theorem Cs.cell (h : Cs w r rr r2 p n c bs a x true W) : W.cell? ⟨r2, 1, none⟩ = some (.int .i64 (nxt bs a : Nat)) := h.d.c1
theorem Cs.on (h : Cs w r rr r2 p n c bs a true true W) : Cs w r rr r2 p n c bs (nxt bs a) false false W := ⟨h.k, h.d, h.ne, h.nr, h.off, h.new, h.fr⟩
theorem cs_code (hn : n ≤ 100000) (h : Cs w r rr r2 p n c bs a false y W) : Calls Try.prog 20 #[.pointer (some ⟨r, 0, none⟩)] W fun e w' => e = .returned (.int .i64 (coin bs a : Nat)) ∧ Cs w r rr r2 p n c bs a true y w' := by
  have hl := h.d.len
  refine (xcoin_any r rr bs a W h.k (by omega)).mono fun e w' hq => ⟨hq.1, ⟨hq.2.1, h.d.fr hq.2.2 (fun e => h.ne e.symm) h.off, h.ne, h.nr, h.off, h.new, h.fr.trans hq.2.2 fun j hj e => ?_⟩⟩
  have := h.new
  have e2 : j = r := e
  omega
theorem cs_ref (hn : n ≤ 100000) (ha : a ≤ 8 * n) (h : Cs w r rr r2 p n c bs a x false W) : Calls Try.prog 21 #[.pointer (some ⟨r2, 0, none⟩)] W fun e w' => e = .returned (.int .i64 (coin bs a : Nat)) ∧ Cs w r rr r2 p n c bs a x true w' := by
  refine (rcoin_any r2 p n c bs a W h.d hn ha).mono fun e w' hq => ⟨hq.1, ⟨h.k.fr hq.2.2 h.ne fun j hj => h.nr j hj, hq.2.1, h.ne, h.nr, h.off, h.new, h.fr.trans hq.2.2 fun j hj e => ?_⟩⟩
  have := h.new
  have e2 : j = r2 := e
  omega
theorem cs_left (hn : n ≤ 100000) (h : Cs w r rr r2 p n c bs a true true W) : Calls Try.prog 18 #[.pointer (some ⟨r, 0, none⟩)] W fun e w' => e = .returned (.int .i64 (8 * (n : Int) - (nxt bs a : Nat))) ∧ Cs w r rr r2 p n c bs a true true w' := by
  have hl := h.d.len
  have h1 := xleft_any r rr bs (nxt bs a) W h.k (by omega)
  rw [hl] at h1
  exact h1.mono fun e w' hq => ⟨hq.1, h.fr0 hq.2⟩
end
section
variable (p : Option Addr) (n c : Nat) (bs : List Nat) (N : Nat) (k : Int) (w : World)
set_option maxRecDepth 100000 in
set_option maxHeartbeats 8000000 in
theorem law_coins (hn : bs.length = n) (hs : SlI w .u8 p bs) (h8 : ∀ x ∈ bs, x < 256) (hp : p = none → c = 0) (hN : N < 256) :
    Calls Try.prog 4 #[.slice p n c, .int .u8 (N : Nat), .int .i64 k] w fun e w' => e = .returned (.bool true) ∧ Fr S0 w w' := by
  have HAL := Lib.hid (alive_any w)
  by_cases hbig : 500 < n
  · have k1 : decide (500 < n) = true := decide_eq_true hbig
    have k1i : decide ((500 : Int) < (n : Int)) = true := decide_eq_true (by omega)
    clear hn hs h8 hp hbig
    go_enter Try.func4, Try.ntmps4
    go_wp2_with fail
    refine HAL.out.mono ?_
    rintro e w1 ⟨rfl, f1⟩
    go_wp2_with fail
    go_ret
    exact ⟨rfl, f1⟩
  · have k1 : decide (500 < n) = false := decide_eq_false hbig
    have k1i : decide ((500 : Int) < (n : Int)) = false := decide_eq_false (by omega)
    have hn5 : n ≤ 500 := by omega
    have hni : (n : Int) ≤ 500 := by omega
    have hNi : (N : Int) < 256 := by omega
    have HNC := Lib.hid (fun W (f : Fr S0 w W) => by
      have := xnewcoins_any p c bs W (hs.fr0 f) h8 hp (by omega)
      rw [hn] at this
      exact this)
    have HC := Lib.hid (fun r rr r2 a x W (h : Cs w r rr r2 p n c bs a false x W) => cs_code (by omega : n ≤ 100000) h)
    have HD := Lib.hid (fun r rr r2 a x W ha (h : Cs w r rr r2 p n c bs a x false W) => cs_ref (by omega : n ≤ 100000) ha h)
    have HL := Lib.hid (fun r rr r2 a W (h : Cs w r rr r2 p n c bs a true true W) => cs_left (by omega : n ≤ 100000) h)
    have HB := Lib.hid (And.intro hn (And.intro hs h8))
    clear hn hs h8 hp hbig
    go_enter Try.func4, Try.ntmps4
    go_wp2_with fail
    refine HAL.out.mono ?_
    rintro e w1 ⟨rfl, f1⟩
    have HN1 := Lib.hid (HNC.out w1 f1)
    have F1 := Lib.hid f1
    clear f1 HNC HAL
    go_wp2_with fail
    refine HN1.out.mono ?_
    rintro e w2 ⟨r, rr, rfl, nx⟩
    have H0 : Hid (∀ t, t = 42 → Cs w r rr w2.heap.size p n c bs 0 false false (w2.alloc (.cells #[.slice p n c, .int .i64 0] t))) := Lib.hid fun t et => by
      subst et
      obtain ⟨x, f2, g1, g2⟩ := nx
      have fa := Fr.alloc S0 w2 (.cells #[.slice p n c, .int .i64 0] 42)
      have hF1 := F1.out
      have s1 := hF1.size
      have s2 := f2.size
      have hpb : bs ≠ [] → ∀ a, p = some a → a.block < w.heap.size := fun hb a ha => HB.out.2.1.lt hb a ha
      refine ⟨x.fr0 fa, ⟨heap_alloc_new w2 _, HB.out.2.1.fr0 ((hF1.trans0 f2).trans0 fa), HB.out.1, fun hb a ha e => ?_, HB.out.2.2⟩, fun e => ?_, fun j hj e => ?_, fun hb a ha e => ?_, by omega, (hF1.trans0 f2).trans0 fa⟩
      · have := hpb hb a ha
        have e2 : a.block = w2.heap.size := e
        omega
      · have := x.lt; omega
      · have := x.rlt j hj; omega
      · have := hpb hb a ha
        have e2 : a.block = r := e
        omega
    have HG := Lib.hid nx.2.2.1
    clear nx HN1
    obtain ⟨r2, hr2⟩ : ∃ r2, w2.heap.size = r2 := ⟨_, rfl⟩
    rw [hr2] at H0
    go_wp2_with fail
    clear hr2
    go_loopw [9] (fun z wr => ∃ i a : Nat, z = .int .i64 (i : Nat) ∧ i ≤ N ∧ a ≤ 8 * n ∧ Hid (Cs w r rr r2 p n c bs a false false wr)) (fun z _ => N - (intOf z).toNat)
    case atStart => exact ⟨0, 0, rfl, by omega, by omega, Lib.hid (H0.out _ rfl)⟩
    case round =>
      obtain ⟨i, a, rfl, hi, ha, hx⟩ := hrel
      by_cases hlt : (i : Int) < (N : Int)
      · have HC1 := Lib.hid (HC.out r rr r2 a false wr.drew (hx.out.fr0 (Fr.drew S0 wr)))
        have HD1 := Lib.hid (fun W h => HD.out r rr r2 a true W ha h)
        have HL1 := Lib.hid (fun W h => HL.out r rr r2 a W h)
        have HA2 : Hid (nxt bs a ≤ 8 * n) := Lib.hid (nxt_le HB.out.1 ha)
        have HCE : Hid (∀ W, Cs w r rr r2 p n c bs a true true W → W.cell? ⟨r2, 1, none⟩ = some (.int .i64 (nxt bs a : Nat))) := Lib.hid fun W h => h.cell
        obtain ⟨C, hC⟩ : ∃ C, coin bs a = C := ⟨_, rfl⟩
        rw [hC] at HC1 HD1
        obtain ⟨a2, ha2⟩ : ∃ a2, nxt bs a = a2 := ⟨_, rfl⟩
        rw [ha2] at HL1 HA2 HCE
        have HN2 := Lib.hid ha2
        have ha2b := HA2.out
        have kC : ((C : Int) != (C : Int)) = false := by simp
        have kL : ((8 * (n : Int) - (a2 : Int)) != (8 * (n : Int) - (a2 : Int))) = false := by simp
        have kW1 : IntKind.i64.wrap (8 * (n : Int)) = 8 * (n : Int) := by rw [IntKind.wrap_i64]; omega
        have kW2 : IntKind.i64.wrap (8 * (n : Int) - (a2 : Int)) = 8 * (n : Int) - (a2 : Int) := by rw [IntKind.wrap_i64]; omega
        clear hC ha2
        go_wp2_with fail
        refine wp_region_noPanic ?_
        refine wp_region_held_drew (S := fun W => ∃ x y, Cs w r rr r2 p n c bs a x y W) (by kernel_rfl) ⟨false, false, hx.out.fr0 (Fr.drew S0 wr)⟩ (fun hHeld0 => ?_)
        refine wpAnyH_take (i := 0) (oi := Oper.mk (some 29) _ _ _ _ _) (v := ?_) rfl (by as_aux_lemma => kernel_rfl) (by as_aux_lemma => kernel_rfl) (by as_aux_lemma => kernel_rfl) (fun _ _ _ h => h) (Or.inl ⟨by rfl, ?_⟩) (by assumption) ?_
        rotate_left
        · (intro w hSw; obtain ⟨x, y, hc⟩ := hSw; go_simp <;> with_reducible rfl)
        simp only [Act.put, List.setIfInBounds_toArray, List.set_cons_zero, List.set_cons_succ]
        refine wpAnyH_take (i := 2) (oi := Oper.mk (some 31) _ _ _ _ _) (v := ?_) rfl (by as_aux_lemma => kernel_rfl) (by as_aux_lemma => kernel_rfl) (by as_aux_lemma => kernel_rfl) (fun _ _ _ h => h) (Or.inl ⟨by rfl, ?_⟩) (by assumption) ?_
        rotate_left
        · (intro w hSw; obtain ⟨x, y, hc⟩ := hSw; go_simp <;> with_reducible rfl)
        simp only [Act.put, List.setIfInBounds_toArray, List.set_cons_zero, List.set_cons_succ]
        refine wpAnyH_ready (rs := [1]) (by kernel_rfl) (by simp) (AllReadyH.cons (o := Oper.mk (some 30) _ _ _ _ _) rfl (fun K hK => ?_) AllReadyH.nil)
        go_simp
        go_at_call 20
        refine (HC1.out).mono ?_
        rintro _ v1 ⟨rfl, hk⟩
        refine hK.out _ _ ⟨_, _, hk⟩ (fun hHeld1 => ?_)
        clear hK K hHeld0 
        try simp only [Act.put, List.setIfInBounds_toArray, List.set_cons_zero, List.set_cons_succ]
        refine wpAnyH_ready (rs := [3]) (by kernel_rfl) (by simp) (AllReadyH.cons (o := Oper.mk (some 32) _ _ _ _ _) rfl (fun K hK => ?_) AllReadyH.nil)
        go_simp
        go_at_call 21
        refine (HD1.out _ hk).mono ?_
        rintro _ v3 ⟨rfl, hd⟩
        refine hK.out _ _ ⟨_, _, hd⟩ (fun hHeld2 => ?_)
        clear hK K hHeld1 hk
        try simp only [Act.put, List.setIfInBounds_toArray, List.set_cons_zero, List.set_cons_succ]
        refine wpAnyH_mono (S2 := fun W => Cs w r rr r2 p n c bs a true true W ∧ W.cell? ⟨r2, 1, none⟩ = some (.int .i64 (a2 : Nat))) (fun W h => ⟨_, _, h.1⟩) _ _ _ _ ?_
        refine held_of_any _ _ _ _ ⟨hd, HCE.out _ hd⟩ ?_
        clear hd hHeld2
        refine anyS_take (i := 4) (oi := Oper.mk (some 33) _ _ _ _ _) (v := ?_) rfl (by as_aux_lemma => kernel_rfl) (by as_aux_lemma => kernel_rfl) (by as_aux_lemma => kernel_rfl) (fun _ _ _ h => h) (Or.inl ⟨by rfl, ?_⟩) ?_
        rotate_left
        · (intro w hSw; obtain ⟨hc, h1⟩ := hSw; go_simp <;> with_reducible rfl)
        simp only [Act.put, List.setIfInBounds_toArray, List.set_cons_zero, List.set_cons_succ]
        refine anyS_take (i := 5) (oi := Oper.mk (some 34) _ _ _ _ _) (v := ?_) rfl (by as_aux_lemma => kernel_rfl) (by as_aux_lemma => kernel_rfl) (by as_aux_lemma => kernel_rfl) (fun _ _ _ h => h) (Or.inl ⟨by rfl, ?_⟩) ?_
        rotate_left
        · (intro w hSw; obtain ⟨hc, h1⟩ := hSw; go_simp <;> with_reducible rfl)
        simp only [Act.put, List.setIfInBounds_toArray, List.set_cons_zero, List.set_cons_succ]
        refine anyS_take (i := 6) (oi := Oper.mk (some 35) _ _ _ _ _) (v := ?_) rfl (by as_aux_lemma => kernel_rfl) (by as_aux_lemma => kernel_rfl) (by as_aux_lemma => kernel_rfl) (fun _ _ _ h => h) (Or.inl ⟨by rfl, ?_⟩) ?_
        rotate_left
        · (intro w hSw; obtain ⟨hc, h1⟩ := hSw; go_simp <;> with_reducible rfl)
        simp only [Act.put, List.setIfInBounds_toArray, List.set_cons_zero, List.set_cons_succ]
        refine anyS_call 18 #[.pointer (some ⟨r, 0, none⟩)] (i := 7) (oi := Oper.mk (some 36) _ _ _ _ _) (v := .int .i64 (8 * (n : Int) - (a2 : Nat))) rfl (by as_aux_lemma => kernel_rfl) (by as_aux_lemma => kernel_rfl) (by as_aux_lemma => kernel_rfl) (fun _ _ _ h => h) (by rfl) (fun w => ?_) (fun w hSw => ?_) ?_
        · first | rfl | (go_simp; done) | (go_simp; rfl)
        · exact (HL1.out _ hSw.1).mono fun e w1 hq => ⟨hq.1, hq.2, HCE.out _ hq.2⟩
        simp only [Act.put, List.setIfInBounds_toArray, List.set_cons_zero, List.set_cons_succ]
        refine anyS_take (i := 8) (oi := Oper.mk (some 37) _ _ _ _ _) (v := ?_) rfl (by as_aux_lemma => kernel_rfl) (by as_aux_lemma => kernel_rfl) (by as_aux_lemma => kernel_rfl) (fun _ _ _ h => h) (Or.inl ⟨by rfl, ?_⟩) ?_
        rotate_left
        · (intro w hSw; obtain ⟨hc, h1⟩ := hSw; go_simp <;> with_reducible rfl)
        simp only [Act.put, List.setIfInBounds_toArray, List.set_cons_zero, List.set_cons_succ]
        refine anyS_take (i := 9) (oi := Oper.mk (some 38) _ _ _ _ _) (v := ?_) rfl (by as_aux_lemma => kernel_rfl) (by as_aux_lemma => kernel_rfl) (by as_aux_lemma => kernel_rfl) (fun _ _ _ h => h) (Or.inl ⟨by rfl, ?_⟩) ?_
        rotate_left
        · (intro w hSw; obtain ⟨hc, h1⟩ := hSw; go_simp <;> with_reducible rfl)
        simp only [Act.put, List.setIfInBounds_toArray, List.set_cons_zero, List.set_cons_succ]
        refine anyS_take (i := 10) (oi := Oper.mk (some 39) _ _ _ _ _) (v := ?_) rfl (by as_aux_lemma => kernel_rfl) (by as_aux_lemma => kernel_rfl) (by as_aux_lemma => kernel_rfl) (fun _ _ _ h => h) (Or.inl ⟨by rfl, ?_⟩) ?_
        rotate_left
        · (intro w hSw; obtain ⟨hc, h1⟩ := hSw; go_simp <;> with_reducible rfl)
        simp only [Act.put, List.setIfInBounds_toArray, List.set_cons_zero, List.set_cons_succ]
        refine anyS_take (i := 11) (oi := Oper.mk (some 40) _ _ _ _ _) (v := ?_) rfl (by as_aux_lemma => kernel_rfl) (by as_aux_lemma => kernel_rfl) (by as_aux_lemma => kernel_rfl) (fun _ _ _ h => h) (Or.inl ⟨by rfl, ?_⟩) ?_
        rotate_left
        · (intro w hSw; obtain ⟨hc, h1⟩ := hSw; go_simp <;> with_reducible rfl)
        simp only [Act.put, List.setIfInBounds_toArray, List.set_cons_zero, List.set_cons_succ]
        refine anyS_take (i := 12) (oi := Oper.mk (some 41) _ _ _ _ _) (v := ?_) rfl (by as_aux_lemma => kernel_rfl) (by as_aux_lemma => kernel_rfl) (by as_aux_lemma => kernel_rfl) (fun _ _ _ h => h) (Or.inl ⟨by rfl, ?_⟩) ?_
        rotate_left
        · (intro w hSw; obtain ⟨hc, h1⟩ := hSw; go_simp <;> with_reducible rfl)
        simp only [Act.put, List.setIfInBounds_toArray, List.set_cons_zero, List.set_cons_succ]
        refine anyS_take (i := 13) (oi := Oper.mk (some 42) _ _ _ _ _) (v := ?_) rfl (by as_aux_lemma => kernel_rfl) (by as_aux_lemma => kernel_rfl) (by as_aux_lemma => kernel_rfl) (fun _ _ _ h => h) (Or.inl ⟨by rfl, ?_⟩) ?_
        rotate_left
        · (intro w hSw; obtain ⟨hc, h1⟩ := hSw; go_simp <;> with_reducible rfl)
        simp only [Act.put, List.setIfInBounds_toArray, List.set_cons_zero, List.set_cons_succ]
        refine anyS_take (i := 14) (oi := Oper.mk (some 43) _ _ _ _ _) (v := ?_) rfl (by as_aux_lemma => kernel_rfl) (by as_aux_lemma => kernel_rfl) (by as_aux_lemma => kernel_rfl) (fun _ _ _ h => h) (Or.inl ⟨by rfl, ?_⟩) ?_
        rotate_left
        · (intro w hSw; obtain ⟨hc, h1⟩ := hSw; go_simp <;> with_reducible rfl)
        simp only [Act.put, List.setIfInBounds_toArray, List.set_cons_zero, List.set_cons_succ]
        refine anyS_take (i := 15) (oi := Oper.mk (some 44) _ _ _ _ _) (v := ?_) rfl (by as_aux_lemma => kernel_rfl) (by as_aux_lemma => kernel_rfl) (by as_aux_lemma => kernel_rfl) (fun _ _ _ h => h) (Or.inl ⟨by rfl, ?_⟩) ?_
        rotate_left
        · (intro w hSw; obtain ⟨hc, h1⟩ := hSw; go_simp <;> with_reducible rfl)
        simp only [Act.put, List.setIfInBounds_toArray, List.set_cons_zero, List.set_cons_succ]
        refine anyS_take (i := 16) (oi := Oper.mk (some 45) _ _ _ _ _) (v := ?_) rfl (by as_aux_lemma => kernel_rfl) (by as_aux_lemma => kernel_rfl) (by as_aux_lemma => kernel_rfl) (fun _ _ _ h => h) (Or.inl ⟨by rfl, ?_⟩) ?_
        rotate_left
        · (intro w hSw; obtain ⟨hc, h1⟩ := hSw; go_simp <;> with_reducible rfl)
        simp only [Act.put, List.setIfInBounds_toArray, List.set_cons_zero, List.set_cons_succ]
        refine anyS_take (i := 17) (oi := Oper.mk (some 46) _ _ _ _ _) (v := ?_) rfl (by as_aux_lemma => kernel_rfl) (by as_aux_lemma => kernel_rfl) (by as_aux_lemma => kernel_rfl) (fun _ _ _ h => h) (Or.inl ⟨by rfl, ?_⟩) ?_
        rotate_left
        · (intro w hSw; obtain ⟨hc, h1⟩ := hSw; go_simp <;> with_reducible rfl)
        simp only [Act.put, List.setIfInBounds_toArray, List.set_cons_zero, List.set_cons_succ]
        refine anyS_done (by kernel_rfl) (fun W hW => ?_) _
        refine NoPanic.normal ?_
        have H9 := Lib.hid hW.1.on
        clear hW
        rw [HN2.out] at H9
        go_wp2_with fail
        go_roundw
        case rel => exact ⟨i + 1, a2, by go_num, by omega, HA2.out, H9⟩
        case measure => simp [intOf]; omega
      · obtain rfl : i = N := by omega
        have F3 := Lib.hid hx.out.fr
        by_cases hk : 8 ≤ k ∧ k ≤ 4096
        · obtain ⟨K, rfl⟩ : ∃ K : Nat, k = (K : Int) := ⟨k.toNat, by omega⟩
          have hK1 : 8 ≤ K := by omega
          have hK2 : K ≤ 4096 := by omega
          have HNW := Lib.hid (xnew_yes K wr hK1 hK2)
          have k1 : decide ((K : Int) < 8) = false := decide_eq_false (by omega)
          have k2 : decide ((4096 : Int) < (K : Int)) = false := decide_eq_false (by omega)
          have k3 : ((K : Int) == (K : Int)) = true := by simp
          clear hx hk hK1 hK2
          go_wp2_with fail
          refine HNW.out.mono ?_
          rintro e w4 ⟨rfl, nw⟩
          obtain ⟨s4, f4, -⟩ := nw
          obtain ⟨g, hg⟩ : ∃ g, wr.heap.size = g := ⟨_, rfl⟩
          rw [hg] at s4 ⊢
          have HSZ := Lib.hid (fun W (f : Fr S0 w4 W) => xsize_any g K 0 0 _ _ [] W (s4.fr f fun _ _ h => h))
          have HTO := Lib.hid (fun W (f : Fr S0 w4 W) => xtotal_any g K 0 0 _ _ [] W (s4.fr f fun _ _ h => h))
          have HLE := Lib.hid (fun W (f : Fr S0 w4 W) => xledger_any g K 0 0 _ _ [] W (s4.fr f fun _ _ h => h))
          have HLV := Lib.hid (fun W (f : Fr S0 w4 W) => xlevels_any g K 0 0 _ _ [] W (s4.fr f fun _ _ h => h) (fun _ h => nomatch h) (by decide))
          have HNN := Lib.hid (fun W => xcoin_nil W)
          have F4 := Lib.hid (F3.out.trans0 f4)
          clear s4 f4 hg HNW
          go_wp2_with fail
          refine (HSZ.out _ (Fr.refl _ _)).mono ?_
          rintro e w5 ⟨rfl, rfl⟩
          go_wp2_with fail
          refine (HTO.out _ (Fr.refl _ _)).mono ?_
          rintro e w6 ⟨rfl, rfl⟩
          go_wp2_with fail
          refine (HLE.out _ (Fr.refl _ _)).mono ?_
          rintro e w7 ⟨rfl, rfl⟩
          go_wp2_with fail
          refine (HLV.out _ (Fr.refl _ _)).mono ?_
          rintro e w8 ⟨u, rfl, lo⟩
          obtain ⟨pl, cl, rfl, -⟩ := lo.rows
          have F8 := Lib.hid (F4.out.trans0 lo.fr)
          clear lo
          go_wp2_with fail
          refine (HNN.out _).mono ?_
          rintro e w9 ⟨rfl, rfl⟩
          go_wp2_with fail
          go_ret
          exact ⟨rfl, F8.out⟩
        · have HNW := Lib.hid (xnew_no wr k hk)
          have HNN := Lib.hid (fun W => xcoin_nil W)
          have HLN := Lib.hid (fun W => xleft_nil W)
          by_cases h8 : k < 8
          · have k1 : decide (k < 8) = true := decide_eq_true h8
            clear hx hk h8
            go_wp2_with fail
            refine HNW.out.mono ?_
            rintro e w4 ⟨rfl, rfl⟩
            go_wp2_with fail
            refine (HNN.out _).mono ?_
            rintro e w5 ⟨rfl, rfl⟩
            go_wp2_with fail
            refine (HLN.out _).mono ?_
            rintro e w6 ⟨rfl, rfl⟩
            go_wp2_with fail
            go_ret
            exact ⟨rfl, F3.out⟩
          · have k1 : decide (k < 8) = false := decide_eq_false h8
            have k2 : decide (4096 < k) = true := decide_eq_true (by omega)
            clear hx hk h8
            go_wp2_with fail
            refine HNW.out.mono ?_
            rintro e w4 ⟨rfl, rfl⟩
            go_wp2_with fail
            refine (HNN.out _).mono ?_
            rintro e w5 ⟨rfl, rfl⟩
            go_wp2_with fail
            refine (HLN.out _).mono ?_
            rintro e w6 ⟨rfl, rfl⟩
            go_wp2_with fail
            go_ret
            exact ⟨rfl, F3.out⟩
end
end Go.Proofs.Ytbpfmjekpjfceaa
