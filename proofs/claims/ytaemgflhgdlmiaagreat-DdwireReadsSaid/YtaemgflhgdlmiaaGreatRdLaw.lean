import Derived.Test.YtaemgflhgdlmiaaGreatPw1
import Derived.Test.YtaemgflhgdlmiaaGreatPw2
import Derived.Test.YtaemgflhgdlmiaaGreatPw3
import Derived.Test.YtaemgflhgdlmiaaGreatPw4
import Derived.Test.YtaemgflhgdlmiaaGreatPw5
import Derived.Test.YtaemgflhgdlmiaaGreatPw6
import Derived.Test.YtaemgflhgdlmiaaGreatPw7
import Derived.Test.YtaemgflhgdlmiaaGreatPw8
import Derived.Test.YtaemgflhgdlmiaaGreatPw9
import Derived.Test.YtaemgflhgdlmiaaGreatPw10
import Derived.Test.YtaemgflhgdlmiaaGreatPw11
import Derived.Test.YtaemgflhgdlmiaaGreatPw12
import Derived.Test.YtaemgflhgdlmiaaGreatPw13
import Derived.Test.YtaemgflhgdlmiaaGreatPw14
import Derived.Test.YtaemgflhgdlmiaaGreatPw15
import Derived.Test.YtaemgflhgdlmiaaGreatPw16
import Derived.Test.YtaemgflhgdlmiaaGreatPw17
import Derived.Test.YtaemgflhgdlmiaaGreatPw18
import Derived.Test.YtaemgflhgdlmiaaGreatPw19
import Derived.Test.YtaemgflhgdlmiaaGreatPw20
import Derived.Test.YtaemgflhgdlmiaaGreatPw21
import Derived.Test.YtaemgflhgdlmiaaGreatPw22
import Derived.Test.YtaemgflhgdlmiaaGreatPw23
import Derived.Test.YtaemgflhgdlmiaaGreatPw24
import Derived.Test.YtaemgflhgdlmiaaGreatPw25
import Derived.Test.YtaemgflhgdlmiaaGreatPw26
import Derived.Test.YtaemgflhgdlmiaaGreatPw27
import Derived.Test.YtaemgflhgdlmiaaGreatPw28
import Derived.Test.YtaemgflhgdlmiaaGreatPw29
import Derived.Test.YtaemgflhgdlmiaaGreatPw30
import Derived.Test.YtaemgflhgdlmiaaGreatPw31
import Derived.Test.YtaemgflhgdlmiaaGreatPw32
import Derived.Test.YtaemgflhgdlmiaaGreatPw33
import Derived.Test.YtaemgflhgdlmiaaGreatPw34
import Derived.Test.YtaemgflhgdlmiaaGreatPw35
import Derived.Test.YtaemgflhgdlmiaaGreatPw36
import Derived.Test.YtaemgflhgdlmiaaGreatPw37
import Derived.Test.YtaemgflhgdlmiaaGreatPw38
import Derived.Test.YtaemgflhgdlmiaaGreatPw39
import Derived.Test.YtaemgflhgdlmiaaGreatPw40
import Derived.Test.YtaemgflhgdlmiaaGreatPw41
import Derived.Test.YtaemgflhgdlmiaaGreatPw42
import Derived.Test.YtaemgflhgdlmiaaGreatPw43
import Derived.Test.YtaemgflhgdlmiaaGreatPw44
import Derived.Test.YtaemgflhgdlmiaaGreatPw45
import Derived.Test.YtaemgflhgdlmiaaGreatRdNext
import Derived.Test.YtaemgflhgdlmiaaGreatRdPeek
import Derived.Test.YtaemgflhgdlmiaaGreatRdRight
/- The law on bytes that are read. -/
namespace Go.Proofs.YtaemgflhgdlmiaaGreat
open Go.RowKit

/-- what the document writes of what was read -/
theorem write_read {A m f : Nat} {L : List Pr} {T : List Nat} (h : T = ddB A m L f ∧ DdOk A m L f) (W : World) (pp : Option Addr) (cc nn : Nat) (hp : PrI W pp L) (hn : L.length = nn) :
    Calls Tryz.prog 21 #[.int .i64 (A : Nat), .int .i64 (m : Nat), .slice pp nn cc, .int .u64 (f : Nat)] W fun e w' => ∃ v, e = .returned v ∧ AccB W w' v T.length T := by
  obtain ⟨rfl, hd⟩ := h
  obtain ⟨-, hf, hA, hm, -⟩ := ddOk_good hd
  exact rwrite21_any A m f nn cc pp L W hp hn (by have := hd.ld.len; have := hd.ld.m3; omega) hd.ld.good hA hm hf
theorem peek_no {l : List Nat} (h : ¬ ∃ A m, PkOk l A m) (q : Option Addr) (d n : Nat) (w : World) (hn : l.length = n) (hl : SlI w .u8 q l) (h8 : ∀ x ∈ l, x < 256) (hq : q = none → d = 0) (hL : n ≤ 1000000) :
    Calls Tryz.prog 10 #[.slice q n d] w fun e w' => e = .returned (.tuple #[.int .i64 0, .int .i64 0, .int .i64 9]) ∧ Fr S0 w w' := by
  refine (dpeek_any q d n l w hn hl h8 hq hL).mono ?_
  rintro e w' (⟨A', m', k, -⟩ | ⟨-, e1, f⟩)
  · exact absurd ⟨_, _, k⟩ h
  · exact ⟨e1, f⟩
section
variable (q : Option Addr) (n c : Nat) (l : List Nat) (w : World)
set_option maxRecDepth 100000 in
set_option maxHeartbeats 4000000 in
theorem law_reads (hn : l.length = n) (hl : SlI w .u8 q l) (h8 : ∀ x ∈ l, x < 256) (hq : q = none → c = 0) (hnc : n ≤ c) :
    Calls Tryz.prog 4 #[.slice q n c] w fun e w' => e = .returned (.bool true) ∧ Fr S0 w w' := by
  have HA := Lib.hid (alive21_any w)
  by_cases hk1 : (n : Int) ≤ 3000
  · have hL : n ≤ 1000000 := by omega
    have HRP := Lib.hid (fun W (f : Fr S0 w W) => rpeek_any q n c l W hn (hl.fr0 f) h8 hnc)
    have HRD := Lib.hid (fun W (f : Fr S0 w W) => dread_any q c n l W hn (hl.fr0 f) h8 hq hL)
    have HPY1 := Lib.hid (fun A m (h : PkOk l A m) W (f : Fr S0 w W) => peek_ok h q c n W hn (hl.fr0 f) h8 hq hL)
    have HPN := Lib.hid (fun (h : ¬ ∃ A m, PkOk l A m) W (f : Fr S0 w W) => peek_no h q c n W hn (hl.fr0 f) h8 hq hL)
    have HTX := Lib.hid (fun W (f : Fr S0 w W) => sl_txt (hl.fr0 f) hn (d := c))
    have H8 := Lib.hid h8
    clear hn hl h8 hq hnc hL
    go_enter Tryz.func4, Tryz.ntmps4
    go_wp2_with fail
    refine HA.out.mono ?_
    rintro e w1 ⟨rfl, f1⟩
    have F1 := Lib.hid f1
    clear f1 HA
    go_wp2_with fail
    refine (HRP.out _ F1.out).mono ?_
    rintro e w2 (⟨A, M, k, rfl, f2⟩ | ⟨hno, rfl, f2⟩)
    · have F2 := Lib.hid (F1.out.trans0 f2)
      have HK := Lib.hid k
      clear f2 k F1 HRP HPN
      go_wp2_with fail
      refine (HPY1.out _ _ HK.out _ F2.out).mono ?_
      rintro _ w3 ⟨rfl, f3⟩
      have F3 := Lib.hid (F2.out.trans0 f3)
      clear f3 F2 HPY1
      go_wp2_with fail
      refine (HRD.out _ F3.out).mono ?_
      rintro e w9 (⟨A', M', L', f', ks', gs, h', s', hr, rfl, k9, e1, e2⟩ | ⟨hno, rfl, f9⟩)
      · have FW5 := Lib.hid (F3.out.trans0 k9.fr)
        obtain ⟨rfl, rfl⟩ := pk_one HK.out (pk_of hr)
        have hok := (rdOk_iff H8.out).1 hr
        have HT := Lib.hid (fun W (f : Fr S0 w9 W) => HTX.out W (FW5.out.trans0 f))
        have HRW := Lib.hid (write_read hok)
        have HRI := Lib.hid (fun W (pp : Option Addr) (cc nn : Nat) (hp : PrI W pp L') (hn : L'.length = nn) => rright_yes M' f' pp nn cc L' W hp hn hok.2.ld)
        have HLE : Hid (L'.length ≤ 1000000) := Lib.hid (by have := hok.2.ld.len; have := hok.2.ld.m3; omega)
        have HAC : Hid (∀ W, Fr S0 w9 W → Calls Tryz.prog 16 #[.pointer (some ⟨gs, 0, none⟩)] W fun e w' => e = .returned (.int .i64 (A' : Nat)) ∧ Fr S0 W w') := Lib.hid fun W f => (daccuracy_any gs h' s' A' M' ks' W (k9.is.fr0 f)).mono fun e w' ⟨x, y⟩ => ⟨x, y ▸ Fr.refl _ _⟩
        have HBU := Lib.hid (fun W (f : Fr S0 w9 W) => dbudget_any gs h' s' A' M' ks' W (k9.is.fr0 f))
        have HPY := Lib.hid (fun W (f : Fr S0 w9 W) => dpairs_any gs h' s' A' M' ks' W (k9.is.fr0 f))
        have HFO := Lib.hid (fun W (f : Fr S0 w9 W) => dfolded_any gs h' s' A' M' ks' W (k9.is.fr0 f))
        rw [e1] at HPY
        rw [e2] at HFO
        clear hr hok k9 e1 e2 HRD HTX H8 HK F3
        go_wp2_with fail
        refine wp_region_noPanic ?_
        refine wp_region_held_drew (S := fun w' => Fr S0 w9 w' ∧ (convert 30 9 (.slice q n c)).run Tryz.prog w' = .ok (.string (strB l)) w') (by kernel_rfl) ⟨Fr.drew S0 w9, HT.out _ (Fr.drew S0 w9)⟩ (fun hHeld0 => ?_)
        refine wpAnyH_take (i := 0) (oi := Oper.mk (some 63) _ _ _ _ _) (v := ?_) rfl (by as_aux_lemma => kernel_rfl) (by as_aux_lemma => kernel_rfl) (by as_aux_lemma => kernel_rfl) (fun _ _ _ h => h) (Or.inl ⟨by rfl, ?_⟩) (by assumption) ?_
        rotate_left
        · (intro w hSw; obtain ⟨hf, h4⟩ := hSw; go_simp <;> with_reducible rfl)
        simp only [Act.put, List.setIfInBounds_toArray, List.set_cons_zero, List.set_cons_succ]
        refine wpAnyH_take (i := 1) (oi := Oper.mk (some 64) _ _ _ _ _) (v := ?_) rfl (by as_aux_lemma => kernel_rfl) (by as_aux_lemma => kernel_rfl) (by as_aux_lemma => kernel_rfl) (fun _ _ _ h => h) (Or.inl ⟨by rfl, ?_⟩) (by assumption) ?_
        rotate_left
        · (intro w hSw; obtain ⟨hf, h4⟩ := hSw; go_simp <;> with_reducible rfl)
        simp only [Act.put, List.setIfInBounds_toArray, List.set_cons_zero, List.set_cons_succ]
        refine wpAnyH_take (i := 2) (oi := Oper.mk (some 65) _ _ _ _ _) (v := ?_) rfl (by as_aux_lemma => kernel_rfl) (by as_aux_lemma => kernel_rfl) (by as_aux_lemma => kernel_rfl) (fun _ _ _ h => h) (Or.inl ⟨by rfl, ?_⟩) (by assumption) ?_
        rotate_left
        · (intro w hSw; obtain ⟨hf, h4⟩ := hSw; go_simp <;> with_reducible rfl)
        simp only [Act.put, List.setIfInBounds_toArray, List.set_cons_zero, List.set_cons_succ]
        refine wpAnyH_take (i := 4) (oi := Oper.mk (some 67) _ _ _ _ _) (v := ?_) rfl (by as_aux_lemma => kernel_rfl) (by as_aux_lemma => kernel_rfl) (by as_aux_lemma => kernel_rfl) (fun _ _ _ h => h) (Or.inl ⟨by rfl, ?_⟩) (by assumption) ?_
        rotate_left
        · (intro w hSw; obtain ⟨hf, h4⟩ := hSw; go_simp <;> with_reducible rfl)
        simp only [Act.put, List.setIfInBounds_toArray, List.set_cons_zero, List.set_cons_succ]
        refine wpAnyH_ready (rs := [3]) (by kernel_rfl) (by simp) (AllReadyH.cons (o := Oper.mk (some 66) _ _ _ _ _) rfl (fun K hK => ?_) AllReadyH.nil)
        go_simp
        go_at_call 16
        refine (HAC.out _ hHeld0.1).mono ?_
        rintro _ v3 ⟨rfl, f⟩
        refine hK.out _ _ ⟨hHeld0.1.trans0 f, HT.out _ (hHeld0.1.trans0 f)⟩ (fun hHeld1 => ?_)
        clear hK K hHeld0 f
        try simp only [Act.put, List.setIfInBounds_toArray, List.set_cons_zero, List.set_cons_succ]
        refine wpAnyH_take (i := 5) (oi := Oper.mk (some 68) _ _ _ _ _) (v := ?_) rfl (by as_aux_lemma => kernel_rfl) (by as_aux_lemma => kernel_rfl) (by as_aux_lemma => kernel_rfl) (fun _ _ _ h => h) (Or.inl ⟨by rfl, ?_⟩) (by assumption) ?_
        rotate_left
        · (intro w hSw; obtain ⟨hf, h4⟩ := hSw; go_simp <;> with_reducible rfl)
        simp only [Act.put, List.setIfInBounds_toArray, List.set_cons_zero, List.set_cons_succ]
        refine wpAnyH_take (i := 6) (oi := Oper.mk (some 69) _ _ _ _ _) (v := ?_) rfl (by as_aux_lemma => kernel_rfl) (by as_aux_lemma => kernel_rfl) (by as_aux_lemma => kernel_rfl) (fun _ _ _ h => h) (Or.inl ⟨by rfl, ?_⟩) (by assumption) ?_
        rotate_left
        · (intro w hSw; obtain ⟨hf, h4⟩ := hSw; go_simp <;> with_reducible rfl)
        simp only [Act.put, List.setIfInBounds_toArray, List.set_cons_zero, List.set_cons_succ]
        refine wpAnyH_take (i := 7) (oi := Oper.mk (some 70) _ _ _ _ _) (v := ?_) rfl (by as_aux_lemma => kernel_rfl) (by as_aux_lemma => kernel_rfl) (by as_aux_lemma => kernel_rfl) (fun _ _ _ h => h) (Or.inl ⟨by rfl, ?_⟩) (by assumption) ?_
        rotate_left
        · (intro w hSw; obtain ⟨hf, h4⟩ := hSw; go_simp <;> with_reducible rfl)
        simp only [Act.put, List.setIfInBounds_toArray, List.set_cons_zero, List.set_cons_succ]
        refine wpAnyH_take (i := 8) (oi := Oper.mk (some 71) _ _ _ _ _) (v := ?_) rfl (by as_aux_lemma => kernel_rfl) (by as_aux_lemma => kernel_rfl) (by as_aux_lemma => kernel_rfl) (fun _ _ _ h => h) (Or.inl ⟨by rfl, ?_⟩) (by assumption) ?_
        rotate_left
        · (intro w hSw; obtain ⟨hf, h4⟩ := hSw; go_simp <;> with_reducible rfl)
        simp only [Act.put, List.setIfInBounds_toArray, List.set_cons_zero, List.set_cons_succ]
        refine wpAnyH_take (i := 10) (oi := Oper.mk (some 73) _ _ _ _ _) (v := ?_) rfl (by as_aux_lemma => kernel_rfl) (by as_aux_lemma => kernel_rfl) (by as_aux_lemma => kernel_rfl) (fun _ _ _ h => h) (Or.inl ⟨by rfl, ?_⟩) (by assumption) ?_
        rotate_left
        · (intro w hSw; obtain ⟨hf, h4⟩ := hSw; go_simp <;> with_reducible rfl)
        simp only [Act.put, List.setIfInBounds_toArray, List.set_cons_zero, List.set_cons_succ]
        refine wpAnyH_ready (rs := [9]) (by kernel_rfl) (by simp) (AllReadyH.cons (o := Oper.mk (some 72) _ _ _ _ _) rfl (fun K hK => ?_) AllReadyH.nil)
        go_simp
        go_at_call 17
        refine (HBU.out _ hHeld1.1).mono ?_
        rintro _ v9 ⟨rfl, f⟩
        refine hK.out _ _ ⟨hHeld1.1.trans0 f, HT.out _ (hHeld1.1.trans0 f)⟩ (fun hHeld2 => ?_)
        clear hK K hHeld1 f
        try simp only [Act.put, List.setIfInBounds_toArray, List.set_cons_zero, List.set_cons_succ]
        refine wpAnyH_take (i := 11) (oi := Oper.mk (some 74) _ _ _ _ _) (v := ?_) rfl (by as_aux_lemma => kernel_rfl) (by as_aux_lemma => kernel_rfl) (by as_aux_lemma => kernel_rfl) (fun _ _ _ h => h) (Or.inl ⟨by rfl, ?_⟩) (by assumption) ?_
        rotate_left
        · (intro w hSw; obtain ⟨hf, h4⟩ := hSw; go_simp <;> with_reducible rfl)
        simp only [Act.put, List.setIfInBounds_toArray, List.set_cons_zero, List.set_cons_succ]
        refine wpAnyH_take (i := 12) (oi := Oper.mk (some 75) _ _ _ _ _) (v := ?_) rfl (by as_aux_lemma => kernel_rfl) (by as_aux_lemma => kernel_rfl) (by as_aux_lemma => kernel_rfl) (fun _ _ _ h => h) (Or.inl ⟨by rfl, ?_⟩) (by assumption) ?_
        rotate_left
        · (intro w hSw; obtain ⟨hf, h4⟩ := hSw; go_simp <;> with_reducible rfl)
        simp only [Act.put, List.setIfInBounds_toArray, List.set_cons_zero, List.set_cons_succ]
        refine wpAnyH_take (i := 13) (oi := Oper.mk (some 76) _ _ _ _ _) (v := ?_) rfl (by as_aux_lemma => kernel_rfl) (by as_aux_lemma => kernel_rfl) (by as_aux_lemma => kernel_rfl) (fun _ _ _ h => h) (Or.inl ⟨by rfl, ?_⟩) (by assumption) ?_
        rotate_left
        · (intro w hSw; obtain ⟨hf, h4⟩ := hSw; go_simp <;> with_reducible rfl)
        simp only [Act.put, List.setIfInBounds_toArray, List.set_cons_zero, List.set_cons_succ]
        refine wpAnyH_take (i := 14) (oi := Oper.mk (some 77) _ _ _ _ _) (v := ?_) rfl (by as_aux_lemma => kernel_rfl) (by as_aux_lemma => kernel_rfl) (by as_aux_lemma => kernel_rfl) (fun _ _ _ h => h) (Or.inl ⟨by rfl, ?_⟩) (by assumption) ?_
        rotate_left
        · (intro w hSw; obtain ⟨hf, h4⟩ := hSw; go_simp <;> with_reducible rfl)
        simp only [Act.put, List.setIfInBounds_toArray, List.set_cons_zero, List.set_cons_succ]
        refine wpAnyH_take (i := 15) (oi := Oper.mk (some 78) _ _ _ _ _) (v := ?_) rfl (by as_aux_lemma => kernel_rfl) (by as_aux_lemma => kernel_rfl) (by as_aux_lemma => kernel_rfl) (fun _ _ _ h => h) (Or.inl ⟨by rfl, ?_⟩) (by assumption) ?_
        rotate_left
        · (intro w hSw; obtain ⟨hf, h4⟩ := hSw; go_simp <;> with_reducible rfl)
        simp only [Act.put, List.setIfInBounds_toArray, List.set_cons_zero, List.set_cons_succ]
        refine wpAnyH_take (i := 17) (oi := Oper.mk (some 80) _ _ _ _ _) (v := ?_) rfl (by as_aux_lemma => kernel_rfl) (by as_aux_lemma => kernel_rfl) (by as_aux_lemma => kernel_rfl) (fun _ _ _ h => h) (Or.inl ⟨by rfl, ?_⟩) (by assumption) ?_
        rotate_left
        · (intro w hSw; obtain ⟨hf, h4⟩ := hSw; go_simp <;> with_reducible rfl)
        simp only [Act.put, List.setIfInBounds_toArray, List.set_cons_zero, List.set_cons_succ]
        refine wpAnyH_ready (rs := [16]) (by kernel_rfl) (by simp) (AllReadyH.cons (o := Oper.mk (some 79) _ _ _ _ _) rfl (fun K hK => ?_) AllReadyH.nil)
        go_simp
        go_at_call 19
        refine (HPY.out _ hHeld2.1).mono ?_
        rintro _ v16 ⟨pa, ca, na, rfl, see⟩
        have HSEE := Lib.hid (And.intro (see.pri (by have := HLE.out; have := see.len; omega)) see.len)
        refine hK.out _ _ ⟨hHeld2.1.trans0 see.fr, HT.out _ (hHeld2.1.trans0 see.fr)⟩ (fun hHeld3 => ?_)
        clear hK K hHeld2 see
        try simp only [Act.put, List.setIfInBounds_toArray, List.set_cons_zero, List.set_cons_succ]
        refine wpAnyH_ready (rs := [18]) (by kernel_rfl) (by simp) (AllReadyH.cons (o := Oper.mk (some 81) _ _ _ _ _) rfl (fun K hK => ?_) AllReadyH.nil)
        go_simp
        go_at_call 20
        refine (HFO.out _ hHeld3.1).mono ?_
        rintro _ v18 ⟨rfl, f⟩
        have HSE2 := Lib.hid (And.intro (HSEE.out.1.fr0 f) HSEE.out.2)
        refine hK.out _ _ ⟨hHeld3.1.trans0 f, HT.out _ (hHeld3.1.trans0 f)⟩ (fun hHeld4 => ?_)
        clear hK K hHeld3 f HSEE
        try simp only [Act.put, List.setIfInBounds_toArray, List.set_cons_zero, List.set_cons_succ]
        refine wpAnyH_ready (rs := [19]) (by kernel_rfl) (by simp) (AllReadyH.cons (o := Oper.mk (some 82) _ _ _ _ _) rfl (fun K hK => ?_) AllReadyH.nil)
        go_simp
        go_at_call 18
        refine (HRI.out _ _ _ _ HSE2.out.1 HSE2.out.2).mono ?_
        rintro _ v19 ⟨rfl, f⟩
        refine hK.out _ _ ⟨hHeld4.1.trans0 f, HT.out _ (hHeld4.1.trans0 f)⟩ (fun hHeld5 => ?_)
        clear hK K hHeld4 f HSE2
        try simp only [Act.put, List.setIfInBounds_toArray, List.set_cons_zero, List.set_cons_succ]
        refine wpAnyH_take (i := 20) (oi := Oper.mk (some 83) _ _ _ _ _) (v := ?_) rfl (by as_aux_lemma => kernel_rfl) (by as_aux_lemma => kernel_rfl) (by as_aux_lemma => kernel_rfl) (fun _ _ _ h => h) (Or.inl ⟨by rfl, ?_⟩) (by assumption) ?_
        rotate_left
        · (intro w hSw; obtain ⟨hf, h4⟩ := hSw; go_simp <;> with_reducible rfl)
        simp only [Act.put, List.setIfInBounds_toArray, List.set_cons_zero, List.set_cons_succ]
        refine wpAnyH_take (i := 21) (oi := Oper.mk (some 84) _ _ _ _ _) (v := ?_) rfl (by as_aux_lemma => kernel_rfl) (by as_aux_lemma => kernel_rfl) (by as_aux_lemma => kernel_rfl) (fun _ _ _ h => h) (Or.inl ⟨by rfl, ?_⟩) (by assumption) ?_
        rotate_left
        · (intro w hSw; obtain ⟨hf, h4⟩ := hSw; go_simp <;> with_reducible rfl)
        simp only [Act.put, List.setIfInBounds_toArray, List.set_cons_zero, List.set_cons_succ]
        refine wpAnyH_take (i := 22) (oi := Oper.mk (some 85) _ _ _ _ _) (v := ?_) rfl (by as_aux_lemma => kernel_rfl) (by as_aux_lemma => kernel_rfl) (by as_aux_lemma => kernel_rfl) (fun _ _ _ h => h) (Or.inl ⟨by rfl, ?_⟩) (by assumption) ?_
        rotate_left
        · (intro w hSw; obtain ⟨hf, h4⟩ := hSw; go_simp <;> with_reducible rfl)
        simp only [Act.put, List.setIfInBounds_toArray, List.set_cons_zero, List.set_cons_succ]
        refine wpAnyH_take (i := 23) (oi := Oper.mk (some 86) _ _ _ _ _) (v := ?_) rfl (by as_aux_lemma => kernel_rfl) (by as_aux_lemma => kernel_rfl) (by as_aux_lemma => kernel_rfl) (fun _ _ _ h => h) (Or.inl ⟨by rfl, ?_⟩) (by assumption) ?_
        rotate_left
        · (intro w hSw; obtain ⟨hf, h4⟩ := hSw; go_simp <;> with_reducible rfl)
        simp only [Act.put, List.setIfInBounds_toArray, List.set_cons_zero, List.set_cons_succ]
        refine wpAnyH_take (i := 24) (oi := Oper.mk (some 87) _ _ _ _ _) (v := ?_) rfl (by as_aux_lemma => kernel_rfl) (by as_aux_lemma => kernel_rfl) (by as_aux_lemma => kernel_rfl) (fun _ _ _ h => h) (Or.inl ⟨by rfl, ?_⟩) (by assumption) ?_
        rotate_left
        · (intro w hSw; obtain ⟨hf, h4⟩ := hSw; go_simp <;> with_reducible rfl)
        simp only [Act.put, List.setIfInBounds_toArray, List.set_cons_zero, List.set_cons_succ]
        refine wpAnyH_take (i := 26) (oi := Oper.mk (some 89) _ _ _ _ _) (v := ?_) rfl (by as_aux_lemma => kernel_rfl) (by as_aux_lemma => kernel_rfl) (by as_aux_lemma => kernel_rfl) (fun _ _ _ h => h) (Or.inl ⟨by rfl, ?_⟩) (by assumption) ?_
        rotate_left
        · (intro w hSw; obtain ⟨hf, h4⟩ := hSw; go_simp <;> with_reducible rfl)
        simp only [Act.put, List.setIfInBounds_toArray, List.set_cons_zero, List.set_cons_succ]
        refine wpAnyH_take (i := 30) (oi := Oper.mk (some 93) _ _ _ _ _) (v := ?_) rfl (by as_aux_lemma => kernel_rfl) (by as_aux_lemma => kernel_rfl) (by as_aux_lemma => kernel_rfl) (fun _ _ _ h => h) (Or.inl ⟨by rfl, ?_⟩) (by assumption) ?_
        rotate_left
        · (intro w hSw; obtain ⟨hf, h4⟩ := hSw; go_simp <;> with_reducible rfl)
        simp only [Act.put, List.setIfInBounds_toArray, List.set_cons_zero, List.set_cons_succ]
        refine wpAnyH_take (i := 31) (oi := Oper.mk (some 94) _ _ _ _ _) (v := ?_) rfl (by as_aux_lemma => kernel_rfl) (by as_aux_lemma => kernel_rfl) (by as_aux_lemma => kernel_rfl) (fun _ _ _ h => h) (Or.inl ⟨by rfl, ?_⟩) (by assumption) ?_
        rotate_left
        · (intro w hSw; obtain ⟨hf, h4⟩ := hSw; go_simp <;> with_reducible rfl)
        simp only [Act.put, List.setIfInBounds_toArray, List.set_cons_zero, List.set_cons_succ]
        refine wpAnyH_ready (rs := [25]) (by kernel_rfl) (by simp) (AllReadyH.cons (o := Oper.mk (some 88) _ _ _ _ _) rfl (fun K hK => ?_) AllReadyH.nil)
        go_simp
        go_at_call 19
        refine (HPY.out _ hHeld5.1).mono ?_
        rintro _ v25 ⟨pb, cb, nb, rfl, see⟩
        have HSEE := Lib.hid (And.intro (see.pri (by have := HLE.out; have := see.len; omega)) see.len)
        refine hK.out _ _ ⟨hHeld5.1.trans0 see.fr, HT.out _ (hHeld5.1.trans0 see.fr)⟩ (fun hHeld6 => ?_)
        clear hK K hHeld5 see
        try simp only [Act.put, List.setIfInBounds_toArray, List.set_cons_zero, List.set_cons_succ]
        refine wpAnyH_ready (rs := [27]) (by kernel_rfl) (by simp) (AllReadyH.cons (o := Oper.mk (some 90) _ _ _ _ _) rfl (fun K hK => ?_) AllReadyH.nil)
        go_simp
        go_at_call 20
        refine (HFO.out _ hHeld6.1).mono ?_
        rintro _ v27 ⟨rfl, f⟩
        have HSE2 := Lib.hid (And.intro (HSEE.out.1.fr0 f) HSEE.out.2)
        refine hK.out _ _ ⟨hHeld6.1.trans0 f, HT.out _ (hHeld6.1.trans0 f)⟩ (fun hHeld7 => ?_)
        clear hK K hHeld6 f HSEE
        try simp only [Act.put, List.setIfInBounds_toArray, List.set_cons_zero, List.set_cons_succ]
        refine wpAnyH_ready (rs := [28]) (by kernel_rfl) (by simp) (AllReadyH.cons (o := Oper.mk (some 91) _ _ _ _ _) rfl (fun K hK => ?_) AllReadyH.nil)
        go_simp
        go_at_call 21
        refine (HRW.out _ _ _ _ HSE2.out.1 HSE2.out.2).mono ?_
        rintro _ v28 ⟨vw, rfl, acc⟩
        obtain ⟨qw, dw, rfl, sw, -⟩ := acc.sl
        have tw := sl_txt sw rfl (d := dw)
        refine hK.out _ _ ⟨hHeld7.1.trans0 acc.fr, HT.out _ (hHeld7.1.trans0 acc.fr)⟩ (fun hHeld8 => ?_)
        clear hK K hHeld7 acc sw HSE2
        try simp only [Act.put, List.setIfInBounds_toArray, List.set_cons_zero, List.set_cons_succ]
        refine wpAnyH_ready (rs := [29]) (by kernel_rfl) (by simp) (AllReadyH.cons (o := Oper.mk (some 92) _ _ _ _ _) rfl (fun K hK => ?_) AllReadyH.nil)
        go_simp
        refine hK.out _ _ hHeld8 (fun hHeld9 => ?_)
        clear hK K hHeld8 tw
        try simp only [Act.put, List.setIfInBounds_toArray, List.set_cons_zero, List.set_cons_succ]
        refine wpAnyH_take (i := 32) (oi := Oper.mk (some 95) _ _ _ _ _) (v := ?_) rfl (by as_aux_lemma => kernel_rfl) (by as_aux_lemma => kernel_rfl) (by as_aux_lemma => kernel_rfl) (fun _ _ _ h => h) (Or.inl ⟨by rfl, ?_⟩) (by assumption) ?_
        rotate_left
        · (intro w hSw; obtain ⟨hf, h4⟩ := hSw; go_simp <;> with_reducible rfl)
        simp only [Act.put, List.setIfInBounds_toArray, List.set_cons_zero, List.set_cons_succ]
        refine wpAnyH_take (i := 33) (oi := Oper.mk (some 96) _ _ _ _ _) (v := ?_) rfl (by as_aux_lemma => kernel_rfl) (by as_aux_lemma => kernel_rfl) (by as_aux_lemma => kernel_rfl) (fun _ _ _ h => h) (Or.inl ⟨by rfl, ?_⟩) (by assumption) ?_
        rotate_left
        · (intro w hSw; obtain ⟨hf, h4⟩ := hSw; go_simp <;> with_reducible rfl)
        simp only [Act.put, List.setIfInBounds_toArray, List.set_cons_zero, List.set_cons_succ]
        refine wpAnyH_take (i := 34) (oi := Oper.mk (some 2) _ _ _ _ _) (v := ?_) rfl (by as_aux_lemma => kernel_rfl) (by as_aux_lemma => kernel_rfl) (by as_aux_lemma => kernel_rfl) (fun _ _ _ h => h) (Or.inl ⟨by rfl, ?_⟩) (by assumption) ?_
        rotate_left
        · (intro w hSw; obtain ⟨hf, h4⟩ := hSw; go_simp <;> with_reducible rfl)
        simp only [Act.put, List.setIfInBounds_toArray, List.set_cons_zero, List.set_cons_succ]
        have F7 := Lib.hid hHeld9.1
        clear hHeld9
        refine wpAnyH_done (by kernel_rfl) ?_ _
        refine NoPanic.normal ?_
        go_wp2_with fail
        go_ret
        exact ⟨rfl, FW5.out.trans0 F7.out⟩
      · have F9 := Lib.hid (F3.out.trans0 f9)
        clear f9 hno HRD
        go_wp2_with fail
        go_ret
        exact ⟨rfl, F9.out⟩
    · have F2 := Lib.hid (F1.out.trans0 f2)
      have HNO := Lib.hid hno
      clear f2 hno F1 HRP HPY1
      go_wp2_with fail
      refine (HPN.out HNO.out _ F2.out).mono ?_
      rintro _ w3 ⟨rfl, f3⟩
      have F3 := Lib.hid (F2.out.trans0 f3)
      clear f3 F2 HPN
      go_wp2_with fail
      refine (HRD.out _ F3.out).mono ?_
      rintro e w9 (⟨A', M', L', f', ks', gs, h', s', hr, -⟩ | ⟨-, rfl, f9⟩)
      · exact absurd ⟨_, _, pk_of hr⟩ HNO.out
      · have F9 := Lib.hid (F3.out.trans0 f9)
        clear f9 HRD
        go_wp2_with fail
        go_ret
        exact ⟨rfl, F9.out⟩
  · have hk2 : decide ((3000 : Int) < (n : Int)) = true := decide_eq_true (by omega)
    have hk3 : (3000 : Int) < (n : Int) := by omega
    clear hk1 hn hl h8 hq hnc
    go_enter Tryz.func4, Tryz.ntmps4
    go_wp2_with fail
    refine HA.out.mono ?_
    rintro e w1 ⟨rfl, f1⟩
    have F1 := Lib.hid f1
    clear f1 HA
    go_wp2_with fail
    go_ret
    exact ⟨rfl, F1.out⟩
end
end Go.Proofs.YtaemgflhgdlmiaaGreat
