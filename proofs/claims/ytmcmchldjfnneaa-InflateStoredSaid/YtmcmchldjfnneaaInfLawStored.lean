/- InflateStored (made by tools/genstored.py). -/
import Derived.Test.YtmcmchldjfnneaaInfLawLimit
import Derived.Test.YtmcmchldjfnneaaOpenRows
namespace Go.Proofs.Ytmcmchldjfnneaa
open Go.RowKit

/-- texts in stored blocks -/
def stB (ms : List (List Nat)) : List Nat := ms.flatMap fun m => [0, m.length % 256, m.length / 256, 255 - m.length % 256, 255 - m.length / 256] ++ m
theorem stB_snoc (ms : List (List Nat)) (m : List Nat) : stB (ms ++ [m]) = stB ms ++ [0, m.length % 256, m.length / 256, 255 - m.length % 256, 255 - m.length / 256] ++ m := by simp [stB]
theorem stB_cons (ms : List (List Nat)) (m : List Nat) : stB (m :: ms) = 0 :: m.length % 256 :: m.length / 256 :: (255 - m.length % 256) :: (255 - m.length / 256) :: (m ++ stB ms) := by simp [stB]
theorem stB_len (ms : List (List Nat)) (h : ∀ m ∈ ms, m.length ≤ 2000) : (stB ms).length ≤ 2005 * ms.length := by
  induction ms with
  | nil => exact Nat.le_refl _
  | cons m r ih =>
    have h1 := ih fun x hx => h x (List.mem_cons_of_mem _ hx)
    have h2 := h m List.mem_cons_self
    rw [stB_cons]
    simp only [List.length_cons, List.length_append]
    omega
theorem flat_len (ms : List (List Nat)) (h : ∀ m ∈ ms, m.length ≤ 2000) : ms.flatten.length ≤ 2000 * ms.length := by
  induction ms with
  | nil => exact Nat.le_refl _
  | cons m r ih =>
    have h1 := ih fun x hx => h x (List.mem_cons_of_mem _ hx)
    have h2 := h m List.mem_cons_self
    simp only [List.flatten_cons, List.length_cons, List.length_append]
    omega
theorem stB_lt (ms : List (List Nat)) (h : ∀ m ∈ ms, m.length < 65536 ∧ ∀ x ∈ m, x < 256) : ∀ x ∈ stB ms, x < 256 := by
  intro x hx
  obtain ⟨m, hm, hx⟩ := List.mem_flatMap.1 hx
  obtain ⟨h1, h2⟩ := h m hm
  rcases List.mem_append.1 hx with q | q
  · simp only [List.mem_cons, List.not_mem_nil, or_false] at q
    omega
  · exact h2 x q
theorem blocks_stored (ms : List (List Nat)) : ∀ (pre T : List Nat) (lim : Nat), (∀ m ∈ ms, m.length < 65536) → T.length + ms.flatten.length ≤ lim → rBlocks (pre ++ (stB ms ++ [3, 0])) lim T (8 * pre.length) = .ok (T ++ ms.flatten) (8 * (pre.length + (stB ms).length) + 10) := by
  induction ms with
  | nil =>
    intro pre T lim _ _
    have := rBlocks_end (end_block pre lim T)
    simpa [stB] using this
  | cons m r ih =>
    intro pre T lim h hl
    have hm := h m List.mem_cons_self
    rw [List.flatten_cons, List.length_append] at hl
    have hb := stored_block pre m (stB r ++ [3, 0]) lim T 0 (m.length % 256) (m.length / 256) (255 - m.length % 256) (255 - m.length / 256) rfl (by omega) (by omega) (by omega) (by omega) (by omega)
    rw [if_pos (by omega), if_pos (by omega)] at hb
    have e : pre ++ (stB (m :: r) ++ [3, 0]) = pre ++ (0 :: m.length % 256 :: m.length / 256 :: (255 - m.length % 256) :: (255 - m.length / 256) :: (m ++ (stB r ++ [3, 0]))) := by rw [stB_cons]; simp
    rw [← e] at hb
    have hlen : (pre ++ (stB (m :: r) ++ [3, 0])).length = pre.length + 5 + m.length + (stB r).length + 2 := by rw [e]; simp; omega
    rw [rBlocks_go (T1 := T ++ m) (k1 := 8 * (pre.length + 5 + m.length)) hb (by omega) (by omega)]
    have := ih (pre ++ [0, m.length % 256, m.length / 256, 255 - m.length % 256, 255 - m.length / 256] ++ m) (T ++ m) lim (fun x hx => h x (List.mem_cons_of_mem _ hx)) (by rw [List.length_append]; omega)
    rw [show pre ++ [0, m.length % 256, m.length / 256, 255 - m.length % 256, 255 - m.length / 256] ++ m ++ (stB r ++ [3, 0]) = pre ++ (stB (m :: r) ++ [3, 0]) by rw [e]; simp] at this
    rw [show 8 * (pre ++ [0, m.length % 256, m.length / 256, 255 - m.length % 256, 255 - m.length / 256] ++ m).length = 8 * (pre.length + 5 + m.length) by simp; omega] at this
    rw [this]
    congr 1
    · simp
    · rw [stB_cons]; simp; omega
theorem infl_stored (ms : List (List Nat)) (lim : Nat) (h : ∀ m ∈ ms, m.length < 65536) (hl : ms.flatten.length ≤ lim) : infl (stB ms ++ [3, 0]) lim = .ok ms.flatten (8 * (stB ms).length + 10) := by
  have := blocks_stored ms [] [] lim h (by simpa using hl)
  simpa [infl] using this

/-- the first k texts -/
def ltk (rs : List (Option Addr × List Nat × Nat)) (k : Nat) : List (List Nat) := (rs.take k).map fun r => r.2.1
theorem ltk_succ {rs : List (Option Addr × List Nat × Nat)} {k : Nat} {q : Option Addr} {m : List Nat} {c : Nat} (h : k < rs.length) (e : rs[k] = (q, m, c)) : ltk rs (k + 1) = ltk rs k ++ [m] := by
  unfold ltk
  rw [List.take_add_one, List.getElem?_eq_getElem h, e]
  simp
theorem ltk_len (rs : List (Option Addr × List Nat × Nat)) (k : Nat) : (ltk rs k).length ≤ k := by unfold ltk; rw [List.length_map, List.length_take]; omega
theorem ltk_lt {w : World} {rs : List (Option Addr × List Nat × Nat)} (h : ∀ r ∈ rs, SlI w .u8 r.1 r.2.1 ∧ (∀ x ∈ r.2.1, x < 256) ∧ (r.1 = none → r.2.2 = 0) ∧ r.2.1.length ≤ r.2.2) (k : Nat) : ∀ m ∈ ltk rs k, ∀ x ∈ m, x < 256 := by
  intro m hm
  obtain ⟨r, hr, rfl⟩ := List.mem_map.1 hm
  exact (h r (List.mem_of_mem_take hr)).2.1

/-- two rows of bytes, both younger than w0 -/
structure TwoR (w0 w : World) (u v : Value) (nu nv : Nat) (xs ys : List Nat) : Prop where
  fr : Fr S0 w0 w
  ou : w.ownsRow 0 5 1 u nu (u8s xs)
  ov : w.ownsRow 0 5 1 v nv (u8s ys)
  fu : Fresh w0 u
  fv : Fresh w0 v
  ne : ∀ k, u.ownBlock = some k → v.ownBlock ≠ some k
theorem TwoR.fr0 {w0 w w' : World} {u v : Value} {nu nv : Nat} {xs ys : List Nat} (h : TwoR w0 w u v nu nv xs ys) (hf : Fr S0 w w') : TwoR w0 w' u v nu nv xs ys :=
  ⟨h.fr.trans0 hf, hf.owns h.ou (fun _ _ h => h), hf.owns h.ov (fun _ _ h => h), h.fu, h.fv, h.ne⟩
theorem TwoR.swap {w0 w : World} {u v : Value} {nu nv : Nat} {xs ys : List Nat} (h : TwoR w0 w u v nu nv xs ys) : TwoR w0 w v u nv nu ys xs :=
  ⟨h.fr, h.ov, h.ou, h.fv, h.fu, fun k h1 h2 => h.ne k h2 h1⟩
theorem TwoR.app1 {w0 w wa w' : World} {u v u' : Value} {nu nv N : Nat} {xs ys zs : List Nat} (h : TwoR w0 w u v nu nv xs ys) (hf : Fr S0 w wa) (hg : wa.grownBy w' u.ownBlock) (own : w'.ownsRow 0 5 1 u' N (u8s zs))
    (hat : u'.ownBlock = u.ownBlock ∨ u'.ownBlock = some wa.heap.size) : TwoR w0 w' u' v N nv zs ys := by
  have ha := h.fr0 hf
  refine ⟨ha.fr.append hg (fun k hk => h.fu k hk), own, (Fr.grown hg).owns ha.ov (fun k hk e => h.ne k e hk), fresh_many h.fu ha.fr.size hat, h.fv, fun k hk hv => ?_⟩
  rcases hat with q | q
  · exact h.ne k (q ▸ hk) hv
  · rw [q] at hk
    simp only [Option.some.injEq] at hk
    have := (ha.ov.lt k hv).2
    omega
theorem TwoR.app2 {w0 w wa w' : World} {u v v' : Value} {nu nv N : Nat} {xs ys zs : List Nat} (h : TwoR w0 w u v nu nv xs ys) (hf : Fr S0 w wa) (hg : wa.grownBy w' v.ownBlock) (own : w'.ownsRow 0 5 1 v' N (u8s zs))
    (hat : v'.ownBlock = v.ownBlock ∨ v'.ownBlock = some wa.heap.size) : TwoR w0 w' u v' nu N xs zs := (h.swap.app1 hf hg own hat).swap

/-- what the spoilt block tells -/
theorem spoilt (s lo hi : Nat) (hs : s < 65536) (h1 : s % 256 = lo) (h2 : s / 256 = hi) : ∃ M : Int, (((s : Int) = 65535 ∧ M = 0) ∨ (¬ (s : Int) = 65535 ∧ M = 61)) ∧ ∀ W, Calls Try.prog 9 #[.slice (some ⟨W.heap.size, 0, none⟩) 5 5, .int .i64 9] (W.alloc (.cells #[.int .u8 1, .int .u8 0, .int .u8 0, .int .u8 (lo : Nat), .int .u8 (hi : Nat)] 5)) fun e w' =>
    ∃ q c U, e = .returned (.tuple #[.slice q 0 c, .int .i64 U, .int .i64 M]) ∧ Fr S0 W w' := by
  have h := ex4 lo hi (by omega) (by omega)
  have h8 : ∀ x ∈ [1, 0, 0, lo, hi], x < 256 := by
    intro x hx
    simp only [List.mem_cons, List.not_mem_nil, or_false] at hx
    omega
  by_cases q : lo + 256 * hi = 65535
  · rw [if_pos q] at h
    refine ⟨0, .inl ⟨by omega, rfl⟩, fun W => ?_⟩
    exact (read_yes (d := 5) (lit8 W _ [1, 0, 0, lo, hi] rfl (by simp)) h8 (fun h => by cases h) (by simp) (by decide) h).mono fun e w' ⟨q, c, h1, h2, _⟩ => ⟨q, c, _, h1, (Fr.alloc S0 W _).trans0 h2⟩
  · rw [if_neg q] at h
    refine ⟨61, .inr ⟨by omega, rfl⟩, fun W => ?_⟩
    exact (read_no (d := 5) (lit8 W _ [1, 0, 0, lo, hi] rfl (by simp)) h8 (fun h => by cases h) (by simp) (by decide) h).mono fun e w' ⟨h1, h2⟩ => ⟨none, 0, 0, h1, (Fr.alloc S0 W _).trans0 h2⟩

set_option maxRecDepth 100000 in
set_option maxHeartbeats 4000000 in
theorem law_stored (p : Option Addr) (d s : Nat) (rs : List (Option Addr × List Nat × Nat)) (w : World) (hl : SlRows w .u8 256 p rs) (hs : s < 65536) :
    Calls Try.prog 6 #[.slice p rs.length d, .int .u16 (s : Nat)] w fun e w' => e = .returned (.bool true) ∧ Fr S0 w w' := by
  have hlen := hl.1
  unfold maxLen at hlen
  obtain ⟨LO, hLO⟩ : ∃ x, s % 256 = x := ⟨_, rfl⟩
  obtain ⟨HI, hHI⟩ : ∃ x, s / 256 = x := ⟨_, rfl⟩
  obtain ⟨M, hM, R9'⟩ := spoilt s LO HI hs hLO hHI
  have R9 : Hid (∀ W, Calls Try.prog 9 #[.slice (some ⟨W.heap.size, 0, none⟩) 5 5, .int .i64 9] (W.alloc (.cells #[.int .u8 1, .int .u8 0, .int .u8 0, .int .u8 ((s : Int) % 256), .int .u8 ((s : Int) / 256)] 5)) fun e w' =>
      ∃ q c U, e = .returned (.tuple #[.slice q 0 c, .int .i64 U, .int .i64 M]) ∧ Fr S0 W w') := by
    rw [show ((s : Int) % 256) = (LO : Int) by omega, show ((s : Int) / 256) = (HI : Int) by omega]
    exact Lib.hid R9'
  clear R9' hLO hHI
  go_enter Try.func6, Try.ntmps6
  go_wp2_with fail
  refine start w _ fun w1 f1 => ?_
  go_wp2_with fail
  go_loopw [5, 6, 7, 8] (fun u v i _ wr => ∃ (k : Nat) (X Y : List Nat), k ≤ rs.length ∧ k ≤ 20 ∧ i = .int .i64 k ∧ X = stB (ltk rs k) ∧ Y = (ltk rs k).flatten ∧ (∀ m ∈ ltk rs k, m.length ≤ 2000) ∧ TwoR w wr u v X.length Y.length X Y) (fun _ _ i _ _ => rs.length - (intOf i).toNat)
  case atStart => exact ⟨0, [], [], by omega, by omega, rfl, rfl, rfl, fun m hm => by simp [ltk] at hm, f1, ⟨rfl, .inl ⟨rfl, rfl⟩⟩, ⟨rfl, .inl ⟨rfl, rfl⟩⟩, fresh_nil _ _, fresh_nil _ _, fun k h => by cases h⟩
  case round =>
    obtain ⟨k, X, Y, hk, hk20, rfl, eX, eY, HLN, T2⟩ := hrel
    obtain ⟨pu, cu, rfl, -, -, -⟩ := slForm T2.ou
    obtain ⟨pv, cv, rfl, -, -, -⟩ := slForm T2.ov
    by_cases h1 : (k : Int) < (rs.length : Int)
    · by_cases h2 : (k : Int) < 20
      · have hk1 : k < rs.length := by omega
        obtain ⟨bl, ol, rfl, hcell0⟩ := hl.at k hk1
        obtain ⟨hs1, -, hp1, -⟩ := hl.2.2 rs[k] (List.getElem_mem hk1)
        obtain ⟨⟨q, m, c⟩, hr⟩ : ∃ r, rs[k] = r := ⟨_, rfl⟩
        rw [hr] at hcell0 hs1 hp1
        simp only at hcell0 hs1 hp1
        have hcell := T2.fr.cell hcell0 (fun h => h)
        have hcellA : ∀ o, (wr.alloc o).cell? ⟨bl, ol + k, none⟩ = some (.slice q m.length c) := fun o => (Fr.alloc S0 wr o).cell hcell (fun h => h)
        have HC := Lib.hid hcell0
        clear hcell0 hcellA
        have HP := Lib.hid hp1
        have HLS := Lib.hid (ltk_succ hk1 hr)
        clear hr hp1
        by_cases h3 : (2000 : Int) < (m.length : Int)
        · have HF := Lib.hid T2.fr
          clear T2 eX eY HLN
          go_wp2_with fail
          go_ret
          exact ⟨rfl, HF.out⟩
        · have hX0 : X.length ≤ 40100 := by rw [eX]; have := stB_len _ HLN; have := ltk_len rs k; omega
          have hY0 : Y.length ≤ 40000 := by rw [eY]; have := flat_len _ HLN; have := ltk_len rs k; omega
          have E1 : Hid (Room (X.length + 5)) := Lib.hid (Room.mk (by omega))
          have E2 : Hid (Room (X.length + 5 + m.length)) := Lib.hid (Room.mk (by omega))
          have E3 : Hid (Room (Y.length + m.length)) := Lib.hid (Room.mk (by omega))
          have HLN' : Hid (∀ x ∈ ltk rs (k + 1), x.length ≤ 2000) := Lib.hid (by
            rw [HLS.out]
            intro x hx
            rcases List.mem_append.1 hx with h | h
            · exact HLN x h
            · simp only [List.mem_cons, List.not_mem_nil, or_false] at h; subst h; omega)
          have HEX : Hid (X ++ [0, m.length % 256, m.length / 256, 255 - m.length % 256, 255 - m.length / 256] ++ m = stB (ltk rs (k + 1))) := Lib.hid (by rw [HLS.out, stB_snoc, ← eX])
          have HEY : Hid (Y ++ m = (ltk rs (k + 1)).flatten) := Lib.hid (by rw [HLS.out, List.flatten_append, ← eY]; simp)
          have HT := Lib.hid T2
          have HHS := Lib.hid hs1
          clear T2 eX eY HLN HLS hs1
          have s1 : SrcIs (wr.alloc (.cells #[.int .u8 0, .int .u8 ((m.length : Int) % 256), .int .u8 ((m.length : Int) / 256), .int .u8 (255 - (m.length : Int) % 256), .int .u8 (255 - (m.length : Int) / 256)] 5)) (.slice (some ⟨wr.heap.size, 0, none⟩) 5 5) 5 (u8s [0, m.length % 256, m.length / 256, 255 - m.length % 256, 255 - m.length / 256]) :=
            SrcIs.ofSl (l := [0, m.length % 256, m.length / 256, 255 - m.length % 256, 255 - m.length / 256]) (lit8 wr _ [0, m.length % 256, m.length / 256, 255 - m.length % 256, 255 - m.length / 256] (by
              have q3 : (255 - (m.length : Int) % 256) = ((255 - m.length % 256 : Nat) : Int) := by omega
              have q4 : (255 - (m.length : Int) / 256) = ((255 - m.length / 256 : Nat) : Int) := by omega
              rw [q3, q4]; rfl) (by simp)) (fun h => by cases h)
          go_wp2_with (first
            | ((with_reducible show wpList _ _ _ (Oper.mk (some 56) _ _ _ _ _ :: _) _ _); refine app_many el8 (.tmp 40) (.tmp 55) ((Fr.alloc S0 wr _).owns HT.out.ou (fun _ _ h => h)) s1 rfl rfl rfl rfl rfl (one8s _) E1.out ?_; intro p4 c4 w4 own4 g4 at4; have T4 := Lib.hid (HT.out.app1 (Fr.alloc S0 wr _) g4 (by rw [u8s_append] at own4; exact own4) at4); have hc4 := T4.out.fr.cell HC.out (fun h => h); clear g4 at4 own4)
            | ((with_reducible show wpList _ _ _ (Oper.mk (some 62) _ _ _ _ _ :: _) _ _); refine app_many el8 (.tmp 57) (.tmp 61) T4.out.ou (SrcIs.ofSl (HHS.out.fr0 T4.out.fr) HP.out) rfl rfl rfl rfl rfl (ones _) E2.out ?_; intro p5 c5 w5 own5 g5 at5; have T5 := Lib.hid (T4.out.app1 (Fr.refl S0 w4) g5 (by rw [show (m.map fun (x : Nat) => Value.int .u8 (x : Int)) = u8s m from rfl, u8s_append] at own5; exact own5) at5); have hc5 := T5.out.fr.cell HC.out (fun h => h); clear g5 at5 own5)
            | ((with_reducible show wpList _ _ _ (Oper.mk (some 68) _ _ _ _ _ :: _) _ _); refine app_many el8 (.tmp 63) (.tmp 67) T5.out.ov (SrcIs.ofSl (HHS.out.fr0 T5.out.fr) HP.out) rfl rfl rfl rfl rfl (ones _) E3.out ?_; intro p6 c6 w6 own6 g6 at6; have T6 := Lib.hid (T5.out.app2 (Fr.refl S0 w5) g6 (by rw [show (m.map fun (x : Nat) => Value.int .u8 (x : Int)) = u8s m from rfl, u8s_append] at own6; exact own6) at6); clear g6 at6 own6))
          go_roundw
          case rel => exact ⟨k + 1, _, _, by omega, by omega, by go_num, HEX.out, HEY.out, HLN'.out, by
            have e1 : (X ++ [0, m.length % 256, m.length / 256, 255 - m.length % 256, 255 - m.length / 256] ++ m).length = X.length + 5 + m.length := by simp; omega
            have e2 : (Y ++ m).length = Y.length + m.length := by simp
            rw [e1, e2]
            exact T6.out⟩
          case measure => simp [intOf]; omega
      · -- twenty
        have hX0 : X.length ≤ 40100 := by rw [eX]; have := stB_len _ HLN; have := ltk_len rs k; omega
        have hY0 : Y.length ≤ 40000 := by rw [eY]; have := flat_len _ HLN; have := ltk_len rs k; omega
        have HXL : Hid (infl (X ++ [3, 0]) 65536 = .ok Y (8 * X.length + 10)) := Lib.hid (by rw [eX, eY]; exact infl_stored _ _ (fun m hm => by have := HLN m hm; omega) (by rw [← eY]; omega))
        have HX8 : Hid (∀ x ∈ X ++ [3, 0], x < 256) := Lib.hid (by
          intro x hx
          rcases List.mem_append.1 hx with h | h
          · rw [eX] at h; exact stB_lt _ (fun m hm => ⟨by have := HLN m hm; omega, ltk_lt hl.2.2 k m hm⟩) x h
          · simp at h; omega)
        have HT := Lib.hid T2
        clear T2 eX eY HLN
        have E7 : Hid (Room (X.length + 2)) := Lib.hid (Room.mk (by omega))
        have s7 : SrcIs (wr.alloc (.cells #[.int .u8 3, .int .u8 0] 5)) (.slice (some ⟨wr.heap.size, 0, none⟩) 2 2) 2 (u8s [3, 0]) := SrcIs.ofSl (l := [3, 0]) (lit8 wr _ [3, 0] rfl (by decide)) (fun h => by cases h)
        go_wp2_with ((with_reducible show wpList _ _ _ (Oper.mk (some 72) _ _ _ _ _ :: _) _ _); refine app_many el8 (.tmp 70) (.tmp 71) ((Fr.alloc S0 wr _).owns HT.out.ou (fun _ _ h => h)) s7 rfl rfl rfl rfl rfl (one8s _) E7.out ?_; intro p7 c7 w7 own7 g7 at7; have T7 := HT.out.app1 (Fr.alloc S0 wr _) g7 (by rw [u8s_append] at own7; exact own7) at7; clear g7 at7 own7)
        have R7 : Hid (Calls Try.prog 9 #[.slice p7 (X.length + 2) c7, .int .i64 65536] w7 fun e w' => ∃ q c, e = .returned (.tuple #[.slice q Y.length c, .int .i64 ((X.length : Int) + 2), .int .i64 0]) ∧ Fr S0 w7 w' ∧ w'.ownsRow 0 5 1 (.slice q Y.length c) Y.length (u8s Y)) := by
          have hcz : p7 = none → c7 = 0 := by
            obtain ⟨p', c', hv, h1, -, -⟩ := slForm T7.ou
            simp only [Value.slice.injEq] at hv
            obtain ⟨rfl, -, rfl⟩ := hv
            exact h1
          have := read_at (d := c7) (L := 65536) (U := (X.length : Int) + 2) (SlI.ofOwns T7.ou) HX8.out hcz (by rw [List.length_append, List.length_cons, List.length_cons, List.length_nil]; omega) (by omega) HXL.out rfl (by unfold upN; omega) w7 (Fr.refl _ _)
          rw [List.length_append] at this
          exact Lib.hid this
        have HT7 := Lib.hid T7
        clear T7 HT HXL HX8 E7 s7
        refine R7.out.mono ?_
        rintro e w8 ⟨p8, c8, rfl, f8, o8⟩
        have g8 := HT7.out.fr.trans0 f8
        have k8 := conv_own (f8.owns HT7.out.ov (fun _ _ h => h))
        have k9 := conv_own o8
        clear o8 HT7 R7 f8
        go_wp2_with fail
        refine (R9.out w8).mono ?_
        rintro e w9 ⟨q9, c9, U9, rfl, f9⟩
        have HF := Lib.hid (g8.trans0 f9)
        clear g8 f9 k8 k9 R9
        rcases hM with ⟨hs, rfl⟩ | ⟨hs, rfl⟩
        · go_wp2_with fail
          go_ret
          exact ⟨rfl, HF.out⟩
        · have hB : (!((s : Int) == 65535) && ((s : Int) != 65535)) = true := by simp [hs]
          go_wp2_with fail
          go_ret
          exact ⟨rfl, HF.out⟩
    · -- all
      have hX0 : X.length ≤ 40100 := by rw [eX]; have := stB_len _ HLN; have := ltk_len rs k; omega
      have hY0 : Y.length ≤ 40000 := by rw [eY]; have := flat_len _ HLN; have := ltk_len rs k; omega
      have HXL : Hid (infl (X ++ [3, 0]) 65536 = .ok Y (8 * X.length + 10)) := Lib.hid (by rw [eX, eY]; exact infl_stored _ _ (fun m hm => by have := HLN m hm; omega) (by rw [← eY]; omega))
      have HX8 : Hid (∀ x ∈ X ++ [3, 0], x < 256) := Lib.hid (by
        intro x hx
        rcases List.mem_append.1 hx with h | h
        · rw [eX] at h; exact stB_lt _ (fun m hm => ⟨by have := HLN m hm; omega, ltk_lt hl.2.2 k m hm⟩) x h
        · simp at h; omega)
      have HT := Lib.hid T2
      clear T2 eX eY HLN
      have E7 : Hid (Room (X.length + 2)) := Lib.hid (Room.mk (by omega))
      have s7 : SrcIs (wr.alloc (.cells #[.int .u8 3, .int .u8 0] 5)) (.slice (some ⟨wr.heap.size, 0, none⟩) 2 2) 2 (u8s [3, 0]) := SrcIs.ofSl (l := [3, 0]) (lit8 wr _ [3, 0] rfl (by decide)) (fun h => by cases h)
      go_wp2_with ((with_reducible show wpList _ _ _ (Oper.mk (some 72) _ _ _ _ _ :: _) _ _); refine app_many el8 (.tmp 70) (.tmp 71) ((Fr.alloc S0 wr _).owns HT.out.ou (fun _ _ h => h)) s7 rfl rfl rfl rfl rfl (one8s _) E7.out ?_; intro p7 c7 w7 own7 g7 at7; have T7 := HT.out.app1 (Fr.alloc S0 wr _) g7 (by rw [u8s_append] at own7; exact own7) at7; clear g7 at7 own7)
      have R7 : Hid (Calls Try.prog 9 #[.slice p7 (X.length + 2) c7, .int .i64 65536] w7 fun e w' => ∃ q c, e = .returned (.tuple #[.slice q Y.length c, .int .i64 ((X.length : Int) + 2), .int .i64 0]) ∧ Fr S0 w7 w' ∧ w'.ownsRow 0 5 1 (.slice q Y.length c) Y.length (u8s Y)) := by
        have hcz : p7 = none → c7 = 0 := by
          obtain ⟨p', c', hv, h1, -, -⟩ := slForm T7.ou
          simp only [Value.slice.injEq] at hv
          obtain ⟨rfl, -, rfl⟩ := hv
          exact h1
        have := read_at (d := c7) (L := 65536) (U := (X.length : Int) + 2) (SlI.ofOwns T7.ou) HX8.out hcz (by rw [List.length_append, List.length_cons, List.length_cons, List.length_nil]; omega) (by omega) HXL.out rfl (by unfold upN; omega) w7 (Fr.refl _ _)
        rw [List.length_append] at this
        exact Lib.hid this
      have HT7 := Lib.hid T7
      clear T7 HT HXL HX8 E7 s7
      refine R7.out.mono ?_
      rintro e w8 ⟨p8, c8, rfl, f8, o8⟩
      have g8 := HT7.out.fr.trans0 f8
      have k8 := conv_own (f8.owns HT7.out.ov (fun _ _ h => h))
      have k9 := conv_own o8
      clear o8 HT7 R7 f8
      go_wp2_with fail
      refine (R9.out w8).mono ?_
      rintro e w9 ⟨q9, c9, U9, rfl, f9⟩
      have HF := Lib.hid (g8.trans0 f9)
      clear g8 f9 k8 k9 R9
      rcases hM with ⟨hs, rfl⟩ | ⟨hs, rfl⟩
      · go_wp2_with fail
        go_ret
        exact ⟨rfl, HF.out⟩
      · have hB : (!((s : Int) == 65535) && ((s : Int) != 65535)) = true := by simp [hs]
        go_wp2_with fail
        go_ret
        exact ⟨rfl, HF.out⟩
end Go.Proofs.Ytmcmchldjfnneaa
