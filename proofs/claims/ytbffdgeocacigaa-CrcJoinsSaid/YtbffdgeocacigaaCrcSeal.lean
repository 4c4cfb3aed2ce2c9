/- The document's answers of layer 2: the bytes of a sum, texts that are sealed, texts that fit. -/
import Derived.Test.YtbffdgeocacigaaCrcRef
import Derived.Deep.RegionHeld3
namespace Go.Proofs.Ytbffdgeocacigaa
open Go.RowKit

/-- n bytes of c, the lowest first -/
def leB : Nat → Nat → List Nat
  | 0, _ => []
  | n + 1, c => c % 256 :: leB n (c / 256)
theorem leB_length : ∀ n c, (leB n c).length = n
  | 0, _ => rfl
  | n + 1, c => by rw [leB, List.length_cons, leB_length]
theorem leB_lt : ∀ n c, ∀ x ∈ leB n c, x < 256
  | 0, _ => by simp [leB]
  | n + 1, c => by
    intro x hx
    rw [leB, List.mem_cons] at hx
    rcases hx with rfl | hx
    · omega
    · exact leB_lt n _ x hx
theorem leB_snoc : ∀ n c, leB (n + 1) c = leB n c ++ [c / 256 ^ n % 256]
  | 0, c => by simp [leB]
  | n + 1, c => by
    rw [leB, leB_snoc n, leB, List.cons_append, Nat.div_div_eq_div_mul, Nat.pow_succ, Nat.mul_comm 256]
theorem val_leB : ∀ n c, c < 256 ^ n → val (leB n c) = c
  | 0, c, h => by rw [leB, val]; simp at h; omega
  | n + 1, c, h => by
    rw [leB, val, val_leB n (c / 256) (by rw [Nat.pow_succ] at h; omega)]
    omega
theorem leB_val : ∀ l : List Nat, (∀ x ∈ l, x < 256) → leB l.length (val l) = l
  | [], _ => rfl
  | b :: r, h => by
    have hb := h b (by simp)
    rw [List.length_cons, leB, val, show (b + 256 * val r) % 256 = b by omega, show (b + 256 * val r) / 256 = val r by omega, leB_val r fun x hx => h x (by simp [hx])]

/-- what is told: a row of the call's own with these bytes -/
def RowPost (w : World) (e : Ending) (w' : World) (bs : List Nat) : Prop :=
  ∃ v, e = .returned v ∧ Fr S0 w w' ∧ w'.ownsRow 0 5 1 v bs.length (u8s bs) ∧ Fresh w v
theorem RowPost.mk {w w' : World} {bs xs : List Nat} {m : Nat} {v : Value} (h : Fr S0 w w') (hx : xs = bs) (hm : bs.length = m) (ho : w'.ownsRow 0 5 1 v m (u8s xs)) (hv : Fresh w v) : RowPost w (.returned v) w' bs :=
  ⟨v, rfl, h, by rw [hm, ← hx]; exact ho, hv⟩

set_option maxRecDepth 100000 in
set_option maxHeartbeats 1000000 in
theorem rbytes_any (c : Nat) (w : World) (hc : c < 4294967296) :
    Calls Try.prog 22 #[.int .u32 c] w fun e w' => RowPost w e w' (leB 4 c) := by
  have HC := Lib.hid hc
  clear hc
  go_enter Try.func22, Try.ntmps22
  go_wp2
  go_loopw [0, 3, 4] (fun v b i wr => ∃ (k a : Nat) (p : Option Addr) (d : Nat), k ≤ 4 ∧ i = .int .i64 k ∧ v = .int .u32 a ∧ a = c / 256 ^ k ∧ b = .slice p k d ∧ wr.ownsRow 0 5 1 (.slice p k d) k (u8s (leB k c)) ∧ Fresh w (.slice p k d) ∧ Fr S0 w wr) (fun _ _ i _ => 4 - (intOf i).toNat)
  case atStart => exact ⟨0, c, none, 0, by omega, rfl, rfl, by simp, rfl, World.ownsRow_nil _ _ _ _, fresh_nil _ _, Fr.refl _ _⟩
  case round =>
    obtain ⟨k, a, p, d, hk, rfl, rfl, ha, rfl, own, hfv, hfr⟩ := hrel
    have HR : Hid (Room (k + 1)) := Lib.hid (Room.mk (by omega))
    have HA := Lib.hid ha
    have HA32 : Hid (a < 4294967296) := Lib.hid (by rw [ha]; exact Nat.lt_of_le_of_lt (Nat.div_le_self _ _) HC.out)
    clear ha
    by_cases h4 : (k : Int) < 4
    · go_wp2_with ((with_reducible show wpList _ _ _ (Oper.mk (some 14) _ _ _ _ _ :: _) _ _); refine app_one el8 (.tmp 9) (.tmp 13) rfl own rfl rfl rfl rfl rfl one8 HR.out ?_; intro g cap w1 hown hgrow hat hlt1)
      go_roundw
      case rel =>
        refine ⟨k + 1, a / 256, some ⟨g, 0, none⟩, cap, by omega, by go_num, ?_, ?_, rfl, ?_, fresh_app hfr hfv hat, (hfr.trans0 (Fr.alloc S0 wr _)).append hgrow hfv⟩
        · congr 1; have := HA32.out; omega
        · rw [HA.out, Nat.div_div_eq_div_mul, ← Nat.pow_succ]
        · rw [leB_snoc, ← HA.out, ← u8s_append]; exact hown
      case measure => simp [intOf]; omega
    · obtain rfl : k = 4 := by omega
      go_wp2
      go_ret
      exact RowPost.mk hfr rfl (leB_length _ _) own hfv

set_option maxRecDepth 100000 in
set_option maxHeartbeats 1000000 in
theorem rseal_any (p : Option Addr) (d : Nat) (l : List Nat) (w : World) (hl : SlI w .u8 p l) (hb : ∀ x ∈ l, x < 256) (hp : p = none → d = 0) (hlen : l.length ≤ 100000) :
    Calls Try.prog 16 #[.slice p l.length d] w fun e w' => RowPost w e w' (l ++ leB 4 (sum l)) := by
  have HB := Lib.hid hb
  have HP := Lib.hid hp
  have HM := Lib.hid (fun w' (h : Fr S0 w w') => rsum_any p d l w' (hl.fr0 h) hb)
  have HS : Hid (sum l < 4294967296) := Lib.hid (more_lt _ _)
  clear hb hp
  have HR1 : Hid (Room l.length) := Lib.hid (Room.mk (by omega))
  have HR2 : Hid (Room (l.length + 4)) := Lib.hid (Room.mk (by omega))
  go_enter Try.func16, Try.ntmps16
  go_wp2_with ((with_reducible show wpList _ _ _ (Oper.mk (some 6) _ _ _ _ _ :: _) _ _); refine app_many el8 (.tmp 4) (.tmp 5) (World.ownsRow_nil _ _ _ _) (SrcIs.ofSl hl HP.out) (Nat.zero_add _) rfl rfl rfl rfl (ones _) HR1.out ?_; intro p4 c4 w4 own4 g4 at4; have f4 := (Fr.refl S0 w).append g4 (fresh_nil _ _); have v4 := fresh_many (fresh_nil w 0) (Nat.le_refl _) at4; clear g4 at4)
  rw [List.nil_append] at own4
  go_wp2_with (first
    | (go_at_call 11; refine (HM.out _ f4).mono ?_; rintro e w' ⟨rfl, rfl⟩)
    | (go_at_call 22; refine (rbytes_any (sum l) _ HS.out).mono ?_; rintro e w5 ⟨v5, rfl, f5, own5, v5f⟩)
    | ((with_reducible show wpList _ _ _ (Oper.mk (some 11) _ _ _ _ _ :: _) _ _); refine app_many el8 (.tmp 7) (.tmp 10) (f5.owns own4 (fun _ _ h => h)) (SrcIs.ofOwns own5) (congrArg (l.length + ·) (leB_length 4 _)) rfl rfl rfl rfl (one8s _) HR2.out ?_; intro p6 c6 w6 own6 g6 at6; have f6 := (f4.trans0 f5).append g6 v4; have v6 := fresh_many v4 (f4.trans0 f5).size at6; clear g6 at6))
  go_ret
  exact RowPost.mk f6 rfl (by rw [List.length_append, leB_length]) (by rw [← u8s_append]; exact own6) v6

/-- the last four of a slice -/
theorem SlI.last {w : World} {k : IntKind} {b off : Nat} {l : List Nat} (h : SlI w k (some ⟨b, off, none⟩) l) (m : Nat) : SlI w k (some ⟨b, off + m, none⟩) (l.drop m) := by
  refine ⟨by have := h.1; rw [List.length_drop]; omega, fun hl => ⟨b, off + m, rfl, fun i hi => ?_⟩⟩
  rw [List.length_drop] at hi
  obtain ⟨b', off', hp, hc⟩ := h.2 (by intro e; subst e; simp at hl)
  simp only [Option.some.injEq, Addr.mk.injEq] at hp
  obtain ⟨rfl, rfl, -⟩ := hp
  rw [Nat.add_assoc, hc (m + i) (by omega), List.getElem_drop]

set_option maxRecDepth 100000 in
set_option maxHeartbeats 1000000 in
theorem rfits_small (p : Option Addr) (d : Nat) (l : List Nat) (w : World) (h : ¬ 4 ≤ l.length) :
    Calls Try.prog 15 #[.slice p l.length d] w fun e w' => e = .returned (.bool (fitsB l)) ∧ Fr S0 w w' := by
  have HF : Hid (fitsB l = false) := Lib.hid (by unfold fitsB; rw [decide_eq_false h]; rfl)
  have hd : decide ((4 : Int) ≤ (l.length : Int)) = false := by rw [decide_eq_false_iff_not]; omega
  go_enter Try.func15, Try.ntmps15
  go_wp2
  go_quiet (fail)
  go_wp2
  go_ret
  rw [HF.out]
  exact ⟨rfl, Fr.drewN _ _ _⟩

set_option maxRecDepth 100000 in
set_option maxHeartbeats 1000000 in
theorem rfits_big (b off d m : Nat) (l : List Nat) (w : World) (hl : SlI w .u8 (some ⟨b, off, none⟩) l) (hb : ∀ x ∈ l, x < 256) (hm : l.length = m + 4) (hd : m + 4 ≤ d) (hd2 : d ≤ maxLen) :
    Calls Try.prog 15 #[.slice (some ⟨b, off, none⟩) (m + 4) d] w fun e w' => e = .returned (.bool (fitsB l)) ∧ Fr S0 w w' := by
  have hsum : ∀ w', Fr S0 w w' → Calls Try.prog 11 #[.slice (some ⟨b, off, none⟩) m d] w' fun e w'' => e = .returned (.int .u32 (sum (l.take m) : Nat)) ∧ w' = w'' := by
    intro w' hf
    have := rsum_any (some ⟨b, off, none⟩) d (l.take m) w' ((hl.take m).fr0 hf) (fun x hx => hb x (List.mem_of_mem_take hx))
    rwa [show (l.take m).length = m from by rw [List.length_take]; omega] at this
  have HS := Lib.hid hsum
  have HM := Lib.hid hm
  have hfit : fitsB l = decide (leB 4 (sum (l.take m)) = (l.drop m).take 4) := by
    have h4 : ((l.drop m).take 4) = l.drop (l.length - 4) := by rw [List.take_of_length_le (by rw [List.length_drop]; omega)]; congr 1; omega
    have hlast : ∀ x ∈ l.drop (l.length - 4), x < 256 := fun x hx => hb x (List.mem_of_mem_drop hx)
    have hval := leB_val (l.drop (l.length - 4)) hlast
    rw [show (l.drop (l.length - 4)).length = 4 from by rw [List.length_drop]; omega] at hval
    unfold fitsB
    rw [h4, decide_eq_true (show 4 ≤ l.length by omega), Bool.true_and, show l.length - 4 = m by omega, Bool.eq_iff_iff, beq_iff_eq, decide_eq_true_iff]
    rw [show l.length - 4 = m by omega] at hval
    constructor
    · intro h; rw [h]; exact hval
    · intro h
      rw [← h, val_leB 4 _ (show sum _ < 256 ^ 4 from more_lt _ _)]
  have HF : Hid (((strB (leB 4 (sum (l.take m)))).toList == (strB ((l.drop m).take 4)).toList) = fitsB l) := Lib.hid (by
    rw [hfit]
    exact strB_beq _ _ (leB_lt _ _) fun x hx => hb x (List.mem_of_mem_drop (List.mem_of_mem_take hx)))
  clear hfit
  obtain ⟨s, hs⟩ : ∃ s, sum (l.take m) = s := ⟨_, rfl⟩
  rw [hs] at HS HF
  have HSE := Lib.hid hs
  have HY := Lib.hid (rbytes_any s · (by rw [← hs]; exact more_lt _ _))
  clear hsum hs hb hm
  unfold maxLen at hd2
  have n4 : ¬ d = m := by omega
  have hw1 : IntKind.i64.wrap (m : Int) = m := by rw [IntKind.wrap_i64]; omega
  have hb1 : (0 : Int) ≤ m := by omega
  have hb2 : (m : Int) ≤ d := by omega
  have hb3 : (m : Int) ≤ (m : Int) + 4 := by omega
  have hb4 : (4 : Int) ≤ (m : Int) + 4 := by omega
  have hb5 : (m : Int) + 4 ≤ d := by omega
  clear hd hd2
  go_enter Try.func15, Try.ntmps15
  go_wp2
  have hc0 := conv_sl ((hl.last m).fr0 (Fr.drew S0 w)) 4 (d - m) (by rw [List.length_drop]; have := HM.out; omega)
  refine wp_region_noPanic ?_
  refine wp_region_held_drew (S := fun w' => (convert 23 9 (.slice (some ⟨b, off + m, none⟩) 4 (d - m))).run Try.prog w' = .ok (.string (strB ((l.drop m).take 4))) w') (by kernel_rfl) hc0 (fun hHeld => ?_)
  refine wpAnyH_take (i := 0) (oi := Oper.mk (some 3) _ _ _ _ _) (v := ?_) rfl (by kernel_rfl) (by kernel_rfl) (by kernel_rfl) (fun _ _ _ h => h) (Or.inl ⟨by rfl, ?_⟩) (by assumption) ?_
  rotate_left
  · (intro w hSw; (try dsimp only at hSw); go_simp <;> with_reducible rfl)
  simp only [Act.put, List.setIfInBounds_toArray, List.set_cons_zero, List.set_cons_succ]
  refine wpAnyH_take (i := 1) (oi := Oper.mk (some 4) _ _ _ _ _) (v := ?_) rfl (by kernel_rfl) (by kernel_rfl) (by kernel_rfl) (fun _ _ _ h => h) (Or.inl ⟨by rfl, ?_⟩) (by assumption) ?_
  rotate_left
  · (intro w hSw; (try dsimp only at hSw); go_simp <;> with_reducible rfl)
  simp only [Act.put, List.setIfInBounds_toArray, List.set_cons_zero, List.set_cons_succ]
  refine wpAnyH_take (i := 2) (oi := Oper.mk (some 5) _ _ _ _ _) (v := ?_) rfl (by kernel_rfl) (by kernel_rfl) (by kernel_rfl) (fun _ _ _ h => h) (Or.inl ⟨by rfl, ?_⟩) (by assumption) ?_
  rotate_left
  · (intro w hSw; (try dsimp only at hSw); go_simp <;> with_reducible rfl)
  simp only [Act.put, List.setIfInBounds_toArray, List.set_cons_zero, List.set_cons_succ]
  refine wpAnyH_take (i := 3) (oi := Oper.mk (some 6) _ _ _ _ _) (v := ?_) rfl (by kernel_rfl) (by kernel_rfl) (by kernel_rfl) (fun _ _ _ h => h) (Or.inl ⟨by rfl, ?_⟩) (by assumption) ?_
  rotate_left
  · (intro w hSw; (try dsimp only at hSw); go_simp <;> with_reducible rfl)
  simp only [Act.put, List.setIfInBounds_toArray, List.set_cons_zero, List.set_cons_succ]
  refine wpAnyH_take (i := 4) (oi := Oper.mk (some 7) _ _ _ _ _) (v := ?_) rfl (by kernel_rfl) (by kernel_rfl) (by kernel_rfl) (fun _ _ _ h => h) (Or.inl ⟨by rfl, ?_⟩) (by assumption) ?_
  rotate_left
  · (intro w hSw; (try dsimp only at hSw); go_simp <;> with_reducible rfl)
  simp only [Act.put, List.setIfInBounds_toArray, List.set_cons_zero, List.set_cons_succ]
  refine wpAnyH_take (i := 5) (oi := Oper.mk (some 8) _ _ _ _ _) (v := ?_) rfl (by kernel_rfl) (by kernel_rfl) (by kernel_rfl) (fun _ _ _ h => h) (Or.inl ⟨by rfl, ?_⟩) (by assumption) ?_
  rotate_left
  · (intro w hSw; (try dsimp only at hSw); go_simp <;> with_reducible rfl)
  simp only [Act.put, List.setIfInBounds_toArray, List.set_cons_zero, List.set_cons_succ]
  refine wpAnyH_take (i := 6) (oi := Oper.mk (some 9) _ _ _ _ _) (v := ?_) rfl (by kernel_rfl) (by kernel_rfl) (by kernel_rfl) (fun _ _ _ h => h) (Or.inl ⟨by rfl, ?_⟩) (by assumption) ?_
  rotate_left
  · (intro w hSw; (try dsimp only at hSw); go_simp <;> with_reducible rfl)
  simp only [Act.put, List.setIfInBounds_toArray, List.set_cons_zero, List.set_cons_succ]
  refine wpAnyH_take (i := 7) (oi := Oper.mk (some 10) _ _ _ _ _) (v := ?_) rfl (by kernel_rfl) (by kernel_rfl) (by kernel_rfl) (fun _ _ _ h => h) (Or.inl ⟨by rfl, ?_⟩) (by assumption) ?_
  rotate_left
  · (intro w hSw; (try dsimp only at hSw); go_simp <;> with_reducible rfl)
  simp only [Act.put, List.setIfInBounds_toArray, List.set_cons_zero, List.set_cons_succ]
  refine wpAnyH_take (i := 8) (oi := Oper.mk (some 11) _ _ _ _ _) (v := ?_) rfl (by kernel_rfl) (by kernel_rfl) (by kernel_rfl) (fun _ _ _ h => h) (Or.inl ⟨by rfl, ?_⟩) (by assumption) ?_
  rotate_left
  · (intro w hSw; (try dsimp only at hSw); go_simp <;> with_reducible rfl)
  simp only [Act.put, List.setIfInBounds_toArray, List.set_cons_zero, List.set_cons_succ]
  refine wpAnyH_take (i := 12) (oi := Oper.mk (some 15) _ _ _ _ _) (v := ?_) rfl (by kernel_rfl) (by kernel_rfl) (by kernel_rfl) (fun _ _ _ h => h) (Or.inl ⟨by rfl, ?_⟩) (by assumption) ?_
  rotate_left
  · (intro w hSw; (try dsimp only at hSw); go_simp <;> with_reducible rfl)
  simp only [Act.put, List.setIfInBounds_toArray, List.set_cons_zero, List.set_cons_succ]
  refine wpAnyH_take (i := 13) (oi := Oper.mk (some 16) _ _ _ _ _) (v := ?_) rfl (by kernel_rfl) (by kernel_rfl) (by kernel_rfl) (fun _ _ _ h => h) (Or.inl ⟨by rfl, ?_⟩) (by assumption) ?_
  rotate_left
  · (intro w hSw; (try dsimp only at hSw); go_simp <;> with_reducible rfl)
  simp only [Act.put, List.setIfInBounds_toArray, List.set_cons_zero, List.set_cons_succ]
  refine wpAnyH_take (i := 14) (oi := Oper.mk (some 17) _ _ _ _ _) (v := ?_) rfl (by kernel_rfl) (by kernel_rfl) (by kernel_rfl) (fun _ _ _ h => h) (Or.inl ⟨by rfl, ?_⟩) (by assumption) ?_
  rotate_left
  · (intro w hSw; (try dsimp only at hSw); go_simp <;> with_reducible rfl)
  simp only [Act.put, List.setIfInBounds_toArray, List.set_cons_zero, List.set_cons_succ]
  refine wpAnyH_take (i := 15) (oi := Oper.mk (some 18) _ _ _ _ _) (v := ?_) rfl (by kernel_rfl) (by kernel_rfl) (by kernel_rfl) (fun _ _ _ h => h) (Or.inl ⟨by rfl, ?_⟩) (by assumption) ?_
  rotate_left
  · (intro w hSw; (try dsimp only at hSw); go_simp <;> with_reducible rfl)
  simp only [Act.put, List.setIfInBounds_toArray, List.set_cons_zero, List.set_cons_succ]
  refine wpAnyH_take (i := 16) (oi := Oper.mk (some 19) _ _ _ _ _) (v := ?_) rfl (by kernel_rfl) (by kernel_rfl) (by kernel_rfl) (fun _ _ _ h => h) (Or.inl ⟨by rfl, ?_⟩) (by assumption) ?_
  rotate_left
  · (intro w hSw; (try dsimp only at hSw); go_simp <;> with_reducible rfl)
  simp only [Act.put, List.setIfInBounds_toArray, List.set_cons_zero, List.set_cons_succ]
  refine wpAnyH_take (i := 17) (oi := Oper.mk (some 20) _ _ _ _ _) (v := ?_) rfl (by kernel_rfl) (by kernel_rfl) (by kernel_rfl) (fun _ _ _ h => h) (Or.inl ⟨by rfl, ?_⟩) (by assumption) ?_
  rotate_left
  · (intro w hSw; (try dsimp only at hSw); go_simp <;> with_reducible rfl)
  simp only [Act.put, List.setIfInBounds_toArray, List.set_cons_zero, List.set_cons_succ]
  refine wpAnyH_ready (rs := [9]) (by kernel_rfl) (by simp) (AllReadyH.cons (o := Oper.mk (some 12) _ _ _ _ _) rfl (fun K hK => ?_) AllReadyH.nil)
  go_simp
  go_at_call 11
  refine (HS.out _ (Fr.drew _ _)).mono ?_
  rintro e w' ⟨rfl, rfl⟩
  refine hK.out _ _ hHeld (fun _ => ?_)
  clear hK K
  try simp only [Act.put, List.setIfInBounds_toArray, List.set_cons_zero, List.set_cons_succ]
  refine wpAnyH_ready (rs := [10]) (by kernel_rfl) (by simp) (AllReadyH.cons (o := Oper.mk (some 13) _ _ _ _ _) rfl (fun K hK => ?_) AllReadyH.nil)
  go_simp
  go_at_call 22
  refine (HY.out _).mono ?_
  rintro e w5 ⟨v5, rfl, f5, own5, v5f⟩
  rw [leB_length] at own5
  have hc1 := conv_own own5
  have hc2 := conv_sl ((hl.last m).fr0 ((Fr.drew _ _).trans0 f5)) 4 (d - m) (by rw [List.length_drop]; have := HM.out; omega)
  refine hK.out _ _ hc2 (fun _ => ?_)
  clear hK K
  try simp only [Act.put, List.setIfInBounds_toArray, List.set_cons_zero, List.set_cons_succ]
  refine wpAnyH_ready (rs := [11]) (by kernel_rfl) (by simp) (AllReadyH.cons (o := Oper.mk (some 14) _ _ _ _ _) rfl (fun K hK => ?_) AllReadyH.nil)
  go_simp
  refine hK.out _ _ hc2 (fun _ => ?_)
  clear hK K
  try simp only [Act.put, List.setIfInBounds_toArray, List.set_cons_zero, List.set_cons_succ]
  refine wpAnyH_take (i := 18) (oi := Oper.mk (some 21) _ _ _ _ _) (v := ?_) rfl (by kernel_rfl) (by kernel_rfl) (by kernel_rfl) (fun _ _ _ h => h) (Or.inl ⟨by rfl, ?_⟩) (by assumption) ?_
  rotate_left
  · (intro w hSw; (try dsimp only at hSw); go_simp <;> with_reducible rfl)
  simp only [Act.put, List.setIfInBounds_toArray, List.set_cons_zero, List.set_cons_succ]
  refine wpAnyH_take (i := 19) (oi := Oper.mk (some 22) _ _ _ _ _) (v := ?_) rfl (by kernel_rfl) (by kernel_rfl) (by kernel_rfl) (fun _ _ _ h => h) (Or.inl ⟨by rfl, ?_⟩) (by assumption) ?_
  rotate_left
  · (intro w hSw; (try dsimp only at hSw); go_simp <;> with_reducible rfl)
  simp only [Act.put, List.setIfInBounds_toArray, List.set_cons_zero, List.set_cons_succ]
  refine wpAnyH_take (i := 20) (oi := Oper.mk (some 2) _ _ _ _ _) (v := ?_) rfl (by kernel_rfl) (by kernel_rfl) (by kernel_rfl) (fun _ _ _ h => h) (Or.inl ⟨by rfl, ?_⟩) (by assumption) ?_
  rotate_left
  · (intro w hSw; (try dsimp only at hSw); go_simp <;> with_reducible rfl)
  simp only [Act.put, List.setIfInBounds_toArray, List.set_cons_zero, List.set_cons_succ]
  refine wpAnyH_done (by kernel_rfl) ?_ _
  refine NoPanic.normal ?_
  go_wp2
  go_ret
  refine ⟨?_, (Fr.drew S0 w).trans0 f5⟩
  rw [← HF.out]
  rfl
theorem rfits_any (p : Option Addr) (d : Nat) (l : List Nat) (w : World) (hl : SlI w .u8 p l) (hb : ∀ x ∈ l, x < 256) (hd : l.length ≤ d) (hd2 : d ≤ maxLen) :
    Calls Try.prog 15 #[.slice p l.length d] w fun e w' => e = .returned (.bool (fitsB l)) ∧ Fr S0 w w' := by
  by_cases h4 : 4 ≤ l.length
  · obtain ⟨b, off, rfl, -⟩ := hl.2 (by intro e; subst e; simp at h4)
    have hm : l.length = (l.length - 4) + 4 := by omega
    have := rfits_big b off d (l.length - 4) l w hl hb hm (by omega) hd2
    rwa [← hm] at this
  · exact rfits_small p d l w h4
end Go.Proofs.Ytbffdgeocacigaa
