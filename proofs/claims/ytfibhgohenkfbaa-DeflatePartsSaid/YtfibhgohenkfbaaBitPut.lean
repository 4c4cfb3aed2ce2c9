/- One bit is written. -/
import Derived.Test.YtfibhgohenkfbaaBitSpec
namespace Go.Proofs.Ytfibhgohenkfbaa
open Go.RowKit
variable {X : Wx}

/-- the cells of a writer's block -/
theorem wr_c0 {w : World} {g : Nat} {a b : Value} {t : TypeId} (h : w.heap[g]? = some (.cells (X.cs a b) t (0, 0))) : w.cell? ⟨g, 0, none⟩ = some a := by simp [World.cell?, h, Wx.cs]
theorem wr_c1 {w : World} {g : Nat} {a b : Value} {t : TypeId} (h : w.heap[g]? = some (.cells (X.cs a b) t (0, 0))) : w.cell? ⟨g, 1, none⟩ = some b := by simp [World.cell?, h, Wx.cs]
theorem wr_f {w : World} {g : Nat} {a b : Value} {t : TypeId} (h : w.heap[g]? = some (.cells (X.cs a b) t (0, 0))) (k : Nat) : w.frozen? ⟨g, k, none⟩ = false := by simp [World.frozen?, h]
theorem wr_s0 {w : World} {g : Nat} {a b : Value} {t : TypeId} (h : w.heap[g]? = some (.cells (X.cs a b) t (0, 0))) (x : Value) : (w.setCell ⟨g, 0, none⟩ x).heap[g]? = some (.cells (X.cs x b) t (0, 0)) := by rw [heap_setCell_same w g 0 _ _ _ h]; simp [Wx.cs]
theorem wr_s1 {w : World} {g : Nat} {a b : Value} {t : TypeId} (h : w.heap[g]? = some (.cells (X.cs a b) t (0, 0))) (x : Value) : (w.setCell ⟨g, 1, none⟩ x).heap[g]? = some (.cells (X.cs a x) t (0, 0)) := by rw [heap_setCell_same w g 1 _ _ _ h]; simp [Wx.cs]

/-- a bit is laid over zeros -/
theorem or_bit (o x k : Nat) (hk : k < 8) (ho : o < 2 ^ k) (hx : x < 2) : bits .or .u8 (o : Int) ((x : Int) * 2 ^ k % 256) = ((o + x * 2 ^ k : Nat) : Int) := by
  have hp : 2 ^ k ≤ 128 := Nat.le_trans (Nat.pow_le_pow_right (by decide) (show k ≤ 7 by omega)) (by decide)
  have h2 : x * 2 ^ k ≤ 128 := Nat.le_trans (Nat.mul_le_mul (show x ≤ 1 by omega) hp) (by decide)
  rw [show ((x : Int) * 2 ^ k % 256) = ((x * 2 ^ k : Nat) : Int) by
    have e : ((x * 2 ^ k : Nat) : Int) = (x : Int) * 2 ^ k := by simp
    rw [← e]
    omega, u8_or_nat _ _ (by omega) (by omega)]
  congr 1
  rw [Nat.or_comm, ← Nat.shiftLeft_eq, ← Nat.shiftLeft_add_eq_or_of_lt ho, Nat.add_comm]

theorem drew_row {w : World} {g : Nat} {o : Obj} (h : w.heap[g]? = some o) : w.drew.heap[g]? = some o := h
theorem put_end {w W : World} {g q c M B : Nat} {r : Option Nat} {L : List Nat} {x : Nat} (h : Hid (WrIs X w g r L)) (hb : W.heap[g]? = some (.cells (X.cs (.slice (some ⟨q, 0, none⟩) (B + 1) c) (.int .i64 (M : Nat))) X.ty (0, 0)))
    (own : W.ownsRow 0 5 1 (.slice (some ⟨q, 0, none⟩) (B + 1) c) (B + 1) (u8s (room L))) (hf : Fr (WrB g r) w W) (hq : r = some q ∨ w.heap.size ≤ q) (hqg : q ≠ g) (hM : L.length = M) (hB : M / 8 = B) (hx : x < 2) :
    WrTo X w ((W.setCell ⟨q, B, none⟩ (.int .u8 (num (L.drop (8 * B)) + x * 2 ^ (M % 8) : Nat))).setCell ⟨g, 1, none⟩ (.int .i64 (M + 1 : Nat))).drew g r (L ++ [x]) := by
  subst hM hB
  have hl := byt_length (L ++ [x])
  rw [List.length_append, List.length_singleton, show (L.length + 1 + 7) / 8 = L.length / 8 + 1 by omega] at hl
  obtain ⟨o2, -⟩ := own.stored (L.length / 8) (.int .u8 (num (L.drop (8 * (L.length / 8))) + x * 2 ^ (L.length % 8) : Nat))
  have hb2 : (W.setCell ⟨q, L.length / 8, none⟩ (.int .u8 (num (L.drop (8 * (L.length / 8))) + x * 2 ^ (L.length % 8) : Nat))).heap[g]? = some (.cells (X.cs (.slice (some ⟨q, 0, none⟩) (L.length / 8 + 1) c) (.int .i64 (L.length : Nat))) X.ty (0, 0)) :=
    (heap_setCell_other W ⟨q, _, none⟩ g _ (fun e => hqg e.symm)).trans hb
  have hs : u8s (byt (L ++ [x])) = (u8s (room L)).set (L.length / 8) (.int .u8 (num (L.drop (8 * (L.length / 8))) + x * 2 ^ (L.length % 8) : Nat)) := by
    rw [byt_put]; unfold u8s; rw [List.map_set]
  have f1 : Fr (WrB g (some q)) W ((W.setCell ⟨q, L.length / 8, none⟩ (.int .u8 (num (L.drop (8 * (L.length / 8))) + x * 2 ^ (L.length % 8) : Nat))).setCell ⟨g, 1, none⟩ (.int .i64 (L.length + 1 : Nat))).drew :=
    ((Fr.setCell _ _ ⟨q, _, none⟩ _ (.inr rfl)).trans (Fr.setCell _ _ ⟨g, 1, none⟩ _ (.inl rfl)) (fun _ _ h => h)).trans0 (Fr.drew _ _)
  refine ⟨some q, ⟨⟨some ⟨q, 0, none⟩, c, ?_, ?_, rfl⟩, h.out.bits.app (.one hx), fun e => hqg (Option.some.inj e)⟩, hf.trans f1 (fun j hj e => ?_), ?_⟩
  · rw [hl, List.length_append, List.length_singleton]
    exact drew_row (wr_s1 hb2 _)
  · rw [hl, hs]
    exact (Fr.drew (· = g) _).owns ((Fr.setCell (· = g) _ ⟨g, 1, none⟩ _ rfl).owns o2 (fun j hj e => by simp only [Value.ownBlock, Option.some.injEq] at hj; omega)) (fun j hj e => by simp only [Value.ownBlock, Option.some.injEq] at hj; omega)
  · rcases e with e | e
    · exact .inl e
    · rcases hq with hq | hq
      · exact .inr (hq.trans e)
      · simp only [Option.some.injEq] at e; omega
  · rcases hq with hq | hq
    · exact .inl hq.symm
    · exact .inr fun j hj => by simp only [Option.some.injEq] at hj; omega

theorem put_grown {w w1 : World} {g q c N : Nat} {p : Option Addr} {r : Option Nat} {L : List Nat} {o : Obj} {b : Obj} (h : WrIs X w g r L) (hb : w.heap[g]? = some b) (hr : Value.ownBlock (.slice p N c) = r)
    (hgrow : (w.alloc o).grownBy w1 (Value.ownBlock (.slice p N c))) (hat : Value.ownBlock (.slice p N c) = some q ∨ q = w.heap.size + 1) :
    w1.heap[g]? = some b ∧ Fr (WrB g r) w w1 ∧ (r = some q ∨ w.heap.size ≤ q) ∧ ¬ q = g ∧ ¬ g = q := by
  rw [hr] at hgrow hat
  have hg := h.lt
  have f : Fr (fun k => r = some k) w w1 := (Fr.alloc _ w o).trans (Fr.grown hgrow) (fun _ _ h => h)
  have ne : ¬ q = g := by
    rintro rfl
    rcases hat with e | e
    · exact h.apart e
    · omega
  refine ⟨f.row hb (fun e => h.apart e), f.mono (fun j _ e => .inr e), ?_, ne, fun e => ne e.symm⟩
  rcases hat with e | e
  · exact .inl e
  · exact .inr (by omega)

set_option maxRecDepth 100000 in
set_option maxHeartbeats 1000000 in
theorem put_any (g : Nat) (r : Option Nat) (L : List Nat) (x : Nat) (w : World) (h : WrIs X w g r L) (hx : x < 2) (hL : L.length < 1099511627776) :
    Calls Try.prog 85 #[.pointer (some ⟨g, 0, none⟩), .int .u32 x] w fun e w' => e = .returned (.tuple #[]) ∧ WrTo X w w' g r (L ++ [x]) := by
  obtain ⟨p, c, hb, own, hr⟩ := h.ex
  have H := Lib.hid h
  obtain ⟨M, hM⟩ : ∃ M, L.length = M := ⟨_, rfl⟩
  obtain ⟨N, hN⟩ : ∃ N, (byt L).length = N := ⟨_, rfl⟩
  obtain ⟨A, hA⟩ : ∃ A, M % 8 = A := ⟨_, rfl⟩
  obtain ⟨B, hB⟩ : ∃ B, M / 8 = B := ⟨_, rfl⟩
  have eA : (M : Int) % 8 = (A : Int) := by omega
  have eB : (M : Int) / 8 = (B : Int) := by omega
  have hA8 : A < 8 := by omega
  have hN7 := byt_length L
  rw [hN, hM] at hN7
  have hrl := room_length L
  rw [hM, hB] at hrl
  have hrg := room_get L (by omega)
  have hlo := room_last_lt L h.bits
  simp only [hM, hB, hA] at hrg hlo
  obtain ⟨o, ho⟩ : ∃ o, num (L.drop (8 * B)) = o := ⟨_, rfl⟩
  rw [ho] at hrg hlo
  rw [← hA] at hlo
  have hBs : B < 1099511627776 := by omega
  have hMs : M < 1099511627776 := by omega
  have HO := Lib.hid (or_bit o x (M % 8) (by omega) hlo hx)
  have HG : Hid ((u8s (room L))[B]? = some (.int .u8 (o : Nat))) := Lib.hid (by simp [u8s, hrl, hrg])
  have HM := Lib.hid hM
  have HB := Lib.hid hB
  have HA := Lib.hid hA
  have EA := Lib.hid eA
  have EB := Lib.hid eB
  have HE := Lib.hid ho
  rw [hM] at hb
  rw [hN] at hb own hr
  have h0 := wr_c0 hb
  have h1 := wr_c1 hb
  have h2 := wr_f hb
  by_cases hz : A = 0
  · have HR : Hid (Room (N + 1)) := Lib.hid (Room.mk (by omega))
    have hT : ((M : Int) % 8 == 0) = true := by rw [beq_iff_eq]; omega
    have HRM : Hid (u8s (byt L) ++ [Value.int .u8 0] = u8s (room L)) := Lib.hid (by unfold room; rw [if_pos (by omega)]; simp [u8s])
    have HNB : Hid (N = B) := Lib.hid (by omega)
    clear hN hA hB hM hN7 hrg hrl hlo h eA eB hA8 hz ho
    go_enter Try.func85, Try.ntmps85
    go_wp2_with ((with_reducible show wpList _ _ _ (Oper.mk (some 18) _ _ _ _ _ :: _) _ _); refine app_one el8 (.tmp 16) (.tmp 17) rfl own rfl rfl rfl rfl rfl one8 HR.out ?_; intro q cap w1 hown hgrow hat hlt1; clear hlt1; obtain ⟨b1, f1, q1, n1, n2⟩ := put_grown H.out hb hr hgrow hat; rw [HRM.out] at hown; have cc := hown.cellAt B (by have := HNB.out; omega); rw [HG.out] at cc; have cf := hown.frozenAt; have k0 := wr_c0 b1; have k1 := wr_c1 b1; have kf := wr_f b1; clear hgrow hat)
    obtain rfl : N = B := HNB.out
    have b2 := wr_s0 b1 (.slice (some ⟨q, 0, none⟩) (N + 1) cap)
    have o2 := (Fr.setCell (· = g) w1 ⟨g, 0, none⟩ (.slice (some ⟨q, 0, none⟩) (N + 1) cap) rfl).owns hown (fun k hk e => n1 (by simp only [Value.ownBlock, Option.some.injEq] at hk; omega))
    have f2 : Fr (WrB g r) w (w1.setCell ⟨g, 0, none⟩ (.slice (some ⟨q, 0, none⟩) (N + 1) cap)) := f1.trans (Fr.setCell (WrB g r) _ ⟨g, 0, none⟩ _ (.inl rfl)) (fun _ _ h => h)
    generalize w1.setCell ⟨g, 0, none⟩ (.slice (some ⟨q, 0, none⟩) (N + 1) cap) = W at b2 o2 f2 ⊢
    clear hown b1 f1 k0 k1 kf cc cf h0 h1 h2 own hb hr
    have cc := o2.cellAt N (by omega)
    rw [HG.out] at cc
    have cf := o2.frozenAt
    have k0 := wr_c0 b2
    have k1 := wr_c1 b2
    have kf := wr_f b2
    have eB := EB.out
    have HEND := Lib.hid (put_end H b2 o2 f2 q1 n1 HM.out HB.out hx)
    clear b2 o2 f2 q1
    go_region
    go_wp2
    go_end0
    rw [HO.out]
    rw [HE.out] at HEND
    exact ⟨rfl, HEND.out⟩
  · have hT : ((M : Int) % 8 == 0) = false := by rw [beq_eq_false_iff_ne]; omega
    have hNB : N = B + 1 := by omega
    obtain ⟨q, cap, hv, -, hq⟩ := own.form (by omega)
    have hrm : byt L = room L := by unfold room; rw [if_neg (by omega)]
    rw [hNB] at hv hb own hr
    simp only [Value.slice.injEq] at hv
    obtain ⟨rfl, -, rfl⟩ := hv
    rw [hrm] at own
    have q1 : r = some q ∨ w.heap.size ≤ q := .inl hr.symm
    have n1 : ¬ q = g := fun e => H.out.apart (by rw [← hr, e]; rfl)
    have n2 : ¬ g = q := fun e => n1 e.symm
    have b2 := hb
    have o2 := own
    have f2 : Fr (WrB g r) w w := Fr.refl _ _
    clear h0 hN hA hB hM hN7 hrg hrl hlo h eA eB hA8 hz ho hb own hr hNB hrm hq h1 h2 hL
    go_enter Try.func85, Try.ntmps85
    have h0 := wr_c0 b2
    have h1 := wr_c1 b2
    go_wp2_with fail
    have cc := o2.cellAt B (by omega)
    rw [HG.out] at cc
    have cf := o2.frozenAt
    have k0 := wr_c0 b2
    have k1 := wr_c1 b2
    have kf := wr_f b2
    have eB := EB.out
    have HEND := Lib.hid (put_end H b2 o2 f2 q1 n1 HM.out HB.out hx)
    clear b2 o2 f2 q1
    go_region
    go_wp2
    go_end0
    rw [HO.out]
    rw [HE.out] at HEND
    exact ⟨rfl, HEND.out⟩
end Go.Proofs.Ytfibhgohenkfbaa
