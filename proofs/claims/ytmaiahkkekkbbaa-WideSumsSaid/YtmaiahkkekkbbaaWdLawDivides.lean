/- The law on quotients of wide numbers. -/
import Derived.Test.YtmaiahkkekkbbaaWdAlive
namespace Go.Proofs.Ytmaiahkkekkbbaa
open Go.RowKit

/-- a block that holds a wide number's words -/
def Blk (w : World) (g : Nat) (h l : Nat) : Prop := w.heap[g]? = some (.cells #[.int .u64 (h : Int), .int .u64 (l : Int)] 24 (0, 0))
theorem Blk.fr0 {w w' : World} {g h l : Nat} (b : Blk w g h l) (f : Fr S0 w w') : Blk w' g h l := f.row b fun h => h
theorem Blk.new (w : World) (h l : Nat) : Blk (w.alloc (.cells #[.int .u64 (h : Int), .int .u64 (l : Int)] 24)) w.heap.size h l := heap_alloc_new w _
theorem Blk.c {w : World} {g h l : Nat} (b : Blk w g h l) : w.cell? ⟨g, 0, none⟩ = some (.int .u64 (h : Int)) ∧ w.cell? ⟨g, 1, none⟩ = some (.int .u64 (l : Int)) :=
  ⟨(two_facts b).1, (two_facts b).2.1⟩
/-- and in what is made behind -/
theorem Blk.ca {w : World} {g h l : Nat} (b : Blk w g h l) (o : Obj) : (w.alloc o).cell? ⟨g, 0, none⟩ = some (.int .u64 (h : Int)) ∧ (w.alloc o).cell? ⟨g, 1, none⟩ = some (.int .u64 (l : Int)) :=
  (b.fr0 (Fr.alloc S0 w o)).c
theorem Blk.lt {w : World} {g h l : Nat} (b : Blk w g h l) : g < w.heap.size := (Array.getElem?_eq_some_iff.1 b).1
theorem szNum : (Try.prog.info? 24).map (·.size) = some 2 := by kernel_rfl

set_option maxRecDepth 100000 in
set_option maxHeartbeats 1000000 in
theorem law_divides_zero (h l : Nat) (w : World) :
    Calls Try.prog 4 #[.agg #[.int .u64 (h : Int), .int .u64 (l : Int)], .int .u64 0] w fun e w' => e = .returned (.bool true) ∧ Fr S0 w w' := by
  have hw := start
  have HD := Lib.hid (fun W => div_zero h l W)
  go_enter Try.func4, Try.ntmps4
  go_wp2_with fail
  refine hw _ _ ?_
  intro w1 f1
  clear hw
  obtain ⟨x0, x1⟩ := ((Blk.new w h l).fr0 f1).c
  have F1 : Hid (Fr S0 w w1) := Lib.hid ((Fr.alloc _ _ _).trans0 f1)
  clear f1
  go_wp2_with fail
  refine (HD.out _).mono ?_
  rintro e w2 ⟨rfl, f2⟩
  rw [nv_eq]
  go_wp2
  go_ret
  exact ⟨rfl, (F1.out.trans0 f2).trans0 (Fr.alloc _ _ _)⟩

/-- what is left and the quotient make the number again -/
theorem words_of {q r X : Nat} (h : q * 18446744073709551616 + r = X) (hr : r < 18446744073709551616) (hq : q < 18446744073709551616) : X / 18446744073709551616 % 18446744073709551616 = q ∧ X % 18446744073709551616 = r := by omega
theorem again {X d qh ql R : Nat} (hq : qh * 18446744073709551616 + ql = X / d) (hR : X % d = R) (hX : X < 340282366920938463463374607431768211456) :
    qh * d < 18446744073709551616 ∧ ql * d + qh * d * 18446744073709551616 + R = X := by
  have h1 := Nat.div_add_mod' X d
  rw [← hq, hR, Nat.add_mul, Nat.mul_right_comm] at h1
  generalize qh * d = A at h1 ⊢
  generalize ql * d = B at h1 ⊢
  omega

set_option maxRecDepth 100000 in
set_option maxHeartbeats 4000000 in
theorem law_divides (h l d : Nat) (w : World) (hd : 0 < d) (hh : h < 18446744073709551616) (hl : l < 18446744073709551616) (h64 : d < 18446744073709551616) :
    Calls Try.prog 4 #[.agg #[.int .u64 (h : Int), .int .u64 (l : Int)], .int .u64 (d : Int)] w fun e w' => e = .returned (.bool true) ∧ Fr S0 w w' := by
  have hw := start
  have d0 : ((d : Int) == 0) = false := by rw [beq_eq_false_iff_ne]; omega
  have hdw := div_words (h := h) (l := l) (d := d) rfl hd hl
  have hX : h * 18446744073709551616 + l < 340282366920938463463374607431768211456 := by omega
  have hqh : h / d < 18446744073709551616 := Nat.lt_of_le_of_lt (Nat.div_le_self _ _) hh
  have hR := Nat.mod_lt (h * 18446744073709551616 + l) hd
  have ag := again hdw.1 rfl hX
  have wo := words_of hdw.1 hdw.2.2 hqh
  have HD := Lib.hid (fun W => div_any h l d W hd hh hl h64)
  have HW := Lib.hid (fun W => rwide_any h l W hh hl)
  have HQ := Lib.hid (fun p c W k => rdiv_any p c (h * 18446744073709551616 + l) d W k hX hd h64)
  have HI := Lib.hid (fun p c W k => is_any p c (h / d) ((h % d * 18446744073709551616 + l) / d) ((h * 18446744073709551616 + l) / d) W k wo.1 wo.2)
  have M1 := Lib.hid (fun W => mul_any ((h % d * 18446744073709551616 + l) / d) d W hdw.2.2 h64)
  have M2 := Lib.hid (fun W => mul_any (h / d) d W hqh h64)
  have A1 := fun W => add_room ((h % d * 18446744073709551616 + l) / d * d) (h / d * d * 18446744073709551616) W (by omega)
  have A2 := fun W => add_room ((h % d * 18446744073709551616 + l) / d * d + h / d * d * 18446744073709551616) ((h * 18446744073709551616 + l) % d) W (by omega)
  rw [ag.2, show (h * 18446744073709551616 + l) / 18446744073709551616 = h by omega, show (h * 18446744073709551616 + l) % 18446744073709551616 = l by omega,
    show (h * 18446744073709551616 + l) % d / 18446744073709551616 = 0 by omega, show (h * 18446744073709551616 + l) % d % 18446744073709551616 = (h * 18446744073709551616 + l) % d by omega] at A2
  rw [show h / d * d * 18446744073709551616 / 18446744073709551616 = h / d * d by omega, show h / d * d * 18446744073709551616 % 18446744073709551616 = 0 by omega] at A1
  rw [show h / d * d / 18446744073709551616 = 0 by omega, show h / d * d % 18446744073709551616 = h / d * d by omega] at M2
  rw [hdw.2.1] at HD
  obtain ⟨R, hRe⟩ : ∃ R, (h * 18446744073709551616 + l) % d = R := ⟨_, rfl⟩
  obtain ⟨qh, hqe⟩ : ∃ q, h / d = q := ⟨_, rfl⟩
  obtain ⟨ql, hle⟩ : ∃ q, (h % d * 18446744073709551616 + l) / d = q := ⟨_, rfl⟩
  obtain ⟨X, hXe⟩ : ∃ X, h * 18446744073709551616 + l = X := ⟨_, rfl⟩
  rw [hXe] at hRe hR HQ HI HW HD A2
  rw [hRe] at hR HQ HD A2
  rw [hqe] at HD HI M2 A1 A2
  rw [hle] at HD HI M1 A1 A2
  obtain ⟨Y, hY⟩ : ∃ Y, ql * d = Y := ⟨_, rfl⟩
  obtain ⟨Z, hZ⟩ : ∃ Z, qh * d = Z := ⟨_, rfl⟩
  rw [hY] at M1 A1 A2
  rw [hZ] at M2 A1 A2
  obtain ⟨Y1, hY1⟩ : ∃ Y1, Y / 18446744073709551616 = Y1 := ⟨_, rfl⟩
  obtain ⟨Y0, hY0⟩ : ∃ Y0, Y % 18446744073709551616 = Y0 := ⟨_, rfl⟩
  obtain ⟨V1, hV1⟩ : ∃ V1, (Y + Z * 18446744073709551616) / 18446744073709551616 = V1 := ⟨_, rfl⟩
  obtain ⟨V0, hV0⟩ : ∃ V0, (Y + Z * 18446744073709551616) % 18446744073709551616 = V0 := ⟨_, rfl⟩
  rw [hY1, hY0] at M1 A1
  rw [hV1, hV0] at A1 A2
  have HA1 := Lib.hid A1
  have HA2 := Lib.hid A2
  have hge : decide (d ≤ R) = false := decide_eq_false (by omega)
  clear hdw hX hqh ag wo A1 A2 hRe hqe hle hXe hY hZ hY1 hY0 hV1 hV0 hh hl h64 hd hR
  go_enter Try.func4, Try.ntmps4
  go_wp2_with fail
  refine hw _ _ ?_
  intro w1 f1
  clear hw
  have BX := Lib.hid ((Blk.new w h l).fr0 f1)
  have F1 : Hid (Fr S0 w w1) := Lib.hid ((Fr.alloc _ _ _).trans0 f1)
  clear f1
  obtain ⟨gx, hgx⟩ : ∃ g, w.heap.size = g := ⟨_, rfl⟩
  rw [hgx] at BX ⊢
  clear hgx
  obtain ⟨x0, x1⟩ := BX.out.c
  go_wp2_with fail
  refine (HD.out _).mono ?_
  rintro e w2 ⟨rfl, f2⟩
  rw [nv_eq]
  have F2 : Hid (Fr S0 w1 w2) := Lib.hid f2
  have hxa := fun o => (BX.out.fr0 f2).ca o
  clear f2 x0 x1
  go_wp2_with fail
  have BQ := Lib.hid (Blk.new w2 qh ql)
  have BX2 := Lib.hid ((BX.out.fr0 F2.out).fr0 (Fr.alloc S0 w2 (.cells #[.int .u64 (qh : Int), .int .u64 (ql : Int)] 24)))
  have F3 : Hid (Fr S0 w (w2.alloc (.cells #[.int .u64 (qh : Int), .int .u64 (ql : Int)] 24))) := Lib.hid ((F1.out.trans0 F2.out).trans0 (Fr.alloc _ _ _))
  obtain ⟨gq, hgq⟩ : ∃ g, w2.heap.size = g := ⟨_, rfl⟩
  rw [hgq] at BQ ⊢
  generalize w2.alloc (.cells #[.int .u64 (qh : Int), .int .u64 (ql : Int)] 24) = W2 at BQ BX2 F3 ⊢
  clear hgq hxa BX F1 F2 HD
  refine (HW.out _).mono ?_
  rintro e w3 ⟨v3, rfl, p3, c3, rfl, k3, f3⟩
  go_wp2_with fail
  refine (HQ.out _ _ _ k3).mono ?_
  rintro e w4 ⟨v4, rfl, p4, c4, rfl, k4, f4⟩
  have F4 := Lib.hid (f3.trans0 f4)
  have K4 := Lib.hid k4
  clear f3 f4 k3 k4
  obtain ⟨q0, q1⟩ := (BQ.out.fr0 F4.out).c
  go_wp2_with fail
  refine (HI.out _ _ _ K4.out).mono ?_
  rintro e w5 ⟨rfl, f5⟩
  have F5 := Lib.hid (F4.out.trans0 f5)
  clear f5 F4 q0 q1
  obtain ⟨q0, q1⟩ := (BQ.out.fr0 F5.out).c
  go_wp2_with fail
  refine (M1.out _).mono ?_
  rintro e w6 ⟨rfl, f6⟩
  rw [nv_eq]
  have F6 := Lib.hid (F5.out.trans0 f6)
  clear f6 F5 q0 q1
  have hqa := fun o => (BQ.out.fr0 F6.out).ca o
  go_wp2_with fail
  have BL := Lib.hid (Blk.new w6 Y1 Y0)
  have F7 := Lib.hid (F6.out.trans0 (Fr.alloc S0 w6 (.cells #[.int .u64 (Y1 : Int), .int .u64 (Y0 : Int)] 24)))
  obtain ⟨gl, hgl⟩ : ∃ g, w6.heap.size = g := ⟨_, rfl⟩
  rw [hgl] at BL ⊢
  generalize w6.alloc (.cells #[.int .u64 (Y1 : Int), .int .u64 (Y0 : Int)] 24) = W6 at BL F7 ⊢
  clear hgl hqa F6
  refine (M2.out _).mono ?_
  rintro e w8 ⟨rfl, f8⟩
  rw [nv_eq]
  have BL8 := Lib.hid (BL.out.fr0 f8)
  have F8 := Lib.hid (F7.out.trans0 f8)
  clear f8 F7 BL
  have hla := fun o => BL8.out.ca o
  go_wp2_with fail
  have BH := Lib.hid (Blk.new w8 0 Z)
  have F9 := Lib.hid (F8.out.trans0 (Fr.alloc S0 w8 (.cells #[.int .u64 0, .int .u64 (Z : Int)] 24)))
  obtain ⟨gh, hgh⟩ : ∃ g, w8.heap.size = g := ⟨_, rfl⟩
  have BH' : Hid (Blk (w8.alloc (.cells #[.int .u64 0, .int .u64 (Z : Int)] 24)) gh 0 Z) := Lib.hid (by rw [← hgh]; exact BH.out)
  rw [hgh]
  generalize w8.alloc (.cells #[.int .u64 0, .int .u64 (Z : Int)] 24) = W8 at BH' F9 ⊢
  clear hgh hla F8 BH
  refine (HA1.out _).mono ?_
  rintro e w10 ⟨rfl, f10⟩
  rw [nv_eq]
  have BH10 := Lib.hid (BH'.out.fr0 f10)
  have F10 := Lib.hid (F9.out.trans0 f10)
  clear f10 F9 BH'
  go_wp2_with fail
  have BS := Lib.hid (Blk.new w10 V1 V0)
  have BH11 := Lib.hid (BH10.out.fr0 (Fr.alloc S0 w10 (.cells #[.int .u64 (V1 : Int), .int .u64 (V0 : Int)] 24)))
  have F11 := Lib.hid (F10.out.trans0 (Fr.alloc S0 w10 (.cells #[.int .u64 (V1 : Int), .int .u64 (V0 : Int)] 24)))
  have NE : Hid (gh ≠ w10.heap.size) := Lib.hid (by have := BH10.out.lt; omega)
  have NX : Hid (gx ≠ w10.heap.size) := Lib.hid (by have := ((BX2.out.fr0 F10.out)).lt; omega)
  have NG : Hid (w.heap.size ≤ w10.heap.size) := Lib.hid ((F3.out.trans0 F10.out).size)
  obtain ⟨gs, hgs⟩ : ∃ g, w10.heap.size = g := ⟨_, rfl⟩
  rw [hgs] at BS NE NX NG ⊢
  generalize w10.alloc (.cells #[.int .u64 (V1 : Int), .int .u64 (V0 : Int)] 24) = W10 at BS BH11 F11 ⊢
  clear hgs F10 BH10
  refine (HA2.out _).mono ?_
  rintro e w12 ⟨rfl, f12⟩
  rw [nv_eq]
  have BH12 := Lib.hid (BH11.out.fr0 f12)
  have BS12 := Lib.hid (BS.out.fr0 f12)
  have BX12 := Lib.hid (BX2.out.fr0 (F11.out.trans0 f12))
  have F12 := Lib.hid (F3.out.trans0 (F11.out.trans0 f12))
  clear f12 F11 BH11 BS F3
  have hst : ∀ x y : Value, Fr (· = gs) w12 ((w12.setCell ⟨gs, 0, none⟩ x).setCell ⟨gs, 1, none⟩ y) := fun x y =>
    (Fr.setCell (· = gs) w12 ⟨gs, 0, none⟩ x rfl).trans (Fr.setCell (· = gs) _ ⟨gs, 1, none⟩ y rfl) fun _ _ h => h
  have kh : ∀ x y : Value, ((w12.setCell ⟨gs, 0, none⟩ x).setCell ⟨gs, 1, none⟩ y).cell? ⟨gh, 0, none⟩ = some (.int .u64 0) := fun x y => (two_facts ((hst x y).row BH12.out NE.out)).1
  have kx0 : ∀ x y : Value, ((w12.setCell ⟨gs, 0, none⟩ x).setCell ⟨gs, 1, none⟩ y).cell? ⟨gx, 0, none⟩ = some (.int .u64 (h : Int)) := fun x y => (two_facts ((hst x y).row BX12.out NX.out)).1
  have kx1 : ∀ x y : Value, ((w12.setCell ⟨gs, 0, none⟩ x).setCell ⟨gs, 1, none⟩ y).cell? ⟨gx, 1, none⟩ = some (.int .u64 (l : Int)) := fun x y => (two_facts ((hst x y).row BX12.out NX.out)).2.1
  have ks0 : ∀ x y : Value, ((w12.setCell ⟨gs, 0, none⟩ x).setCell ⟨gs, 1, none⟩ y).cell? ⟨gs, 0, none⟩ = some x := fun x y => (two_facts (two_set BS12.out x y)).1
  have ks1 : ∀ x y : Value, ((w12.setCell ⟨gs, 0, none⟩ x).setCell ⟨gs, 1, none⟩ y).cell? ⟨gs, 1, none⟩ = some y := fun x y => (two_facts (two_set BS12.out x y)).2.1
  obtain ⟨s0, s1, z0, z1⟩ := two_facts BS12.out
  clear hst
  go_wp2
  go_ret
  exact ⟨rfl, (F12.out.set _ _ NG.out).set _ _ NG.out⟩
end Go.Proofs.Ytmaiahkkekkbbaa
