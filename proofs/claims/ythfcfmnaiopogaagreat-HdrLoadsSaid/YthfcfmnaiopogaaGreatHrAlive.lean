/- The document's example of layer 18. -/
import Derived.Test.YthfcfmnaiopogaaGreatHrTk2
import Derived.Test.YthfcfmnaiopogaaGreatHrNew
namespace Go.Proofs.YthfcfmnaiopogaaGreat
open Go.RowKit Go.ChangeMaps

def exX : Hm := Hm.new 1 2000 3 false
def exX1 : Hm := exX.record 7 2
def exX2 : Hm := exX1.record 1500 1
def exX3 : Hm := exX2.record 2048 1
def exY : Hm := Hm.new 1 2000 3 true
def exY1 : Hm := exY.record 5000 1
theorem ex_c1 : exX.check 7 2 = 0 := by kernel_rfl
theorem ex_c2 : exX1.check 1500 1 = 0 := by kernel_rfl
theorem ex_c3 : exX2.check 2048 1 = 5 := by kernel_rfl
theorem ex_c4 : exY.check 5000 1 = 0 := by kernel_rfl
theorem ex_a1 : endV exX3 exX3.most 1 2 = 7 ∧ rkE 1 2 (ltot exX3.l) = 0 := ⟨by kernel_rfl, by kernel_rfl⟩
theorem ex_a2 : endV exX3 exX3.most 1 1 = 1500 ∧ rkE 1 1 (ltot exX3.l) = 0 := ⟨by kernel_rfl, by kernel_rfl⟩
theorem ex_a3 : endV exY1 exY1.most 1 1 = 5003 ∧ rkE 1 1 (ltot exY1.l) = 0 := ⟨by kernel_rfl, by kernel_rfl⟩
theorem ex_b : exY1.b = 3 := by kernel_rfl
theorem ex_r : exY1.reach = 8191 := by kernel_rfl
theorem ex_l1 : exX3.l.length ≤ 100000 := by rw [show exX3.l.length = 2 by kernel_rfl]; decide
theorem ex_l2 : exY1.l.length ≤ 100000 := by rw [show exY1.l.length = 1 by kernel_rfl]; decide
theorem box3a (w : World) (a b c : Value) (t : TypeId) : (w.alloc (.cells #[a, b, c] t)).cell? ⟨w.heap.size, 0, none⟩ = some a ∧ (w.alloc (.cells #[a, b, c] t)).cell? ⟨w.heap.size, 1, none⟩ = some b ∧ (w.alloc (.cells #[a, b, c] t)).cell? ⟨w.heap.size, 2, none⟩ = some c := by
  have hb0 := heap_alloc_new w (.cells #[a, b, c] t)
  exact ⟨by rw [World.cell?, hb0]; rfl, by rw [World.cell?, hb0]; rfl, by rw [World.cell?, hb0]; rfl⟩
theorem ex_new (gr : Bool) (W : World) : Calls Tryz.prog 48 #[.agg #[.int .i64 1, .int .i64 2000, .int .i64 3], .bool gr] W fun e w' => ∃ g hm, e = .returned (.tuple #[.pointer (some ⟨g, 0, none⟩), .int .i64 0]) ∧ HistIs w' g hm (Hm.new 1 2000 3 gr) ∧ W.heap.size ≤ g ∧ W.heap.size ≤ hm ∧ Fr S0 W w' :=
  xnew_yes 1 2000 3 gr W (by decide) (by decide) (by decide) (by decide) (by decide) (by decide)
theorem ex_rec {g h : Nat} {M M' : Hm} {W : World} (s : HistIs W g h M) (v n c : Nat) (hv : v < 9223372036854775808) (hn : n < 18446744073709551616) (hM : M' = M.record v n) (hc : M.check v n = c) :
    Calls Tryz.prog 38 #[.pointer (some ⟨g, 0, none⟩), .int .i64 (v : Nat), .int .u64 (n : Nat)] W fun e w' => e = .returned (.int .i64 (c : Nat)) ∧ HistIs w' g h M' ∧ Fr (fun k => k = g ∨ k = h) W w' := by
  have := xrecord_any g h M W s v n (by omega) (by omega) hn
  rwa [hc, ← hM] at this
theorem ex_at {g h : Nat} {M : Hm} {W : World} (s : HistIs W g h M) (a d c : Nat) (hl : M.l.length ≤ 100000) (hd : d < 18446744073709551616) (hc : endV M M.most a d = c ∧ rkE a d (ltot M.l) = 0) :
    Calls Tryz.prog 20 #[.pointer (some ⟨g, 0, none⟩), .int .u64 (a : Nat), .int .u64 (d : Nat)] W fun e w' => e = .returned (.tuple #[.int .i64 (c : Nat), .int .i64 0]) ∧ Fr S0 W w' := by
  have := xat_any g h M W s a d hd hl
  rwa [hc.1, hc.2] at this

set_option maxRecDepth 100000 in
set_option maxHeartbeats 1000000 in
theorem alive_any (w : World) : Calls Tryz.prog 11 #[] w fun e w' => e = .returned (.bool true) ∧ Fr S0 w w' := by
  have HN := Lib.hid ex_new
  have HBOX := Lib.hid (box3a w (.int .i64 1) (.int .i64 2000) (.int .i64 3) 30)
  go_enter Tryz.func11, Tryz.ntmps11
  go_wp2_with fail
  refine (HN.out _ _).mono ?_
  rintro e w1 ⟨gx, hx, rfl, s1, h1, h2, f1⟩
  have HX1 := Lib.hid (And.intro s1 (And.intro h1 (And.intro h2 f1)))
  have k0 := f1.cell HBOX.out.1 fun h => h
  have k1 := f1.cell HBOX.out.2.1 fun h => h
  have k2 := f1.cell HBOX.out.2.2 fun h => h
  clear s1 h1 h2 f1
  go_wp2_with fail
  refine (HN.out _ _).mono ?_
  rintro e w2 ⟨gy, hy, rfl, s2, h1, h2, f2⟩
  have HA : Hid ((gx < gy ∧ gx < hy) ∧ (hx < gy ∧ hx < hy) ∧ (w.heap.size ≤ gx ∧ w.heap.size ≤ hx)) := Lib.hid (by
    have a1 := HX1.out.1.lt
    have a2 := HX1.out.1.mp.lt
    have a3 := HX1.out.2.1
    have a4 := HX1.out.2.2.1
    rw [size_alloc] at a3 a4
    omega)
  have HS : Hid (HistIs w2 gx hx exX ∧ HistIs w2 gy hy exY ∧ Fr S0 w w2) := Lib.hid ⟨HX1.out.1.fr0 f2, s2, ((Fr.alloc S0 w _).trans0 HX1.out.2.2.2).trans0 f2⟩
  clear s2 h1 h2 f2 HX1 k0 k1 k2 HBOX
  have HR1 := Lib.hid (ex_rec HS.out.1 7 2 0 (by decide) (by decide) (M' := exX1) rfl ex_c1)
  go_wp2_with fail
  refine HR1.out.mono ?_
  rintro e w3 ⟨rfl, s3, f3⟩
  have HS3 : Hid (HistIs w3 gx hx exX1 ∧ HistIs w3 gy hy exY ∧ Fr S0 w w3) := Lib.hid ⟨s3, HS.out.2.1.fr f3 (fun e => by have := HA.out; omega) (fun e => by have := HA.out; omega), HS.out.2.2.trans f3 fun j hj e => by have := HA.out; omega⟩
  have HR2 := Lib.hid (ex_rec s3 1500 1 0 (by decide) (by decide) (M' := exX2) rfl ex_c2)
  clear s3 f3 HR1 HS
  go_wp2_with fail
  refine HR2.out.mono ?_
  rintro e w4 ⟨rfl, s4, f4⟩
  have HS4 : Hid (HistIs w4 gx hx exX2 ∧ HistIs w4 gy hy exY ∧ Fr S0 w w4) := Lib.hid ⟨s4, HS3.out.2.1.fr f4 (fun e => by have := HA.out; omega) (fun e => by have := HA.out; omega), HS3.out.2.2.trans f4 fun j hj e => by have := HA.out; omega⟩
  have HR3 := Lib.hid (ex_rec s4 2048 1 5 (by decide) (by decide) (M' := exX3) rfl ex_c3)
  clear s4 f4 HR2 HS3
  go_wp2_with fail
  refine HR3.out.mono ?_
  rintro e w5 ⟨rfl, s5, f5⟩
  have HS5 : Hid (HistIs w5 gx hx exX3 ∧ HistIs w5 gy hy exY ∧ Fr S0 w w5) := Lib.hid ⟨s5, HS4.out.2.1.fr f5 (fun e => by have := HA.out; omega) (fun e => by have := HA.out; omega), HS4.out.2.2.trans f5 fun j hj e => by have := HA.out; omega⟩
  have HR4 := Lib.hid (ex_rec HS5.out.2.1 5000 1 0 (by decide) (by decide) (M' := exY1) rfl ex_c4)
  clear s5 f5 HR3 HS4
  go_wp2_with fail
  refine HR4.out.mono ?_
  rintro e w6 ⟨rfl, s6, f6⟩
  have HS6 : Hid (HistIs w6 gx hx exX3 ∧ HistIs w6 gy hy exY1 ∧ Fr S0 w w6) := Lib.hid ⟨HS5.out.1.fr f6 (fun e => by have := HA.out; omega) (fun e => by have := HA.out; omega), s6, HS5.out.2.2.trans f6 fun j hj e => by have := HA.out; omega⟩
  have HT1 := Lib.hid (ex_at HS6.out.1 1 2 7 ex_l1 (by decide) ex_a1)
  clear s6 f6 HR4 HS5
  go_wp2_with fail
  refine HT1.out.mono ?_
  rintro e w7 ⟨rfl, f7⟩
  have F7 := Lib.hid f7
  have HT2 := Lib.hid (ex_at (HS6.out.1.fr0 f7) 1 1 1500 ex_l1 (by decide) ex_a2)
  clear f7 HT1
  go_wp2_with fail
  refine HT2.out.mono ?_
  rintro e w8 ⟨rfl, f8⟩
  have F8 := Lib.hid (F7.out.trans0 f8)
  have HT3 := Lib.hid (ex_at (HS6.out.2.1.fr0 F8.out) 1 1 5003 ex_l2 (by decide) ex_a3)
  clear f8 HT2 F7
  go_wp2_with fail
  refine HT3.out.mono ?_
  rintro e w9 ⟨rfl, f9⟩
  have F9 := Lib.hid (F8.out.trans0 f9)
  have HB : Hid (∀ W, Fr S0 w9 W → Calls Tryz.prog 36 #[.pointer (some ⟨gy, 0, none⟩)] W fun e w' => e = .returned (.int .i64 3) ∧ Fr S0 W w') := Lib.hid fun W f => by
    have := xbuckets_any gy hy exY1 W (HS6.out.2.1.fr0 (F9.out.trans0 f))
    rwa [ex_b] at this
  have HRE : Hid (∀ W, Fr S0 w9 W → Calls Tryz.prog 52 #[.pointer (some ⟨gy, 0, none⟩)] W fun e w' => e = .returned (.int .i64 8191) ∧ Fr S0 W w') := Lib.hid fun W f => by
    have := xreach_any gy hy exY1 W (HS6.out.2.1.fr0 (F9.out.trans0 f))
    rwa [ex_r] at this
  clear f9 HT3 F8
  go_wp2_with fail
  refine (HB.out _ (Fr.refl _ _)).mono ?_
  rintro e w10 ⟨rfl, f10⟩
  have FA := Lib.hid f10
  clear f10
  go_wp2_with fail
  refine (HRE.out _ FA.out).mono ?_
  rintro e w11 ⟨rfl, f11⟩
  have FB := Lib.hid (FA.out.trans0 f11)
  clear f11
  go_wp2_with fail
  go_ret
  exact ⟨rfl, (HS6.out.2.2.trans0 F9.out).trans0 FB.out⟩
end Go.Proofs.YthfcfmnaiopogaaGreat
