/- The document's answers: which letter has how many bytes; which pattern is right; two lists that are the same. -/
import Derived.Test.YtgjiepbaagmmiaaPutSpec
namespace Go.Proofs.Ytgjiepbaagmmiaa
open Go.RowKit

def fixS : Option Nat → Int × Bool
  | none => (-1, false)
  | some k => if k < 7 then ((most k : Nat), k == 2 || k == 4 || k == 6) else (0, false)
def FixedIs (c : Nat) (w : World) : Prop := Calls Try.prog 21 #[.int .u8 c] w fun e w' => e = .returned (.tuple #[.int .i64 (fixS (fIdx c)).1, .bool (fixS (fIdx c)).2]) ∧ w = w'
set_option maxHeartbeats 400000 in
theorem fixed_0 (w : World) : FixedIs 98 w := by
  unfold FixedIs
  have E : Hid (fixS (fIdx 98) = fixS (some 0)) := Lib.hid (by rw [show fIdx 98 = some 0 from by decide])
  rw [E.out]
  go_enter Try.func21, Try.ntmps21
  go_wp2
  go_ret2
  exact ⟨rfl, rfl⟩
set_option maxHeartbeats 400000 in
theorem fixed_1 (w : World) : FixedIs 104 w := by
  unfold FixedIs
  have E : Hid (fixS (fIdx 104) = fixS (some 1)) := Lib.hid (by rw [show fIdx 104 = some 1 from by decide])
  rw [E.out]
  go_enter Try.func21, Try.ntmps21
  go_wp2
  go_ret2
  exact ⟨rfl, rfl⟩
set_option maxHeartbeats 400000 in
theorem fixed_2 (w : World) : FixedIs 72 w := by
  unfold FixedIs
  have E : Hid (fixS (fIdx 72) = fixS (some 2)) := Lib.hid (by rw [show fIdx 72 = some 2 from by decide])
  rw [E.out]
  go_enter Try.func21, Try.ntmps21
  go_wp2
  go_ret2
  exact ⟨rfl, rfl⟩
set_option maxHeartbeats 400000 in
theorem fixed_3 (w : World) : FixedIs 119 w := by
  unfold FixedIs
  have E : Hid (fixS (fIdx 119) = fixS (some 3)) := Lib.hid (by rw [show fIdx 119 = some 3 from by decide])
  rw [E.out]
  go_enter Try.func21, Try.ntmps21
  go_wp2
  go_ret2
  exact ⟨rfl, rfl⟩
set_option maxHeartbeats 400000 in
theorem fixed_4 (w : World) : FixedIs 87 w := by
  unfold FixedIs
  have E : Hid (fixS (fIdx 87) = fixS (some 4)) := Lib.hid (by rw [show fIdx 87 = some 4 from by decide])
  rw [E.out]
  go_enter Try.func21, Try.ntmps21
  go_wp2
  go_ret2
  exact ⟨rfl, rfl⟩
set_option maxHeartbeats 400000 in
theorem fixed_5 (w : World) : FixedIs 113 w := by
  unfold FixedIs
  have E : Hid (fixS (fIdx 113) = fixS (some 5)) := Lib.hid (by rw [show fIdx 113 = some 5 from by decide])
  rw [E.out]
  go_enter Try.func21, Try.ntmps21
  go_wp2
  go_ret2
  exact ⟨rfl, rfl⟩
set_option maxHeartbeats 400000 in
theorem fixed_6 (w : World) : FixedIs 81 w := by
  unfold FixedIs
  have E : Hid (fixS (fIdx 81) = fixS (some 6)) := Lib.hid (by rw [show fIdx 81 = some 6 from by decide])
  rw [E.out]
  go_enter Try.func21, Try.ntmps21
  go_wp2
  go_ret2
  exact ⟨rfl, rfl⟩
set_option maxHeartbeats 400000 in
theorem fixed_7 (w : World) : FixedIs 118 w := by
  unfold FixedIs
  have E : Hid (fixS (fIdx 118) = fixS (some 7)) := Lib.hid (by rw [show fIdx 118 = some 7 from by decide])
  rw [E.out]
  go_enter Try.func21, Try.ntmps21
  go_wp2
  go_ret2
  exact ⟨rfl, rfl⟩
set_option maxHeartbeats 400000 in
theorem fixed_8 (w : World) : FixedIs 122 w := by
  unfold FixedIs
  have E : Hid (fixS (fIdx 122) = fixS (some 8)) := Lib.hid (by rw [show fIdx 122 = some 8 from by decide])
  rw [E.out]
  go_enter Try.func21, Try.ntmps21
  go_wp2
  go_ret2
  exact ⟨rfl, rfl⟩
set_option maxHeartbeats 400000 in
theorem fixed_9 (w : World) : FixedIs 110 w := by
  unfold FixedIs
  have E : Hid (fixS (fIdx 110) = fixS (some 9)) := Lib.hid (by rw [show fIdx 110 = some 9 from by decide])
  rw [E.out]
  go_enter Try.func21, Try.ntmps21
  go_wp2
  go_ret2
  exact ⟨rfl, rfl⟩
set_option maxHeartbeats 400000 in
theorem fixed_none (c : Nat) (w : World) (h : fIdx c = none) : FixedIs c w := by
  unfold FixedIs
  rw [h]
  have hn := fIdx_none c h
  have t0 : ((c : Int) == 98) = false := by have := hn 0 (by decide); rw [show (fRow 0).1 = 98 from rfl] at this; rw [beq_eq_false_iff_ne]; omega
  have t1 : ((c : Int) == 104) = false := by have := hn 1 (by decide); rw [show (fRow 1).1 = 104 from rfl] at this; rw [beq_eq_false_iff_ne]; omega
  have t2 : ((c : Int) == 72) = false := by have := hn 2 (by decide); rw [show (fRow 2).1 = 72 from rfl] at this; rw [beq_eq_false_iff_ne]; omega
  have t3 : ((c : Int) == 119) = false := by have := hn 3 (by decide); rw [show (fRow 3).1 = 119 from rfl] at this; rw [beq_eq_false_iff_ne]; omega
  have t4 : ((c : Int) == 87) = false := by have := hn 4 (by decide); rw [show (fRow 4).1 = 87 from rfl] at this; rw [beq_eq_false_iff_ne]; omega
  have t5 : ((c : Int) == 113) = false := by have := hn 5 (by decide); rw [show (fRow 5).1 = 113 from rfl] at this; rw [beq_eq_false_iff_ne]; omega
  have t6 : ((c : Int) == 81) = false := by have := hn 6 (by decide); rw [show (fRow 6).1 = 81 from rfl] at this; rw [beq_eq_false_iff_ne]; omega
  have t7 : ((c : Int) == 118) = false := by have := hn 7 (by decide); rw [show (fRow 7).1 = 118 from rfl] at this; rw [beq_eq_false_iff_ne]; omega
  have t8 : ((c : Int) == 122) = false := by have := hn 8 (by decide); rw [show (fRow 8).1 = 122 from rfl] at this; rw [beq_eq_false_iff_ne]; omega
  have t9 : ((c : Int) == 110) = false := by have := hn 9 (by decide); rw [show (fRow 9).1 = 110 from rfl] at this; rw [beq_eq_false_iff_ne]; omega
  clear hn h
  go_enter Try.func21, Try.ntmps21
  go_wp2
  go_ret2
  exact ⟨rfl, rfl⟩
theorem rfixed_any (c : Nat) (w : World) : FixedIs c w := by
  cases h : fIdx c with
  | none => exact fixed_none c w h
  | some k =>
    obtain ⟨hk, hc⟩ := fIdx_some c k h
    subst hc
    exact ten (fun k => FixedIs (fRow k).1 w) k hk (fixed_0 w) (fixed_1 w) (fixed_2 w) (fixed_3 w) (fixed_4 w) (fixed_5 w) (fixed_6 w) (fixed_7 w) (fixed_8 w) (fixed_9 w)
end Go.Proofs.Ytgjiepbaagmmiaa
