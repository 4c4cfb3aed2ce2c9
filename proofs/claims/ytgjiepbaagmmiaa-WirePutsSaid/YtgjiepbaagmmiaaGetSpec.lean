/- What wire.Get reads: plain functions; and the ten ways to read a number. -/
import Derived.Test.YtgjiepbaagmmiaaReaders
import Derived.Test.YtgjiepbaagmmiaaPutSpec
namespace Go.Proofs.Ytgjiepbaagmmiaa
open Go.RowKit

/-- what the bytes begin with, by row k of the table -/
def dec (k : Nat) (l : List Nat) : Except Nat (Nat × Nat) := match k with
  | 0 => fDec 1 l | 1 => fDec 2 l | 2 => rmap (fun n => turn n 2) (fDec 2 l) | 3 => fDec 4 l | 4 => rmap (fun n => turn n 4) (fDec 4 l)
  | 5 => fDec 8 l | 6 => rmap (fun n => turn n 8) (fDec 8 l) | 7 => vDec 1 9 true l | 8 => rmap unzz (vDec 1 9 true l) | _ => rmap unzz (vDec 8 8 true l)
def getRows : List Nat → List Nat → Except Nat (List Nat × Nat)
  | [], _ => .ok ([], 0)
  | k :: ks, l => match dec k l with
    | .error x => .error x
    | .ok (n, u) => match getRows ks (l.drop u) with
      | .error x => .error x
      | .ok (ns, v) => .ok (n :: ns, u + v)
def getS (s l : List Nat) : Except Nat (List Nat × Nat) := match formsS s with
  | none => .error 22
  | some ks => getRows ks l
def GetRow (g at_ c : Nat) (p : Option Addr) (l : List Nat) (w : World) (k : Nat) : Prop :=
  Calls Try.prog (fRow k).2.2.2 #[.pointer (some ⟨g, 0, none⟩), .int .i64 (most k : Nat)] w fun e w' => RdPost w w' g p c l at_ e (dec k (l.drop at_))
theorem dec_0 (l : List Nat) : dec 0 l = fDec 1 l := rfl
theorem dec_1 (l : List Nat) : dec 1 l = fDec 2 l := rfl
theorem dec_2 (l : List Nat) : dec 2 l = rmap (fun n => turn n 2) (fDec 2 l) := rfl
theorem dec_3 (l : List Nat) : dec 3 l = fDec 4 l := rfl
theorem dec_4 (l : List Nat) : dec 4 l = rmap (fun n => turn n 4) (fDec 4 l) := rfl
theorem dec_5 (l : List Nat) : dec 5 l = fDec 8 l := rfl
theorem dec_6 (l : List Nat) : dec 6 l = rmap (fun n => turn n 8) (fDec 8 l) := rfl
theorem dec_7 (l : List Nat) : dec 7 l = vDec 1 9 true l := rfl
theorem dec_8 (l : List Nat) : dec 8 l = rmap unzz (vDec 1 9 true l) := rfl
theorem dec_9 (l : List Nat) : dec 9 l = rmap unzz (vDec 8 8 true l) := rfl
theorem fget_0 : (fRow 0).2.2.2 = 24 := rfl
theorem fget_1 : (fRow 1).2.2.2 = 24 := rfl
theorem fget_2 : (fRow 2).2.2.2 = 26 := rfl
theorem fget_3 : (fRow 3).2.2.2 = 24 := rfl
theorem fget_4 : (fRow 4).2.2.2 = 26 := rfl
theorem fget_5 : (fRow 5).2.2.2 = 24 := rfl
theorem fget_6 : (fRow 6).2.2.2 = 26 := rfl
theorem fget_7 : (fRow 7).2.2.2 = 28 := rfl
theorem fget_8 : (fRow 8).2.2.2 = 30 := rfl
theorem fget_9 : (fRow 9).2.2.2 = 30 := rfl
section
variable (g at_ c : Nat) (p : Option Addr) (l : List Nat) (w : World) (h : RdIs w g p c l at_)
include h
theorem get_0 : GetRow g at_ c p l w 0 := by
  unfold GetRow; rw [fget_0, most_0, dec_0]; exact rlow_any g at_ c 1 p l w h (by decide)
theorem get_1 : GetRow g at_ c p l w 1 := by
  unfold GetRow; rw [fget_1, most_1, dec_1]; exact rlow_any g at_ c 2 p l w h (by decide)
theorem get_2 : GetRow g at_ c p l w 2 := by
  unfold GetRow; rw [fget_2, most_2, dec_2]; exact rhigh_any g at_ c 2 p l w h (by decide)
theorem get_3 : GetRow g at_ c p l w 3 := by
  unfold GetRow; rw [fget_3, most_3, dec_3]; exact rlow_any g at_ c 4 p l w h (by decide)
theorem get_4 : GetRow g at_ c p l w 4 := by
  unfold GetRow; rw [fget_4, most_4, dec_4]; exact rhigh_any g at_ c 4 p l w h (by decide)
theorem get_5 : GetRow g at_ c p l w 5 := by
  unfold GetRow; rw [fget_5, most_5, dec_5]; exact rlow_any g at_ c 8 p l w h (by decide)
theorem get_6 : GetRow g at_ c p l w 6 := by
  unfold GetRow; rw [fget_6, most_6, dec_6]; exact rhigh_any g at_ c 8 p l w h (by decide)
theorem get_7 : GetRow g at_ c p l w 7 := by
  unfold GetRow; rw [fget_7, most_7, dec_7]; exact rfew_any g at_ c 10 p l w h (by decide)
theorem get_8 : GetRow g at_ c p l w 8 := by
  unfold GetRow; rw [fget_8, most_8, dec_8]; exact rsigned_any g at_ c 10 p l w h (by decide)
theorem get_9 : GetRow g at_ c p l w 9 := by
  unfold GetRow; rw [fget_9, most_9, dec_9]; exact rsigned_any g at_ c 9 p l w h (by decide)
theorem get_row (k : Nat) (hk : k < 10) : GetRow g at_ c p l w k :=
  ten _ k hk (get_0 g at_ c p l w h) (get_1 g at_ c p l w h) (get_2 g at_ c p l w h) (get_3 g at_ c p l w h) (get_4 g at_ c p l w h) (get_5 g at_ c p l w h) (get_6 g at_ c p l w h) (get_7 g at_ c p l w h) (get_8 g at_ c p l w h) (get_9 g at_ c p l w h)
end
end Go.Proofs.Ytgjiepbaagmmiaa
