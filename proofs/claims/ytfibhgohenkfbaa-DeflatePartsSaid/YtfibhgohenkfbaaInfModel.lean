/- Layer 6 as functions on bits: what a stream tells. -/
import Derived.Test.YtfibhgohenkfbaaHufMath
import Derived.Test.YtfibhgohenkfbaaBitRd
namespace Go.Proofs.Ytfibhgohenkfbaa

/-- what is read, and the bit behind it; or an error's number -/
inductive Res (α : Type) where
  | ok (a : α) (k : Nat)
  | no (e : Nat)
def Res.then {α β : Type} (r : Res α) (f : α → Nat → Res β) : Res β :=
  match r with
  | .ok a k => f a k
  | .no e => .no e
@[simp] theorem Res.then_ok {α β : Type} (a : α) (k : Nat) (f : α → Nat → Res β) : (Res.ok a k).then f = f a k := rfl
@[simp] theorem Res.then_no {α β : Type} (e : Nat) (f : α → Nat → Res β) : (Res.no e : Res α).then f = .no e := rfl

/-- a group of c bits -/
def rGrp (b : List Nat) (c k : Nat) : Res Nat := if k + c ≤ 8 * b.length then .ok (num (bitsAt b k c)) (k + c) else .no 20
/-- a symbol by lengths -/
def rSym (b l : List Nat) (k : Nat) : Res Nat :=
  match (List.range l.length).find? (fun i => decide (hits l ((bts b).drop k) i)) with
  | some i => .ok i (k + len l i)
  | none => if ((bts b).drop k).length < mx l then .no 20 else .no 62
/-- unless all is well -/
def rIf (c : Bool) (e : Nat) (k : Nat) : Res Unit := if c = true then .ok () k else .no e

/-- the least length, its bits -/
def baseN (s : Nat) : Nat := if s = 285 then 258 else if s - 257 < 4 then s - 254 else 3 + (4 + (s - 257) % 4) * 2 ^ ((s - 257) / 4 - 1)
def baseC (s : Nat) : Nat := if s = 285 then 0 else if s - 257 < 4 then 0 else (s - 257) / 4 - 1
def farN (d : Nat) : Nat := if d < 2 then d + 1 else 1 + (2 + d % 2) * 2 ^ (d / 2 - 1)
def farC (d : Nat) : Nat := if d < 2 then 0 else d / 2 - 1

/-- n bytes again, that stand so far back -/
def again (far : Nat) : Nat → List Nat → List Nat
  | 0, T => T
  | n + 1, T => again far n (T ++ [T.getD (T.length - far) 0])

/-- the lengths' lengths of these symbols -/
def rShort (b : List Nat) : List Nat → List Nat → Nat → Res (List Nat)
  | [], l, k => .ok l k
  | s :: r, l, k => (rGrp b 3 k).then fun x k1 => rShort b r (l.set s x) k1
def order : List Nat := [16, 17, 18, 0, 8, 7, 9, 6, 10, 5, 11, 4, 12, 3, 13, 2, 14, 1, 15]
/-- a length, and how many times it comes (but one) -/
def rRun (b cl l : List Nat) (k : Nat) : Res (Nat × Nat) :=
  (rSym b cl k).then fun s k1 =>
    if s = 16 then (rIf (decide (l ≠ [])) 62 k1).then fun _ k2 => (rGrp b 2 k2).then fun n k3 => .ok (l.getLastD 0, 2 + n) k3
    else if s = 17 then (rGrp b 3 k1).then fun n k2 => .ok (0, 2 + n) k2
    else if s = 18 then (rGrp b 7 k1).then fun n k2 => .ok (0, 10 + n) k2
    else .ok (s, 0) k1
/-- so many lengths -/
def rLens (b cl : List Nat) (many : Nat) (l : List Nat) (k : Nat) : Res (List Nat) :=
  if _h : many ≤ l.length then .ok l k
  else match rRun b cl l k with
    | .no e => .no e
    | .ok xt k1 => if many < l.length + xt.2 + 1 then .no 62 else rLens b cl many (l ++ List.replicate (xt.2 + 1) xt.1) k1
termination_by many - l.length
decreasing_by simp only [List.length_append, List.length_replicate]; omega

/-- the code of lengths -/
def rCode (b : List Nat) (many k : Nat) : Res (List Nat) := (rShort b (order.take many) (List.replicate 19 0) k).then fun cl k4 => (rIf (decide (ful cl)) 62 k4).then fun _ k4 => .ok cl k4
/-- the codes that are described -/
def rCodes (b : List Nat) (k : Nat) : Res (List Nat × List Nat) :=
  (rGrp b 5 k).then fun n1 k1 => (rGrp b 5 k1).then fun n2 k2 => (rGrp b 4 k2).then fun n3 k3 =>
  (rIf (decide (257 + n1 ≤ 286 ∧ 1 + n2 ≤ 30)) 62 k3).then fun _ k3 =>
  (rCode b (4 + n3) k3).then fun cl k4 =>
  (rLens b cl (257 + n1 + (1 + n2)) [] k4).then fun l k5 =>
  (rIf (decide (l.getD 256 0 ≠ 0 ∧ okl (l.take (257 + n1)) ∧ okl (l.drop (257 + n1)))) 62 k5).then fun _ k5 =>
  .ok (l.take (257 + n1), l.drop (257 + n1)) k5

/-- what belongs to a length's symbol -/
def rBack (b : List Nat) (lim : Nat) (spn T : List Nat) (s k : Nat) : Res (List Nat) :=
  (rIf (decide (s ≤ 285)) 62 k).then fun _ k1 => (rGrp b (baseC s) k1).then fun n k2 => (rSym b spn k2).then fun d k3 =>
    (rIf (decide (d ≤ 29)) 62 k3).then fun _ k3 => (rGrp b (farC d) k3).then fun f k4 =>
    (rIf (decide (farN d + f ≤ T.length)) 63 k4).then fun _ k4 => (rIf (decide (T.length + (baseN s + n) ≤ lim)) 64 k4).then fun _ k4 =>
    .ok (again (farN d + f) (baseN s + n) T) k4
/-- a symbol and what belongs to it: whether the block ends, and what is told then -/
def rStep (b : List Nat) (lim : Nat) (lit spn T : List Nat) (k : Nat) : Res (Bool × List Nat) :=
  (rSym b lit k).then fun s k1 =>
    if s < 256 then (rIf (decide (T.length + 1 ≤ lim)) 64 k1).then fun _ k2 => .ok (false, T ++ [s]) k2
    else if s = 256 then .ok (true, T) k1
    else (rBack b lim spn T s k1).then fun T1 k2 => .ok (false, T1) k2
/-- symbols to the block's end -/
def rSyms (b : List Nat) (lim : Nat) (lit spn T : List Nat) (k : Nat) : Res (List Nat) :=
  match rStep b lim lit spn T k with
  | .no e => .no e
  | .ok (true, T1) k1 => .ok T1 k1
  | .ok (false, T1) k1 => if _h : k < k1 ∧ k1 ≤ 8 * b.length then rSyms b lim lit spn T1 k1 else .no 0
termination_by 8 * b.length + 1 - k
decreasing_by omega

/-- a stored block -/
def rStored (b : List Nat) (lim : Nat) (T : List Nat) (k : Nat) : Res (List Nat) :=
  (rGrp b 16 (upN k)).then fun n k1 => (rGrp b 16 k1).then fun m k2 =>
  (rIf (decide (n + m = 65535)) 61 k2).then fun _ k2 => (rIf (decide (T.length + n ≤ lim)) 64 k2).then fun _ k2 =>
  (rIf (decide (k2 + 8 * n ≤ 8 * b.length)) 20 k2).then fun _ k2 => .ok (T ++ (b.drop (k2 / 8)).take n) (k2 + 8 * n)
def fixLs' : List Nat := List.replicate 144 8 ++ (List.replicate 112 9 ++ (List.replicate 24 7 ++ List.replicate 8 8))
/-- what belongs to a block of this kind -/
def rKind (b : List Nat) (lim : Nat) (T : List Nat) (kind k : Nat) : Res (List Nat) :=
  if kind = 0 then rStored b lim T k
  else if kind = 1 then rSyms b lim fixLs' (List.replicate 32 5) T k
  else if kind = 2 then (rCodes b k).then fun c k1 => rSyms b lim c.1 c.2 T k1
  else .no 60
/-- a block: whether it is the last one -/
def rBlock (b : List Nat) (lim : Nat) (T : List Nat) (k : Nat) : Res (Bool × List Nat) :=
  (rGrp b 1 k).then fun last k1 => (rGrp b 2 k1).then fun kind k2 => (rKind b lim T kind k2).then fun T1 k3 => .ok (decide (last = 1), T1) k3
/-- blocks to the last one -/
def rBlocks (b : List Nat) (lim : Nat) (T : List Nat) (k : Nat) : Res (List Nat) :=
  match rBlock b lim T k with
  | .no e => .no e
  | .ok (true, T1) k1 => .ok T1 k1
  | .ok (false, T1) k1 => if _h : k < k1 ∧ k1 ≤ 8 * b.length then rBlocks b lim T1 k1 else .no 0
termination_by 8 * b.length + 1 - k
decreasing_by omega
/-- a stream -/
def infl (b : List Nat) (lim : Nat) : Res (List Nat) := rBlocks b lim [] 0
end Go.Proofs.Ytfibhgohenkfbaa
