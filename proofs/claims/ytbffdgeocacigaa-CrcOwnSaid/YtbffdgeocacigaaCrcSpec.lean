/- What the functions of layer 2 promise to whoever calls them. -/
import Derived.Test.YtbffdgeocacigaaCrcSeal
namespace Go.Proofs.Ytbffdgeocacigaa
open Go.RowKit

/-- block b holds a table -/
def TabIs (w : World) (b : Nat) : Prop := ∀ i, i < 256 → w.cell? ⟨b, i, none⟩ = some (.int .u32 (TN 8 i : Nat))
theorem TabIs.fr {w w' : World} {b : Nat} (h : TabIs w b) (hf : Fr S0 w w') : TabIs w' b := fun i hi => hf.cell (h i hi) (fun h => h)

def NewPost (w : World) (e : Ending) (w' : World) : Prop := ∃ b, e = .returned (.pointer (some ⟨b, 0, none⟩)) ∧ Fr S0 w w' ∧ TabIs w' b
def U32Post (w : World) (e : Ending) (w' : World) (n : Nat) : Prop := e = .returned (.int .u32 (n : Int)) ∧ Fr S0 w w'

structure CrcCode : Prop where
  new_ : ∀ w, Calls Try.prog 9 #[] w fun e w' => NewPost w e w'
  sum_ : ∀ (b : Nat) (p : Option Addr) (d : Nat) (l : List Nat) (w : World), TabIs w b → SlI w .u8 p l → (∀ x ∈ l, x < 256) →
    Calls Try.prog 10 #[.pointer (some ⟨b, 0, none⟩), .slice p l.length d] w fun e w' => U32Post w e w' (sum l)
  more_ : ∀ (b c : Nat) (p : Option Addr) (d : Nat) (l : List Nat) (w : World), TabIs w b → c < 4294967296 → SlI w .u8 p l → (∀ x ∈ l, x < 256) →
    Calls Try.prog 12 #[.pointer (some ⟨b, 0, none⟩), .int .u32 c, .slice p l.length d] w fun e w' => U32Post w e w' (more c l)
  fits_ : ∀ (b : Nat) (p : Option Addr) (d : Nat) (l : List Nat) (w : World), TabIs w b → SlI w .u8 p l → (∀ x ∈ l, x < 256) → l.length ≤ d → d ≤ maxLen →
    Calls Try.prog 14 #[.pointer (some ⟨b, 0, none⟩), .slice p l.length d] w fun e w' => e = .returned (.bool (fitsB l)) ∧ Fr S0 w w'
  shift_ : ∀ (c : Nat) (n : Int) (w : World), c < 4294967296 → n ≤ 9223372036854775807 → -9223372036854775808 ≤ n →
    Calls Try.prog 18 #[.int .u32 c, .int .i64 n] w fun e w' => U32Post w e w' (shift c n.toNat)
  join_ : ∀ (a c : Nat) (n : Int) (w : World), a < 4294967296 → c < 4294967296 → n ≤ 9223372036854775807 → -9223372036854775808 ≤ n →
    Calls Try.prog 17 #[.int .u32 a, .int .u32 c, .int .i64 n] w fun e w' => U32Post w e w' (shift a n.toNat ^^^ c)
end Go.Proofs.Ytbffdgeocacigaa
