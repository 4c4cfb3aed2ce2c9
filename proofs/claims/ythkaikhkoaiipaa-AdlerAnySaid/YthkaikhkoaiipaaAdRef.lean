/- The document's answers of layer 3: what each of them computes; what the functions of layer 3 promise. -/
import Derived.Test.YthkaikhkoaiipaaAdMath
import Derived.Test.YthkaikhkoaiipaaBytes
namespace Go.Proofs.Ythkaikhkoaiipaa
open Go.RowKit

def U32Post (w : World) (e : Ending) (w' : World) (n : Nat) : Prop := e = .returned (.int .u32 (n : Int)) ∧ Fr S0 w w'
structure AdCode : Prop where
  sum_ : ∀ (p : Option Addr) (d : Nat) (l : List Nat) (w : World), SlI w .u8 p l → (∀ x ∈ l, x < 256) → l.length ≤ d →
    Calls Try.prog 8 #[.slice p l.length d] w fun e w' => U32Post w e w' (adSum l)
  more_ : ∀ (s : Nat) (p : Option Addr) (d : Nat) (l : List Nat) (w : World), s < 4294967296 → SlI w .u8 p l → (∀ x ∈ l, x < 256) → l.length ≤ d →
    Calls Try.prog 10 #[.int .u32 s, .slice p l.length d] w fun e w' => U32Post w e w' (adMore s l)
  join_ : ∀ (s t : Nat) (n : Int) (w : World), s < 4294967296 → t < 4294967296 → n ≤ 9223372036854775807 → -9223372036854775808 ≤ n →
    Calls Try.prog 13 #[.int .u32 s, .int .u32 t, .int .i64 n] w fun e w' => U32Post w e w' (adJoin s t n.toNat)
  right_ : ∀ (s : Nat) (w : World), s < 4294967296 →
    Calls Try.prog 12 #[.int .u32 s] w fun e w' => e = .returned (.bool (rightB s)) ∧ Fr S0 w w'

set_option maxRecDepth 100000 in
set_option maxHeartbeats 400000 in
theorem rmore_any (s : Nat) (p : Option Addr) (d : Nat) (l : List Nat) (w : World) (hs : s < 4294967296) (hl : SlI w .u8 p l) (hb : ∀ x ∈ l, x < 256) :
    Calls Try.prog 11 #[.int .u32 s, .slice p l.length d] w fun e w' => e = .returned (.int .u32 (adMore s l : Nat)) ∧ w = w' := by
  have hlen := hl.1
  unfold maxLen at hlen
  have HB := Lib.hid hb
  clear hb
  have eA : (s : Int) % 65536 % 65521 = ((loA s : Nat) : Int) := by unfold loA; omega
  have eB : (s : Int) / 65536 % 65521 = ((hiA s : Nat) : Int) := by unfold hiA; omega
  have EA := Lib.hid eA
  have EB := Lib.hid eB
  clear eA eB
  go_enter Try.func11, Try.ntmps11
  go_wp2
  rw [EA.out, EB.out]
  go_loopw [5, 6, 7] (fun va vb i wr => ∃ (k a b : Nat), k ≤ l.length ∧ i = .int .i64 k ∧ va = .int .u32 a ∧ vb = .int .u32 b ∧ adF (loA s) (hiA s) (l.take k) = (a, b) ∧ w = wr) (fun _ _ i _ => l.length - (intOf i).toNat)
  case atStart => exact ⟨0, loA s, hiA s, by omega, rfl, rfl, rfl, rfl, rfl⟩
  case round =>
    obtain ⟨k, a, b, hk, rfl, rfl, rfl, hrel, rfl⟩ := hrel
    have hlt := adF_lt (l.take k) _ _ (loA_lt s) (hiA_lt s)
    rw [hrel] at hlt
    obtain ⟨ha, hb⟩ : a < 65521 ∧ b < 65521 := hlt
    by_cases h8 : (k : Int) < (l.length : Int)
    · have hkl : k < l.length := by omega
      obtain ⟨bl, ol, rfl, hcl⟩ := hl.at k hkl
      have hst := adF_step (loA s) (hiA s) l k hkl
      rw [hrel] at hst
      have hx8 := HB.out _ (List.getElem_mem hkl)
      obtain ⟨x, hx⟩ : ∃ x, l[k] = x := ⟨_, rfl⟩
      rw [hx] at hcl hst hx8
      have HS := Lib.hid hst
      clear hx hst hrel
      go_wp2
      go_roundw
      case rel => exact ⟨k + 1, (a + x) % 65521, ((a + x) % 65521 + b) % 65521, by omega, by go_num, by go_num, by go_num, HS.out, by trivial⟩
      case measure => simp [intOf]; omega
    · obtain rfl : k = l.length := by omega
      have hm : adMore s l = 65536 * b + a := by rw [List.take_length] at hrel; unfold adMore; rw [hrel]; rfl
      have HM := Lib.hid hm
      clear hrel hm
      go_wp2
      go_ret
      exact ⟨by rw [HM.out]; go_num, rfl⟩

set_option maxRecDepth 100000 in
set_option maxHeartbeats 400000 in
theorem rsum_any (p : Option Addr) (d : Nat) (l : List Nat) (w : World) (hl : SlI w .u8 p l) (hb : ∀ x ∈ l, x < 256) :
    Calls Try.prog 9 #[.slice p l.length d] w fun e w' => e = .returned (.int .u32 (adSum l : Nat)) ∧ w = w' := by
  have HM := Lib.hid (rmore_any 1 p d l w (by decide) hl hb)
  clear hl hb
  go_enter Try.func9, Try.ntmps9
  go_wp2_with (go_at_call 11; refine HM.out.mono ?_; rintro e w' ⟨rfl, rfl⟩)
  go_ret
  exact ⟨rfl, rfl⟩

theorem join_go (s t : Nat) (n : Int) (h0 : 0 ≤ n) : (IntKind.u64.wrap (IntKind.u64.wrap (65536 * (IntKind.u64.wrap ((s : Int) / 65536 % 65521 + (t : Int) / 65536 % 65521 + IntKind.u64.wrap (n % 65521 * (((s : Int) % 65536 + 65520) % 65521)))).tmod 65521) +
    ((s : Int) % 65536 % 65521 + (t : Int) % 65536 % 65521 + 65520) % 65521) % 4294967296) = ((adJoin s t n.toNat : Nat) : Int) := by
  have e1 : n % 65521 = ((n.toNat % 65521 : Nat) : Int) := by omega
  have e2 : ((s : Int) % 65536 + 65520) % 65521 = (((loA s + 65520) % 65521 : Nat) : Int) := by unfold loA; omega
  have hP : n.toNat % 65521 * ((loA s + 65520) % 65521) ≤ 65520 * 65520 := Nat.mul_le_mul (by omega) (by omega)
  have a1 : (s : Int) % 65536 % 65521 = ((loA s : Nat) : Int) := by unfold loA; omega
  have a2 : (s : Int) / 65536 % 65521 = ((hiA s : Nat) : Int) := by unfold hiA; omega
  have a3 : (t : Int) % 65536 % 65521 = ((loA t : Nat) : Int) := by unfold loA; omega
  have a4 : (t : Int) / 65536 % 65521 = ((hiA t : Nat) : Int) := by unfold hiA; omega
  have b1 := loA_lt s
  have b2 := hiA_lt s
  have b3 := loA_lt t
  have b4 := hiA_lt t
  rw [e1, e2, ← Int.natCast_mul, a1, a2, a3, a4]
  unfold adJoin
  generalize n.toNat % 65521 * ((loA s + 65520) % 65521) = P at hP ⊢
  generalize loA s = A1 at b1 ⊢
  generalize hiA s = A2 at b2 ⊢
  generalize loA t = A3 at b3 ⊢
  generalize hiA t = A4 at b4 ⊢
  clear a1 a2 a3 a4 e1 e2 h0
  have c1 : IntKind.u64.wrap ((P : Nat) : Int) = P := by rw [IntKind.wrap_u64]; omega
  have c2 : IntKind.u64.wrap ((A2 : Int) + (A4 : Int) + (P : Int)) = ((A2 + A4 + P : Nat) : Int) := by rw [IntKind.wrap_u64]; omega
  rw [c1, c2, Int.tmod_eq_emod_of_nonneg (by omega)]
  have c3 : ((A2 + A4 + P : Nat) : Int) % 65521 = (((A2 + A4 + P) % 65521 : Nat) : Int) := by omega
  have c4 := Nat.mod_lt (A2 + A4 + P) (show 0 < 65521 by decide)
  rw [c3]
  generalize (A2 + A4 + P) % 65521 = Q at c4 ⊢
  simp only [IntKind.wrap_u64]
  omega
theorem join_go0 (s t : Nat) (n : Int) (h0 : n < 0) : 65536 * (((s : Int) / 65536 + (t : Int) / 65536) % 65521) + ((s : Int) % 65536 % 65521 + (t : Int) % 65536 % 65521 + 65520) % 65521 = ((adJoin s t n.toNat : Nat) : Int) := by
  rw [show n.toNat = 0 by omega]
  unfold adJoin loA hiA
  rw [Nat.zero_mod, Nat.zero_mul]
  omega

set_option maxRecDepth 100000 in
set_option maxHeartbeats 400000 in
theorem rjoin_any (s t : Nat) (n : Int) (w : World) (hs : s < 4294967296) (ht : t < 4294967296) (hn : n ≤ 9223372036854775807) :
    Calls Try.prog 14 #[.int .u32 s, .int .u32 t, .int .i64 n] w fun e w' => e = .returned (.int .u32 (adJoin s t n.toNat : Nat)) ∧ w = w' := by
  by_cases h0 : 0 ≤ n
  · go_enter Try.func14, Try.ntmps14
    go_wp2
    go_ret
    exact ⟨congrArg (fun z => Ending.returned (Value.int IntKind.u32 z)) (join_go s t n h0), rfl⟩
  · have hn0 : n < 0 := by omega
    clear h0
    go_enter Try.func14, Try.ntmps14
    go_wp2
    go_ret
    exact ⟨congrArg (fun z => Ending.returned (Value.int IntKind.u32 z)) (join_go0 s t n hn0), rfl⟩
end Go.Proofs.Ythkaikhkoaiipaa
