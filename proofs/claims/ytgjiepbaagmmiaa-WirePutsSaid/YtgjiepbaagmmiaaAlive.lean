/- The document's examples: 'alive' returns true. -/
import Derived.Test.YtgjiepbaagmmiaaGet
import Derived.Laws.BytesArg
namespace Go.Proofs.Ytgjiepbaagmmiaa
open Go.RowKit

/-- bytes as a text -/
def strB (bs : List Nat) : ByteArray := strOfNums (bs.map fun (x : Nat) => (x : Int))
theorem conv_own {w : World} {v : Value} {bs : List Nat} (h : w.ownsRow 0 5 1 v bs.length (u8s bs)) : (convert 24 9 v).run Try.prog w = .ok (.string (strB bs)) w := by
  rcases h.2 with ⟨rfl, h0⟩ | ⟨g, cap, cur, rfl, _⟩
  · have : bs = [] := List.eq_nil_of_length_eq_zero h0
    subst this
    exact run_convert_bytes_nil w 24 5 Try.underlying24 Try.underlying5 0 0 9 Try.underlying9
  · have hs := SlI.ofOwns h
    refine run_convert_bytes_arg w 24 5 Try.underlying24 Try.underlying5 g 0 bs.length cap _ (by simp) ?_ 9 Try.underlying9
    intro i hi
    obtain ⟨b, off, hp, hc⟩ := hs.at i hi
    simp only [Option.some.injEq, Addr.mk.injEq] at hp
    obtain ⟨rfl, rfl, -⟩ := hp
    rw [hc]
    simp [List.getD, hi]
theorem SlI.ofBlock {w : World} {g : Nat} {t : TypeId} {fr : Nat × Nat} {k : IntKind} {l : List Nat} {cs : Array Value} (hb : w.heap[g]? = some (.cells cs t fr)) (hc : cs.toList = l.map fun (x : Nat) => Value.int k (x : Int)) (hl : l.length ≤ maxLen) :
    SlI w k (some ⟨g, 0, none⟩) l := by
  refine ⟨hl, fun _ => ⟨g, 0, rfl, fun i hi => ?_⟩⟩
  rw [cell_of_row w g (0 + i) cs t fr hb, ← Array.getElem?_toList, hc]
  simp [hi]

set_option maxRecDepth 100000 in
set_option maxHeartbeats 4000000 in
theorem alive_any (w : World) : Calls Try.prog 8 #[] w fun e w' => e = .returned (.bool true) ∧ Fr S0 w w' := by
  have e1 : putS (pat ⟨#[98, 72]⟩) [1, 2] = .ok [1, 0, 2] := by kernel_rfl
  have e2 : putS (pat ⟨#[118]⟩) [300] = .ok [172, 2] := by kernel_rfl
  have e3 : putS (pat ⟨#[122]⟩) [18446744073709551615] = .ok [1] := by kernel_rfl
  have e4 : getS (pat ⟨#[118]⟩) [128, 0] = .error 21 := by kernel_rfl
  have e5 : getS (pat ⟨#[110]⟩) [255, 255, 255, 255, 255, 255, 255, 255, 255] = .ok ([9223372036854775808], 9) := by kernel_rfl
  have E1 := Lib.hid e1
  have E2 := Lib.hid e2
  have E3 := Lib.hid e3
  have E4 := Lib.hid e4
  have E5 := Lib.hid e5
  clear e1 e2 e3 e4 e5
  go_enter Try.func8, Try.ntmps8
  go_wp2_with fail
  refine (put_any ⟨#[98, 72]⟩ (some ⟨w.heap.size, 0, none⟩) 2 [1, 2] _ (by decide) (SlI.ofBlock (heap_alloc_new w _) rfl (by decide)) (by decide)).mono ?_
  rintro e w1 ⟨f1, hr⟩
  rw [E1.out] at hr
  obtain ⟨v1, rfl, o1, -⟩ := hr
  go_wp2_with fail
  refine (put_any ⟨#[118]⟩ (some ⟨w1.heap.size, 0, none⟩) 1 [300] _ (by decide) (SlI.ofBlock (heap_alloc_new w1 _) rfl (by decide)) (by decide)).mono ?_
  rintro e w2 ⟨f2, hr⟩
  rw [E2.out] at hr
  obtain ⟨v2, rfl, o2, -⟩ := hr
  go_wp2_with fail
  refine (put_any ⟨#[122]⟩ (some ⟨w2.heap.size, 0, none⟩) 1 [18446744073709551615] _ (by decide) (SlI.ofBlock (heap_alloc_new w2 _) rfl (by decide)) (by decide)).mono ?_
  rintro e w3 ⟨f3, hr⟩
  rw [E3.out] at hr
  obtain ⟨v3, rfl, o3, -⟩ := hr
  go_wp2_with fail
  refine (get_any ⟨#[118]⟩ (some ⟨w3.heap.size, 0, none⟩) 2 [128, 0] _ (by decide) (SlI.ofBlock (heap_alloc_new w3 _) rfl (by decide)) (by decide)).mono ?_
  rintro e w4 ⟨f4, hr⟩
  rw [E4.out] at hr
  subst hr
  go_wp2_with fail
  refine (get_any ⟨#[110]⟩ (some ⟨w4.heap.size, 0, none⟩) 9 [255, 255, 255, 255, 255, 255, 255, 255, 255] _ (by decide) (SlI.ofBlock (heap_alloc_new w4 _) rfl (by decide)) (by decide)).mono ?_
  rintro e w5 ⟨f5, hr⟩
  rw [E5.out] at hr
  obtain ⟨v5, rfl, o5, -, -⟩ := hr
  have g4 : Fr S0 w3 w5 := ((Fr.alloc S0 w3 _).trans0 f4).trans0 ((Fr.alloc S0 w4 _).trans0 f5)
  have g2 : Fr S0 w2 w5 := ((Fr.alloc S0 w2 _).trans0 f3).trans0 g4
  have g1 : Fr S0 w1 w5 := ((Fr.alloc S0 w1 _).trans0 f2).trans0 g2
  have c1 := conv_own (g1.owns o1 (fun _ _ h => h))
  have c2 := conv_own (g2.owns o2 (fun _ _ h => h))
  have c3 := conv_own (g4.owns o3 (fun _ _ h => h))
  obtain ⟨g, cap, rfl, -, -⟩ := o5.form (by decide)
  have c5 := o5.cellAt 0 (by decide)
  rw [show strB [1, 0, 2] = ⟨#[1, 0, 2]⟩ from rfl] at c1
  rw [show strB [172, 2] = ⟨#[172, 2]⟩ from rfl] at c2
  rw [show strB [1] = ⟨#[1]⟩ from rfl] at c3
  rw [show (u64s [9223372036854775808])[0]? = some (.int .u64 9223372036854775808) from rfl] at c5
  have F : Hid (Fr S0 w w5) := Lib.hid (((Fr.alloc S0 w _).trans0 f1).trans0 g1)
  clear o1 o2 o3 o5 f1 f2 f3 f4 f5 g1 g2 g4 E1 E2 E3 E4 E5
  go_wp2
  go_ret
  exact ⟨rfl, F.out⟩
end Go.Proofs.Ytgjiepbaagmmiaa
