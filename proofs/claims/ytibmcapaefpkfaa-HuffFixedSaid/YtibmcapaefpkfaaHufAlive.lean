/- The document's examples of layer 5. -/
import Derived.Test.YtibmcapaefpkfaaHufFind
namespace Go.Proofs.Ytibmcapaefpkfaa
open Go.RowKit

theorem lit8 (w : World) (C : Array Value) (l : List Nat) (hc : C.toList = l.map fun (x : Nat) => Value.int .u8 (x : Int)) (hl : l.length ≤ 1000) : SlI (w.alloc (.cells C 5)) .u8 (some ⟨w.heap.size, 0, none⟩) l :=
  SlI.new w C 5 (0, 0) .u8 l hc (by unfold maxLen; omega)
theorem ok_2133 : okl [2, 1, 3, 3] := by decide
theorem ful_2133 : ful [2, 1, 3, 3] := by decide
theorem no_111 : ¬ okl [1, 1, 1] := by decide
theorem no_12 : ¬ okl [1, 2] := by decide
theorem ok_01 : okl [0, 1] := by decide
theorem ful_01 : ¬ ful [0, 1] := by decide
theorem cods_2133 : cods [2, 1, 3, 3] = [2, 0, 6, 7] := by decide
theorem hit_2133 : hits [2, 1, 3, 3] ((bts [3]).drop 0) 2 := by decide

set_option maxRecDepth 100000 in
set_option maxHeartbeats 2000000 in
theorem alive_any (w : World) : Calls Try.prog 8 #[] w fun e w' => e = .returned (.bool true) ∧ Fr S0 w w' := by
  have hc1 := Lib.hid cods_2133
  go_enter Try.func8, Try.ntmps8
  go_wp2_with fail
  refine (make_ok (some ⟨w.heap.size, 0, none⟩) 4 [2, 1, 3, 3] _ (lit8 w _ _ rfl (by decide)) (fun h => by cases h) (by decide) (by decide) ok_2133).mono ?_
  rintro e w1 ⟨g, rfl, ⟨f1, s1⟩, -⟩
  have F1 := Lib.hid ((Fr.alloc S0 w (.cells #[.int .u8 2, .int .u8 1, .int .u8 3, .int .u8 3] 5)).trans0 f1)
  have HS1 := Lib.hid s1
  clear f1 s1
  go_wp2_with fail
  refine (make_no (some ⟨w1.heap.size, 0, none⟩) 3 [1, 1, 1] _ (lit8 w1 _ _ rfl (by decide)) (fun h => by cases h) (by decide) (by decide) no_111).mono ?_
  rintro e w2 ⟨rfl, f2⟩
  have F2 := Lib.hid ((Fr.alloc S0 w1 (.cells #[.int .u8 1, .int .u8 1, .int .u8 1] 5)).trans0 f2)
  clear f2
  go_wp2_with fail
  refine (make_no (some ⟨w2.heap.size, 0, none⟩) 2 [1, 2] _ (lit8 w2 _ _ rfl (by decide)) (fun h => by cases h) (by decide) (by decide) no_12).mono ?_
  rintro e w3 ⟨rfl, f3⟩
  have F3 := Lib.hid (F2.out.trans0 ((Fr.alloc S0 w2 (.cells #[.int .u8 1, .int .u8 2] 5)).trans0 f3))
  clear f3
  go_wp2_with fail
  refine (make_ok (some ⟨w3.heap.size, 0, none⟩) 2 [0, 1] _ (lit8 w3 _ _ rfl (by decide)) (fun h => by cases h) (by decide) (by decide) ok_01).mono ?_
  rintro e w4 ⟨g4, rfl, ⟨f4, s4⟩, -⟩
  have F4 := Lib.hid (F3.out.trans0 ((Fr.alloc S0 w3 (.cells #[.int .u8 0, .int .u8 1] 5)).trans0 f4))
  have HL4 := Lib.hid s4
  have HS4 := Lib.hid (HS1.out.fr0 F4.out)
  have hn1 : ((some ⟨g, 0, none⟩ : Option Addr) == none) = false := rfl
  have hn4 : ((some ⟨g4, 0, none⟩ : Option Addr) == none) = false := rfl
  clear f4 s4 F2 F3
  go_wp2_with fail
  refine (codes_any _ g _ _ HS4.out).mono ?_
  rintro e w5 ⟨v, rfl, f5, hv⟩
  have F5 := Lib.hid (F4.out.trans0 f5)
  have HS5 := Lib.hid (HS4.out.fr0 f5)
  have HL5 := Lib.hid (HL4.out.fr0 f5)
  rw [hc1.out] at hv
  obtain ⟨pc, cc, rfl, -, -, -⟩ := slForm hv.own
  have HV := Lib.hid (SlI.ofOwns hv.own)
  clear f5 hv F4 HS4 HL4
  go_wp2_with fail
  refine (new_any (some ⟨w5.heap.size, 0, none⟩) 1 [3] _ (lit8 w5 _ _ rfl (by decide)) (by decide) (fun h => by cases h) (by decide)).mono ?_
  rintro e w6 ⟨gr, rr, rfl, hr, f6, hg6, -⟩
  have F6 := Lib.hid ((Fr.alloc S0 w5 (.cells #[.int .u8 3] 5)).trans0 f6)
  have HG6 : Hid (w5.heap.size ≤ gr) := Lib.hid (by rw [size_alloc] at hg6; omega)
  have HR := Lib.hid hr
  clear hr f6 hg6
  have HR6 := Lib.hid (read_any w1.heap.size g [2, 1, 3, 3] gr rr [3] 0 w6 (HS5.out.fr0 F6.out) HR.out (Nat.le_trans F5.out.size HG6.out) (by decide))
  go_wp2_with fail
  refine HR6.out.mono ?_
  rintro e w7 ⟨n, hn, hto⟩
  have hz : e = .returned (.tuple #[.int .i64 (2 : Nat), .int .i64 0]) := by
    rcases hn with ⟨i, hi, he, -⟩ | ⟨hi, -⟩ | ⟨hi, -⟩
    · rw [he, hits_one (((bts_bit [3])).sub fun _ hx => List.mem_of_mem_drop hx) hi hit_2133]
    · exact absurd hit_2133 (hi 2)
    · exact absurd hit_2133 (hi 2)
  subst hz
  have f7 : Fr S0 w5 w7 := F6.out.trans hto.2 (fun k hk e => by have := HG6.out; omega)
  have F7 := Lib.hid f7
  have HS7 := Lib.hid (HS5.out.fr0 f7)
  have HL7 := Lib.hid (HL5.out.fr0 f7)
  have hv7 := HV.out.fr0 f7
  obtain ⟨b, o, hpe, c0⟩ := hv7.at 0 (by decide)
  obtain ⟨b1, o1, hpe1, c1⟩ := hv7.at 1 (by decide)
  obtain ⟨b2, o2, hpe2, c2⟩ := hv7.at 2 (by decide)
  obtain ⟨b3, o3, hpe3, c3⟩ := hv7.at 3 (by decide)
  subst hpe
  simp only [Option.some.injEq, Addr.mk.injEq, and_true] at hpe1 hpe2 hpe3
  obtain ⟨rfl, rfl⟩ := hpe1
  obtain ⟨rfl, rfl⟩ := hpe2
  obtain ⟨rfl, rfl⟩ := hpe3
  have C0 : w7.cell? ⟨b, o, none⟩ = some (.int .u32 2) := c0
  have C1 : w7.cell? ⟨b, o + 1, none⟩ = some (.int .u32 0) := c1
  have C2 : w7.cell? ⟨b, o + 2, none⟩ = some (.int .u32 6) := c2
  have C3 : w7.cell? ⟨b, o + 3, none⟩ = some (.int .u32 7) := c3
  clear f7 hv7 c0 c1 c2 c3 hn hto HR6 HR F6 HG6 HS5 HL5 HV
  obtain ⟨pl, cl, cb, cd, ob, oc, q1, -⟩ := HS7.out.ex
  obtain ⟨pl', cl', cb', cd', ob', oc', q2, -⟩ := HL7.out.ex
  have hfu := full_any g w7 q1 (by decide)
  rw [decide_eq_true ful_2133] at hfu
  have HFU := Lib.hid hfu
  clear q1 hfu
  have QL := Lib.hid q2
  clear q2
  go_wp2_with fail
  refine HFU.out.mono ?_
  rintro e w8 ⟨rfl, f8⟩
  have hfl := full_any g4 w8 (QL.out.fr f8 (fun h => h)) (by decide)
  rw [decide_eq_false ful_01] at hfl
  have HFL := Lib.hid hfl
  have F8 := Lib.hid f8
  clear hfl HFU f8
  go_wp2_with fail
  refine HFL.out.mono ?_
  rintro e w9 ⟨rfl, f9⟩
  have F9 := Lib.hid (F8.out.trans0 f9)
  have D0 := F9.out.cell C0 (fun h => h)
  have D1 := F9.out.cell C1 (fun h => h)
  have D2 := F9.out.cell C2 (fun h => h)
  have D3 := F9.out.cell C3 (fun h => h)
  clear C0 C1 C2 C3 f9 HFL
  go_wp2_with fail
  go_ret
  exact ⟨rfl, ((F1.out.trans0 F5.out).trans0 F7.out).trans0 F9.out⟩

theorem start (w : World) (R) (h : ∀ w1, Fr S0 w w1 → R (.returned (.bool true)) w1) : Calls Try.prog 8 #[] w R :=
  (alive_any w).mono fun e w1 he => by rw [he.1]; exact h w1 he.2
end Go.Proofs.Ytibmcapaefpkfaa
