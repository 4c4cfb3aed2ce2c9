/- Whether a set is full. -/
import Derived.Test.YtfibhgohenkfbaaHufSpec
namespace Go.Proofs.Ytfibhgohenkfbaa
open Go.RowKit

/-- an array or a struct that lies within a block is read whole -/
theorem run_loadVar_at {P : Program} (w : World) (g o : Nat) (ty : TypeId) (cs : Array Value) (d : TypeDesc) (hc : ∀ j, j < cs.size → w.cell? ⟨g, o + j, none⟩ = cs[j]?)
    (hu : P.underlying ty = some d) (hd : (match d with | .struct _ | .array _ _ => true | _ => false) = true) (hi : (P.info? ty).map (·.size) = some cs.size) :
    (loadVar ty ⟨g, o, none⟩).run P w = .ok (.agg cs) w := by
  have hl : (loadCells ⟨g, o, none⟩ cs.toList.length).run P w = .ok cs.toList.toArray w :=
    run_loadCells_list (P := P) w ⟨g, o, none⟩ cs.toList (fun j v hv => by
      have hadd : (⟨g, o, none⟩ : Addr).add j = ⟨g, o + j, none⟩ := by unfold Addr.add; split <;> simp_all
      have hj : j < cs.size := by have := (List.getElem?_eq_some_iff.1 hv).1; simpa using this
      rw [hadd, hc j hj]
      simpa using hv)
  cases hq : P.info? ty with
  | none => simp [hq] at hi
  | some i =>
    have hs : i.size = cs.size := by simpa [hq] using hi
    have hagg : (isAgg ty).run P w = .ok true w := by
      unfold isAgg
      rw [Sem.run_bind, run_underlying hu w]
      cases d <;> simp_all
    simp only [Array.length_toList, Array.toArray_toList] at hl
    simp [loadVar, Sem.run_bind, hagg, sizeOf, typeInfo, hq, hs, hl]
theorem wpList_load_at {P : Program} {ops : Array Oper} {rest : List Oper} {o : Oper} {a : Act} {w : World} {Q : Exit → Act → World → Prop} (hgd : o.guard = none) (ty : TypeId) (x : Operand) (ho : o.op = .load ty x)
    {g k : Nat} (hx : a.eval x = .pointer (some ⟨g, k, none⟩)) {cs : Array Value} (hc : ∀ j, j < cs.size → w.cell? ⟨g, k + j, none⟩ = cs[j]?) {d : TypeDesc}
    (hu : P.underlying ty = some d) (hd : (match d with | .struct _ | .array _ _ => true | _ => false) = true) (hi : (P.info? ty).map (·.size) = some cs.size)
    (h : wpList P ops Q rest (a.put o.dst (.agg cs)) w) : wpList P ops Q (o :: rest) a w := by
  refine wpList_plain hgd fun K hK => ?_
  unfold Oper.wp execOp
  simp only [ho, hx, Instr.loadAt, Instr.sureAddr, Sem.run_bind, Sem.run_pure, Result.andThen_ok, run_loadVar_at w g k ty cs d hc hu hd hi]
  exact hK _ _ h

/-- the cells of shelves, one shelf after the other -/
def shs (m f a : Nat → Nat) : Array Value := ((List.range 48).map fun j => if j % 3 = 0 then Value.int .i64 (m (j / 3) : Nat) else if j % 3 = 1 then .int .u32 (f (j / 3) : Nat) else .int .i64 (a (j / 3) : Nat)).toArray
theorem shs_size (m f a : Nat → Nat) : (shs m f a).size = 48 := by simp [shs]
theorem shs_get (m f a : Nat → Nat) (j : Nat) (h : j < 48) : (shs m f a)[j]? = some (if j % 3 = 0 then Value.int .i64 (m (j / 3) : Nat) else if j % 3 = 1 then .int .u32 (f (j / 3) : Nat) else .int .i64 (a (j / 3) : Nat)) := by
  simp [shs, h]
theorem shs_m (m f a : Nat → Nat) (n : Nat) (h : n < 16) : (shs m f a)[n * 3]? = some (.int .i64 (m n : Nat)) := by
  rw [shs_get _ _ _ _ (by omega), if_pos (by omega), show n * 3 / 3 = n by omega]
theorem shs_f (m f a : Nat → Nat) (n : Nat) (h : n < 16) : (shs m f a)[n * 3 + 1]? = some (.int .u32 (f n : Nat)) := by
  rw [shs_get _ _ _ _ (by omega), if_neg (by omega), if_pos (by omega), show (n * 3 + 1) / 3 = n by omega]
theorem shs_a (m f a : Nat → Nat) (n : Nat) (h : n < 16) : (shs m f a)[n * 3 + 2]? = some (.int .i64 (a n : Nat)) := by
  rw [shs_get _ _ _ _ (by omega), if_neg (by omega), if_neg (by omega), show (n * 3 + 2) / 3 = n by omega]
theorem shs_one (m f a : Nat → Nat) : ∀ v ∈ (shs m f a).toList, v.oneCell' = true := by
  intro v hv
  obtain ⟨j, hj, rfl⟩ := List.mem_iff_getElem.1 hv
  have hj' : j < 48 := by rw [Array.length_toList, shs_size] at hj; exact hj
  have := shs_get m f a j hj'
  rw [Array.getElem?_eq_getElem (by rw [shs_size]; exact hj')] at this
  have e := Option.some.inj this
  rw [Array.getElem_toList, e]
  split
  · rfl
  · split <;> rfl
theorem SetRow.cells {w : World} {g : Nat} {A B C : Value} {m f a : Nat → Nat} {e : Nat} (h : SetRow w g A B C m f a e) : ∀ j, j < (shs m f a).size → w.cell? ⟨g, 3 + j, none⟩ = (shs m f a)[j]? := by
  intro j hj
  rw [shs_size] at hj
  have h1 := h.cm (j / 3) (by omega)
  have h2 := h.cf (j / 3) (by omega)
  have h3 := h.ca (j / 3) (by omega)
  rw [shs_get _ _ _ _ hj]
  have hj3 : j % 3 = 0 ∨ j % 3 = 1 ∨ j % 3 = 2 := by omega
  rcases hj3 with e | e | e
  · rw [if_pos e, ← h1]; congr 2; omega
  · rw [if_neg (by omega), if_pos e, ← h2]; congr 2; omega
  · rw [if_neg (by omega), if_neg (by omega), ← h3]; congr 2; omega
theorem shelf_info : (Try.prog.info? 98).map (·.size) = some 3 := by kernel_rfl
theorem shelves_info : (Try.prog.info? 99).map (·.size) = some 48 := by kernel_rfl
theorem shs_cut (m f a : Nat → Nat) (n : Nat) (h : n < 16) : (shs m f a).extract (n * 3) (n * 3 + 3) = #[.int .i64 (m n : Nat), .int .u32 (f n : Nat), .int .i64 (a n : Nat)] := by
  apply Array.ext
  · rw [Array.size_extract, shs_size]
    show min (n * 3 + 3) 48 - n * 3 = 3
    omega
  · intro i h1 h2
    rw [Array.size_extract, shs_size] at h1
    have h3 : i = 0 ∨ i = 1 ∨ i = 2 := by omega
    rw [Array.getElem_extract]
    rcases h3 with rfl | rfl | rfl
    · have := shs_m m f a n h
      rw [Array.getElem?_eq_getElem (by rw [shs_size]; omega)] at this
      exact Option.some.inj this
    · have := shs_f m f a n h
      rw [Array.getElem?_eq_getElem (by rw [shs_size]; omega)] at this
      exact Option.some.inj this
    · have := shs_a m f a n h
      rw [Array.getElem?_eq_getElem (by rw [shs_size]; omega)] at this
      exact Option.some.inj this
theorem shs_index (m f a : Nat → Nat) (n : Nat) (h : n < 16) (w : World) : (Instr.index 99 (.agg (shs m f a)) (.int .i64 (n : Nat))).run Try.prog w = .ok (.agg #[.int .i64 (m n : Nat), .int .u32 (f n : Nat), .int .i64 (a n : Nat)]) w := by
  have hs : (sizeOf 98).run Try.prog w = .ok 3 w := by
    obtain ⟨i, hi, hz⟩ := Option.map_eq_some_iff.1 shelf_info
    simp [sizeOf, typeInfo, hi, hz]
  have hagg : (isAgg 98).run Try.prog w = .ok true w := by
    unfold isAgg
    rw [Sem.run_bind, run_underlying Try.underlying98 w]
    rfl
  have hn : (0 : Int) ≤ (n : Int) ∧ (n : Int) < (16 : Nat) := by omega
  simp only [Instr.index, asIntOf, Sem.run_bind, Sem.run_pure, Result.andThen_ok, run_underlying Try.underlying99 w]
  rw [if_pos hn]
  simp only [Sem.run_bind, hs, Result.andThen_ok, part, hagg, if_pos, Sem.run_pure, Int.toNat_natCast]
  rw [shs_cut m f a n h]

theorem shl_part (l : List Nat) (j : Nat) (h : j < 16) : prt l j + mny l j * 2 ^ (15 - j) = prt l (j + 1) := (prt_succ l j (by omega)).symm

theorem shl_wrap (M p j : Nat) (h : j ≤ 15) (hm : M ≤ 1000) (hp : p ≤ 65535000) : wrap64 ((p : Int) + wrap64 ((M : Int) * 2 ^ (15 - j))) = ((p + M * 2 ^ (15 - j) : Nat) : Int) := by
  have h1 : (2 : Nat) ^ (15 - j) ≤ 2 ^ 15 := Nat.pow_le_pow_right (by decide) (by omega)
  have h2 : M * 2 ^ (15 - j) ≤ 1000 * 32768 := Nat.mul_le_mul hm h1
  have e : (M : Int) * 2 ^ (15 - j) = ((M * 2 ^ (15 - j) : Nat) : Int) := by simp
  rw [e]
  generalize M * 2 ^ (15 - j) = K at h2 ⊢
  unfold wrap64
  omega
theorem ful_bool (l : List Nat) : ((top l 15 : Nat) : Int) = 32768 ↔ ful l := by unfold ful; omega

set_option maxRecDepth 100000 in
set_option maxHeartbeats 400000 in
theorem full_any (g : Nat) {A B C : Value} {l : List Nat} {e : Nat} (w : World) (h : SetRow w g A B C (mny l) (fst l) (ahd l) e) (hl : l.length ≤ 1000) :
    Calls Try.prog 77 #[.pointer (some ⟨g, 0, none⟩)] w fun r w' => r = .returned (.bool (decide (ful l))) ∧ Fr S0 w w' := by
  have HC := h.cells
  have HI : (Try.prog.info? 99).map (·.size) = some (shs (mny l) (fst l) (ahd l)).size := by rw [shs_size]; exact shelves_info
  have HX := Lib.hid (shs_index (mny l) (fst l) (ahd l))
  have HL := Lib.hid hl
  clear h hl
  go_enter Try.func77, Try.ntmps77
  go_wp2_with (first | (refine wpList_load_at rfl 99 (.tmp 8) rfl rfl HC Try.underlying99 rfl HI ?_) | fail)
  clear HC HI
  go_loopw [3, 10] (fun t i wr => ∃ (j p : Nat), j ≤ 16 ∧ i = .int .i64 j ∧ t = .int .i64 p ∧ p = prt l j ∧ Fr S0 w wr) (fun _ i _ => 16 - (intOf i).toNat)
  case atStart => exact ⟨0, 0, by omega, rfl, rfl, rfl, Fr.refl _ _⟩
  case round =>
    obtain ⟨j, p, hj, rfl, rfl, hp, hfr⟩ := hrel
    have HP := Lib.hid hp
    clear hp
    by_cases hjc : (j : Int) < 16
    · have hx := HX.out j (by omega)
      have HS := Lib.hid (shl_part l j (by omega))
      have hm := mny_le l j
      obtain ⟨M, hM⟩ : ∃ M, mny l j = M := ⟨_, rfl⟩
      rw [hM] at hx HS hm
      have hj15 : j ≤ 15 := by omega
      have HW := Lib.hid (shl_wrap M p j hj15 (Nat.le_trans hm HL.out) (by rw [HP.out]; exact Nat.le_trans (prt_le l j (by omega)) (top_small l 15 (by omega) HL.out)))
      obtain ⟨SH, hSH⟩ : ∃ X, shs (mny l) (fst l) (ahd l) = X := ⟨_, rfl⟩
      rw [hSH] at hx ⊢
      clear hM hSH HX
      go_wp2_with (first | ((with_reducible show wpList _ _ _ (Oper.mk none (Op.store _ _ _) _ _ _ _ :: _) _ _); refine store_new 98 (.tmp 5) (.tmp 13) rfl rfl rfl rfl shelf_info rfl rfl ?_) | fail)
      go_roundw
      case rel => exact ⟨j + 1, prt l (j + 1), by omega, by go_num, by rw [HW.out, ← HS.out, ← HP.out], rfl, hfr.trans0 (Fr.alloc _ _ _)⟩
      case measure => simp [intOf]; omega
    · obtain rfl : j = 16 := by omega
      have E : Hid (((p : Int) == 32768) = decide (ful l)) := Lib.hid (by
        have e : p = top l 15 := by rw [HP.out, prt_end]
        rw [e, Bool.eq_iff_iff, beq_iff_eq, decide_eq_true_iff]; exact ful_bool l)
      clear HP
      go_wp2
      go_ret
      exact ⟨by rw [← E.out]; rfl, hfr⟩
end Go.Proofs.Ytfibhgohenkfbaa
