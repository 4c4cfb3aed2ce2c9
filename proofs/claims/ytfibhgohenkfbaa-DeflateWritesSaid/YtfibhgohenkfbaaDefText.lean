/- The texts that the laws look at. -/
import Derived.Test.YtfibhgohenkfbaaDefAlive
namespace Go.Proofs.Ytfibhgohenkfbaa
open Go.RowKit

/-- at most 300 bytes, or of few unlike ones -/
def txB (wide : Bool) (x : Nat) : Nat := if wide = true then x else x % 3
def txt (b : List Nat) (wide : Bool) : List Nat := (b.take 300).map (txB wide)
theorem txt_length (b : List Nat) (wide : Bool) : (txt b wide).length = min 300 b.length := by simp [txt]
theorem txt_256 (b : List Nat) (wide : Bool) (h : ∀ x ∈ b, x < 256) : ∀ x ∈ txt b wide, x < 256 := by
  intro x hx
  obtain ⟨y, hy, rfl⟩ := List.mem_map.1 hx
  have := h y (List.mem_of_mem_take hy)
  unfold txB
  split
  · exact this
  · omega
theorem txt_next (b : List Nat) (wide : Bool) (j : Nat) (hj : j < b.length) : (b.take (j + 1)).map (txB wide) = (b.take j).map (txB wide) ++ [txB wide b[j]] := by
  rw [List.take_succ_eq_append_getElem hj, List.map_append]; rfl

set_option maxRecDepth 100000 in
set_option maxHeartbeats 1000000 in
theorem text8_any (p : Option Addr) (d : Nat) (b : List Nat) (wide : Bool) (w : World) (hb : SlI w .u8 p b) (h8 : ∀ x ∈ b, x < 256) :
    Calls Try.prog 8 #[.slice p b.length d, .bool wide] w fun e w' => ∃ v, e = .returned v ∧ Fr S0 w w' ∧ RowNew w w' v (txt b wide) := by
  have HB := Lib.hid hb
  have H8 := Lib.hid h8
  have HR : Hid (∀ j : Nat, j < 300 → Room (j + 1)) := Lib.hid fun j h => Room.mk (by omega)
  have HX := Lib.hid (txt_next b wide)
  have HT : Hid (∀ j, j ≤ 300 → ¬ (j < b.length ∧ j < 300) → j ≤ b.length → (b.take j).map (txB wide) = txt b wide ∧ (txt b wide).length = j) := Lib.hid fun j h1 h2 h3 => by
    have e : b.take j = b.take 300 := by
      by_cases q : j = 300
      · rw [q]
      · rw [List.take_of_length_le (by omega), List.take_of_length_le (by omega)]
    exact ⟨by rw [e]; rfl, by rw [txt_length]; omega⟩
  obtain ⟨m, hm⟩ : ∃ m, b.length = m := ⟨_, rfl⟩
  have HM := Lib.hid hm
  rw [hm]
  clear hb h8 hm
  go_enter Try.func8, Try.ntmps8
  go_wp2_with fail
  go_loopw [5, 6] (fun v i wr => ∃ j : Nat, j ≤ m ∧ j ≤ 300 ∧ i = .int .i64 j ∧ Fr S0 w wr ∧ wr.ownsRow 0 5 1 v j (u8s ((b.take j).map (txB wide))) ∧ Fresh w v) (fun _ i _ => m - (intOf i).toNat)
  case atStart => exact ⟨0, by omega, by omega, rfl, Fr.refl _ _, World.ownsRow_nil _ _ _ _, fresh_nil _ _⟩
  case round =>
    obtain ⟨j, hj, hj3, rfl, hfr, own, hfv⟩ := hrel
    obtain ⟨pv, cv, rfl, -, -, -⟩ := slForm own
    have OWN := Lib.hid own
    have HFR := Lib.hid hfr
    have HFV := Lib.hid hfv
    clear own hfr hfv
    by_cases h1 : (j : Int) < (m : Int)
    · by_cases h2 : (j : Int) < 300
      · obtain ⟨g, o, hpe, hc⟩ := (HB.out.fr0 HFR.out).at j (by rw [HM.out]; omega)
        have HRJ := Lib.hid (HR.out j (by omega))
        have HXJ := Lib.hid (HX.out j (by rw [HM.out]; omega))
        have hx8 := H8.out _ (List.getElem_mem (show j < b.length by rw [HM.out]; omega))
        obtain ⟨x, hx⟩ : ∃ x, b[j]'(by rw [HM.out]; omega) = x := ⟨_, rfl⟩
        rw [hx] at hc HXJ hx8
        subst hpe
        clear hx
        cases wide with
        | true =>
          have HE : Hid (u8s ((b.take (j + 1)).map (txB true)) = u8s ((b.take j).map (txB true)) ++ [.int .u8 (x : Nat)]) := Lib.hid (by rw [HXJ.out, ← u8s_append]; rfl)
          go_wp2_with (first
            | ((with_reducible show wpList _ _ _ (Oper.mk (some 24) _ _ _ _ _ :: _) _ _); refine app_one el8 (.tmp 18) (.tmp 23) rfl OWN.out rfl rfl rfl rfl rfl one8 HRJ.out ?_; intro q1 c1 w1 own1 g1 at1 lt1; have F1 := Lib.hid ((HFR.out.trans0 (Fr.alloc S0 wr _)).append g1 HFV.out); have V1 := Lib.hid (fresh_app (n := j + 1) (c := c1) HFR.out HFV.out at1); have O1 := Lib.hid own1; clear own1 g1 at1 lt1)
            | fail)
          go_roundw
          case rel => exact ⟨j + 1, by omega, by omega, by go_num, F1.out, by rw [HE.out]; exact O1.out, V1.out⟩
          case measure => simp [intOf]; omega
        | false =>
          have HE : Hid (u8s ((b.take (j + 1)).map (txB false)) = u8s ((b.take j).map (txB false)) ++ [.int .u8 ((x : Int) % 3)]) := Lib.hid (by rw [HXJ.out, ← u8s_append]; rfl)
          go_wp2_with (first
            | ((with_reducible show wpList _ _ _ (Oper.mk (some 32) _ _ _ _ _ :: _) _ _); refine app_one el8 (.tmp 25) (.tmp 31) rfl OWN.out rfl rfl rfl rfl rfl one8 HRJ.out ?_; intro q1 c1 w1 own1 g1 at1 lt1; have F1 := Lib.hid ((HFR.out.trans0 (Fr.alloc S0 wr _)).append g1 HFV.out); have V1 := Lib.hid (fresh_app (n := j + 1) (c := c1) HFR.out HFV.out at1); have O1 := Lib.hid own1; clear own1 g1 at1 lt1)
            | fail)
          go_roundw
          case rel => exact ⟨j + 1, by omega, by omega, by go_num, F1.out, by rw [HE.out]; exact O1.out, V1.out⟩
          case measure => simp [intOf]; omega
      · obtain ⟨E1, E2⟩ := HT.out j hj3 (by rw [HM.out]; omega) (by rw [HM.out]; exact hj)
        have HE := Lib.hid E1
        have HE2 := Lib.hid E2
        clear E1 E2
        go_wp2_with fail
        go_ret
        exact ⟨_, rfl, HFR.out, by rw [HE2.out, ← HE.out]; exact OWN.out, HFV.out⟩
    · obtain ⟨E1, E2⟩ := HT.out j hj3 (by rw [HM.out]; omega) (by rw [HM.out]; exact hj)
      have HE := Lib.hid E1
      have HE2 := Lib.hid E2
      clear E1 E2
      go_wp2_with fail
      go_ret
      exact ⟨_, rfl, HFR.out, by rw [HE2.out, ← HE.out]; exact OWN.out, HFV.out⟩

/-- a row of bytes reads as a text -/
theorem cv8 {w : World} {q : Option Addr} {c N : Nat} {A : List Nat} (hA : A.length = N) (h : w.ownsRow 0 5 1 (.slice q N c) N (u8s A)) : (convert 22 9 (.slice q N c)).run Try.prog w = .ok (.string (strB A)) w := by
  subst hA; exact conv_own h
end Go.Proofs.Ytfibhgohenkfbaa
