/- The document's histograms: the values that a late one hid. -/
import Derived.Test.YthfcfmnaiopogaaGreatHrTake
namespace Go.Proofs.YthfcfmnaiopogaaGreat
open Go.RowKit

theorem info_int64 : (Tryz.prog.info? 2).map (fun i => (i.zero, i.size, i.bytes)) = some (some (.int .i64 0), 1, 8) := by kernel_rfl
theorem elZ : ElemOk Tryz.prog 42 2 (.int .i64 0) 1 8 := ⟨Tryz.underlying42, info_int64, rfl, by decide, by decide⟩
def zs (l : List Int) : List Value := l.map fun x => .int .i64 x
/-- a row of whole numbers that is being made, new to w -/
structure AccZ (w wr : World) (v : Value) (N : Nat) (L : List Int) : Prop where
  own : wr.ownsRow 0 2 1 v N (zs L)
  fresh : Fresh w v
  fr : Fr S0 w wr
theorem AccZ.len {w wr : World} {v : Value} {N : Nat} {L : List Int} (h : AccZ w wr v N L) : L.length = N := by
  have := h.own.1
  simpa [zs] using this
theorem AccZ.fr0 {w wr w2 : World} {v : Value} {N : Nat} {L : List Int} (h : AccZ w wr v N L) (f : Fr S0 wr w2) : AccZ w w2 v N L := ⟨f.owns h.own fun _ _ h => h, h.fresh, h.fr.trans0 f⟩
theorem AccZ.one (w : World) (x : Int) : AccZ w (w.alloc (.cells #[.int .i64 x] 2)) (.slice (some ⟨w.heap.size, 0, none⟩) 1 1) 1 [x] :=
  ⟨own_one w _ _, fresh_made (Fr.refl S0 w), Fr.alloc _ _ _⟩
theorem AccZ.app {w wr w3 : World} {v : Value} {N : Nat} {L : List Int} {o : Obj} {g cap : Nat} {x : Int} (h : AccZ w wr v N L) (own : w3.ownsRow 0 2 1 (.slice (some ⟨g, 0, none⟩) (N + 1) cap) (N + 1) (zs L ++ #[Value.int .i64 x].toList))
    (hg : (wr.alloc o).grownBy w3 v.ownBlock) (hat : v.ownBlock = some g ∨ g = wr.heap.size + 1) : AccZ w w3 (.slice (some ⟨g, 0, none⟩) (N + 1) cap) (N + 1) (L ++ [x]) :=
  ⟨by rw [show zs (L ++ [x]) = zs L ++ #[Value.int .i64 x].toList by simp [zs]]; exact own, fresh_app h.fr h.fresh hat, (h.fr.trans0 (Fr.alloc S0 wr _)).append hg h.fresh⟩

def lates (v e : Int) : Nat → List Int
  | 0 => [v]
  | j + 1 => lates v e j ++ [v - (j + 1 : Nat) * e]
/-- how a document ends that tells these values -/
def LateEnds (w w' : World) (e : Ending) (v x : Int) : Prop := (4096 < Hm.more v x ∧ e = .returned (.tuple #[.slice none 0 0, .bool false]) ∧ Fr S0 w w') ∨ (Hm.more v x ≤ 4096 ∧ ∃ r, e = .returned (.tuple #[r, .bool true]) ∧ AccZ w w' r (Hm.more v x + 1) (lates v x (Hm.more v x)))
theorem more_lt {V E j : Nat} (hV : 0 < V) (hE : 0 < E) : j < Hm.more V E ↔ (j + 2) * E ≤ V := by
  have e : Hm.more (V : Int) (E : Int) = V / E - 1 := by
    unfold Hm.more
    rw [if_neg (by omega), ← Int.natCast_ediv]; omega
  rw [e, ← Nat.le_div_iff_mul_le hE]
  generalize V / E = Q
  omega

set_option maxRecDepth 100000 in
set_option maxHeartbeats 1000000 in
theorem hlate_any (v x : Int) (w : World) (hv : -9223372036854775808 ≤ v ∧ v ≤ 9223372036854775807) (hx : -9223372036854775808 ≤ x ∧ x ≤ 9223372036854775807) :
    Calls Tryz.prog 101 #[.int .i64 v, .int .i64 x] w fun e w' => LateEnds w w' e v x := by
  have HO := Lib.hid (AccZ.one w v)
  by_cases hx1 : x < 1
  · have hm : Hm.more v x = 0 := by unfold Hm.more; rw [if_pos (Or.inl hx1)]
    have HE : Hid (∀ e w', e = .returned (.tuple #[.slice (some ⟨w.heap.size, 0, none⟩) 1 1, .bool true]) → AccZ w w' (.slice (some ⟨w.heap.size, 0, none⟩) 1 1) 1 [v] → LateEnds w w' e v x) := Lib.hid fun e w' he ha => .inr ⟨by omega, _, he, by rw [hm]; exact ha⟩
    clear hm
    go_enter Tryz.func101, Tryz.ntmps101
    go_wp2_with fail
    go_ret2
    exact HE.out _ _ rfl HO.out
  by_cases hv0 : v ≤ 0
  · have hm : Hm.more v x = 0 := by unfold Hm.more; rw [if_pos (Or.inr hv0)]
    have HE : Hid (∀ e w', e = .returned (.tuple #[.slice (some ⟨w.heap.size, 0, none⟩) 1 1, .bool true]) → AccZ w w' (.slice (some ⟨w.heap.size, 0, none⟩) 1 1) 1 [v] → LateEnds w w' e v x) := Lib.hid fun e w' he ha => .inr ⟨by omega, _, he, by rw [hm]; exact ha⟩
    clear hm
    have hnp : decide (0 < v) = false := decide_eq_false (by omega)
    go_enter Tryz.func101, Tryz.ntmps101
    go_wp2_with fail
    go_loopw [0, 6] (fun y z wr => y = .int .i64 v ∧ z = .slice (some ⟨w.heap.size, 0, none⟩) 1 1 ∧ (w.alloc (.cells #[.int .i64 v] 2)) = wr) (fun _ _ _ => 0)
    case atStart => exact ⟨rfl, rfl, rfl⟩
    case round =>
      obtain ⟨rfl, rfl, rfl⟩ := hrel
      obtain ⟨d, hd⟩ : ∃ d, IntKind.i64.wrap (v - x) = d := ⟨_, rfl⟩
      by_cases hdx : x ≤ d
      · go_wp2_with fail
        go_ret2
        exact HE.out _ _ rfl HO.out
      · go_wp2_with fail
        go_ret2
        exact HE.out _ _ rfl HO.out
  obtain ⟨V, rfl⟩ : ∃ V : Nat, v = V := ⟨v.toNat, by omega⟩
  obtain ⟨E, rfl⟩ : ∃ E : Nat, x = E := ⟨x.toNat, by omega⟩
  have HML := Lib.hid (fun j => more_lt (V := V) (E := E) (j := j) (by omega) (by omega))
  have hE1 : 1 ≤ E := by omega
  have hV1 : 1 ≤ V := by omega
  have hVb : V ≤ 9223372036854775807 := by omega
  have hEb : E ≤ 9223372036854775807 := by omega
  clear hv hx hx1 hv0
  obtain ⟨N, eN⟩ : ∃ N, Hm.more (V : Int) (E : Int) = N := ⟨_, rfl⟩
  rw [eN] at HML
  have HN := Lib.hid eN
  have HNB := Lib.hid (fun e w' (h : e = .returned (.tuple #[.slice none 0 0, .bool false])) (f : Fr S0 w w') (hb : 4096 < N) => show LateEnds w w' e (V : Int) (E : Int) from .inl ⟨by rw [eN]; exact hb, h, f⟩)
  have HNY := Lib.hid (fun e w' r (h : e = .returned (.tuple #[r, .bool true])) (hb : N ≤ 4096) (ha : AccZ w w' r (N + 1) (lates V E N)) => show LateEnds w w' e (V : Int) (E : Int) from .inr ⟨by rw [eN]; exact hb, r, h, by rw [eN]; exact ha⟩)
  clear eN
  go_enter Tryz.func101, Tryz.ntmps101
  go_wp2_with fail
  go_loopw [0, 6] (fun y z wr => ∃ (j X : Nat) , y = .int .i64 (X : Int) ∧ j ≤ N ∧ j ≤ 4096 ∧ Hid (X + j * E = V) ∧ 1 ≤ X ∧ X ≤ V ∧ Hid (AccZ w wr z (j + 1) (lates V E j))) (fun y _ _ => (intOf y).toNat)
  case atStart => exact ⟨0, V, rfl, by omega, by omega, Lib.hid (by omega), hV1, by omega, HO⟩
  case round =>
    obtain ⟨j, X, rfl, hj, hj2, hX, hX1, hXV, ha⟩ := hrel
    obtain ⟨pv, cv, rfl⟩ := slFormN ha.out.own
    have hml := HML.out j
    have hXE := hX.out
    rw [Nat.add_mul] at hml
    obtain ⟨D, hD⟩ : ∃ D, (X : Int) - (E : Int) = D := ⟨_, rfl⟩
    have hDb : -9223372036854775808 ≤ D ∧ D ≤ 9223372036854775807 := by omega
    by_cases hlt : j < N
    · have h2 := hml.1 hlt
      obtain ⟨Y, hY⟩ : ∃ Y, X - E = Y := ⟨_, rfl⟩
      have eY : (X : Int) - (E : Int) = (Y : Int) := by omega
      have hYE : (E : Int) ≤ (Y : Int) := by omega
      have hX2 : Hid (Y + (j + 1) * E = V) := Lib.hid (by rw [Nat.add_mul]; omega)
      have hX0 : (0 : Int) < (X : Int) := by omega
      have hYX : Y < X := by omega
      have hY1 : 1 ≤ Y := by omega
      have hYV : Y ≤ V := by omega
      have HL : Hid (lates V E (j + 1) = lates V E j ++ [(Y : Int)]) := Lib.hid (by
        rw [lates]
        congr 2
        have := hX2.out
        rw [← this]
        push_cast
        omega)
      have HR : Hid (Room (j + 1 + 1)) := Lib.hid (Room.mk (by omega))
      clear hml hXE h2 hX hD hY HML
      by_cases hbig : 4097 < j + 2
      · have hN9 : 4096 < N := by omega
        go_wp2_with ((with_reducible show wpList _ _ _ (Oper.mk (some 27) _ _ _ _ _ :: _) _ _); refine app_one elZ (.tmp 24) (.tmp 26) rfl ha.out.own rfl rfl rfl rfl rfl one8 HR.out ?_; intro g1 cap1 w3 hown hgrow hat hlt3; have HA3 := Lib.hid (ha.out.app hown hgrow hat); clear hown hgrow hat hlt3)
        go_ret2
        exact HNB.out _ _ rfl HA3.out.fr hN9
      · go_wp2_with ((with_reducible show wpList _ _ _ (Oper.mk (some 27) _ _ _ _ _ :: _) _ _); refine app_one elZ (.tmp 24) (.tmp 26) rfl ha.out.own rfl rfl rfl rfl rfl one8 HR.out ?_; intro g1 cap1 w3 hown hgrow hat hlt3; have HA3 := Lib.hid (ha.out.app hown hgrow hat); clear hown hgrow hat hlt3)
        go_roundw
        case rel => exact ⟨j + 1, Y, by go_num, by omega, by omega, hX2, hY1, hYV, by rw [HL.out]; exact HA3⟩
        case measure => simp [intOf]; omega
    · obtain rfl : j = N := by omega
      have h2 : ¬ (j * E + 2 * E ≤ V) := fun h => hlt (hml.2 h)
      have hDE : ¬ (E : Int) ≤ D := by omega
      clear hml hXE h2 hX HML
      go_wp2_with fail
      go_ret2
      exact HNY.out _ _ _ rfl hj2 ha.out
end Go.Proofs.YthfcfmnaiopogaaGreat
