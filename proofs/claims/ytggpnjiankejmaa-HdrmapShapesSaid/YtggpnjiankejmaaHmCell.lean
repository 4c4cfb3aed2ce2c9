/- A cell: where it begins and its size; the three answers by one function value. -/
import Derived.Test.YtggpnjiankejmaaHmMap
namespace Go.Proofs.Ytggpnjiankejmaa
open Go.RowKit

theorem results_row {P : Program} {fn : Func} {p : Tmp} {ty : TypeId} (h : fn.results = #[.cell p ty]) (tmps : Array Value) (w : World) {g : Nat} {t : TypeId} {cs : Array Value} {fr : Nat × Nat} {d : TypeDesc}
    (hp : tmps.getD p undef = .pointer (some ⟨g, 0, none⟩)) (hg : w.heap[g]? = some (.cells cs t fr))
    (hu : P.underlying ty = some d) (hd : (match d with | .struct _ | .array _ _ => true | _ => false) = true) (hi : (P.info? ty).map (·.size) = some cs.size) :
    (results fn tmps).run P w = .ok (.agg cs) w := by
  have hrun := run_loadVar_row w g t ty cs fr d hg hu hd hi
  rw [Array.getD_eq_getD_getElem?] at hp
  unfold results
  rw [h]
  simp [hp, asAddr, hrun]
theorem two_set {w : World} {g : Nat} {a b : Value} {t : TypeId} (h : w.heap[g]? = some (.cells #[a, b] t (0, 0))) (x y : Value) : ((w.setCell ⟨g, 0, none⟩ x).setCell ⟨g, 1, none⟩ y).heap[g]? = some (.cells #[x, y] t (0, 0)) := by
  rw [heap_setCell_same _ g 1 _ _ _ (heap_setCell_same w g 0 _ _ _ h)]
  rfl
/-- a block of two cells -/
structure Box2 (w : World) (g : Nat) (a b : Value) : Prop where
  c0 : w.cell? ⟨g, 0, none⟩ = some a
  c1 : w.cell? ⟨g, 1, none⟩ = some b
  f0 : w.frozen? ⟨g, 0, none⟩ = false
  f1 : w.frozen? ⟨g, 1, none⟩ = false
theorem Box2.of {w : World} {g : Nat} {a b : Value} {t : TypeId} (h : w.heap[g]? = some (.cells #[a, b] t (0, 0))) : Box2 w g a b := by
  constructor <;> simp [World.cell?, World.frozen?, h]

set_option maxRecDepth 100000 in
set_option maxHeartbeats 400000 in
theorem size_any (b : Int) (k : Nat) (w : World) (hk : k ≤ 62) :
    Calls Try.prog 39 #[.agg #[.int .i64 b, .int .i64 (k : Nat)]] w fun e w' => e = .returned (.int .i64 (2 ^ k : Nat)) ∧ Fr S0 w w' := by
  have l : 2 ^ k ≤ 2 ^ 62 := two_le hk
  obtain ⟨Z, hZ⟩ : ∃ Z, 2 ^ k = Z := ⟨_, rfl⟩
  have wZ : (2 : Int) ^ k = (Z : Int) := by rw [← hZ, Int.natCast_pow]; rfl
  rw [hZ] at l ⊢
  clear hZ
  go_enter Try.func39, Try.ntmps39
  go_wp2_with fail
  go_ret
  exact ⟨rfl, Fr.alloc _ _ _⟩

set_option maxRecDepth 100000 in
set_option maxHeartbeats 400000 in
theorem low_any (b k : Int) (w : World) :
    Calls Try.prog 37 #[.agg #[.int .i64 b, .int .i64 k]] w fun e w' => e = .returned (.int .i64 b) ∧ Fr S0 w w' := by
  go_enter Try.func37, Try.ntmps37
  go_wp2_with fail
  go_ret
  exact ⟨rfl, Fr.alloc _ _ _⟩

set_option maxRecDepth 100000 in
set_option maxHeartbeats 400000 in
theorem high_any (b k : Nat) (w : World) (hk : k ≤ 62) (hb : b + 2 ^ k ≤ 9223372036854775808) :
    Calls Try.prog 38 #[.agg #[.int .i64 (b : Nat), .int .i64 (k : Nat)]] w fun e w' => e = .returned (.int .i64 (b + (2 ^ k - 1) : Nat)) ∧ Fr S0 w w' := by
  have HS := Lib.hid (fun W => size_any b k W hk)
  have p := two_pos k
  obtain ⟨Z, hZ⟩ : ∃ Z, 2 ^ k = Z := ⟨_, rfl⟩
  rw [hZ] at p hb HS ⊢
  obtain ⟨Y, hY⟩ : ∃ Y, Z - 1 = Y := ⟨_, rfl⟩
  obtain ⟨X, hX⟩ : ∃ X, b + Y = X := ⟨_, rfl⟩
  rw [hY, hX]
  have e1 : (Z : Int) - 1 = (Y : Int) := by omega
  have e2 : (b : Int) + (Y : Int) = (X : Int) := by omega
  have wY : IntKind.i64.wrap (Y : Int) = (Y : Int) := by rw [IntKind.wrap_i64]; omega
  have wX : IntKind.i64.wrap (X : Int) = (X : Int) := by rw [IntKind.wrap_i64]; omega
  have hb0 := heap_alloc_new w (.cells #[.int .i64 (b : Nat), .int .i64 (k : Nat)] 63)
  have HC0 := Lib.hid (show (w.alloc (.cells #[.int .i64 (b : Nat), .int .i64 (k : Nat)] 63)).cell? ⟨w.heap.size, 0, none⟩ = some (.int .i64 (b : Nat)) by rw [World.cell?, hb0]; rfl)
  have HC1 := Lib.hid (show (w.alloc (.cells #[.int .i64 (b : Nat), .int .i64 (k : Nat)] 63)).cell? ⟨w.heap.size, 1, none⟩ = some (.int .i64 (k : Nat)) by rw [World.cell?, hb0]; rfl)
  clear hZ hY hX p hb hb0
  go_enter Try.func38, Try.ntmps38
  go_upto_region 6 with fail
  go_region_held3 (fun w' => w'.cell? ⟨w.heap.size, 0, none⟩ = some (.int .i64 (b : Nat)) ∧ w'.cell? ⟨w.heap.size, 1, none⟩ = some (.int .i64 (k : Nat)))
    (first
      | (go_split_ands; exact ⟨by assumption, by assumption⟩)
      | exact ⟨HC0.out, HC1.out⟩
      | (go_split_ands; exact ⟨f9.cell (by assumption) (fun h => h), f9.cell (by assumption) (fun h => h)⟩))
    (first | (go_at_call 39; ((with_reducible refine (HS.out _).mono ?_); rintro _ _ ⟨rfl, f9⟩; have F9 := Lib.hid f9)))
  all_goals
    go_wp2_with fail
    go_ret
    exact ⟨rfl, (Fr.alloc S0 _ _).trans0 ((Fr.drew _ _).trans0 F9.out)⟩
end Go.Proofs.Ytggpnjiankejmaa
