/- What the functions of layer 9 do: the sum's bytes, what an opening is given up with, what is gone through. -/
import Derived.Test.YtnckoghgplnhfaaGreatZlModel
import Derived.Test.YtnckoghgplnhfaaGreatInfTwo
namespace Go.Proofs.YtnckoghgplnhfaaGreat
open Go.RowKit

def sum4v (l : List Nat) : Array Value := #[.int .u8 (adSum l / 16777216 : Nat), .int .u8 (adSum l / 65536 % 256 : Nat), .int .u8 (adSum l / 256 % 256 : Nat), .int .u8 (adSum l % 256 : Nat)]
theorem sum4v_list (l : List Nat) : (sum4v l).toList = u8s (sum4 l) := rfl

set_option maxRecDepth 100000 in
set_option maxHeartbeats 1000000 in
theorem rsum4_any (p : Option Addr) (n d : Nat) (l : List Nat) (w : World) (hn : l.length = n) (hl : SlI w .u8 p l) (h8 : ∀ x ∈ l, x < 256) :
    Calls Tryz.prog 19 #[.slice p n d] w fun e w' => ∃ q c, e = .returned (.slice q 4 c) ∧ Fr S0 w w' ∧ RowNew w w' (.slice q 4 c) (sum4 l) := by
  subst hn
  have HS := Lib.hid (rsum_any p d l w hl h8)
  have hlt := adSum_lt l
  have HR : Hid (∀ w' : World, Fr S0 w w' → RowNew w (w'.alloc (.cells (sum4v l) 5)) (.slice (some ⟨w'.heap.size, 0, none⟩) 4 4) (sum4 l)) := Lib.hid fun w' f =>
    ⟨⟨rfl, .inr ⟨w'.heap.size, 4, sum4v l, rfl, Nat.zero_le _, heap_alloc_new w' _, Nat.le_refl _, by decide, rfl, rfl⟩⟩, fresh_made f⟩
  unfold sum4v at HR
  obtain ⟨S, hS⟩ : ∃ S, adSum l = S := ⟨_, rfl⟩
  rw [hS] at HS HR hlt
  clear hl h8 hS
  have e1 : (S : Int) / 16777216 = ((S / 16777216 : Nat) : Int) := by omega
  have e2 : (S : Int) / 65536 % 256 = ((S / 65536 % 256 : Nat) : Int) := by omega
  have e3 : (S : Int) / 256 % 256 = ((S / 256 % 256 : Nat) : Int) := by omega
  have e4 : (S : Int) % 256 = ((S % 256 : Nat) : Int) := by omega
  have E := Lib.hid (And.intro e1 (And.intro e2 (And.intro e3 e4)))
  clear e1 e2 e3 e4
  go_enter Tryz.func19, Tryz.ntmps19
  go_wp2_with fail
  refine HS.out.mono ?_
  rintro e w1 ⟨rfl, rfl⟩
  go_wp2_with fail
  go_ret
  rw [E.out.1, E.out.2.1, E.out.2.2.1, E.out.2.2.2]
  exact ⟨_, _, rfl, Fr.alloc _ _ _, HR.out _ (Fr.refl _ _)⟩

theorem four_facts {w : World} {g : Nat} {a b c d : Value} {t : TypeId} (h : w.heap[g]? = some (.cells #[a, b, c, d] t)) :
    w.cell? ⟨g, 0, none⟩ = some a ∧ w.cell? ⟨g, 1, none⟩ = some b ∧ w.cell? ⟨g, 2, none⟩ = some c ∧ w.cell? ⟨g, 3, none⟩ = some d ∧ w.frozen? ⟨g, 0, none⟩ = false ∧ w.frozen? ⟨g, 1, none⟩ = false ∧ w.frozen? ⟨g, 2, none⟩ = false ∧ w.frozen? ⟨g, 3, none⟩ = false :=
  ⟨by simp [World.cell?, h], by simp [World.cell?, h], by simp [World.cell?, h], by simp [World.cell?, h], by simp [World.frozen?, h], by simp [World.frozen?, h], by simp [World.frozen?, h], by simp [World.frozen?, h]⟩
theorem four_set {w : World} {g : Nat} {a b c d : Value} {t : TypeId} (h : w.heap[g]? = some (.cells #[a, b, c, d] t)) (a' b' c' d' : Value) :
    ((((w.setCell ⟨g, 0, none⟩ a').setCell ⟨g, 1, none⟩ b').setCell ⟨g, 2, none⟩ c').setCell ⟨g, 3, none⟩ d').heap[g]? = some (.cells #[a', b', c', d'] t) ∧ Fr (· = g) w ((((w.setCell ⟨g, 0, none⟩ a').setCell ⟨g, 1, none⟩ b').setCell ⟨g, 2, none⟩ c').setCell ⟨g, 3, none⟩ d') := by
  refine ⟨?_, (((Fr.setCell (· = g) w ⟨g, 0, none⟩ a' rfl).trans (Fr.setCell (· = g) _ ⟨g, 1, none⟩ b' rfl) fun _ _ e => e).trans (Fr.setCell (· = g) _ ⟨g, 2, none⟩ c' rfl) fun _ _ e => e).trans (Fr.setCell (· = g) _ ⟨g, 3, none⟩ d' rfl) fun _ _ e => e⟩
  have h1 : (w.setCell ⟨g, 0, none⟩ a').heap[g]? = some (.cells #[a', b, c, d] t) := by rw [heap_setCell_same w g 0 _ _ _ h]; rfl
  have h2 : ((w.setCell ⟨g, 0, none⟩ a').setCell ⟨g, 1, none⟩ b').heap[g]? = some (.cells #[a', b', c, d] t) := by rw [heap_setCell_same _ g 1 _ _ _ h1]; rfl
  have h3 : (((w.setCell ⟨g, 0, none⟩ a').setCell ⟨g, 1, none⟩ b').setCell ⟨g, 2, none⟩ c').heap[g]? = some (.cells #[a', b', c', d] t) := by rw [heap_setCell_same _ g 2 _ _ _ h2]; rfl
  rw [heap_setCell_same _ g 3 _ _ _ h3]; rfl
/-- the one result of a function is an aggregate in a block of its own -/
theorem results_row_one {P : Program} {fn : Func} {p : Tmp} {ty : TypeId} (h : fn.results = #[.cell p ty]) (tmps : Array Value) (w : World) {g : Nat} {t : TypeId} {cs : Array Value} {fr : Nat × Nat} {d : TypeDesc}
    (hp : tmps.getD p undef = .pointer (some ⟨g, 0, none⟩)) (hg : w.heap[g]? = some (.cells cs t fr)) (hu : P.underlying ty = some d) (hd : (match d with | .struct _ | .array _ _ => true | _ => false) = true) (hi : (P.info? ty).map (·.size) = some cs.size) :
    (results fn tmps).run P w = .ok (.agg cs) w := by
  have hp' : tmps[p]?.getD undef = .pointer (some ⟨g, 0, none⟩) := by simpa using hp
  simp only [results, h]
  simp [hp', asAddr, run_loadVar_row w g t ty cs fr d hg hu hd hi]
theorem sz4 : (Tryz.prog.info? 36).map (·.size) = some 4 := by kernel_rfl
set_option maxRecDepth 100000 in
set_option maxHeartbeats 1000000 in
theorem zseal_any (p : Option Addr) (n d : Nat) (l : List Nat) (w : World) (hn : l.length = n) (hl : SlI w .u8 p l) (h8 : ∀ x ∈ l, x < 256) (hd : n ≤ d) :
    Calls Tryz.prog 14 #[.slice p n d, .func (.func 15) #[] #[]] w fun e w' => e = .returned (.agg (sum4v l)) ∧ Fr S0 w w' := by
  subst hn
  have HS : Hid (∀ w', Fr S0 w w' → Calls Tryz.prog 27 #[.slice none 0 0] w' fun e w'' => e = .returned (.int .u32 1) ∧ Fr S0 w' w'') := Lib.hid fun w' _ => sum_any none 0 [] w' (SlI.nil _ _ _) (by simp) (Nat.le_refl _)
  have HM : Hid (∀ w', Fr S0 w w' → Calls Tryz.prog 15 #[.int .u32 1, .slice p l.length d] w' fun e w'' => U32Post w' e w'' (adSum l)) := Lib.hid fun w' f => admore_any 1 p d l w' (by decide) (hl.fr0 f) h8 hd
  have hlt := adSum_lt l
  unfold sum4v
  obtain ⟨S, hS⟩ : ∃ S, adSum l = S := ⟨_, rfl⟩
  rw [hS] at HM hlt ⊢
  obtain ⟨n, hn⟩ : ∃ n, l.length = n := ⟨_, rfl⟩
  rw [hn] at HM ⊢
  clear hl h8 hS hd hn
  go_enter Tryz.func14, Tryz.ntmps14
  go_wp2_with fail
  refine (HS.out _ (Fr.alloc _ _ _)).mono ?_
  rintro e w1 ⟨rfl, f1⟩
  have b1 := f1.row (heap_alloc_new w _) (fun h => h)
  have F1 : Fr S0 w w1 := (Fr.alloc S0 w _).trans0 f1
  have K := Lib.hid (HM.out w1 F1)
  obtain ⟨g, hg⟩ : ∃ g, w.heap.size = g := ⟨_, rfl⟩
  have hg1 := Lib.hid hg
  rw [hg] at b1
  rw [hg]
  have B1 := Lib.hid b1
  have F := Lib.hid F1
  clear b1 F1 f1 HM HS hg
  go_wp2_with fail
  refine K.out.mono ?_
  rintro e w2 ⟨rfl, f2⟩
  have b2 := f2.row B1.out (fun h => h)
  have F2 := Lib.hid (F.out.trans0 f2)
  clear f2 K B1 F
  obtain ⟨c0, c1, c2, c3, z0, z1, z2, z3⟩ := four_facts b2
  have B2 := Lib.hid b2
  clear b2
  go_wp2_with fail
  have k := four_set B2.out (.int .u8 ((S : Int) / 16777216)) (.int .u8 ((S : Int) / 65536 % 256)) (.int .u8 ((S : Int) / 256 % 256)) (.int .u8 ((S : Int) % 256))
  refine bodyPost_ret (results_row_one Tryz.results14 _ _ rfl k.1 Tryz.underlying36 rfl sz4) rfl ⟨rfl, F2.out.trans k.2 fun j hj e => ?_⟩
  have := hg1.out
  omega

/-- what an opening is given up with -/
def zch (n : Nat) : List PanicEntry := [{ v := .iface 41 (.agg #[.int .i64 (n : Nat)]), recovered := false }]
set_option maxRecDepth 100000 in
theorem zdemand_yes (n : Nat) (w : World) :
    Calls Tryz.prog 21 #[.bool true, .int .i64 (n : Nat)] w fun e w' => e = .returned (.tuple #[]) ∧ w = w' := by
  go_enter Tryz.func21, Tryz.ntmps21
  go_wp2
  go_end0
  exact ⟨rfl, rfl⟩
set_option maxRecDepth 100000 in
theorem zdemand_no (n : Nat) (w : World) :
    Calls Tryz.prog 21 #[.bool false, .int .i64 (n : Nat)] w fun e w' => e = Ending.panicked (zch n) ∧ w = w' := by
  go_enter Tryz.func21, Tryz.ntmps21
  go_wp2
  exact ⟨rfl, rfl, rfl⟩
end Go.Proofs.YtnckoghgplnhfaaGreat
