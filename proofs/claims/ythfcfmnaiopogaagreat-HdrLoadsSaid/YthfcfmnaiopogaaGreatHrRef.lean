/- The document's histograms: where they reach, what is refused. -/
import Derived.Test.YthfcfmnaiopogaaGreatHrMath
import Derived.Test.YthfcfmnaiopogaaGreatHmRefs
import Derived.Test.YthfcfmnaiopogaaGreatDnAll
namespace Go.Proofs.YthfcfmnaiopogaaGreat
open Go.RowKit

/-- block g is the document's histogram M, its list at p -/
structure RefIs (W : World) (g : Nat) (p : Option Addr) (n c : Nat) (M : Hm) : Prop where
  blk : W.heap[g]? = some (.cells #[.int .i64 (M.L : Nat), .int .i64 (M.H : Nat), .int .i64 (M.D : Nat), .int .i64 (M.u : Nat), .int .i64 (M.m : Nat), .bool M.gr, .int .i64 (M.b : Nat), .slice p n c] 49 (0, 0))
  pri : PrI W p M.l
  len : M.l.length = n
  off : ∀ a, p = some a → a.block ≠ g
  good : M.Good
section
variable {W W' : World} {g : Nat} {p : Option Addr} {n c : Nat} {M : Hm}
theorem RefIs.fr0 (s : RefIs W g p n c M) (f : Fr S0 W W') : RefIs W' g p n c M := ⟨f.row s.blk fun h => h, s.pri.fr0 f, s.len, s.off, s.good⟩
theorem RefIs.lt (s : RefIs W g p n c M) : g < W.heap.size := (Array.getElem?_eq_some_iff.1 s.blk).1
theorem RefIs.c0 (s : RefIs W g p n c M) : W.cell? ⟨g, 0, none⟩ = some (.int .i64 (M.L : Nat)) := by simp [World.cell?, s.blk]
theorem RefIs.c1 (s : RefIs W g p n c M) : W.cell? ⟨g, 1, none⟩ = some (.int .i64 (M.H : Nat)) := by simp [World.cell?, s.blk]
theorem RefIs.c2 (s : RefIs W g p n c M) : W.cell? ⟨g, 2, none⟩ = some (.int .i64 (M.D : Nat)) := by simp [World.cell?, s.blk]
theorem RefIs.c3 (s : RefIs W g p n c M) : W.cell? ⟨g, 3, none⟩ = some (.int .i64 (M.u : Nat)) := by simp [World.cell?, s.blk]
theorem RefIs.c4 (s : RefIs W g p n c M) : W.cell? ⟨g, 4, none⟩ = some (.int .i64 (M.m : Nat)) := by simp [World.cell?, s.blk]
theorem RefIs.c5 (s : RefIs W g p n c M) : W.cell? ⟨g, 5, none⟩ = some (.bool M.gr) := by simp [World.cell?, s.blk]
theorem RefIs.c6 (s : RefIs W g p n c M) : W.cell? ⟨g, 6, none⟩ = some (.int .i64 (M.b : Nat)) := by simp [World.cell?, s.blk]
theorem RefIs.c7 (s : RefIs W g p n c M) : W.cell? ⟨g, 7, none⟩ = some (.slice p n c) := by simp [World.cell?, s.blk]
theorem RefIs.z (s : RefIs W g p n c M) (k : Nat) : W.frozen? ⟨g, k, none⟩ = false := by simp [World.frozen?, s.blk]
end
theorem cntB_nat (n : Nat) (h1 : 1 ≤ n) (h2 : n ≤ 64) : cntB (n : Int) = n := by unfold cntB; omega

section
variable (g : Nat) (p : Option Addr) (k c : Nat) (M : Hm) (w : World) (s : RefIs w g p k c M)
include s
set_option maxRecDepth 100000 in
set_option maxHeartbeats 400000 in
theorem rreach_any : Calls Tryz.prog 58 #[.pointer (some ⟨g, 0, none⟩)] w fun e w' => e = .returned (.int .i64 (M.reach : Nat)) ∧ Fr S0 w w' := by
  have hd := s.good
  have HB := Lib.hid (fun W => rbucket_any M.u M.m M.H W hd.s hd.hh)
  have HT := Lib.hid (fun W => rtop_any M.u M.m (M.b : Nat) W hd.m1 hd.s)
  have hbk := bkt_most (M.u + M.m) M.H (by have := hd.s; omega) hd.hh
  rw [cntB_nat M.b hd.b2 (by have := hd.b1; omega)] at HT
  have c1 := s.c1
  have c3 := s.c3
  have c4 := s.c4
  have c6 := s.c6
  unfold Hm.reach Hm.first
  obtain ⟨b, eb⟩ : ∃ b, bkt (M.u + M.m) M.H = b := ⟨_, rfl⟩
  obtain ⟨F, eF⟩ : ∃ F, 1 + b = F := ⟨_, rfl⟩
  obtain ⟨T, eT⟩ : ∃ T, top M.u M.m M.b = T := ⟨_, rfl⟩
  rw [eb] at HB hbk ⊢
  rw [eT] at HT ⊢
  rw [eF]
  have e1 : 1 + (b : Int) = (F : Int) := by omega
  have w1 : IntKind.i64.wrap (F : Int) = (F : Int) := by rw [IntKind.wrap_i64]; omega
  obtain ⟨B, eB⟩ : ∃ B, M.b = B := ⟨_, rfl⟩
  obtain ⟨H, eH⟩ : ∃ H, M.H = H := ⟨_, rfl⟩
  obtain ⟨u, eu⟩ : ∃ u, M.u = u := ⟨_, rfl⟩
  obtain ⟨m, em⟩ : ∃ m, M.m = m := ⟨_, rfl⟩
  rw [eB] at HT c6 ⊢
  rw [eH] at HB c1 ⊢
  rw [eu] at HB HT c3
  rw [em] at HB HT c4
  clear s hd hbk eb eF eT eB eH eu em
  by_cases hBF : B = F
  · rw [if_pos hBF]
    subst hBF
    go_enter Tryz.func58, Tryz.ntmps58
    go_upto_region 20 with fail
    go_region_held3 (fun w' => w'.cell? ⟨g, 1, none⟩ = some (.int .i64 (H : Nat)) ∧ w'.cell? ⟨g, 3, none⟩ = some (.int .i64 (u : Nat)) ∧ w'.cell? ⟨g, 4, none⟩ = some (.int .i64 (m : Nat)) ∧ w'.cell? ⟨g, 6, none⟩ = some (.int .i64 (B : Nat)))
      (first | (go_split_ands; exact ⟨by assumption, by assumption, by assumption, by assumption⟩))
      (first | (go_at_call 72; ((with_reducible refine (HB.out _).mono ?_); rintro _ _ ⟨rfl, rfl⟩)))
    go_wp2_with fail
    go_ret
    first | exact ⟨rfl, Fr.drew _ _⟩ | exact ⟨rfl, (Fr.drew S0 w).trans0 (Fr.drew _ _)⟩
  · rw [if_neg hBF]
    have hne : ((B : Int) == (F : Int)) = false := by rw [beq_eq_false_iff_ne]; omega
    go_enter Tryz.func58, Tryz.ntmps58
    go_upto_region 20 with fail
    go_region_held3 (fun w' => w'.cell? ⟨g, 1, none⟩ = some (.int .i64 (H : Nat)) ∧ w'.cell? ⟨g, 3, none⟩ = some (.int .i64 (u : Nat)) ∧ w'.cell? ⟨g, 4, none⟩ = some (.int .i64 (m : Nat)) ∧ w'.cell? ⟨g, 6, none⟩ = some (.int .i64 (B : Nat)))
      (first | (go_split_ands; exact ⟨by assumption, by assumption, by assumption, by assumption⟩))
      (first | (go_at_call 72; ((with_reducible refine (HB.out _).mono ?_); rintro _ _ ⟨rfl, rfl⟩)))
    go_upto_region 14 with fail
    go_region_held3 (fun w' => w'.cell? ⟨g, 1, none⟩ = some (.int .i64 (H : Nat)) ∧ w'.cell? ⟨g, 3, none⟩ = some (.int .i64 (u : Nat)) ∧ w'.cell? ⟨g, 4, none⟩ = some (.int .i64 (m : Nat)) ∧ w'.cell? ⟨g, 6, none⟩ = some (.int .i64 (B : Nat)))
      (first | (go_split_ands; exact ⟨by assumption, by assumption, by assumption, by assumption⟩))
      (first | (go_at_call 42; ((with_reducible refine (HT.out _).mono ?_); rintro _ _ ⟨rfl, rfl⟩)))
    go_wp2_with fail
    go_ret
    first | exact ⟨rfl, Fr.drew _ _⟩ | exact ⟨rfl, (Fr.drew S0 w).trans0 (Fr.drew _ _)⟩
end
end Go.Proofs.YthfcfmnaiopogaaGreat
