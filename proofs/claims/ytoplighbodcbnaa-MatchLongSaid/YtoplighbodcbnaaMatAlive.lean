/- The document's examples. -/
import Derived.Test.YtoplighbodcbnaaMatSpread
namespace Go.Proofs.Ytoplighbodcbnaa
open Go.RowKit Go.MapKept

theorem TkI.ofBlock {w : World} {g : Nat} {t : TypeId} {fr : Nat × Nat} {l : List Tk} {cs : Array Value} (hb : w.heap[g]? = some (.cells cs t fr)) (hc : cs.toList = tkl l) : TkI w (some ⟨g, 0, none⟩) l := by
  intro _
  refine ⟨g, rfl, fun i hi => ?_⟩
  obtain ⟨h1, h2, h3⟩ := tkl_at l i hi
  rw [← hc] at h1 h2 h3
  simp only [World.cell?, hb]
  simp only [Array.getElem?_toList] at h1 h2 h3
  exact ⟨h1, h2, h3⟩
theorem TkI.new (w : World) (C : Array Value) (t : TypeId) (fr : Nat × Nat) (l : List Tk) (hc : C.toList = tkl l) : TkI (w.alloc (.cells C t fr)) (some ⟨w.heap.size, 0, none⟩) l := TkI.ofBlock (heap_alloc_new w _) hc

theorem ex1 : toks [97, 97, 97, 97, 97] 0 = [(97, 0, 0), (0, 4, 1)] := by
  have t0 : tok [97, 97, 97, 97, 97] 0 = (97, 0, 0) := by decide
  have t1 : tok [97, 97, 97, 97, 97] 1 = (0, 4, 1) := by decide
  rw [toks_in _ 0 (by decide), t0, show 0 + wid (97, 0, 0) = 1 from rfl, toks_in _ 1 (by decide), t1, show 1 + wid (0, 4, 1) = 5 from rfl, toks_out _ 5 (by decide)]
theorem ex2 : toks [97, 98, 99, 97, 98, 99, 100] 0 = [(97, 0, 0), (98, 0, 0), (99, 0, 0), (0, 3, 3), (100, 0, 0)] := by
  have t0 : tok [97, 98, 99, 97, 98, 99, 100] 0 = (97, 0, 0) := by decide
  have t1 : tok [97, 98, 99, 97, 98, 99, 100] 1 = (98, 0, 0) := by decide
  have t2 : tok [97, 98, 99, 97, 98, 99, 100] 2 = (99, 0, 0) := by decide
  have t3 : tok [97, 98, 99, 97, 98, 99, 100] 3 = (0, 3, 3) := by decide
  have t4 : tok [97, 98, 99, 97, 98, 99, 100] 6 = (100, 0, 0) := by decide
  rw [toks_in _ 0 (by decide), t0, show 0 + wid (97, 0, 0) = 1 from rfl, toks_in _ 1 (by decide), t1, show 1 + wid (98, 0, 0) = 2 from rfl, toks_in _ 2 (by decide), t2, show 2 + wid (99, 0, 0) = 3 from rfl, toks_in _ 3 (by decide), t3,
    show 3 + wid (0, 3, 3) = 6 from rfl, toks_in _ 6 (by decide), t4, show 6 + wid (100, 0, 0) = 7 from rfl, toks_out _ 7 (by decide)]

set_option maxRecDepth 100000 in
set_option maxHeartbeats 2000000 in
theorem alive_any (w : World) : Calls Try.prog 7 #[] w fun r w' => r = .returned (.bool true) ∧ Fr S0 w w' := by
  have kb := constB
  go_enter Try.func7, Try.ntmps7
  go_wp2_with fail
  refine (find_any _ 5 [97, 97, 97, 97, 97] _ (SlI.new w _ _ _ _ _ rfl (by decide)) (by decide) (by decide) (by decide)).mono ?_
  rintro _ w1 ⟨q1, n1, d1, rfl, rfl, o1, f1, -⟩
  rw [ex1] at o1
  rw [ex1]
  have k1 := TkI.ofOwns o1
  have g1 : Fr S0 w w1 := (Fr.alloc _ _ _).trans0 f1
  clear f1 o1
  go_wp2_with fail
  refine (find_any _ 7 [97, 98, 99, 97, 98, 99, 100] _ (SlI.new w1 _ _ _ _ _ rfl (by decide)) (by decide) (by decide) (by decide)).mono ?_
  rintro _ w2 ⟨q2, n2, d2, rfl, rfl, o2, f2, -⟩
  rw [ex2] at o2
  rw [ex2]
  have k2 := TkI.ofOwns o2
  have f12 : Fr S0 w1 w2 := (Fr.alloc _ _ _).trans0 f2
  have g2 : Fr S0 w w2 := g1.trans0 f12
  have K1 := Lib.hid (k1.fr0 f12)
  have K2 := Lib.hid k2
  have G2 := Lib.hid g2
  clear f2 o2 k1 k2 g1 f12 g2
  go_wp2_with fail
  refine (lists_same _ _ 2 _ _ [(97, 0, 0), (0, 4, 1)] _ (K1.out.fr0 (Fr.alloc _ _ _)) (TkI.new w2 _ _ _ _ rfl) rfl (by decide)).mono ?_
  rintro _ w3 ⟨rfl, f3⟩
  have F3 := Lib.hid ((Fr.alloc S0 w2 _).trans0 f3)
  clear f3
  go_wp2_with fail
  refine (lists_same _ _ 5 _ _ [(97, 0, 0), (98, 0, 0), (99, 0, 0), (0, 3, 3), (100, 0, 0)] _ ((K2.out.fr0 F3.out).fr0 (Fr.alloc _ _ _)) (TkI.new w3 _ _ _ _ rfl) rfl (by decide)).mono ?_
  rintro _ w4 ⟨rfl, f4⟩
  have F4 := Lib.hid ((Fr.alloc S0 w3 _).trans0 f4)
  clear f4
  go_wp2
  go_ret
  exact ⟨rfl, (G2.out.trans0 F3.out).trans0 F4.out⟩
theorem start (w : World) (R) (h : ∀ w1, Fr S0 w w1 → R (.returned (.bool true)) w1) : Calls Try.prog 7 #[] w R :=
  (alive_any w).mono fun e w1 he => by rw [he.1]; exact h w1 he.2
end Go.Proofs.Ytoplighbodcbnaa
