/- Bytes are told. -/
import Derived.Test.YtmcmchldjfnneaaInfRead
namespace Go.Proofs.Ytmcmchldjfnneaa
open Go.RowKit

section
variable {g gr : Nat} {r t : Option Nat} {b : List Nat} {k lim : Nat} {T : List Nat} {L S : Value}
theorem StIs.c2 {w : World} (h : StIs w g gr r t b k lim T L S) : ∃ p c, w.heap[g]? = some (.cells #[.pointer (some ⟨gr, 0, none⟩), .int .i64 (lim : Nat), .slice p T.length c, L, S] 46 (0, 0)) ∧ w.cell? ⟨g, 2, none⟩ = some (.slice p T.length c) ∧
    w.ownsRow 0 5 1 (.slice p T.length c) T.length (u8s T) ∧ Value.ownBlock (.slice p T.length c) = t := by
  obtain ⟨p, c, h1, h2, h3⟩ := h.ex
  exact ⟨p, c, h1, by simp [World.cell?, h1], h2, h3⟩

theorem drewFr (w : World) : ∃ w2, w.drew = w2 ∧ Fr S0 w w2 := ⟨_, rfl, Fr.drew _ _⟩
set_option maxRecDepth 100000 in
set_option maxHeartbeats 400000 in
theorem room_yes (m : Nat) (w : World) (h : StIs w g gr r t b k lim T L S) (hm : T.length + m ≤ lim) :
    Calls Try.prog 49 #[.pointer (some ⟨g, 0, none⟩), .int .i64 (m : Nat)] w fun e w' => e = .returned (.tuple #[]) ∧ Fr S0 w w' := by
  have k1 := h.c1
  obtain ⟨p, c, -, k2, -, -⟩ := h.c2
  have hs := h.few
  have q1 : IntKind.i64.wrap ((lim : Int) - (T.length : Int)) = (lim : Int) - (T.length : Int) := IntWalk.i64_in _ (by omega)
  have hle : decide ((m : Int) ≤ (lim : Int) - (T.length : Int)) = true := decide_eq_true (by omega)
  have HD := Lib.hid (fun W => demand_yes 64 W)
  clear h hs hm
  go_enter Try.func49, Try.ntmps49
  go_wp2_with fail
  go_still_tail 12, (by kernel_rfl)
  obtain ⟨w2, hw2, f2⟩ := drewFr w
  change wpList _ _ _ _ _ w.drew
  rw [hw2]
  clear q1 hle hw2 k1 k2
  go_wp2_with fail
  refine (HD.out w2).mono ?_
  rintro e w' ⟨rfl, rfl⟩
  go_wp2_with fail
  go_end0
  exact ⟨rfl, f2⟩
set_option maxRecDepth 100000 in
set_option maxHeartbeats 400000 in
theorem room_no (m : Nat) (w : World) (h : StIs w g gr r t b k lim T L S) (hm : ¬ T.length + m ≤ lim) (hms : m ≤ 1048576) :
    Calls Try.prog 49 #[.pointer (some ⟨g, 0, none⟩), .int .i64 (m : Nat)] w fun e w' => e = .panicked (chn 64) ∧ Fr S0 w w' := by
  have k1 := h.c1
  obtain ⟨p, c, -, k2, -, -⟩ := h.c2
  have hs := h.few
  have q1 : IntKind.i64.wrap ((lim : Int) - (T.length : Int)) = (lim : Int) - (T.length : Int) := IntWalk.i64_in _ (by omega)
  have hle : decide ((m : Int) ≤ (lim : Int) - (T.length : Int)) = false := decide_eq_false (by omega)
  have HD := Lib.hid (fun W => demand_no 64 W)
  clear h hs hm hms
  go_enter Try.func49, Try.ntmps49
  go_wp2_with fail
  go_still_tail 12, (by kernel_rfl)
  obtain ⟨w2, hw2, f2⟩ := drewFr w
  change wpList _ _ _ _ _ w.drew
  rw [hw2]
  clear q1 hle hw2 k1 k2
  go_wp2_with fail
  refine (HD.out w2).mono ?_
  rintro e w' ⟨rfl, rfl⟩
  go_wp2_with fail
  exact ⟨rfl, rfl, f2⟩

/-- behind an append to what was told -/
theorem told_grown {w w1 : World} {p p1 : Option Addr} {c c1 N : Nat} {m : List Nat} (h : StIs w g gr r t b k lim T L S) (hN : T.length + m.length = N) (hb : w.heap[g]? = some (.cells #[.pointer (some ⟨gr, 0, none⟩), .int .i64 (lim : Nat), .slice p T.length c, L, S] 46 (0, 0)))
    (ht : Value.ownBlock (.slice p T.length c) = t) (hm : ∀ x ∈ m, x < 256) (hfit : N ≤ lim)
    (own : w1.ownsRow 0 5 1 (.slice p1 N c1) N (u8s T ++ u8s m)) (hgrow : w.grownBy w1 (Value.ownBlock (.slice p T.length c))) (hat : Value.ownBlock (.slice p1 N c1) = Value.ownBlock (.slice p T.length c) ∨ Value.ownBlock (.slice p1 N c1) = some w.heap.size) :
    (∀ i, w1.frozen? ⟨g, i, none⟩ = false) ∧ w1.cell? ⟨g, 2, none⟩ = some (.slice p T.length c) ∧ StTo w (w1.setCell ⟨g, 2, none⟩ (.slice p1 N c1)) g gr r t b k lim (T ++ m) L S := by
  have a := h.apart
  rw [ht] at hgrow hat
  have hg := h.lt
  have hgr := h.rd.lt
  have hrl := h.rd.rlt
  have f : Fr (fun k => t = some k) w w1 := Fr.grown hgrow
  have hb1 := f.row hb a.2.2.1
  have hlen : (T ++ m).length = N := by rw [List.length_append, hN]
  have htn : Value.ownBlock (.slice p1 N c1) ≠ some g := by
    rcases hat with e | e
    · rw [e]; exact a.2.2.1
    · rw [e, Ne, Option.some.injEq]; omega
  have htr : Value.ownBlock (.slice p1 N c1) ≠ some gr := by
    rcases hat with e | e
    · rw [e]; exact a.2.2.2.1
    · rw [e, Ne, Option.some.injEq]; omega
  have hrd := (h.rd.fr f a.2.2.2.1 (fun j hj e => a.2.2.2.2 j e hj)).fr (Fr.setCell (· = g) w1 ⟨g, 2, none⟩ (.slice p1 N c1) rfl) (fun e => a.1 e.symm) (fun j hj e => a.2.1 (by rw [hj, e]))
  refine ⟨fun i => by simp [World.frozen?, hb1], by simp [World.cell?, hb1], Value.ownBlock (.slice p1 N c1), ⟨⟨p1, c1, ?_, ?_, ?_⟩, hrd, ?_, ?_, a.1, a.2.1, htn, htr, ?_⟩, ?_, ?_⟩
  · rw [heap_setCell_same w1 g 2 _ _ _ hb1, hlen]; rfl
  · rw [hlen, ← u8s_append]
    exact (Fr.setCell (· = g) w1 ⟨g, 2, none⟩ _ rfl).owns own (fun k hk e => htn (by rw [hk, e]))
  · rw [hlen]
  · intro x hx
    rcases List.mem_append.1 hx with hx | hx
    · exact h.bytes x hx
    · exact hm x hx
  · have := h.few; rw [hlen]; exact ⟨by omega, this.2⟩
  · intro j hj e
    rcases hat with e2 | e2
    · exact a.2.2.2.2 j (e2 ▸ hj) e
    · rw [e2, Option.some.injEq] at hj; have := hrl j e; omega
  · exact (f.mono (fun j _ e => .inr (.inr e))).trans (Fr.setCell (· = g) w1 ⟨g, 2, none⟩ (.slice p1 N c1) rfl) (fun j _ e => .inl e)
  · rcases hat with e | e
    · exact .inl e
    · exact .inr fun j hj => by rw [e, Option.some.injEq] at hj; omega
set_option maxRecDepth 100000 in
set_option maxHeartbeats 1000000 in
theorem tell_yes (q : Option Addr) (d : Nat) (m : List Nat) (w : World) (h : StIs w g gr r t b k lim T L S) (hsrc : SrcIs w (.slice q m.length d) m.length (u8s m)) (hm : ∀ x ∈ m, x < 256) (hfit : T.length + m.length ≤ lim) :
    Calls Try.prog 50 #[.pointer (some ⟨g, 0, none⟩), .slice q m.length d] w fun e w' => e = .returned (.tuple #[]) ∧ StTo w w' g gr r t b k lim (T ++ m) L S := by
  have HRM := Lib.hid (room_yes m.length w h hfit)
  obtain ⟨N, hN⟩ : ∃ N, T.length + m.length = N := ⟨_, rfl⟩
  have HN := Lib.hid hN
  have HR : Hid (Room N) := Lib.hid (Room.mk (by have := h.few; omega))
  have H := Lib.hid h
  have HSRC := Lib.hid hsrc
  have HM := Lib.hid hm
  have HFIT : Hid (N ≤ lim) := Lib.hid (by omega)
  clear h hsrc hm hfit hN
  go_enter Try.func50, Try.ntmps50
  go_wp2_with fail
  refine HRM.out.mono ?_
  rintro e w1 ⟨rfl, f1⟩
  have H1 := Lib.hid (H.out.fr0 f1)
  have src := HSRC.out.fr f1 (fun _ _ h => h)
  obtain ⟨p, c, hb, k2, own, ht⟩ := H1.out.c2
  have kf := H1.out.fz 2
  have F1 := Lib.hid f1
  have HB := Lib.hid hb
  clear f1 hb HRM
  go_wp2_with (first
    | ((with_reducible show wpList _ _ _ (Oper.mk (some 14) _ _ _ _ _ :: _) _ _); refine app_many el8 (.tmp 12) (.tmp 13) own src HN.out rfl rfl rfl rfl (one8s _) HR.out ?_; intro p1 c1 w2 own1 g1 at1; obtain ⟨z1, z2, z3⟩ := told_grown H1.out HN.out HB.out ht HM.out HFIT.out own1 g1 at1; have Z3 := Lib.hid z3; have y2 := z1 2; clear g1 at1 own1 z3 z1 k2 kf)
    | fail)
  go_end0
  exact ⟨rfl, StTo.trans (F1.out.mono fun _ _ h => h.elim) (.inl rfl) Z3.out⟩
set_option maxRecDepth 100000 in
set_option maxHeartbeats 1000000 in
theorem tell_no (q : Option Addr) (d m : Nat) (w : World) (h : StIs w g gr r t b k lim T L S) (hfit : ¬ T.length + m ≤ lim) (hms : m ≤ 1048576) :
    Calls Try.prog 50 #[.pointer (some ⟨g, 0, none⟩), .slice q m d] w fun e w' => e = .panicked (chn 64) ∧ Fr S0 w w' := by
  have HRM := Lib.hid (room_no m w h hfit hms)
  clear h hfit hms
  go_enter Try.func50, Try.ntmps50
  go_wp2_with fail
  refine HRM.out.mono ?_
  rintro e w1 ⟨rfl, f1⟩
  go_wp2_with fail
  exact ⟨rfl, rfl, f1⟩
end
end Go.Proofs.Ytmcmchldjfnneaa
