/- A window is widened. -/
import Derived.Test.YtocdjklgfmkbfaaDnPut
namespace Go.Proofs.Ytocdjklgfmkbfaa
open Go.RowKit

theorem Cel.below {w : World} {h : Nat} {F : Int} {p : Option Addr} {m : Nat} {f : Int → Nat} (k : Cel w h F p m f) (hp : p ≠ none) : h < w.heap.size := by
  obtain ⟨R, own, -⟩ := k.row
  rcases k.at' with rfl | rfl
  · exact absurd rfl hp
  · exact (own.lt h rfl).2

/-- the counts are carried over to new cells -/
theorem fill_any (g h h' : Nat) (a b F F' : Int) (p : Option Addr) (m m' : Nat) (l : List Pr) (W : World) (s : Sto W g h a b F p m l) (c : Cel W h' F' (some ⟨h', 0, none⟩) m' (fun _ => 0)) (hg : h' ≠ g) (hh : p ≠ none → h' ≠ h)
    (hin : ∀ x ∈ l, F' ≤ x.1 ∧ x.1 < F' + (m' : Int)) :
    Calls Try.prog 27 #[.pointer (some ⟨g, 0, none⟩), .func (.func 38) #[.agg #[.int .i64 F', .slice (some ⟨h', 0, none⟩) m' m']] #[]] W fun e w' => e = .returned (.tuple #[]) ∧ Cel w' h' F' (some ⟨h', 0, none⟩) m' (cnt l) ∧ Fr (· = h') W w' := by
  by_cases hl : l = []
  · subst hl
    exact (each_none g _ W s.raw.c4).mono fun e w' he => ⟨he.1, by rw [← he.2]; exact c.congr fun _ _ => rfl, by rw [← he.2]; exact Fr.refl _ _⟩
  · refine (each_meth 38 g h _ a b F p m l (fun done W' => Cel W' h' F' (some ⟨h', 0, none⟩) m' (cnt done) ∧ Fr (· = h') W W') W has_add s.lo s.hi s.ab s.srt s.pos s.all ⟨c.congr fun _ _ => rfl, Fr.refl _ _⟩ s.raw.c4 hl ?_ ?_ ?_).mono fun e w' he => ⟨he.1, he.2.1, he.2.2⟩
    · rintro done W' ⟨_, f⟩
      exact (s.fr f (fun e => hg e.symm) fun hp e => hh hp e.symm).sees done
    · rintro done W' W'' ⟨k, f⟩ f2
      exact ⟨k.fr0 f2, f.trans0 f2⟩
    · rintro done k n rest W' e ⟨c', f⟩
      have hmem : (k, n) ∈ l := by rw [e]; simp
      have hkin := hin _ hmem
      have hs : Srt (done ++ (k, n) :: rest) := e ▸ s.srt
      have hs1 := List.pairwise_append.1 hs
      have hlt : ∀ x ∈ done, x.1 < k := fun x hx => hs1.2.2 x hx (k, n) List.mem_cons_self
      have h0 : cnt done k = 0 := cnt_out fun x hx e => by have := hlt x hx; omega
      have hn : n ≤ 4611686018427387904 := by
        have h1 := cnt_tot l k
        have h2 := cnt_mem s.srt hmem
        have h3 := s.tot
        simp only at h2
        omega
      refine (cadd_any h' F' k n (some ⟨h', 0, none⟩) m' (cnt done) (cnt (done ++ [(k, n)])) W' c' hkin.1 hkin.2 (by omega) fun j => ?_).mono fun e w' he => ⟨he.1, he.2.1, f.trans he.2.2 fun _ _ h => h⟩
      have hd : ∀ (d : List Pr), (∀ x ∈ d, x.1 < k) → cnt (d ++ [(k, n)]) j = cnt d j + if j = k then n else 0 := by
        intro d
        induction d with
        | nil =>
          intro _
          rw [List.nil_append, cnt, cnt, cnt]
          simp only
          by_cases e : k = j
          · rw [if_pos e, if_pos e.symm]; omega
          · rw [if_neg e, if_neg fun h => e h.symm]
        | cons x d ih =>
          intro hx
          have := hx x List.mem_cons_self
          rw [List.cons_append, cnt, cnt, ih fun y hy => hx y (List.mem_cons_of_mem _ hy)]
          by_cases e : x.1 = j
          · rw [if_pos e, if_pos e, if_neg (by omega)]; rfl
          · rw [if_neg e, if_neg e]
      exact hd done hlt

theorem drewFr (w : World) : ∃ w2, w.drew = w2 ∧ Fr S0 w w2 := ⟨_, rfl, Fr.drew _ _⟩
theorem Sto.span {w : World} {g h : Nat} {a b F A B : Int} {p : Option Addr} {m : Nat} {l : List Pr} (s : Sto w g h a b F p m l) (hin : ∀ x ∈ l, A ≤ x.1 ∧ x.1 ≤ B) (h1 : -1048576 ≤ A) (h2 : B ≤ 1048576) (h3 : A ≤ B) (h4 : B - A < 8192) :
    Sto ((w.setCell ⟨g, 0, none⟩ (.int .i64 A)).setCell ⟨g, 1, none⟩ (.int .i64 B)) g h A B F p m l ∧ Fr (· = g) w ((w.setCell ⟨g, 0, none⟩ (.int .i64 A)).setCell ⟨g, 1, none⟩ (.int .i64 B)) := by
  have f : Fr (· = g) w ((w.setCell ⟨g, 0, none⟩ (.int .i64 A)).setCell ⟨g, 1, none⟩ (.int .i64 B)) := (Fr.setCell (· = g) _ _ _ rfl).trans (Fr.setCell (· = g) _ _ _ rfl) fun _ _ h => h
  exact ⟨⟨(s.raw.set0 A).set1 B, s.cel.fr f s.apart, s.apart, s.srt, s.pos, s.tot, s.lies, hin, h1, h2, h3, h4⟩, f⟩
/-- how reach ends -/
structure Reached (w w' : World) (g h h' : Nat) (A B F : Int) (p : Option Addr) (m : Nat) (l : List Pr) : Prop where
  sto : Sto w' g h' A B F p m l
  lo : F ≤ A
  hi : B < F + (m : Int)
  row : h' = h ∨ (w.heap.size ≤ h' ∧ h' < w'.heap.size)
  fr : Fr (· = g) w w'

set_option maxRecDepth 100000 in
set_option maxHeartbeats 1000000 in
theorem reach_any (g h : Nat) (a b F A B : Int) (p : Option Addr) (m : Nat) (l : List Pr) (w : World) (s : Sto w g h a b F p m l) (hin : ∀ x ∈ l, A ≤ x.1 ∧ x.1 ≤ B) (h1 : -1048576 ≤ A) (h2 : B ≤ 1048576) (h3 : A ≤ B) (h4 : B - A < 8192) :
    Calls Try.prog 22 #[.pointer (some ⟨g, 0, none⟩), .agg #[.int .i64 A, .int .i64 B]] w fun e w' => e = .returned (.tuple #[]) ∧ ∃ h' F' p' m', Reached w w' g h h' A B F' p' m' l := by
  have HH := Lib.hid (fun W => hold_any F A B p m W s.cel.F1 s.cel.F2 s.cel.ms)
  have HS := Lib.hid s
  have HIN := Lib.hid (And.intro hin (And.intro h1 (And.intro h2 (And.intro h3 h4))))
  have HB : Hid (∀ W, Fr S0 (w.alloc (.cells #[.int .i64 A, .int .i64 B] 26)) W → Raw W g a b F p m (l.length : Nat) (ltot l : Nat) ∧ Box2 W w.heap.size (.int .i64 A) (.int .i64 B)) := Lib.hid fun W f =>
    ⟨s.raw.fr0 ((Fr.alloc _ _ _).trans0 f), Box2.of (f.row (heap_alloc_new w _) (fun h => h))⟩
  have HBR : Hid (∀ W, Fr S0 (w.alloc (.cells #[.int .i64 A, .int .i64 B] 26)) W → W.heap[w.heap.size]? = some (.cells #[.int .i64 A, .int .i64 B] 26 (0, 0))) := Lib.hid fun W f => f.row (heap_alloc_new w _) (fun h => h)
  obtain ⟨r0, ⟨b0, b1, -, -⟩⟩ := HB.out _ (Fr.refl _ _)
  have c2 := r0.c2
  have c3 := r0.c3
  clear r0 s
  by_cases hh : F ≤ A ∧ B < F + (m : Int)
  · have e1 : (decide (F ≤ A) && decide (B < F + (m : Int))) = true := by rw [decide_eq_true hh.1, decide_eq_true hh.2]; rfl
    rw [e1] at HH
    have HHH := Lib.hid hh
    clear e1 hh hin h1 h2 h3 h4 HBR
    go_enter Try.func22, Try.ntmps22
    go_wp2_with fail
    obtain ⟨w0, hw0⟩ : ∃ w0, w.alloc (.cells #[.int .i64 A, .int .i64 B] 26) = w0 := ⟨_, rfl⟩
    have F0 : Hid (Fr S0 w w0) := Lib.hid (hw0 ▸ Fr.alloc _ _ _)
    rw [hw0] at HB c2 c3 b0 b1 ⊢
    clear hw0
    go_still_tail 5, (by kernel_rfl)
    obtain ⟨w2, hw2, f2⟩ := drewFr w0
    change wpList _ _ _ _ _ w0.drew
    rw [hw2]
    have HHW := Lib.hid (HH.out w2)
    have HF2 := Lib.hid f2
    clear HH hw2 f2 c2 c3 b0 b1
    go_wp2_with fail
    refine HHW.out.mono ?_
    rintro e w3 ⟨rfl, f3⟩
    have f03 := HF2.out.trans0 f3
    obtain ⟨r3, ⟨b0, b1, -, -⟩⟩ := HB.out _ f03
    have c0 := r3.c0
    have c1 := r3.c1
    have z0 := r3.fz 0
    have z1 := r3.fz 1
    have HE := Lib.hid ((HS.out.fr0 (F0.out.trans0 f03)).span HIN.out.1 HIN.out.2.1 HIN.out.2.2.1 HIN.out.2.2.2.1 HIN.out.2.2.2.2)
    have HFE := Lib.hid (F0.out.trans0 f03)
    clear HHW HF2 f3 f03 r3 HB
    go_wp2_with fail
    go_end0
    exact ⟨rfl, h, F, p, m, HE.out.1, HHH.out.1, HHH.out.2, .inl rfl, (HFE.out.mono fun _ _ h => h.elim).trans HE.out.2 fun _ _ h => h⟩
  · have e1 : (decide (F ≤ A) && decide (B < F + (m : Int))) = false := by
      rw [Bool.and_eq_false_iff, decide_eq_false_iff_not, decide_eq_false_iff_not]
      omega
    rw [e1] at HH
    have HSP := Lib.hid (fun W => spread_any A B W (by omega) (by omega) h3 h4)
    clear e1 hh hin h1 h2 h3 h4
    go_enter Try.func22, Try.ntmps22
    go_wp2_with fail
    obtain ⟨w0, hw0⟩ : ∃ w0, w.alloc (.cells #[.int .i64 A, .int .i64 B] 26) = w0 := ⟨_, rfl⟩
    have F0 : Hid (Fr S0 w w0) := Lib.hid (hw0 ▸ Fr.alloc _ _ _)
    have HSZ : Hid (w.heap.size < w0.heap.size) := Lib.hid (by rw [← hw0, size_alloc]; omega)
    rw [hw0] at HB HBR c2 c3 b0 b1 ⊢
    clear hw0
    go_still_tail 5, (by kernel_rfl)
    obtain ⟨w2, hw2, f2⟩ := drewFr w0
    change wpList _ _ _ _ _ w0.drew
    rw [hw2]
    have HHW := Lib.hid (HH.out w2)
    have HF2 := Lib.hid f2
    clear HH hw2 f2 c2 c3 b0 b1
    go_wp2_with fail
    refine HHW.out.mono ?_
    rintro e w3 ⟨rfl, f3⟩
    have f03 := HF2.out.trans0 f3
    obtain ⟨r3, ⟨b0, b1, -, -⟩⟩ := HB.out _ f03
    have HF3 := Lib.hid f03
    clear HHW HF2 f3 f03 r3
    go_wp2_with fail
    refine (HSP.out w3).mono ?_
    rintro e w4 ⟨v, h', F', m', rfl, rfl, k4, hn4, hlo, hhi, f4⟩
    have HSP4 := Lib.hid (And.intro hlo hhi)
    have HF4 := Lib.hid (HF3.out.trans0 f4)
    have HN : Hid (w.heap.size ≤ h') := Lib.hid (Nat.le_trans (F0.out.trans0 HF3.out).size hn4)
    have HGN : Hid (h' ≠ g ∧ (p ≠ none → h' ≠ h)) := Lib.hid ⟨by have := HS.out.raw.lt; have := HN.out; omega, fun hp => by have := HS.out.cel.below hp; have := HN.out; omega⟩
    have f5 : Fr S0 w4 (w4.alloc (.cells #[.int .i64 F', .slice (some ⟨h', 0, none⟩) m' m'] 29)) := Fr.alloc _ _ _
    have HC5 := Lib.hid (k4.fr0 f5)
    have HFI := Lib.hid (fill_any g h h' a b F F' p m m' l _ (HS.out.fr0 ((F0.out.trans0 HF4.out).trans0 f5)) HC5.out HGN.out.1 HGN.out.2 fun x hx => by have := HIN.out.1 x hx; have := HSP4.out; omega)
    have HBX : Hid (∀ W, Fr (· = h') (w4.alloc (.cells #[.int .i64 F', .slice (some ⟨h', 0, none⟩) m' m'] 29)) W → Raw W g a b F p m (l.length : Nat) (ltot l : Nat) ∧ Box2 W w.heap.size (.int .i64 A) (.int .i64 B) ∧ Box2 W w4.heap.size (.int .i64 F') (.slice (some ⟨h', 0, none⟩) m' m')) := Lib.hid fun W f => by
      obtain ⟨r5, -⟩ := HB.out _ (HF4.out.trans0 f5)
      have hl4 := k4.below (by simp)
      have hx := HF3.out.size
      have hy := HSZ.out
      have b5 := HBR.out _ (HF4.out.trans0 f5)
      exact ⟨r5.fr f fun e => HGN.out.1 e.symm, Box2.of (f.row b5 (by omega)), Box2.of (f.row (heap_alloc_new w4 _) (by omega))⟩
    clear HF3 f4 k4 hn4 hlo hhi HB
    go_wp2_with fail
    refine HFI.out.mono ?_
    rintro e w6 ⟨rfl, k6, f6⟩
    obtain ⟨r6, ⟨b0, b1, -, -⟩, ⟨d0, d1, -, -⟩⟩ := HBX.out w6 f6
    have c0 := r6.c0
    have c1 := r6.c1
    have c2 := r6.c2
    have c3 := r6.c3
    have z := r6.fz
    have z0 := z 0
    have z1 := z 1
    have z2 := z 2
    have z3 := z 3
    have g2 : Fr (· = g) w6 ((w6.setCell ⟨g, 2, none⟩ (.int .i64 F')).setCell ⟨g, 3, none⟩ (.slice (some ⟨h', 0, none⟩) m' m')) := (Fr.setCell (· = g) _ _ _ rfl).trans (Fr.setCell (· = g) _ _ _ rfl) fun _ _ h => h
    have S7 : Sto ((w6.setCell ⟨g, 2, none⟩ (.int .i64 F')).setCell ⟨g, 3, none⟩ (.slice (some ⟨h', 0, none⟩) m' m')) g h' a b F' (some ⟨h', 0, none⟩) m' l :=
      ⟨r6.set2 _ _ _, k6.fr g2 fun _ => HGN.out.1, fun _ => HGN.out.1, HS.out.srt, HS.out.pos, HS.out.tot, fun x hx => by have := HIN.out.1 x hx; have := HSP4.out; omega, HS.out.all, HS.out.lo, HS.out.hi, HS.out.ab, HS.out.win⟩
    have HE := Lib.hid (S7.span HIN.out.1 HIN.out.2.1 HIN.out.2.2.1 HIN.out.2.2.2.1 HIN.out.2.2.2.2)
    have HFE : Hid (Fr (· = g) w ((w6.setCell ⟨g, 2, none⟩ (.int .i64 F')).setCell ⟨g, 3, none⟩ (.slice (some ⟨h', 0, none⟩) m' m'))) := Lib.hid
      (((((F0.out.trans0 HF4.out).trans0 f5).mono (T := (· = g)) fun _ _ h => h.elim).trans f6 fun j hj e => by have := HN.out; omega).trans g2 fun _ _ h => h)
    clear r6 k6 f6 z g2 S7 HFI HBX f5
    go_wp2_with fail
    go_end0
    exact ⟨rfl, h', F', _, m', HE.out.1, HSP4.out.1, HSP4.out.2, .inr ⟨HN.out, HE.out.1.cel.below (by simp)⟩, HFE.out.trans HE.out.2 fun _ _ h => h⟩
end Go.Proofs.Ytocdjklgfmkbfaa
