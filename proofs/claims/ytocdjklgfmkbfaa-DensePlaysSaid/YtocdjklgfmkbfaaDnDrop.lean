/- What Clear, shrink and Drop do. -/
import Derived.Test.YtocdjklgfmkbfaaDnAdd
namespace Go.Proofs.Ytocdjklgfmkbfaa
open Go.RowKit

set_option maxRecDepth 100000 in
set_option maxHeartbeats 400000 in
theorem clear_raw (g : Nat) (a b F : Int) (p : Option Addr) (m : Nat) (n t : Int) (w : World) (r : Raw w g a b F p m n t) :
    Calls Try.prog 15 #[.pointer (some ⟨g, 0, none⟩)] w fun e w' => e = .returned (.tuple #[]) ∧ Raw w' g 0 0 0 none 0 0 0 ∧ Fr (· = g) w w' := by
  have c0 := r.c0
  have c1 := r.c1
  have c2 := r.c2
  have c3 := r.c3
  have c4 := r.c4
  have c5 := r.c5
  have z0 := r.fz 0
  have z1 := r.fz 1
  have z2 := r.fz 2
  have z3 := r.fz 3
  have z4 := r.fz 4
  have z5 := r.fz 5
  have HR := Lib.hid r
  clear r
  go_enter Try.func15, Try.ntmps15
  go_wp2_with fail
  go_end0
  refine ⟨rfl, ?_, ?_⟩
  · exact ((((HR.out.set0 0).set1 0).set2 0 none 0).set4 0).set5 0
  · exact (((((Fr.setCell (· = g) _ _ _ rfl).trans (Fr.setCell (· = g) _ _ _ rfl) fun _ _ h => h).trans (Fr.setCell (· = g) _ _ _ rfl) fun _ _ h => h).trans (Fr.setCell (· = g) _ _ _ rfl) fun _ _ h => h).trans (Fr.setCell (· = g) _ _ _ rfl) fun _ _ h => h).trans (Fr.setCell (· = g) _ _ _ rfl) fun _ _ h => h

def intAt (w : World) (a : Addr) : Int := match w.cell? a with
  | some (.int _ n) => n
  | _ => 0

theorem Sto.setA {w : World} {g h : Nat} {a b F k : Int} {p : Option Addr} {m : Nat} {l : List Pr} (s : Sto w g h a b F p m l) (h1 : a ≤ k) (h2 : k ≤ b) (hin : ∀ x ∈ l, k ≤ x.1) :
    Sto (w.setCell ⟨g, 0, none⟩ (.int .i64 k)) g h k b F p m l ∧ Fr (· = g) w (w.setCell ⟨g, 0, none⟩ (.int .i64 k)) := by
  have f : Fr (· = g) w (w.setCell ⟨g, 0, none⟩ (.int .i64 k)) := Fr.setCell (· = g) _ _ _ rfl
  have := s.lo
  have := s.win
  exact ⟨⟨s.raw.set0 k, s.cel.fr f s.apart, s.apart, s.srt, s.pos, s.tot, s.lies, fun x hx => ⟨hin x hx, (s.all x hx).2⟩, by omega, s.hi, h2, by omega⟩, f⟩
theorem Sto.setB {w : World} {g h : Nat} {a b F k : Int} {p : Option Addr} {m : Nat} {l : List Pr} (s : Sto w g h a b F p m l) (h1 : a ≤ k) (h2 : k ≤ b) (hin : ∀ x ∈ l, x.1 ≤ k) :
    Sto (w.setCell ⟨g, 1, none⟩ (.int .i64 k)) g h a k F p m l ∧ Fr (· = g) w (w.setCell ⟨g, 1, none⟩ (.int .i64 k)) := by
  have f : Fr (· = g) w (w.setCell ⟨g, 1, none⟩ (.int .i64 k)) := Fr.setCell (· = g) _ _ _ rfl
  have := s.hi
  have := s.win
  exact ⟨⟨s.raw.set1 k, s.cel.fr f s.apart, s.apart, s.srt, s.pos, s.tot, s.lies, fun x hx => ⟨(s.all x hx).1, hin x hx⟩, s.lo, by omega, h1, by omega⟩, f⟩

set_option maxRecDepth 100000 in
set_option maxHeartbeats 1000000 in
theorem shrink_any (g h : Nat) (a b F : Int) (p : Option Addr) (m : Nat) (l : List Pr) (w : World) (s : Sto w g h a b F p m l) :
    Calls Try.prog 30 #[.pointer (some ⟨g, 0, none⟩)] w fun e w' => e = .returned (.tuple #[]) ∧ StIs w' g h l ∧ Fr (· = g) w w' := by
  by_cases hl : l = []
  · subst hl
    have HC := Lib.hid (clear_raw g a b F p m _ _ w s.raw)
    have c4 := s.raw.c4
    rw [List.length_nil] at c4
    clear s
    go_enter Try.func30, Try.ntmps30
    go_wp2_with fail
    refine HC.out.mono ?_
    rintro e w1 ⟨rfl, r1, f1⟩
    have HR := Lib.hid (And.intro r1 f1)
    clear HC r1 f1
    go_wp2_with fail
    refine bodyPost_ret (results_none rfl _ _ _) rfl ?_
    exact ⟨rfl, StIs.zero h HR.out.1, HR.out.2⟩
  · obtain ⟨c, d, hE⟩ := ends_nil_or s.srt s.pos hl
    have hac : a ≤ c ∧ d ≤ b := by
      obtain ⟨x, hx, e⟩ := cnt_in hE.fst
      obtain ⟨y, hy, e2⟩ := cnt_in hE.lst
      have := s.all x hx
      have := s.all y hy
      omega
    have hn0 : ((l.length : Int) == 0) = false := by
      have := List.length_pos_iff.2 hl
      rw [beq_eq_false_iff_ne]; omega
    have HE := Lib.hid hE
    have HL := Lib.hid hl
    have HAC := Lib.hid hac
    have hcd := hE.le
    have hc1 := s.lo
    have hc2 := s.hi
    have c4 := s.raw.c4
    have HS := Lib.hid s
    clear s hE hl
    go_enter Try.func30, Try.ntmps30
    go_wp2_with fail
    clear c4 hn0
    go_loopw [] (fun wr => ∃ k : Int, a ≤ k ∧ k ≤ c ∧ Hid (Sto wr g h k b F p m l) ∧ Hid (Fr (· = g) w wr)) (fun wr => (c - intAt wr ⟨g, 0, none⟩).toNat)
    case atStart => exact ⟨a, by omega, by omega, HS, Lib.hid (Fr.refl _ _)⟩
    case round =>
      obtain ⟨k, hk1, hk2, hs, hf⟩ := hrel
      have HA : Hid (∀ W, Fr S0 wr W → Calls Try.prog 28 #[.agg #[.int .i64 F, .slice p m m], .int .i64 k] W fun e w' => e = .returned (.int .u64 (cnt l k : Nat)) ∧ Fr S0 W w') := Lib.hid fun W f => by
        have := at_any h F k p m (cnt l) W (hs.out.cel.fr0 f)
        rwa [hs.out.tell k] at this
      have c0 := hs.out.raw.c0
      have c2 := hs.out.raw.c2
      have c3 := hs.out.raw.c3
      have HI : Hid (intAt wr ⟨g, 0, none⟩ = k) := Lib.hid (by unfold intAt; rw [c0])
      by_cases hz : cnt l k = 0
      · have hkc : k < c := by
          rcases (by omega : k < c ∨ k = c) with h | rfl
          · exact h
          · exact absurd hz HE.out.fst
        rw [hz] at HA
        have HNX : Hid (∀ x ∈ l, k < x.1) := Lib.hid fun x hx => by
          have h1 := hs.out.all x hx
          have h2 : x.1 ≠ k := fun e => cnt_ne hs.out.srt hs.out.pos hx (e ▸ hz)
          omega
        clear hz
        go_wp2_with fail
        go_still_tail 9, (by kernel_rfl)
        obtain ⟨w2, hw2, f2⟩ := drewFr wr
        change wpList _ _ _ _ _ wr.drew
        rw [hw2]
        have HAW := Lib.hid (HA.out w2 f2)
        have HF2 := Lib.hid f2
        clear HA hw2 f2 c0 c2 c3
        go_wp2_with fail
        refine HAW.out.mono ?_
        rintro e w3 ⟨rfl, f3⟩
        have f03 := HF2.out.trans0 f3
        have s3 := hs.out.fr0 f03
        have c0 := s3.raw.c0
        have zz := s3.raw.fz 0
        obtain ⟨K, hK⟩ : ∃ K, k + 1 = K := ⟨_, rfl⟩
        have HK := Lib.hid hK
        have HX := Lib.hid (s3.setA (k := K) (by omega) (by omega) fun x hx => by have := HNX.out x hx; omega)
        have HM : Hid (intAt (w3.setCell ⟨g, 0, none⟩ (.int .i64 K)) ⟨g, 0, none⟩ = K) := Lib.hid (by unfold intAt; rw [HX.out.1.raw.c0])
        have HFX : Hid (Fr (· = g) w (w3.setCell ⟨g, 0, none⟩ (.int .i64 K))) := Lib.hid ((hf.out.trans0 f03).trans HX.out.2 fun _ _ h => h)
        clear HAW HF2 f3 f03 s3 hf
        go_wp2_with fail
        go_roundw
        case rel => exact ⟨K, by have := HK.out; omega, by have := HK.out; omega, Lib.hid HX.out.1, HFX⟩
        case measure => have := HM.out; have := HI.out; have := HK.out; show _ < _; omega
      · obtain ⟨V, hV⟩ : ∃ V, cnt l k = V := ⟨_, rfl⟩
        have HEQ : Hid (∀ x ∈ l, k ≤ x.1) := Lib.hid fun x hx => by have := HE.out.all x hx; omega
        have HNZ : Hid (cnt l k ≠ 0) := Lib.hid hz
        rw [hV] at HA hz
        have hv : ((V : Int) == 0) = false := by rw [beq_eq_false_iff_ne]; omega
        clear hz hV
        go_wp2_with fail
        go_still_tail 9, (by kernel_rfl)
        obtain ⟨w2, hw2, f2⟩ := drewFr wr
        change wpList _ _ _ _ _ wr.drew
        rw [hw2]
        have HAW := Lib.hid (HA.out w2 f2)
        have HF2 := Lib.hid f2
        clear HA hw2 f2 c0 c2 c3
        go_wp2_with fail
        refine HAW.out.mono ?_
        rintro e w3 ⟨rfl, f3⟩
        have f03 := HF2.out.trans0 f3
        have HS1 := Lib.hid (hs.out.fr0 f03)
        have HF1 := Lib.hid (hf.out.trans0 f03)
        clear HAW HF2 f3 f03 hs hf HI
        go_wp2_with fail
        clear hk2
        have HAK := Lib.hid (And.intro HNZ.out hk1)
        clear HNZ HEQ hk1
        obtain ⟨A1, hA1⟩ : ∃ A1, k = A1 := ⟨_, rfl⟩
        rw [hA1] at HS1 HAK
        clear hA1
        have had : A1 ≤ d := by
          obtain ⟨x, hx, e⟩ := cnt_in HAK.out.1
          have := HE.out.all x hx
          omega
        go_loopw [] (fun wr => ∃ k : Int, d ≤ k ∧ k ≤ b ∧ Hid (Sto wr g h A1 k F p m l) ∧ Hid (Fr (· = g) w wr)) (fun wr => (intAt wr ⟨g, 1, none⟩ - d).toNat)
        case atStart => exact ⟨b, by omega, by omega, HS1, HF1⟩
        case round =>
          obtain ⟨k, hk1, hk2, hs, hf⟩ := hrel
          have HA : Hid (∀ W, Fr S0 wr W → Calls Try.prog 28 #[.agg #[.int .i64 F, .slice p m m], .int .i64 k] W fun e w' => e = .returned (.int .u64 (cnt l k : Nat)) ∧ Fr S0 W w') := Lib.hid fun W f => by
            have := at_any h F k p m (cnt l) W (hs.out.cel.fr0 f)
            rwa [hs.out.tell k] at this
          have c1 := hs.out.raw.c1
          have c2 := hs.out.raw.c2
          have c3 := hs.out.raw.c3
          have HI : Hid (intAt wr ⟨g, 1, none⟩ = k) := Lib.hid (by unfold intAt; rw [c1])
          by_cases hz : cnt l k = 0
          · have hkc : d < k := by
              rcases (by omega : d < k ∨ k = d) with h | rfl
              · exact h
              · exact absurd hz HE.out.lst
            rw [hz] at HA
            have HNX : Hid (∀ x ∈ l, x.1 < k) := Lib.hid fun x hx => by
              have h1 := hs.out.all x hx
              have h2 : x.1 ≠ k := fun e => cnt_ne hs.out.srt hs.out.pos hx (e ▸ hz)
              omega
            clear hz
            go_wp2_with fail
            go_still_tail 9, (by kernel_rfl)
            obtain ⟨w2, hw2, f2⟩ := drewFr wr
            change wpList _ _ _ _ _ wr.drew
            rw [hw2]
            have HAW := Lib.hid (HA.out w2 f2)
            have HF2 := Lib.hid f2
            clear HA hw2 f2 c1 c2 c3
            go_wp2_with fail
            refine HAW.out.mono ?_
            rintro e w3 ⟨rfl, f3⟩
            have f03 := HF2.out.trans0 f3
            have s3 := hs.out.fr0 f03
            have c1 := s3.raw.c1
            have zz := s3.raw.fz 1
            obtain ⟨K, hK⟩ : ∃ K, k - 1 = K := ⟨_, rfl⟩
            have HK := Lib.hid hK
            have HX := Lib.hid (s3.setB (k := K) (by omega) (by omega) fun x hx => by have := HNX.out x hx; omega)
            have HM : Hid (intAt (w3.setCell ⟨g, 1, none⟩ (.int .i64 K)) ⟨g, 1, none⟩ = K) := Lib.hid (by unfold intAt; rw [HX.out.1.raw.c1])
            have HFX : Hid (Fr (· = g) w (w3.setCell ⟨g, 1, none⟩ (.int .i64 K))) := Lib.hid ((hf.out.trans0 f03).trans HX.out.2 fun _ _ h => h)
            clear HAW HF2 f3 f03 s3 hf
            go_wp2_with fail
            go_roundw
            case rel => exact ⟨K, by have := HK.out; omega, by have := HK.out; omega, Lib.hid HX.out.1, HFX⟩
            case measure => have := HM.out; have := HI.out; have := HK.out; show _ < _; omega
          · obtain ⟨V, hV⟩ : ∃ V, cnt l k = V := ⟨_, rfl⟩
            have HEQ : Hid (∀ x ∈ l, x.1 ≤ k) := Lib.hid fun x hx => by have := HE.out.all x hx; omega
            have HNZ : Hid (cnt l k ≠ 0) := Lib.hid hz
            rw [hV] at HA hz
            have hv : ((V : Int) == 0) = false := by rw [beq_eq_false_iff_ne]; omega
            clear hz hV
            go_wp2_with fail
            go_still_tail 9, (by kernel_rfl)
            obtain ⟨w2, hw2, f2⟩ := drewFr wr
            change wpList _ _ _ _ _ wr.drew
            rw [hw2]
            have HAW := Lib.hid (HA.out w2 f2)
            have HF2 := Lib.hid f2
            clear HA hw2 f2 c1 c2 c3
            go_wp2_with fail
            refine HAW.out.mono ?_
            rintro e w3 ⟨rfl, f3⟩
            have f03 := HF2.out.trans0 f3
            have HS2 := Lib.hid (hs.out.fr0 f03)
            have HF2' := Lib.hid (hf.out.trans0 f03)
            clear HAW HF2 f3 f03 hs hf HI
            go_wp2_with fail
            go_end0
            exact ⟨rfl, ⟨A1, k, F, p, m, HS2.out, fun _ => ⟨HAK.out.1, HNZ.out, HS2.out.all⟩⟩, HF2'.out⟩

set_option maxRecDepth 100000 in
set_option maxHeartbeats 1000000 in
theorem drop_any (g h : Nat) (k : Int) (l : List Pr) (w : World) (s : StIs w g h l) :
    Calls Try.prog 12 #[.pointer (some ⟨g, 0, none⟩), .int .i64 k] w fun e w' => e = .returned (.int .u64 (cnt l k : Nat)) ∧ Turned w w' g h h (lwout l k) := by
  have hs := s
  obtain ⟨a, b, F, p, m, s, he⟩ := s
  have c2 := s.raw.c2
  have c3 := s.raw.c3
  have HA := Lib.hid (at_any h F k p m (cnt l) w s.cel)
  rw [s.tell k] at HA
  by_cases hz : cnt l k = 0
  · rw [hz] at HA ⊢
    have HT : Hid (∀ W, Fr S0 w W → Turned w W g h h (lwout l k)) := Lib.hid fun W f => by rw [wout_zero s.srt s.pos hz]; exact Turned.same hs f
    clear hs s he hz
    go_enter Try.func12, Try.ntmps12
    go_wp2_with fail
    refine HA.out.mono ?_
    rintro e w1 ⟨rfl, f1⟩
    clear HA
    go_wp2_with fail
    go_ret
    exact ⟨rfl, HT.out _ f1⟩
  · obtain ⟨x, hx, ex⟩ := cnt_in hz
    have hkl := s.lies x hx
    rw [ex] at hkl
    obtain ⟨ws1, ws2⟩ := wout_sums k s.srt s.pos
    rw [if_neg hz] at ws2
    have hlen := s.len
    have htot := s.tot
    have HW := Lib.hid (fun W (c : Cel W h F p m (cnt l)) => wipe_any h F k p m (cnt l) (cnt (lwout l k)) W c hkl.1 hkl.2 fun j => cnt_wout l k j)
    have HS := Lib.hid s
    obtain rfl := s.cel.some (by omega)
    have HGH := Lib.hid (s.apart (by simp))
    obtain ⟨V, hV⟩ : ∃ V, cnt l k = V := ⟨_, rfl⟩
    obtain ⟨N, hN⟩ : ∃ N, (lwout l k).length = N := ⟨_, rfl⟩
    obtain ⟨N1, hN1⟩ : ∃ N, l.length = N := ⟨_, rfl⟩
    obtain ⟨T, hT⟩ : ∃ T, ltot (lwout l k) = T := ⟨_, rfl⟩
    obtain ⟨T1, hT1⟩ : ∃ T, ltot l = T := ⟨_, rfl⟩
    rw [hV] at HA hz ws1 ⊢
    rw [hN, hN1] at ws2
    rw [hT, hT1] at ws1
    rw [hN1] at hlen
    rw [hT1] at htot
    have HNT := Lib.hid (And.intro hN hT)
    have HRW : Hid (∀ W, Fr S0 w W → Raw W g a b F (some ⟨h, 0, none⟩) m (N1 : Nat) (T1 : Nat)) := Lib.hid fun W f => by
      have := s.raw.fr0 f
      rwa [hN1, hT1] at this
    have eN : (N1 : Int) - 1 = (N : Int) := by omega
    have eT : (T1 : Int) - (V : Int) = (T : Int) := by omega
    have hTm : (T : Int) ≤ 4611686018427387904 := by omega
    have hv : ((V : Int) == 0) = false := by rw [beq_eq_false_iff_ne]; omega
    clear hs s he hz hx ex hkl ws1 ws2 hV hN hN1 hT hT1 htot
    go_enter Try.func12, Try.ntmps12
    go_wp2_with fail
    refine HA.out.mono ?_
    rintro e w1 ⟨rfl, f1⟩
    have r1 := HRW.out w1 f1
    have d2 := r1.c2
    have d3 := r1.c3
    have HWW := Lib.hid (HW.out w1 (HS.out.cel.fr0 f1))
    have HR1 := Lib.hid r1
    have HF1 := Lib.hid f1
    clear HA c2 c3 f1 r1 HW HRW
    go_wp2_with fail
    refine HWW.out.mono ?_
    rintro e w2 ⟨rfl, k2, f2⟩
    have r2 := HR1.out.fr f2 fun e => HGH.out e.symm
    have c4 := r2.c4
    have c5 := r2.c5
    have z4 := r2.fz 4
    have z5 := r2.fz 5
    have f3 : Fr (· = g) w2 ((w2.setCell ⟨g, 4, none⟩ (.int .i64 (N : Int))).setCell ⟨g, 5, none⟩ (.int .u64 (T : Int))) := (Fr.setCell (· = g) _ _ _ rfl).trans (Fr.setCell (· = g) _ _ _ rfl) fun _ _ h => h
    have s3 : Sto ((w2.setCell ⟨g, 4, none⟩ (.int .i64 (N : Int))).setCell ⟨g, 5, none⟩ (.int .u64 (T : Int))) g h a b F (some ⟨h, 0, none⟩) m (lwout l k) :=
      ⟨by rw [HNT.out.1, HNT.out.2]; exact (r2.set4 N).set5 T, k2.fr f3 fun _ => HGH.out, fun _ => HGH.out, wout_srt HS.out.srt, wout_pos HS.out.pos, by rw [HNT.out.2]; omega,
        fun x hx => HS.out.lies x (wout_mem.1 hx).1, fun x hx => HS.out.all x (wout_mem.1 hx).1, HS.out.lo, HS.out.hi, HS.out.ab, HS.out.win⟩
    have HSH := Lib.hid (shrink_any g h a b F _ m (lwout l k) _ s3)
    have HF3 : Hid (Fr (fun x => x = g ∨ x = h) w ((w2.setCell ⟨g, 4, none⟩ (.int .i64 (N : Int))).setCell ⟨g, 5, none⟩ (.int .u64 (T : Int)))) := Lib.hid (((HF1.out.mono (T := fun x => x = g ∨ x = h) fun _ _ h => h.elim).trans f2 fun _ _ h => .inr h).trans f3 fun _ _ h => .inl h)
    clear HWW k2 f2 r2 f3 s3 HR1 d2 d3
    go_wp2_with fail
    refine HSH.out.mono ?_
    rintro e w4 ⟨rfl, s4, f4⟩
    have HEND : Hid (Turned w w4 g h h (lwout l k)) := Lib.hid ⟨s4, .inl rfl, HF3.out.trans f4 fun _ _ h => .inl h⟩
    clear HSH s4 f4
    go_wp2_with fail
    go_ret
    exact ⟨rfl, HEND.out⟩

theorem clear_any (g h : Nat) (l : List Pr) (w : World) (s : StIs w g h l) :
    Calls Try.prog 15 #[.pointer (some ⟨g, 0, none⟩)] w fun e w' => e = .returned (.tuple #[]) ∧ Turned w w' g h h [] := by
  obtain ⟨a, b, F, p, m, s, he⟩ := s
  exact (clear_raw g a b F p m _ _ w s.raw).mono fun _ _ he => ⟨he.1, StIs.zero h he.2.1, .inl rfl, he.2.2.mono fun _ _ h => .inl h⟩
end Go.Proofs.Ytocdjklgfmkbfaa
