/- A key is counted; a window is widened. -/
import Derived.Test.YtocdjklgfmkbfaaDnEach
namespace Go.Proofs.Ytocdjklgfmkbfaa
open Go.RowKit

theorem Sto.put {w w' : World} {g h : Nat} {a b F k : Int} {p : Option Addr} {m n : Nat} {l : List Pr} (s : Sto w g h a b F p m l) (hn : 0 < n) (ht : ltot l + n ≤ 4611686018427387904) (h1 : F ≤ a) (h2 : b < F + (m : Int)) (h3 : a ≤ k) (h4 : k ≤ b)
    (r : Raw w' g a b F p m ((lput l k n).length : Nat) ((ltot l + n : Nat) : Int)) (c : Cel w' h F p m (cnt (lput l k n))) : Sto w' g h a b F p m (lput l k n) :=
  ⟨by rw [tot_put]; exact r, c, s.apart, put_srt s.srt, put_pos s.pos hn, by rw [tot_put]; exact ht,
    fun x hx => by
      rcases put_mem hx with e | hx
      · omega
      · exact s.lies x hx,
    fun x hx => by
      rcases put_mem hx with e | hx
      · omega
      · exact s.all x hx, s.lo, s.hi, s.ab, s.win⟩

set_option maxRecDepth 100000 in
set_option maxHeartbeats 1000000 in
theorem put_any (g h : Nat) (a b F k : Int) (p : Option Addr) (m n : Nat) (l : List Pr) (w : World) (s : Sto w g h a b F p m l) (hn : 0 < n) (ht : ltot l + n ≤ 4611686018427387904) (h1 : F ≤ a) (h2 : b < F + (m : Int)) (h3 : a ≤ k) (h4 : k ≤ b) :
    Calls Try.prog 23 #[.pointer (some ⟨g, 0, none⟩), .int .i64 k, .int .u64 (n : Nat)] w fun e w' => e = .returned (.tuple #[]) ∧ Sto w' g h a b F p m (lput l k n) ∧ Fr (fun x => x = g ∨ x = h) w w' := by
  have hlen := s.len
  have HP := Lib.hid (fun W => s.put (w' := W) hn ht h1 h2 h3 h4)
  have HL := len_put k n s.srt s.pos
  have HA := Lib.hid (at_any h F k p m (cnt l) w s.cel)
  rw [s.tell k] at HA
  have hc := cnt_tot l k
  have HD := Lib.hid (fun W (c : Cel W h F p m (cnt l)) => cadd_any h F k n p m (cnt l) (cnt (lput l k n)) W c (by omega) (by omega) (by omega) fun j => cnt_put k n j s.srt)
  obtain rfl := s.cel.some (by omega)
  have hgh : h ≠ g := s.apart (by simp)
  have HC := Lib.hid s.cel
  have HR := Lib.hid s.raw
  have c2 := s.raw.c2
  have c3 := s.raw.c3
  obtain ⟨N, hN⟩ : ∃ N, l.length = N := ⟨_, rfl⟩
  obtain ⟨T, hT⟩ : ∃ T, ltot l = T := ⟨_, rfl⟩
  rw [hN] at HL hlen HR
  rw [hT] at ht HP HR
  have HGH := Lib.hid hgh
  obtain ⟨U, hU⟩ : ∃ U, T + n = U := ⟨_, rfl⟩
  rw [hU] at HP
  have eU : (T : Int) + (n : Int) = (U : Int) := by omega
  have hUm : (U : Int) ≤ 4611686018427387904 := by omega
  clear s hN hT hU hgh hc hn ht h1 h2 h3 h4
  by_cases hz : cnt l k = 0
  · rw [if_pos hz] at HL
    rw [hz] at HA
    rw [HL] at HP
    clear HL hz
    go_enter Try.func23, Try.ntmps23
    go_wp2_with fail
    refine HA.out.mono ?_
    rintro e w1 ⟨rfl, f1⟩
    have r1 := HR.out.fr0 f1
    have HR1 := Lib.hid (r1.set4 ((N + 1 : Nat) : Int))
    have d2 := r1.c2
    have d3 := r1.c3
    have d4 := r1.c4
    have z4 := r1.fz 4
    have HC1 := Lib.hid ((HC.out.fr0 f1).fr (Fr.setCell (· = g) w1 ⟨g, 4, none⟩ (.int .i64 ((N + 1 : Nat) : Int)) rfl) fun _ => HGH.out)
    have HF1 := Lib.hid ((f1.mono (T := (· = g)) fun _ _ h => h.elim).trans (Fr.setCell (· = g) w1 ⟨g, 4, none⟩ (.int .i64 ((N + 1 : Nat) : Int)) rfl) fun _ _ h => h)
    have eN : (N : Int) + 1 = ((N + 1 : Nat) : Int) := by omega
    clear c2 c3 f1 r1 HA
    obtain ⟨N1, hN1⟩ : ∃ N1, N + 1 = N1 := ⟨_, rfl⟩
    rw [hN1] at HR1 HC1 HF1 HP eN
    go_wp2_with fail
    refine (HD.out _ HC1.out).mono ?_
    rintro e w2 ⟨rfl, hc2, f2⟩
    have r2 := HR1.out.fr f2 (by have := HGH.out; omega)
    have c5 := r2.c5
    have z5 := r2.fz 5
    have HR2 := Lib.hid (r2.set5 (U : Int))
    have HC2 := Lib.hid (hc2.fr (Fr.setCell (· = g) w2 ⟨g, 5, none⟩ (.int .u64 (U : Int)) rfl) fun _ => HGH.out)
    have HF2 : Hid (Fr (fun x => x = g ∨ x = h) w (w2.setCell ⟨g, 5, none⟩ (.int .u64 (U : Int)))) := Lib.hid (((HF1.out.mono (T := fun x => x = g ∨ x = h) fun _ _ h => .inl h).trans f2 fun _ _ h => .inr h).trans (Fr.setCell (· = g) w2 ⟨g, 5, none⟩ (.int .u64 (U : Int)) rfl) fun _ _ h => .inl h)
    clear hc2 f2 r2 HC1 HR1 HF1 HD
    go_wp2_with fail
    go_end0
    exact ⟨rfl, HP.out _ HR2.out HC2.out, HF2.out⟩
  · rw [if_neg hz] at HL
    rw [HL] at HP
    obtain ⟨V, hV⟩ : ∃ V, cnt l k = V := ⟨_, rfl⟩
    rw [hV] at HA hz
    have hv : ((V : Int) == 0) = false := by rw [beq_eq_false_iff_ne]; omega
    clear HL hV hz
    go_enter Try.func23, Try.ntmps23
    go_wp2_with fail
    refine HA.out.mono ?_
    rintro e w1 ⟨rfl, f1⟩
    have r1 := HR.out.fr0 f1
    have HR1 := Lib.hid r1
    have d2 := r1.c2
    have d3 := r1.c3
    have HC1 := Lib.hid (HC.out.fr0 f1)
    have HF1 := Lib.hid (f1.mono (T := (· = g)) fun _ _ h => h.elim)
    clear c2 c3 f1 r1 HA
    go_wp2_with fail
    refine (HD.out _ HC1.out).mono ?_
    rintro e w2 ⟨rfl, hc2, f2⟩
    have r2 := HR1.out.fr f2 (by have := HGH.out; omega)
    have c5 := r2.c5
    have z5 := r2.fz 5
    have HR2 := Lib.hid (r2.set5 (U : Int))
    have HC2 := Lib.hid (hc2.fr (Fr.setCell (· = g) w2 ⟨g, 5, none⟩ (.int .u64 (U : Int)) rfl) fun _ => HGH.out)
    have HF2 : Hid (Fr (fun x => x = g ∨ x = h) w (w2.setCell ⟨g, 5, none⟩ (.int .u64 (U : Int)))) := Lib.hid (((HF1.out.mono (T := fun x => x = g ∨ x = h) fun _ _ h => .inl h).trans f2 fun _ _ h => .inr h).trans (Fr.setCell (· = g) w2 ⟨g, 5, none⟩ (.int .u64 (U : Int)) rfl) fun _ _ h => .inl h)
    clear hc2 f2 r2 HC1 HR1 HF1 HD
    go_wp2_with fail
    go_end0
    exact ⟨rfl, HP.out _ HR2.out HC2.out, HF2.out⟩
end Go.Proofs.Ytocdjklgfmkbfaa
