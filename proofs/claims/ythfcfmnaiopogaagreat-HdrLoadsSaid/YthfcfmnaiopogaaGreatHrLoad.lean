/- The landed histograms: Load. -/
import Derived.Test.YthfcfmnaiopogaaGreatHrReal
import Derived.Test.YthfcfmnaiopogaaGreatHrAlive
namespace Go.Proofs.YthfcfmnaiopogaaGreat
open Go.RowKit Go.ChangeMaps

/-- how pairs are recorded, one behind the other -/
def Chain (S : Nat → Hm) (l : List Pr) : Prop := ∀ i, (h : i < l.length) → ∃ K : Nat, l[i].1 = K ∧ K < 9223372036854775808 ∧ ibk (S i).m K ≤ 63 - ((S i).u + (S i).m) ∧ (S i).check (vof (S i).u (S i).m K : Nat) l[i].2 = 0 ∧ S (i + 1) = (S i).record (vof (S i).u (S i).m K : Nat) l[i].2
theorem box2b (w : World) (a b : Value) (t : TypeId) : (w.alloc (.cells #[a, b] t)).cell? ⟨w.heap.size, 0, none⟩ = some a ∧ (w.alloc (.cells #[a, b] t)).cell? ⟨w.heap.size, 1, none⟩ = some b := by
  have hb0 := heap_alloc_new w (.cells #[a, b] t)
  exact ⟨by rw [World.cell?, hb0]; rfl, by rw [World.cell?, hb0]; rfl⟩
section
variable (L H D : Nat) (gr : Bool) (w : World) (h1 : 1 ≤ D) (h5 : D ≤ 5) (h0 : 0 < L) (hh : 2 * L ≤ H) (hb : H < 9223372036854775808) (hs : unt L + mag D ≤ 62)
include h1 h5 h0 hh hb hs
set_option maxRecDepth 100000 in
set_option maxHeartbeats 2000000 in
theorem xload_any (p : Option Addr) (n c : Nat) (l : List Pr) (hl : PrI w p l) (hn : l.length = n) (hsm : n ≤ 100000) (htb : Tb l) (S : Nat → Hm) (hS0 : S 0 = Hm.new L H D gr) (hS : Chain S l) (bk : Int) :
    Calls Tryz.prog 35 #[.agg #[.int .i64 (L : Nat), .int .i64 (H : Nat), .int .i64 (D : Nat)], .bool gr, .int .i64 bk, .slice p n c] w fun e w' => Fr S0 w w' ∧ ((bk = (S n).b ∧ ∃ g hm, e = .returned (.tuple #[.pointer (some ⟨g, 0, none⟩), .int .i64 0]) ∧ HistIs w' g hm (S n) ∧ w.heap.size ≤ g ∧ w.heap.size ≤ hm) ∨ (bk ≠ (S n).b ∧ e = .returned (.tuple #[.pointer none, .int .i64 1]))) := by
  have HN := Lib.hid (fun W => xnew_yes L H D gr W h1 h5 h0 hh hb hs)
  have HWN := Lib.hid (fun W (f : Fr S0 w W) => new_any p n c l W (hl.fr0 f) hn hsm (fun x hx => by have h1 := cnt_mem htb.srt hx; have h2 := cnt_tot l x.1; have h3 := htb.tot; omega))
  have HTB := Lib.hid htb
  have HL := Lib.hid hl
  have HLN := Lib.hid hn
  have HS := Lib.hid hS
  rw [← hS0] at HN
  have HBOX := Lib.hid (box3a w (.int .i64 (L : Nat)) (.int .i64 (H : Nat)) (.int .i64 (D : Nat)) 30)
  clear h1 h5 h0 hh hb hs hl hn htb hS hS0
  go_enter Tryz.func35, Tryz.ntmps35
  go_wp2_with fail
  refine (HN.out _).mono ?_
  rintro e w1 ⟨g, hm, rfl, s1, z1, z2, f1⟩
  have F1 := Lib.hid ((Fr.alloc S0 w _).trans0 f1)
  have HX1 := Lib.hid s1
  have HZ : Hid (w.heap.size ≤ g ∧ w.heap.size ≤ hm) := Lib.hid (by rw [size_alloc] at z1 z2; omega)
  clear s1 z1 z2 f1 HN HBOX
  go_wp2_with fail
  refine (HWN.out _ F1.out).mono ?_
  rintro e w2 ⟨f2, hres⟩
  obtain ⟨-, gt, rfl, -, -⟩ := hres.resolve_right fun h => h.1 HTB.out
  have F2 := Lib.hid (F1.out.trans0 f2)
  have HX2 := Lib.hid (HX1.out.fr0 f2)
  clear f2 hres HWN HX1
  go_wp2_with fail
  go_loopw [37] (fun z wr => ∃ i : Nat, z = .int .i64 (i : Nat) ∧ i ≤ n ∧ Hid (HistIs wr g hm (S i) ∧ Fr S0 w wr)) (fun z _ => n - (intOf z).toNat)
  case atStart => exact ⟨0, rfl, Nat.zero_le _, Lib.hid ⟨HX2.out, F2.out⟩⟩
  case round =>
    obtain ⟨i, rfl, hin, HK⟩ := hrel
    by_cases hlt : i < n
    · have hil : i < l.length := by rw [HLN.out]; exact hlt
      obtain ⟨K, hK, hK2, hK3, hck, hnx⟩ := HS.out i hil
      obtain ⟨b, o, rfl, k0, k1⟩ := HL.out.at i hil
      rw [hK] at k0
      obtain ⟨Nn, eN⟩ : ∃ N, l[i].2 = N := ⟨_, rfl⟩
      rw [eN] at k1 hck hnx
      have hNb : Nn < 18446744073709551616 := by
        have h1 := cnt_mem HTB.out.srt (List.getElem_mem hil)
        have h2 := cnt_tot l (l[i]).1
        have h3 := HTB.out.tot
        omega
      have k0 := HK.out.2.cell k0 (fun h => h)
      have k1 := HK.out.2.cell k1 (fun h => h)
      have hgd := HK.out.1.good
      have hvl := vof_lt (S i).u (S i).m K hgd.m1 (by have := hgd.s; omega) hK3
      have hp2 := two_pos ((S i).u + ibk (S i).m K)
      have HV := Lib.hid (fun W (f : Fr S0 wr W) => value_yes g ((S i).L : Nat) ((S i).H : Nat) ((S i).D : Nat) (S i).u (S i).m W (HK.out.1.fr0 f).map K hK2 hK3)
      obtain ⟨V, eV⟩ : ∃ V, vof (S i).u (S i).m K = V := ⟨_, rfl⟩
      simp only [eV] at HV hck hnx hvl
      have HRE := Lib.hid (fun W (f : Fr S0 wr W) => xrecord_any g hm (S i) W (HK.out.1.fr0 f) (V : Nat) Nn (by omega) (by omega) hNb)
      rw [hck] at HRE
      have HNX := Lib.hid hnx
      have hin2 : (i : Int) < (n : Int) := by omega
      have e3 : decide (i < n) = true := decide_eq_true hlt
      have HB2 := Lib.hid (box2b wr (.int .i64 (K : Nat)) (.int .u64 (Nn : Nat)) 79)
      clear hil hK hck hnx eN hgd hvl hp2 eV hNb
      go_wp2_with fail
      obtain ⟨y0, y1⟩ := HB2.out
      go_upto_region 11 with fail
      go_region_held3 (fun w' => w'.cell? ⟨wr.heap.size, 0, none⟩ = some (.int .i64 (K : Nat)) ∧ w'.cell? ⟨wr.heap.size, 1, none⟩ = some (.int .u64 (Nn : Nat)))
        (first | (go_split_ands; exact ⟨by assumption, by assumption⟩) | exact ⟨y0, y1⟩ | (go_split_ands; exact ⟨f9.cell (by assumption) (fun h => h), f9.cell (by assumption) (fun h => h)⟩))
        (first | (go_at_call 75; ((with_reducible refine (HV.out _ ((Fr.alloc S0 wr _).trans0 (Fr.drew S0 _))).mono ?_); rintro _ w3 ⟨rfl, f9⟩; have F3 := Lib.hid (((Fr.alloc S0 wr _).trans0 (Fr.drew S0 _)).trans0 f9); have y1n := f9.cell (show (World.drew _).cell? ⟨wr.heap.size, 1, none⟩ = _ from y1) (fun h => h))))
      all_goals
        clear y0 y1
        go_wp2_with fail
        refine (HRE.out _ F3.out).mono ?_
        rintro e w4 ⟨rfl, s4, f4⟩
        rw [← HNX.out] at s4
        have HK4 : Hid (HistIs w4 g hm (S (i + 1)) ∧ Fr S0 w w4) := Lib.hid ⟨s4, (HK.out.2.trans0 F3.out).trans f4 fun j hj e => by
          have h1 := HZ.out
          rcases e with e | e <;> omega⟩
        clear s4 f4
        go_wp2_with fail
        go_roundw
        case rel => exact ⟨i + 1, by first | rfl | go_num, by omega, HK4⟩
        case measure => simp [intOf] <;> omega
    · obtain rfl : i = n := by omega
      have c6 := HK.out.1.c6
      obtain ⟨B, eB⟩ : ∃ B, (S i).b = B := ⟨_, rfl⟩
      have HB := Lib.hid eB
      rw [eB] at c6
      clear eB
      by_cases hbk : (B : Int) = bk
      · have e1 : ((B : Int) == bk) = true := by rw [hbk]; simp
        go_wp2_with fail
        go_ret2
        exact ⟨HK.out.2, .inl ⟨by rw [HB.out]; exact hbk.symm, g, hm, rfl, HK.out.1, HZ.out⟩⟩
      · have e1 : ((B : Int) == bk) = false := by rw [beq_eq_false_iff_ne]; exact hbk
        go_wp2_with fail
        go_ret2
        exact ⟨HK.out.2, .inr ⟨by rw [HB.out]; exact fun h => hbk h.symm, rfl⟩⟩
set_option maxRecDepth 100000 in
set_option maxHeartbeats 2000000 in
/-- a pair that isn't taken -/
theorem xload_no (p : Option Addr) (c : Nat) (k : Int) (hl : PrI w p [(k, 1)]) (bk : Int)
    (hv : (∀ g W, MapIs W g (L : Nat) (H : Nat) (D : Nat) (unt L) (mag D) → Calls Tryz.prog 75 #[.pointer (some ⟨g, 0, none⟩), .int .i64 k] W fun e w' => e = .returned (.tuple #[.int .i64 0, .int .i64 5]) ∧ Fr S0 W w') ∨
      ∃ K : Nat, k = K ∧ K < 9223372036854775808 ∧ ibk (mag D) K ≤ 63 - (unt L + mag D) ∧ (Hm.new L H D gr).check (vof (unt L) (mag D) K : Nat) 1 ≠ 0) :
    Calls Tryz.prog 35 #[.agg #[.int .i64 (L : Nat), .int .i64 (H : Nat), .int .i64 (D : Nat)], .bool gr, .int .i64 bk, .slice p 1 c] w fun e w' => e = .returned (.tuple #[.pointer none, .int .i64 1]) ∧ Fr S0 w w' := by
  have HN := Lib.hid (fun W => xnew_yes L H D gr W h1 h5 h0 hh hb hs)
  have htb : Tb [(k, 1)] := ⟨List.pairwise_singleton _ _, fun x hx => by rw [List.mem_singleton.1 hx]; exact Nat.one_pos, by simp [ltot]⟩
  have HWN := Lib.hid (fun W (f : Fr S0 w W) => new_any p 1 c [(k, 1)] W (hl.fr0 f) rfl (by decide) (fun x hx => by rw [List.mem_singleton.1 hx]; simp))
  have HTB := Lib.hid htb
  have HL := Lib.hid hl
  have HV := Lib.hid hv
  have HBOX := Lib.hid (box3a w (.int .i64 (L : Nat)) (.int .i64 (H : Nat)) (.int .i64 (D : Nat)) 30)
  clear h1 h5 h0 hh hb hs hl htb hv
  go_enter Tryz.func35, Tryz.ntmps35
  go_wp2_with fail
  refine (HN.out _).mono ?_
  rintro e w1 ⟨g, hm, rfl, s1, z1, z2, f1⟩
  have F1 := Lib.hid ((Fr.alloc S0 w _).trans0 f1)
  have HX1 := Lib.hid s1
  have HZ : Hid (w.heap.size ≤ g ∧ w.heap.size ≤ hm) := Lib.hid (by rw [size_alloc] at z1 z2; omega)
  clear s1 z1 z2 f1 HN HBOX
  go_wp2_with fail
  refine (HWN.out _ F1.out).mono ?_
  rintro e w2 ⟨f2, hres⟩
  obtain ⟨-, gt, rfl, -, -⟩ := hres.resolve_right fun h => h.1 HTB.out
  have F2 := Lib.hid (F1.out.trans0 f2)
  have HX2 := Lib.hid (HX1.out.fr0 f2)
  clear f2 hres HWN HX1
  go_wp2_with fail
  go_loopw [37] (fun z wr => z = .int .i64 0 ∧ Hid (HistIs wr g hm (Hm.new L H D gr) ∧ Fr S0 w wr)) (fun _ _ => 0)
  case atStart => exact ⟨rfl, Lib.hid ⟨HX2.out, F2.out⟩⟩
  case round =>
    obtain ⟨rfl, HK⟩ := hrel
    obtain ⟨b, o, rfl, k0, k1⟩ := HL.out.at 0 (by simp)
    have k0 := HK.out.2.cell (show w.cell? ⟨b, o + 0 * 2, none⟩ = some (.int .i64 k) from k0) (fun h => h)
    have k1 := HK.out.2.cell (show w.cell? ⟨b, o + 0 * 2 + 1, none⟩ = some (.int .u64 1) from k1) (fun h => h)
    rw [Nat.zero_mul, Nat.add_zero] at k0 k1
    have HB2 := Lib.hid (box2b wr (.int .i64 k) (.int .u64 1) 79)
    rcases HV.out with hv | ⟨K, rfl, hK2, hK3, hck⟩
    · have HVV := Lib.hid (fun W (f : Fr S0 wr W) => hv g W (HK.out.1.fr0 f).map)
      clear hv
      go_wp2_with fail
      obtain ⟨y0, y1⟩ := HB2.out
      go_upto_region 11 with fail
      go_region_held3 (fun w' => w'.cell? ⟨wr.heap.size, 0, none⟩ = some (.int .i64 k) ∧ w'.cell? ⟨wr.heap.size, 1, none⟩ = some (.int .u64 1))
        (first | (go_split_ands; exact ⟨by assumption, by assumption⟩) | exact ⟨y0, y1⟩ | (go_split_ands; exact ⟨f9.cell (by assumption) (fun h => h), f9.cell (by assumption) (fun h => h)⟩))
        (first | (go_at_call 75; ((with_reducible refine (HVV.out _ ((Fr.alloc S0 wr _).trans0 (Fr.drew S0 _))).mono ?_); rintro _ w3 ⟨rfl, f9⟩; have F3 := Lib.hid (((Fr.alloc S0 wr _).trans0 (Fr.drew S0 _)).trans0 f9))))
      all_goals
        clear y0 y1
        go_wp2_with fail
        go_ret2
        exact ⟨rfl, HK.out.2.trans0 F3.out⟩
    · have hgd := HK.out.1.good
      have hvl := vof_lt (unt L) (mag D) K hgd.m1 (by have := hgd.s; exact Nat.le_trans this (by decide)) hK3
      have hp2 := two_pos (unt L + ibk (mag D) K)
      have HVV := Lib.hid (fun W (f : Fr S0 wr W) => value_yes g (L : Nat) (H : Nat) (D : Nat) (unt L) (mag D) W (HK.out.1.fr0 f).map K hK2 hK3)
      obtain ⟨V, eV⟩ : ∃ V, vof (unt L) (mag D) K = V := ⟨_, rfl⟩
      simp only [eV] at HVV hck hvl
      have HRE := Lib.hid (fun W (f : Fr S0 wr W) => xrecord_any g hm (Hm.new L H D gr) W (HK.out.1.fr0 f) (V : Nat) 1 (by omega) (by omega) (by decide))
      obtain ⟨C, eC⟩ : ∃ C, (Hm.new L H D gr).check (V : Nat) 1 = C := ⟨_, rfl⟩
      simp only [eC] at HRE
      rw [eC] at hck
      have e1 : ((C : Int) == 0) = false := by rw [beq_eq_false_iff_ne]; omega
      simp only [show ((1 : Nat) : Int) = 1 from rfl] at HRE
      clear hgd hvl hp2 eV eC
      go_wp2_with fail
      obtain ⟨y0, y1⟩ := HB2.out
      go_upto_region 11 with fail
      go_region_held3 (fun w' => w'.cell? ⟨wr.heap.size, 0, none⟩ = some (.int .i64 (K : Nat)) ∧ w'.cell? ⟨wr.heap.size, 1, none⟩ = some (.int .u64 1))
        (first | (go_split_ands; exact ⟨by assumption, by assumption⟩) | exact ⟨y0, y1⟩ | (go_split_ands; exact ⟨f9.cell (by assumption) (fun h => h), f9.cell (by assumption) (fun h => h)⟩))
        (first | (go_at_call 75; ((with_reducible refine (HVV.out _ ((Fr.alloc S0 wr _).trans0 (Fr.drew S0 _))).mono ?_); rintro _ w3 ⟨rfl, f9⟩; have F3 := Lib.hid (((Fr.alloc S0 wr _).trans0 (Fr.drew S0 _)).trans0 f9); have y1n := f9.cell (show (World.drew _).cell? ⟨wr.heap.size, 1, none⟩ = _ from y1) (fun h => h))))
      all_goals
        clear y0 y1
        go_wp2_with fail
        refine (HRE.out _ F3.out).mono ?_
        rintro e w4 ⟨rfl, -, f4⟩
        have F4 := Lib.hid ((HK.out.2.trans0 F3.out).trans f4 fun j hj e => by
          have h1 := HZ.out
          rcases e with e | e <;> omega)
        clear f4
        go_wp2_with fail
        go_ret2
        exact ⟨rfl, F4.out⟩
end
end Go.Proofs.YthfcfmnaiopogaaGreat
