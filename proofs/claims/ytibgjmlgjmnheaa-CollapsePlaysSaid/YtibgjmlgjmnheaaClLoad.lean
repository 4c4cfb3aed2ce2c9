/- Load of what a store tells. -/
import Derived.Test.YtibgjmlgjmnheaaClTake
import Derived.Test.YtibgjmlgjmnheaaSpOf
namespace Go.Proofs.Ytibgjmlgjmnheaa
open Go.RowKit

set_option maxRecDepth 100000 in
set_option maxHeartbeats 1000000 in
theorem rising_yes (p : Option Addr) (n c : Nat) (l : List Pr) (w : World) (h : PrI w p l) (hn : l.length = n) (hs : Srt l) :
    Calls Try.prog 42 #[.slice p n c] w fun e w' => e = .returned (.bool true) ∧ Fr S0 w w' := by
  have H := Lib.hid h
  have HN := Lib.hid hn
  have HS := Lib.hid hs
  have hlen := h.len
  rw [hn] at hlen
  unfold maxLen at hlen
  clear h hn hs
  go_enter Try.func42, Try.ntmps42
  go_wp2_with fail
  go_loopw [3] (fun x wr => ∃ j : Nat, 1 ≤ j ∧ j ≤ n + 1 ∧ x = .int .i64 j ∧ Hid (Fr S0 w wr)) (fun x _ => n + 1 - (intOf x).toNat)
  case atStart => exact ⟨1, by omega, by omega, rfl, Lib.hid (Fr.refl _ _)⟩
  case round =>
    obtain ⟨j, hj1, hjn1, rfl, hfr⟩ := hrel
    by_cases hjn : (j : Int) < (n : Int)
    · obtain ⟨i, hi⟩ : ∃ i, j - 1 = i := ⟨_, rfl⟩
      have hjl : j < l.length := by rw [HN.out]; omega
      have hil : i < l.length := by omega
      obtain ⟨b, o, hp, d0, -⟩ := (H.out.fr0 hfr.out).at j hjl
      obtain ⟨b', o', hp', e0, -⟩ := (H.out.fr0 hfr.out).at i hil
      rw [hp] at hp'
      simp only [Option.some.injEq, Addr.mk.injEq] at hp'
      obtain ⟨rfl, rfl, -⟩ := hp'
      have hlt := srt_lt HS.out hil hjl (by omega)
      obtain ⟨K, hK⟩ : ∃ K, l[i].1 = K := ⟨_, rfl⟩
      obtain ⟨J, hJ⟩ : ∃ J, l[j].1 = J := ⟨_, rfl⟩
      rw [hK] at e0 hlt
      rw [hJ] at d0 hlt
      have esub : (j : Int) - 1 = (i : Int) := by omega
      have esub2 : IntKind.i64.wrap ((j : Int) - 1) = (i : Int) := by rw [esub]; simp [IntKind.wrap, IntKind.bits, IntKind.signed]; omega
      have hin : (i : Int) < (n : Int) := by omega
      have hd : decide (J ≤ K) = false := decide_eq_false (by omega)
      subst hp
      clear hK hJ hi hjl hil
      go_wp2_with fail
      go_quiet (fail)
      go_wp2_with fail
      go_roundw
      case rel => exact ⟨j + 1, by omega, by omega, by go_num, Lib.hid (hfr.out.trans0 (Fr.drewN _ _ _))⟩
      case measure => simp [intOf]; omega
    · go_wp2_with fail
      go_ret
      exact ⟨rfl, hfr.out⟩
set_option maxRecDepth 100000 in
set_option maxHeartbeats 1000000 in
theorem hides_yes (k : Int) (n f : Nat) (w : World) (h1 : f < n) (h2 : -1048576 < k) :
    Calls Try.prog 44 #[.agg #[.int .i64 k, .int .u64 (n : Nat)], .int .u64 (f : Nat)] w fun e w' => e = .returned (.bool true) ∧ Fr S0 w w' := by
  have d1 : decide (f < n) = true := decide_eq_true h1
  have d2 : decide ((-1048576 : Int) < k) = true := decide_eq_true h2
  have F1 := Lib.hid (Fr.alloc S0 w (.cells #[.int .i64 k, .int .u64 (n : Nat)] 53))
  go_enter Try.func44, Try.ntmps44
  go_wp2_with fail
  go_ret
  exact ⟨rfl, F1.out⟩

theorem ofE_good : ∀ (r P : List Pr), ltot P + ltot r ≤ 4611686018427387904 → (∀ x ∈ r, 0 < x.2 ∧ -1048576 ≤ x.1 ∧ x.1 ≤ 1048576) → O.ofE P r = 0
  | [], _, _, _ => rfl
  | x :: r, P, h, hx => by
    have h1 := hx x List.mem_cons_self
    rw [ltot] at h
    have e : addE0 P x.1 x.2 = 0 := by unfold addE0; rw [if_neg (by omega), if_neg (by omega), if_neg (by omega)]
    rw [O.ofE, if_pos e]
    exact ofE_good r _ (by rw [tot_put]; omega) fun y hy => hx y (List.mem_cons_of_mem _ hy)
/-- a list of its own becomes a store's -/
theorem Raw.put {X : Sx} {w : World} {g g2 h2 : Nat} {p q : Option Addr} {n c T N d : Nat} {L : List Pr} (r : Raw X w g p n c T) (s : O.Sto w g2 h2 q N d L) (hne : h2 ≠ g) :
    StIs X ((w.setCell ⟨g, 1, none⟩ (.slice q N d)).setCell ⟨g, 2, none⟩ (.int .u64 (ltot L : Nat))) g h2 L := by
  have f : Fr (· = g) w ((w.setCell ⟨g, 1, none⟩ (.slice q N d)).setCell ⟨g, 2, none⟩ (.int .u64 (ltot L : Nat))) := (Fr.setCell (· = g) _ _ _ rfl).trans (Fr.setCell (· = g) _ _ _ rfl) fun _ _ h => h
  refine ⟨q, N, d, (r.set0 q N d).set1 _, f.owns s.own fun b hb e => ?_, s.row, fun _ => hne, s.ok⟩
  cases q with
  | none => cases hb
  | some x => exact hne ((s.row x rfl).symm.trans ((Option.some.inj hb).trans e))
section
variable (p : Option Addr) (n c m : Nat) (a : List Pr) (w : World)
set_option maxRecDepth 100000 in
set_option maxHeartbeats 4000000 in
theorem load_any (ok : Good a) (m2 : 2 ≤ m) (m3 : m ≤ 4096) (hp : PrI w p (cutN a m)) (hn : (cutN a m).length = n) (hc : p = none → c = 0) :
    Calls Try.prog 24 #[.int .i64 (m : Nat), .slice p n c, .int .u64 (cutA a m : Nat)] w fun e w' => ∃ g h, e = .returned (.tuple #[.pointer (some ⟨g, 0, none⟩), .int .i64 0]) ∧ NewC w w' g h m a := by
  have hg : Good (cutN a m) := ok.cut (by omega)
  have hnm : n ≤ m := by rw [← hn]; exact cut_len ok.srt ok.pos (by omega)
  have HNEW := Lib.hid (new_yes m w m2 m3)
  have HRIS := Lib.hid (fun W (f : Fr S0 w W) => rising_yes p n c (cutN a m) W (hp.fr0 f) hn hg.srt)
  have HOF : Hid (∀ W, Fr S0 w W → Calls Try.prog 43 #[.slice p n c] W fun e w' => Fr S0 W w' ∧ ∃ g, e = .returned (.tuple #[.pointer (some ⟨g, 0, none⟩), .int .i64 0]) ∧ O.NewL W w' g (cutN a m)) := Lib.hid fun W f =>
    (O.of_any p n c (cutN a m) W (hp.fr0 f) hn (by omega) hc (fun x hx => by
      have h1 := cnt_mem hg.srt hx
      have h2 := cnt_tot (cutN a m) x.1
      have := hg.tot
      omega)).mono fun e w' he => by
      have e0 : O.ofE [] (cutN a m) = 0 := ofE_good _ _ (by have := hg.tot; simp only [ltot]; omega) fun x hx => ⟨hg.pos x hx, hg.all x hx⟩
      rcases he with ⟨f1, ⟨h1, -⟩ | ⟨-, g, h2, h3⟩⟩
      · exact absurd e0 h1
      · rw [putAll_of_nil hg.srt hg.pos] at h3
        exact ⟨f1, g, h2, h3⟩
  have HOK := Lib.hid ok
  have HP := Lib.hid hp
  have HM := Lib.hid (And.intro m2 m3)
  have HN := Lib.hid hn
  have hd1 : decide (m < n) = false := decide_eq_false (by omega)
  have hd2 : decide ((m : Int) < (n : Int)) = false := decide_eq_false (by omega)
  have hcm : (m : Int) ≤ 4096 := by omega
  by_cases hF : cutA a m = 0
  · have HF := Lib.hid hF
    rw [hF]
    clear ok hp hn hg hc hF m2 m3
    go_enter Try.func24, Try.ntmps24
    go_wp2_with fail
    refine HNEW.out.mono ?_
    rintro e w1 ⟨g, rfl, hnew⟩
    have HW1 := Lib.hid hnew
    have HR1 := Lib.hid (HRIS.out w1 hnew.fr)
    clear hnew HNEW HRIS
    go_wp2_with fail
    refine HR1.out.mono ?_
    rintro e w2 ⟨rfl, f2⟩
    have HF2 := Lib.hid f2
    have HO2 := Lib.hid (HOF.out w2 (HW1.out.fr.trans0 f2))
    clear f2 HR1 HOF
    go_wp2_with fail
    refine HO2.out.mono ?_
    rintro e w3 ⟨f3, g2, rfl, h2, ⟨q, N, d, so⟩, hg0, hh0, hhl⟩
    obtain ⟨k, ck⟩ := HW1.out.is
    obtain ⟨p0, n0, c0, T0, r1⟩ := ck.is.cells
    have r3 := (r1.fr0 HF2.out).fr0 f3
    have hlt : g < w1.heap.size := ck.is.lt
    have hgs := HF2.out.size
    have hgw := HW1.out.g0
    have hst := r3.put so (by omega)
    have x1 := r3.c0
    have z1 := r3.fz 1
    have x2 := (r3.set0 q N d).c1
    have z2 := (r3.set0 q N d).fz 2
    have y0 := so.raw.c0
    have y1 := so.raw.c1
    have hfs := f3.size
    have hws := HW1.out.fr.size
    have HEND : Hid (NewC w ((w3.setCell ⟨g, 1, none⟩ (.slice q N d)).setCell ⟨g, 2, none⟩ (.int .u64 (ltot (cutN a m) : Nat))) g h2 m a) := Lib.hid (by
      have ff : Fr (· = g) w3 ((w3.setCell ⟨g, 1, none⟩ (.slice q N d)).setCell ⟨g, 2, none⟩ (.int .u64 (ltot (cutN a m) : Nat))) := (Fr.setCell (· = g) _ _ _ rfl).trans (Fr.setCell (· = g) _ _ _ rfl) fun _ _ h => h
      refine ⟨⟨k, ?_, fun h => absurd HF.out h, HOK.out, HM.out.1, HM.out.2⟩, hgw, by omega, Nat.lt_of_lt_of_le hhl ff.size, ((HW1.out.fr.trans0 HF2.out).trans0 f3).trans ff fun x hx e => (by omega)⟩
      rw [(cut_nil m).2] at hst
      rw [HF.out]
      exact hst)
    obtain ⟨U, hU⟩ : ∃ U, ltot (cutN a m) = U := ⟨_, rfl⟩
    rw [hU] at HEND y1
    clear so f3 ck r1 r3 hst HO2 HW1 HF2 hlt hgs hgw hg0 hh0 hhl hfs hws hU
    go_wp2_with fail
    go_ret2
    exact ⟨g, h2, rfl, HEND.out⟩
  · obtain ⟨hlen, ⟨z, hz, hzk⟩, ⟨tk, tn⟩, t, hcons, htk, htn⟩ := hk_above ok.srt ok.pos (by omega) hF
    obtain rfl : m = n := hlen.symm.trans hn
    have hl0 : 0 < (cutN a m).length := by rw [hlen]; omega
    have e0 : (cutN a m)[0] = (tk, tn) := by
      have : (cutN a m)[0]? = some (tk, tn) := by rw [hcons]; rfl
      exact Option.some.inj ((List.getElem?_eq_getElem hl0).symm.trans this)
    simp only at htk htn
    have hkm : -1048576 < tk := by have := (ok.all z hz).1; omega
    obtain ⟨F, hFF⟩ : ∃ F, cutA a m = F := ⟨_, rfl⟩
    have HF := Lib.hid hFF
    rw [hFF] at hF htn ⊢
    have HK : Hid (tk = hk (cutN a m)) := Lib.hid htk
    have HHI := Lib.hid (fun W => hides_yes tk tn F W htn hkm)
    obtain ⟨pb, po, rfl, d0, d1⟩ := hp.at 0 hl0
    rw [e0] at d0 d1
    simp only [Nat.zero_mul, Nat.add_zero] at d0 d1
    have hF0 : ((F : Int) == 0) = false := by rw [beq_eq_false_iff_ne]; omega
    have hm0 : (0 : Int) < (m : Int) := by omega
    have hm1 : 0 < m := by omega
    clear ok hp hn hg hc hF m2 m3 hlen hz hzk hcons htk htn hl0 e0 hkm hFF t z
    go_enter Try.func24, Try.ntmps24
    go_wp2_with fail
    refine HNEW.out.mono ?_
    rintro e w1 ⟨g, rfl, hnew⟩
    have HW1 := Lib.hid hnew
    have HR1 := Lib.hid (HRIS.out w1 hnew.fr)
    clear hnew HNEW HRIS
    go_wp2_with fail
    refine HR1.out.mono ?_
    rintro e w2 ⟨rfl, f2⟩
    have HF2 := Lib.hid f2
    have HO2 := Lib.hid (HOF.out w2 (HW1.out.fr.trans0 f2))
    clear f2 HR1 HOF
    go_wp2_with fail
    refine HO2.out.mono ?_
    rintro e w3 ⟨f3, g2, rfl, h2, ⟨q, N, d, so⟩, hg0, hh0, hhl⟩
    obtain ⟨k, ck⟩ := HW1.out.is
    obtain ⟨p0, n0, c0, T0, r1⟩ := ck.is.cells
    have r3 := (r1.fr0 HF2.out).fr0 f3
    have hlt : g < w1.heap.size := ck.is.lt
    have hgs := HF2.out.size
    have hgw := HW1.out.g0
    have hst := r3.put so (by omega)
    rw [(cut_nil m).2] at hst
    have x1 := r3.c0
    have z1 := r3.fz 1
    have x2 := (r3.set0 q N d).c1
    have z2 := (r3.set0 q N d).fz 2
    have y0 := so.raw.c0
    have y1 := so.raw.c1
    have hfs := f3.size
    have hws := HW1.out.fr.size
    have ff : Fr (· = g) w3 ((w3.setCell ⟨g, 1, none⟩ (.slice q N d)).setCell ⟨g, 2, none⟩ (.int .u64 (ltot (cutN a m) : Nat))) := (Fr.setCell (· = g) _ _ _ rfl).trans (Fr.setCell (· = g) _ _ _ rfl) fun _ _ h => h
    have hff : Fr S0 w ((w3.setCell ⟨g, 1, none⟩ (.slice q N d)).setCell ⟨g, 2, none⟩ (.int .u64 (ltot (cutN a m) : Nat))) := ((HW1.out.fr.trans0 HF2.out).trans0 f3).trans ff fun x hx e => (by omega)
    have hhl2 := Nat.lt_of_lt_of_le hhl ff.size
    obtain ⟨U, hU⟩ : ∃ U, ltot (cutN a m) = U := ⟨_, rfl⟩
    rw [hU] at hst hff y1 hhl2
    clear ff
    obtain ⟨W4, hW4⟩ : ∃ W4, ((w3.setCell ⟨g, 1, none⟩ (.slice q N d)).setCell ⟨g, 2, none⟩ (.int .u64 (U : Nat))) = W4 := ⟨_, rfl⟩
    rw [hW4] at hst hff hhl2
    have d0 := hff.cell d0 (fun h => h)
    have d1 := hff.cell d1 (fun h => h)
    have HST := Lib.hid hst
    have HFF := Lib.hid hff
    have HSZ : Hid (w.heap.size ≤ g ∧ w.heap.size ≤ h2 ∧ h2 < W4.heap.size) := Lib.hid ⟨hgw, by omega, hhl2⟩
    clear so f3 ck r1 r3 hst HO2 HW1 HF2 hlt hgs hgw hg0 hh0 hhl hhl2 hfs hws hU hff
    go_wp2_with fail
    refine (HHI.out _).mono ?_
    rintro e w5 ⟨rfl, f5⟩
    have hst5 := HST.out.fr0 f5
    obtain ⟨p5, n5, c5, T5, r5⟩ := hst5.cells
    have d0 := f5.cell d0 (fun h => h)
    have x3 := r5.ck
    have z3 := r5.fz 3
    have x4 := (r5.setk tk).cf
    have z4 := (r5.setk tk).fz 4
    have f6 : Fr (· = g) w5 ((w5.setCell ⟨g, 3, none⟩ (.int .i64 tk)).setCell ⟨g, 4, none⟩ (.int .u64 (F : Int))) := (Fr.setCell (· = g) _ _ _ rfl).trans (Fr.setCell (· = g) _ _ _ rfl) fun _ _ h => h
    have HEND : Hid (NewC w ((w5.setCell ⟨g, 3, none⟩ (.int .i64 tk)).setCell ⟨g, 4, none⟩ (.int .u64 (F : Int))) g h2 m a) := Lib.hid (by
      have e6 := hst5.setkf tk F
      refine ⟨⟨tk, ?_, fun _ => HK.out, HOK.out, HM.out.1, HM.out.2⟩, HSZ.out.1, HSZ.out.2.1, Nat.lt_of_lt_of_le HSZ.out.2.2 (Nat.le_trans f5.size f6.size), (HFF.out.trans0 f5).trans f6 fun x hx e => (by have := HSZ.out.1; omega)⟩
      rw [HF.out]
      exact e6)
    clear hst5 r5 f5 f6 HST HFF HHI d1
    go_wp2_with fail
    go_ret2
    exact ⟨g, h2, rfl, HEND.out⟩
end
end Go.Proofs.Ytibgjmlgjmnheaa
