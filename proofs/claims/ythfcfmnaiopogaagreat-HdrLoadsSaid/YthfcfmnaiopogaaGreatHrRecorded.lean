/- Values that are recorded in both, each with its weight. -/
import Derived.Test.YthfcfmnaiopogaaGreatHrPlays
namespace Go.Proofs.YthfcfmnaiopogaaGreat
open Go.RowKit

/-- a slice of int64s that is read -/
def ZI (w : World) (p : Option Addr) (vs : List Int) : Prop := ∀ i, (h : i < vs.length) → ∃ b o, p = some ⟨b, o, none⟩ ∧ w.cell? ⟨b, o + i, none⟩ = some (.int .i64 vs[i])
theorem ZI.fr0 {w w' : World} {p : Option Addr} {vs : List Int} (h : ZI w p vs) (f : Fr S0 w w') : ZI w' p vs := fun i hi => let ⟨b, o, e, hc⟩ := h i hi; ⟨b, o, e, f.cell hc (fun h => h)⟩
/-- the weight of the i-th value -/
def wt (ns : List Nat) (i : Nat) : Nat := if h : i < ns.length then 1 + ns[i] % 1000 else 1
theorem wt_bd (ns : List Nat) (i : Nat) : 1 ≤ wt ns i ∧ wt ns i ≤ 1000 := by
  unfold wt
  split <;> omega
/-- the histogram behind the first i values -/
def recs (M : Hm) (vs : List Int) (ns : List Nat) : Nat → Hm
  | 0 => M
  | i + 1 => (recs M vs ns i).record (vs.getD i 0) (wt ns i)
theorem recs_len (M : Hm) (vs : List Int) (ns : List Nat) : ∀ i, (recs M vs ns i).l.length ≤ M.l.length + i
  | 0 => Nat.le_refl _
  | i + 1 => by
    have ih := recs_len M vs ns i
    rw [recs]
    unfold Hm.record
    split
    · have := len_put_le (recs M vs ns i).l (idx (recs M vs ns i).u (recs M vs ns i).m (vs.getD i 0).toNat : Nat) (wt ns i)
      simp only [Hm.count]
      omega
    · omega

section
variable {Is : World → Nat → (Nat → Prop) → Hm → Prop}
/-- one value in both -/
theorem rec_two (hd : HdrDoes Is) {w W : World} {gs gw a b xA xB rA rB : Nat} {MA MB : Hm} (q : Quad Is w W gs gw a b xA xB rA rB MA MB MA MB) (v : Int) (n : Nat) (hv : -9223372036854775808 ≤ v) (hv2 : v ≤ 9223372036854775807) (hn : n < 18446744073709551616) (hl : MA.l.length ≤ 90000) :
    (∀ W2, Fr S0 W W2 → Calls Tryz.prog 38 #[.pointer (some ⟨xA, 0, none⟩), .int .i64 v, .int .u64 (n : Nat)] W2 fun e w' => e = .returned (.int .i64 (MA.check v n : Nat)) ∧ Quad Is w w' gs gw a b xA xB rA rB (MA.record v n) MB MA MB) ∧
    (∀ W2, Quad Is w W2 gs gw a b xA xB rA rB (MA.record v n) MB MA MB → Calls Tryz.prog 39 #[.pointer (some ⟨rA, 0, none⟩), .int .i64 v, .int .u64 (n : Nat)] W2 fun e w' => e = .returned (.int .i64 (MA.check v n : Nat)) ∧ Quad Is w w' gs gw a b xA xB rA rB (MA.record v n) MB (MA.record v n) MB) := by
  have ob := hd.reads.ob
  obtain ⟨C, CB, h1, k1, hdis, hturn⟩ := q.codeA ob
  refine ⟨fun W2 f => (hd.record (ob.fr h1 f (fun _ _ h => h)) v n hv hv2 hn hl).mono fun e w' h => ⟨h.1, hturn _ _ (h.2.from f)⟩, fun W2 q2 => ?_⟩
  obtain ⟨p, k, c, p2, k2, c2, s, s2, -, -, ht⟩ := q2.refA ob
  have hsl := s.len
  exact (hrecord_any rA p k c MA W2 s v n hv2 hn (by omega)).mono fun e w' h => ⟨h.1, let ⟨_, _, _, t⟩ := h.2; ht _ _ _ _ _ t⟩
set_option maxRecDepth 100000 in
set_option maxHeartbeats 4000000 in
theorem recorded_any (hn : HdrNews Is) (L H D : Nat) (gr : Bool) (p : Option Addr) (m c : Nat) (vs : List Int) (q : Option Addr) (k c2 : Nat) (ns : List Nat) (w : World) (d1 : 1 ≤ D) (d5 : D ≤ 5) (l0 : 0 < L) (lh : 2 * L ≤ H) (hh : H < 9223372036854775808) (hs : unt L + mag D ≤ 62)
    (hm : vs.length = m) (hz : ZI w p vs) (hvb : ∀ v ∈ vs, -9223372036854775808 ≤ v ∧ v ≤ 9223372036854775807) (hk : ns.length = k) (hq : SlI w .u16 q ns) (hnb : ∀ n ∈ ns, n < 65536) :
    Calls Tryz.prog 18 #[.agg #[.int .i64 (L : Nat), .int .i64 (H : Nat), .int .i64 (D : Nat)], .bool gr, .slice p m c, .slice q k c2] w fun e w' => ∃ gs gw xA xB rA rB, e = .returned (.tuple #[.pointer (some ⟨xA, 0, none⟩), .pointer (some ⟨rA, 0, none⟩)]) ∧ Quad Is (w.alloc (.cells #[.int .i64 (L : Nat), .int .i64 (H : Nat), .int .i64 (D : Nat)] 30)) w' gs gw 0 1 xA xB rA rB (recs (Hm.new L H D gr) vs ns (min m 40)) (Hm.new L H D gr) (recs (Hm.new L H D gr) vs ns (min m 40)) (Hm.new L H D gr) := by
  have HP := Lib.hid (fun W => pair_any hn L H D gr W d1 d5 l0 lh hh hs)
  have HD := Lib.hid hn.does
  have HOB := Lib.hid hn.does.reads.ob
  obtain ⟨N, eN⟩ : ∃ N, Hm.new L H D gr = N := ⟨_, rfl⟩
  have HNL : Hid (N.l.length = 0) := Lib.hid (by rw [← eN]; rfl)
  rw [eN] at HP ⊢
  have HZ := Lib.hid hz
  have HQS := Lib.hid hq
  have HM := Lib.hid hm
  have HK := Lib.hid hk
  have HVB := Lib.hid hvb
  have HNB := Lib.hid hnb
  clear d1 d5 l0 lh hh hs hm hz hvb hk hq hnb eN hn
  go_enter Tryz.func18, Tryz.ntmps18
  go_wp2_with fail
  refine (HP.out _).mono ?_
  rintro e w1 ⟨gs, gw, xA, xB, rA, rB, rfl, hq1⟩
  have HQ := Lib.hid hq1
  have hnil := nil_no gs w1
  clear hq1 HP
  go_wp2_with fail
  clear hnil
  go_loopw [12, 13] (fun z y wr => ∃ i : Nat, z = .int .i64 (i : Int) ∧ i ≤ m ∧ i ≤ 40 ∧ Hid (Quad Is (w.alloc (.cells #[.int .i64 (L : Nat), .int .i64 (H : Nat), .int .i64 (D : Nat)] 30)) wr gs gw 0 1 xA xB rA rB (recs N vs ns i) N (recs N vs ns i) N)) (fun z _ _ => 40 - (intOf z).toNat)
  case atStart => exact ⟨0, rfl, by omega, by omega, HQ⟩
  case round =>
    obtain ⟨i, rfl, him, hi40, hq⟩ := hrel
    by_cases hik : i < m
    · by_cases hi4 : (i : Int) < 40
      · have hil : i < vs.length := by rw [HM.out]; exact hik
        have hfw : Fr S0 w wr := (Fr.alloc S0 w _).trans0 hq.out.fr
        obtain ⟨b, o, rfl, k0⟩ := HZ.out i hil
        have hvi := HVB.out _ (List.getElem_mem hil)
        have hgd : vs.getD i 0 = vs[i] := by simp [hil]
        obtain ⟨v, ev⟩ : ∃ v, vs[i] = v := ⟨_, rfl⟩
        rw [ev] at k0 hvi hgd
        have hll : (recs N vs ns i).l.length ≤ 90000 := by have := recs_len N vs ns i; have := HNL.out; omega
        have hst : recs N vs ns (i + 1) = (recs N vs ns i).record v (wt ns i) := by rw [recs, hgd]
        have hwb := wt_bd ns i
        have HNX : Hid (∀ W, Quad Is (w.alloc (.cells #[.int .i64 (L : Nat), .int .i64 (H : Nat), .int .i64 (D : Nat)] 30)) W gs gw 0 1 xA xB rA rB ((recs N vs ns i).record v (wt ns i)) N ((recs N vs ns i).record v (wt ns i)) N → Quad Is (w.alloc (.cells #[.int .i64 (L : Nat), .int .i64 (H : Nat), .int .i64 (D : Nat)] 30)) W gs gw 0 1 xA xB rA rB (recs N vs ns (i + 1)) N (recs N vs ns (i + 1)) N) := Lib.hid (fun W h => by rw [hst]; exact h)
        have HWV : Hid ((h : i < ns.length) → wt ns i = 1 + ns[i] % 1000) := Lib.hid (fun h => by unfold wt; rw [dif_pos h])
        have HWN : Hid (¬ i < ns.length → wt ns i = 1) := Lib.hid (fun h => by unfold wt; rw [dif_neg h])
        obtain ⟨Y, eY⟩ : ∃ Y, wt ns i = Y := ⟨_, rfl⟩
        rw [eY] at HNX HWV HWN hwb
        have HRT := Lib.hid (rec_two HD.out hq.out v Y hvi.1 hvi.2 (by omega) hll)
        have HCEL := Lib.hid (fun W (f : Fr S0 w W) => f.cell k0 (fun h => h))
        have HSQ := Lib.hid (fun W MA MB NA NB (q : Quad Is (w.alloc (.cells #[.int .i64 (L : Nat), .int .i64 (H : Nat), .int .i64 (D : Nat)] 30)) W gs gw 0 1 xA xB rA rB MA MB NA NB) => And.intro q.cs (And.intro q.cw (HCEL.out W ((Fr.alloc S0 w _).trans0 q.fr))))
        obtain ⟨M, eM⟩ : ∃ M, recs N vs ns i = M := ⟨_, rfl⟩
        have hin : (i : Int) < (m : Int) := by omega
        clear hst hgd hll ev k0 eY hvi
        have W1 : 1 ≤ Y := hwb.1
        have W2 : Y ≤ 1000 := hwb.2
        clear hwb
        by_cases hw : i < k
        · have hil2 : i < ns.length := by rw [HK.out]; exact hw
          obtain ⟨b2, o2, rfl, k2⟩ := SlI.at HQS.out i hil2
          have k3 := hfw.cell k2 (fun h => h)
          have hyv := HWV.out hil2
          have hnb := HNB.out _ (List.getElem_mem hil2)
          obtain ⟨V, eV⟩ : ∃ V, ns[i] = V := ⟨_, rfl⟩
          rw [eV] at k3 hyv hnb
          obtain ⟨R, eR⟩ : ∃ R, V % 1000 = R := ⟨_, rfl⟩
          have eR2 : (V : Int) % 1000 = (R : Int) := by omega
          have eR3 : (V : Int).tmod 1000 = (R : Int) := by rw [Int.tmod_eq_emod_of_nonneg (by omega)]; exact eR2
          have hR : R < 1000 := by omega
          have eY2 : 1 + (R : Int) = (Y : Int) := by omega
          clear k2 eV eR hyv hil2
          go_wp2_with fail
          go_upto_region 19 with fail
          go_region_held3 (fun w' => w'.cell? ⟨gs, 0, none⟩ = some (.pointer (some ⟨xA, 0, none⟩)) ∧ w'.cell? ⟨gw, 0, none⟩ = some (.pointer (some ⟨rA, 0, none⟩)) ∧ w'.cell? ⟨b, o + i, none⟩ = some (.int .i64 v))
            (first
              | exact HSQ.out _ _ _ _ _ HQ3.out
              | exact HSQ.out _ _ _ _ _ HQ2.out
              | exact HSQ.out _ _ _ _ _ hq.out
              | exact HSQ.out _ _ _ _ _ (hq.out.fr0 HD.out.reads.ob (Fr.drew S0 wr))
              | fail)
            (first
              | (go_at_call 38; ((with_reducible refine (HRT.out.1 _ (Fr.drew S0 wr)).mono ?_); rintro _ w5 ⟨rfl, hq2⟩; have HQ2 := Lib.hid hq2; clear hq2))
              | (go_at_call 39; ((with_reducible refine (HRT.out.2 _ HQ2.out).mono ?_); rintro _ w6 ⟨rfl, hq3⟩; have HQ3 := Lib.hid hq3; clear hq3))
              | fail)
          go_wp2_with fail
          go_roundw
          case rel => exact ⟨i + 1, by go_num, by omega, by omega, Lib.hid (HNX.out _ HQ3.out)⟩
          case measure => simp [intOf]; omega
        · have hil2 : ¬ i < ns.length := by rw [HK.out]; exact hw
          obtain rfl := HWN.out hil2
          have e1 : ((1 : Nat) : Int) = 1 := rfl
          rw [e1] at HRT
          clear e1 W1 W2 HWV
          have dk : decide ((i : Int) < (k : Int)) = false := decide_eq_false (by omega)
          have dk2 : decide (i < k) = false := decide_eq_false hw
          go_wp2_with fail
          go_upto_region 19 with fail
          go_region_held3 (fun w' => w'.cell? ⟨gs, 0, none⟩ = some (.pointer (some ⟨xA, 0, none⟩)) ∧ w'.cell? ⟨gw, 0, none⟩ = some (.pointer (some ⟨rA, 0, none⟩)) ∧ w'.cell? ⟨b, o + i, none⟩ = some (.int .i64 v))
            (first
              | exact HSQ.out _ _ _ _ _ HQ3.out
              | exact HSQ.out _ _ _ _ _ HQ2.out
              | exact HSQ.out _ _ _ _ _ hq.out
              | exact HSQ.out _ _ _ _ _ (hq.out.fr0 HD.out.reads.ob (Fr.drew S0 wr))
              | fail)
            (first
              | (go_at_call 38; ((with_reducible refine (HRT.out.1 _ (Fr.drew S0 wr)).mono ?_); rintro _ w5 ⟨rfl, hq2⟩; have HQ2 := Lib.hid hq2; clear hq2))
              | (go_at_call 39; ((with_reducible refine (HRT.out.2 _ HQ2.out).mono ?_); rintro _ w6 ⟨rfl, hq3⟩; have HQ3 := Lib.hid hq3; clear hq3))
              | fail)
          go_wp2_with fail
          go_roundw
          case rel => exact ⟨i + 1, by go_num, by omega, by omega, Lib.hid (HNX.out _ HQ3.out)⟩
          case measure => simp [intOf]; omega
      · have dg : decide ((i : Int) < 40) = false := decide_eq_false hi4
        go_wp2_with fail
        obtain ⟨s0, s1⟩ := And.intro hq.out.cs hq.out.cw
        go_quiet (fail)
        go_wp2_with fail
        go_ret2
        exact ⟨_, _, _, _, _, _, rfl, by rw [show min m 40 = i by omega]; exact hq.out.fr0 HOB.out (Fr.drewN S0 wr _)⟩
    · have dg : decide (i < m) = false := decide_eq_false hik
      go_wp2_with fail
      obtain ⟨s0, s1⟩ := And.intro hq.out.cs hq.out.cw
      go_quiet (fail)
      go_wp2_with fail
      go_ret2
      exact ⟨_, _, _, _, _, _, rfl, by rw [show min m 40 = i by omega]; exact hq.out.fr0 HOB.out (Fr.drewN S0 wr _)⟩
end
end Go.Proofs.YthfcfmnaiopogaaGreat
