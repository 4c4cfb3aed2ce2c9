/- DgLawPlain -/
import Derived.Test.YticagdppjknlaaaPn1
import Derived.Test.YticagdppjknlaaaPn2
import Derived.Test.YticagdppjknlaaaPn3
import Derived.Test.YticagdppjknlaaaPn4
import Derived.Test.YticagdppjknlaaaPn5
import Derived.Test.YticagdppjknlaaaPn6
import Derived.Test.YticagdppjknlaaaPn7
import Derived.Test.YticagdppjknlaaaPn8
import Derived.Test.YticagdppjknlaaaPn9
import Derived.Test.YticagdppjknlaaaPn10
import Derived.Test.YticagdppjknlaaaPn11
import Derived.Test.YticagdppjknlaaaPn12
import Derived.Test.YticagdppjknlaaaPn13
import Derived.Test.YticagdppjknlaaaPn14
import Derived.Test.YticagdppjknlaaaPn15
import Derived.Test.YticagdppjknlaaaPn16
import Derived.Test.YticagdppjknlaaaPn17
import Derived.Test.YticagdppjknlaaaPn18
import Derived.Test.YticagdppjknlaaaPn19
import Derived.Test.YticagdppjknlaaaPn20
import Derived.Test.YticagdppjknlaaaPn21
import Derived.Test.YticagdppjknlaaaPn23
import Derived.BigQuiet
import Derived.BigRegion
import Derived.Deep.RegionLaw
import Derived.Deep.RegionHeld3
import Derived.StillTailTactics
import Derived.Maps.AppendAt
import Derived.Laws.AppendOwnNone
import Derived.Laws.OwnMore
import Derived.Lib.AppendZerosOnto
import Derived.Lib.SliceRun
import Derived.Lib.Walk
import Derived.Laws.Externs
import Derived.Shelf.Spec.BitsCarry
import Derived.Deep.CutBlock
import Derived.Deep.CutRange
import Derived.Deep.DeepCutAuto
import Derived.Lib.BitFns
import Derived.Shelf.Small.Bits
import Derived.Shelf.Strconv.Itoa0
import Derived.Shelf.Bits.Mul64
import Derived.Test.YticagdppjknlaaaRows
import Derived.WalkKit
import Derived.WalkSpells
import Derived.WalkLawsBesides
import Derived.Deep.QuietTactic
import Derived.RegionTactic
import Derived.Deep.AppendLies
import Derived.Laws.ResultCell
import Derived.Laws.EntriesVeiled
import Derived.Lib.Hide
import Derived.Laws.BytesArg
import Derived.Lib.SlBytesConst
set_option maxRecDepth 100000
set_option maxHeartbeats 8000000
namespace Go.Proofs.Yticagdppjknlaaa
open Go.RowKit
def onesI (vs : List Int) : List Tm := vs.map fun v => (v, 1)
theorem onesI_len (vs : List Int) : (onesI vs).length = vs.length := List.length_map _
theorem onesI_one {vs : List Int} : ∀ t ∈ onesI vs, t.2 = 1 := by
  intro t ht
  obtain ⟨v, -, rfl⟩ := List.mem_map.1 ht
  rfl
theorem onesI_take {vs : List Int} {i : Nat} (h : i < vs.length) : onesI (vs.take (i + 1)) = onesI (vs.take i) ++ [(vs[i], 1)] := by
  unfold onesI
  rw [List.take_succ_eq_append_getElem h, List.map_append]
  rfl
theorem wtsI_one {l : List Tm} (h : ∀ t ∈ l, t.2 = 1) : wts l = l.length := by
  induction l with
  | nil => rfl
  | cons t r ih =>
    rw [wts_cons, ih fun t ht => h t (List.mem_cons_of_mem _ ht), h t List.mem_cons_self, List.length_cons, Nat.add_comm]
theorem may_plain : ∀ T, T < 10 → ∀ L, L < 10 → 0 < T → may 40 T L 2 = false := by decide
theorem run_plain {l : List Tm} {T : Nat} (h : ∀ t ∈ l, t.2 = 1) (hl : l.length ≤ 9) (h0 : 0 < T) (hT : T ≤ 9) : ∀ i, i ≤ l.length → run 40 T (l.take i) = (l.take i, i - 1)
  | 0, _ => rfl
  | 1, hi => by
    rw [run_take (by omega), run_plain h hl h0 hT 0 (by omega), List.take_succ_eq_append_getElem (by omega), List.take_zero, List.nil_append]
    rfl
  | j + 2, hi => by
    rw [run_take (by omega), run_plain h hl h0 hT (j + 1) (by omega), List.take_succ_eq_append_getElem (i := j + 1) (by omega), List.take_succ_eq_append_getElem (i := j) (by omega), stp_snoc, h _ (List.getElem_mem _), h _ (List.getElem_mem _), may_plain T (by omega) (j + 1 - 1) (by omega) h0]
    rfl
theorem press_plain {l : List Tm} (h : ∀ t ∈ l, t.2 = 1) (hl : l.length ≤ 9) (h0 : 0 < l.length) : press 40 l = srt l := by
  have hs : ∀ t ∈ srt l, t.2 = 1 := fun t ht => h t ((srt_mem t l).1 ht)
  have hr := run_plain (T := wts l) hs (by rw [srt_len]; exact hl) (by rw [wtsI_one h]; exact h0) (by rw [wtsI_one h]; exact hl) (srt l).length (Nat.le_refl _)
  rw [List.take_length] at hr
  unfold press
  rw [hr]
structure Plain (x : Dg) (l : List Tm) : Prop where
  d : x.d = 40
  L : x.L = []
  W : x.W = l
theorem adds_plain {vs : List Int} (hv : ∀ v ∈ vs, -9223372036854775808 ≤ v ∧ v ≤ 9223372036854775807) : ∀ i, i ≤ 9 → i ≤ vs.length → Plain (adds 40 vs [] i) (onesI (vs.take i))
  | 0, _, _ => ⟨rfl, rfl, rfl⟩
  | i + 1, h9, hi => by
    obtain ⟨e1, e2, e3⟩ := adds_plain hv i (by omega) (by omega)
    have hok := adds_ok (d := 40) (ns := []) (by decide) (by decide) hv i (by omega)
    have hr : (adds 40 vs [] i).ref (wt [] i) = 0 := Dg.ref_ok (wt_bd [] i).1 (by have := hok.tot; have : wt [] i = 1 := rfl; omega)
    have hg : vs.getD i 0 = vs[i] := by simp [show i < vs.length by omega]
    have hlen : (onesI (vs.take i)).length = i := by rw [onesI_len, List.length_take]; omega
    rw [adds, hg]
    unfold Dg.add
    rw [if_pos hr]
    unfold Dg.full
    have hw : (Dg.come (adds 40 vs [] i) [(vs[i], wt [] i)] vs[i] vs[i]).W = onesI (vs.take (i + 1)) := by
      show (adds 40 vs [] i).W ++ [(vs[i], wt [] i)] = _
      rw [e3, onesI_take (by omega)]
      rfl
    have hd : (Dg.come (adds 40 vs [] i) [(vs[i], wt [] i)] vs[i] vs[i]).d = 40 := e1
    have hll : (onesI (vs.take (i + 1))).length = i + 1 := by rw [onesI_len, List.length_take]; omega
    rw [if_neg (by rw [hw, hd, hll]; omega)]
    exact ⟨hd, e2, hw⟩
theorem plain_at {x : Dg} {l : List Tm} (hp : Plain x l) (h1 : ∀ t ∈ l, t.2 = 1) (hl : l.length ≤ 9) {i : Nat} (hi : i < l.length) :
    ∃ hs : i < (srt l).length, x.atV (2 * i + 1) (2 * l.length) = (srt l)[i].1 ∧ spE (2 * i + 1) (2 * l.length) x.tot = 0 := by
  have hs : i < (srt l).length := by rw [srt_len]; exact hi
  have hal : x.all = l := by unfold Dg.all; rw [hp.L, hp.W, List.nil_append]
  have ht : x.tot = l.length := by unfold Dg.tot; rw [hal, wtsI_one h1]
  have hpr : press x.d x.all = srt l := by rw [hp.d, hal, press_plain h1 hl (by omega)]
  have hE : spE (2 * i + 1) (2 * l.length) x.tot = 0 := by
    unfold spE
    rw [ht, if_neg (by omega), if_neg (by omega), if_neg (by omega)]
  have hR : spR (2 * i + 1) (2 * l.length) x.tot = 2 * i + 1 := by
    unfold spR spt
    rw [ht, if_neg (by omega), if_neg (by omega), if_neg (by omega)]
    exact Nat.mul_div_cancel _ (by omega)
  refine ⟨hs, ?_, hE⟩
  have hmid : ∀ j, (hj : j < (srt l).length) → x.pts.getD (j + 1) (0, 0) = ((srt l)[j].1, 2 * j + 1) := fun j hj => by
    have h9 := gpt_mid x (i := j) (by rw [hpr]; exact hj)
    simp only [hpr] at h9
    rw [h9, wtsI_one fun t ht => h1 t ((srt_mem t l).1 (List.mem_of_mem_take ht)), h1 _ ((srt_mem _ l).1 (List.getElem_mem hj)), List.length_take]
    congr 2
    omega
  have hend := gpt_end x
  rw [hpr] at hend
  have hpl := gpts_len x
  rw [hpr] at hpl
  have hle : ∀ j, j ≤ i + 1 → (x.pts.getD j (0, 0)).2 ≤ 2 * i + 1 := fun j hj => by
    cases j with
    | zero => exact Nat.zero_le _
    | succ j =>
      rw [hmid j (by omega)]
      simp only
      omega
  have hlt : 2 * i + 1 < (x.pts.getD (i + 1 + 1) (0, 0)).2 := by
    rcases Nat.lt_or_ge (i + 1) (srt l).length with h | h
    · rw [hmid (i + 1) h]
      simp only
      omega
    · have e9 : i + 1 = (srt l).length := by omega
      rw [e9, hend]
      simp only
      rw [ht, ← srt_len l]
      omega
  unfold Dg.atV
  rw [if_pos hE, hR, at_found (i := i + 1) (by omega) hle hlt (by rw [ht]; omega), hmid i hs]
  unfold lerp
  simp
structure PlD (w W : World) (g : Nat) (x : Dg) (v : Value) (k : Nat) (l : List Tm) : Prop where
  ex : ∃ C, DIs W g C x ∧ (∀ b, C b → w.heap.size ≤ b) ∧ ∀ b, v.ownBlock = some b → ¬ C b
  acc : Acc 61 w W v k l
section
variable {w W W' : World} {g k : Nat} {x y : Dg} {v : Value} {l : List Tm}
theorem PlD.nd (h : PlD w W g x v k l) : NewD w W g x := let ⟨C, h1, h2, _⟩ := h.ex; ⟨⟨C, h1, h2⟩, h.acc.fr⟩
theorem PlD.fr0 (h : PlD w W g x v k l) (f : Fr S0 W W') : PlD w W' g x v k l := let ⟨C, h1, h2, h3⟩ := h.ex; ⟨⟨C, h1.fr0 f, h2, h3⟩, h.acc.fr0 f⟩
theorem PlD.start (h : NewD w W g x) : PlD w W g x (.slice none 0 0) 0 [] := let ⟨C, h1, h2⟩ := h.ex; ⟨⟨C, h1, h2, fun b hb => by simp [Value.ownBlock] at hb⟩, Acc.nil h.fr⟩
theorem own_lt {e : TypeId} {s n : Nat} {xs : List Value} (h : W.ownsRow 0 e s v n xs) {b : Nat} (hb : v.ownBlock = some b) : b < W.heap.size := by
  rcases h.2 with ⟨rfl, -⟩ | ⟨b', cap', cur', rfl, -, hb', -⟩
  · simp [Value.ownBlock] at hb
  · simp only [Value.ownBlock, Option.some.injEq] at hb
    subst hb
    rcases Nat.lt_or_ge b' W.heap.size with h1 | h1
    · exact h1
    · rw [Array.getElem?_eq_none h1] at hb'
      cases hb'
theorem PlD.add (h : PlD w W g x v k l) (z : Int) (u : Nat) (h1 : -9223372036854775808 ≤ z) (h2 : z ≤ 9223372036854775807) (hN : x.all.length ≤ 400000000000) :
    Calls Try.prog 31 #[.pointer (some ⟨g, 0, none⟩), .int .i64 z, .int .u64 (u : Nat)] W fun e w' => e = .returned (.int .i64 (x.ref u : Nat)) ∧ PlD w w' g (x.add z u) v k l := by
  obtain ⟨C, ⟨p, n, c, q, m, e, s⟩, hC, hO⟩ := h.ex
  refine (dadd_any g C p n c q m e x W z u s h1 h2 hN).mono fun e w' he => ⟨he.1, ?_⟩
  obtain ⟨C', t1, t2, t3⟩ := he.2
  refine ⟨⟨C', t1, fun b hb => ?_, fun b hb hc => ?_⟩, t2.owns h.acc.own hO, h.acc.fresh, h.acc.fr.trans t2 fun j hj hc => by have := hC j hc; omega⟩
  · rcases t3 b hb with h9 | h9
    · exact hC b h9
    · exact Nat.le_trans h.acc.fr.size h9
  · rcases t3 b hc with h9 | h9
    · exact hO b hb h9
    · have := own_lt h.acc.own hb
      omega
theorem PlD.app {o : Obj} {w3 : World} {g1 cap n : Nat} {z : Int} (h : PlD w W g x v k l) (own : w3.ownsRow 0 61 2 (.slice (some ⟨g1, 0, none⟩) (k + 1) cap) (k + 1) (prs l ++ #[Value.int .i64 z, Value.int .u64 (n : Int)].toList))
    (hg : (W.alloc o).grownBy w3 v.ownBlock) (hat : v.ownBlock = some g1 ∨ g1 = W.heap.size + 1) : PlD w w3 g x (.slice (some ⟨g1, 0, none⟩) (k + 1) cap) (k + 1) (l ++ [(z, n)]) := by
  obtain ⟨C, s, hC, hO⟩ := h.ex
  refine ⟨⟨C, (s.fr0 (Fr.alloc S0 W o)).fr (Fr.grown hg) fun b hb hv => hO b hv hb, hC, fun b hb hc => ?_⟩, h.acc.app own hg hat⟩
  simp only [Value.ownBlock, Option.some.injEq] at hb
  subst hb
  rcases hat with h9 | h9
  · exact hO _ h9 hc
  · have := s.below _ hc
    omega
end
section
variable (p : Option Addr) (n c : Nat) (vs : List Int) (w : World)
theorem law_plain (hn : vs.length = n) (hz : ZI w p vs) (hvb : ∀ v ∈ vs, -9223372036854775808 ≤ v ∧ v ≤ 9223372036854775807) :
    Calls Try.prog 8 #[.slice p n c] w fun e w' => e = .returned (.bool true) ∧ Fr S0 w w' := by
  have HAL := Lib.hid (alive_any w)
  by_cases hn0 : n = 0
  · subst hn0
    clear hz hvb hn
    go_enter Try.func8, Try.ntmps8
    go_wp2_with fail
    refine HAL.out.mono ?_
    rintro e1 w1 ⟨rfl, f1⟩
    have F1 := Lib.hid f1
    clear f1 HAL
    go_wp2_with fail
    go_ret
    exact ⟨rfl, F1.out⟩
  have hnz : ((n : Int) == 0) = false := by rw [beq_eq_false_iff_ne]; omega
  by_cases hn9 : 9 < n
  · have d9 : decide (9 < n) = true := decide_eq_true hn9
    have i9 : (9 : Int) < (n : Int) := by omega
    clear hz hvb hn
    go_enter Try.func8, Try.ntmps8
    go_wp2_with fail
    refine HAL.out.mono ?_
    rintro e1 w1 ⟨rfl, f1⟩
    have F1 := Lib.hid f1
    clear f1 HAL
    go_wp2_with fail
    go_ret
    exact ⟨rfl, F1.out⟩
  have i9 : ¬ (9 : Int) < (n : Int) := by omega
  have hn9' : n ≤ 9 := by omega
  have HN := Lib.hid (fun W => nd_new 40 W (by decide) (by decide))
  have HOK := Lib.hid (fun i hi => adds_ok (d := 40) (ns := []) (by decide) (by decide) hvb i hi)
  have HAD := Lib.hid (fun i (hi : i ≤ 9) w W g v k l (h : PlD w W g (adds 40 vs [] i) v k l) z (h1 : -9223372036854775808 ≤ z) (h2 : z ≤ 9223372036854775807) => h.add z 1 h1 h2 (by have := (adds_ok (d := 40) (ns := []) (by decide) (by decide) hvb i (by omega)).len; omega))
  have hok := adds_ok (d := 40) (ns := []) (by decide) (by decide) hvb n (by omega)
  have hpl := adds_plain hvb n (by omega) (by omega)
  have htk : vs.take n = vs := List.take_of_length_le (by omega)
  rw [htk] at hpl
  have hol : (onesI vs).length = n := by rw [onesI_len, hn]
  have hal : (adds 40 vs [] n).all = onesI vs := by unfold Dg.all; rw [hpl.L, hpl.W, List.nil_append]
  have HFT := hok.good.fit
  rw [hal] at HFT
  have HRP := Lib.hid (fun W q e (s : Sl W q n e (onesI vs)) => rpressed_any 40 _ _ q n e (onesI vs) W s (by omega) (by decide) HFT hok.good.l1 hok.good.h2 (by rw [wtsI_one onesI_one, hol]; omega))
  rw [press_plain onesI_one (by omega) (by omega)] at HRP
  have HAT := Lib.hid (fun i (hi : i < n) w W g (b : NewD w W g (adds 40 vs [] n)) => nd_at b (2 * i + 1) (2 * n) (by have := hok.len; omega) (by omega))
  have HPA := Lib.hid (fun i (hi : i < n) => plain_at (i := i) hpl onesI_one (by omega) (by rw [hol]; exact hi))
  rw [hol] at HPA
  have hsl : (srt (onesI vs)).length = n := by rw [srt_len, hol]
  have HSL := Lib.hid hsl
  have HZ := Lib.hid hz
  have HVB := Lib.hid hvb
  have HL := Lib.hid hn
  have HTK := Lib.hid htk
  clear hz hvb hn hok hpl htk hol hal HFT hsl
  go_enter Try.func8, Try.ntmps8
  go_wp2_with fail
  refine HAL.out.mono ?_
  rintro e1 w1 ⟨rfl, f1⟩
  have F1 := Lib.hid f1
  clear f1 HAL
  go_wp2_with fail
  refine (HN.out _).mono ?_
  rintro e2 w2 ⟨g, rfl, nk⟩
  have HP0 := Lib.hid (PlD.start (nk.back F1.out))
  clear nk HN F1
  go_wp2_with fail
  go_loopw [5, 6] (fun v z wr => ∃ i : Nat, z = .int .i64 (i : Int) ∧ i ≤ n ∧ Hid (PlD w wr g (adds 40 vs [] i) v i (onesI (vs.take i)))) (fun _ z _ => n - (intOf z).toNat)
  case atStart => exact ⟨0, rfl, by omega, HP0⟩
  case round =>
    obtain ⟨i, rfl, hin, hb⟩ := hrel
    obtain ⟨pv, cv, rfl⟩ := slFormN hb.out.acc.own
    by_cases hil : (i : Int) < (n : Int)
    · have hivl : i < vs.length := by rw [HL.out]; omega
      obtain ⟨b, o, rfl, k0⟩ := (HZ.out.fr0 hb.out.acc.fr) i hivl
      have hvi := HVB.out _ (List.getElem_mem hivl)
      have hgd : vs.getD i 0 = vs[i] := by simp [hivl]
      have HT : Hid (onesI (vs.take (i + 1)) = onesI (vs.take i) ++ [(vs[i], 1)]) := Lib.hid (onesI_take hivl)
      have HZC0 := Lib.hid (fun W (f : Fr S0 w W) => (HZ.out.fr0 f) i hivl)
      obtain ⟨v, ev⟩ : ∃ v, vs[i] = v := ⟨_, rfl⟩
      rw [ev] at k0 hvi hgd HZC0 HT
      have HZC : Hid (∀ W, Fr S0 w W → W.cell? ⟨b, o + i, none⟩ = some (.int .i64 v)) := Lib.hid fun W f => by
        obtain ⟨b', o', hp, hc⟩ := HZC0.out W f
        simp only [Option.some.injEq, Addr.mk.injEq] at hp
        obtain ⟨rfl, rfl, -⟩ := hp
        exact hc
      have hr0 : (adds 40 vs [] i).ref 1 = 0 := Dg.ref_ok (by decide) (by have := (HOK.out i (by omega)).tot; omega)
      have hst : adds 40 vs [] (i + 1) = (adds 40 vs [] i).add v 1 := by rw [adds, hgd]; rfl
      have HA := Lib.hid (HAD.out i (by omega) _ _ _ _ _ _ hb.out v hvi.1 hvi.2)
      rw [hr0] at HA
      rw [← hst] at HA
      have hR1 : Hid (Room (i + 1)) := Lib.hid (Room.mk (by omega))
      clear ev hr0 hst hgd HZC0 hb
      go_wp2_with fail
      refine HA.out.mono ?_
      rintro e5 w5 ⟨rfl, b5⟩
      have HB5 := Lib.hid b5
      have hv5 := HZC.out w5 b5.acc.fr
      clear b5 HA
      go_wp2_with (at_builtin; refine app_one elAm (.tmp 40) (.tmp 46) rfl HB5.out.acc.own rfl rfl rfl rfl rfl (one_pr v 1) hR1.out ?_; intro g1 cap1 w6 hown hgrow hat hlt; have HB6 := Lib.hid (HB5.out.app hown hgrow hat); clear hown hgrow hat hlt)
      go_roundw
      case rel => exact ⟨i + 1, by go_num, by omega, by rw [HT.out]; exact HB6⟩
      case measure => simp [intOf]; omega
    · obtain rfl : i = n := by omega
      have hb2 := hb.out
      rw [HTK.out] at hb2
      have HB := Lib.hid hb2
      have HSV := Lib.hid (Sl.ofOwns hb2.acc.own)
      clear hb2 hb HAD HOK HZ HVB
      go_wp2_with fail
      refine (HRP.out _ _ _ HSV.out).mono ?_
      rintro e3 w3 ⟨v3, k3, rfl, a3⟩
      have hk3 := a3.len
      rw [HSL.out] at hk3
      subst hk3
      obtain ⟨p3, c3, rfl⟩ := slFormN a3.own
      have HS3 := Lib.hid (Sl.ofOwns a3.own)
      have HN3 := Lib.hid (HB.out.fr0 a3.fr).nd
      clear a3 HRP HSV HB
      obtain ⟨P, eP⟩ : ∃ P, srt (onesI vs) = P := ⟨_, rfl⟩
      rw [eP] at HS3 HSL
      have HAT2 : Hid (∀ j, (hj : j < P.length) → ∀ W, Fr S0 w3 W → Calls Try.prog 19 #[.pointer (some ⟨g, 0, none⟩), .int .u64 ((2 * j + 1 : Nat) : Int), .int .u64 ((2 * i : Nat) : Int)] W fun e w' => e = .returned (.tuple #[.int .i64 P[j].1, .int .i64 0]) ∧ Fr S0 W w') := Lib.hid fun j hj W f => by
        have hj2 : j < i := by rw [HSL.out] at hj; exact hj
        obtain ⟨hs, h1, h2⟩ := HPA.out j hj2
        have h3 := HAT.out j hj2 _ _ _ (HN3.out.fr0 f)
        rw [h1, h2] at h3
        simp only [eP] at h3
        exact h3
      have F3 := Lib.hid HN3.out.fr
      clear HAT HPA HN3 eP
      go_wp2_with fail
      go_loopw [8, 9, 10] (fun z _ _ wr => ∃ j : Nat, z = .int .i64 (j : Int) ∧ j ≤ i ∧ Hid (Fr S0 w3 wr)) (fun z _ _ _ => i - (intOf z).toNat)
      case atStart => exact ⟨0, rfl, by omega, Lib.hid (Fr.refl _ _)⟩
      case round =>
        obtain ⟨j, rfl, hji, hf⟩ := hrel
        by_cases hjl : (j : Int) < (i : Int)
        · have hjP : j < P.length := by rw [HSL.out]; omega
          obtain ⟨b, o, rfl, c0, -⟩ := (HS3.out.fr0 hf.out).at j hjP
          have HC := Lib.hid (fun W (f : Fr S0 w3 W) => (HS3.out.fr0 f).at j hjP)
          have HA := Lib.hid (HAT2.out j hjP _ hf.out)
          obtain ⟨⟨tk, tn⟩, ht⟩ : ∃ t, P[j] = t := ⟨_, rfl⟩
          rw [ht] at c0 HC HA
          simp only at c0 HC HA
          obtain ⟨A, eA⟩ : ∃ A, 2 * j + 1 = A := ⟨_, rfl⟩
          obtain ⟨A0, eA0⟩ : ∃ A, 2 * j = A := ⟨_, rfl⟩
          obtain ⟨B, eB⟩ : ∃ B, 2 * i = B := ⟨_, rfl⟩
          rw [eA, eB] at HA
          have iA0 : 2 * (j : Int) = (A0 : Int) := by omega
          have iA : (A0 : Int) + 1 = (A : Int) := by omega
          have iB : 2 * (i : Int) = (B : Int) := by omega
          have bA : (A : Int) < 20 := by omega
          have bB : (B : Int) < 20 := by omega
          have bA0 : (A0 : Int) < 20 := by omega
          clear ht eA eA0 eB
          go_wp2_with fail
          refine HA.out.mono ?_
          rintro e5 w5 ⟨rfl, f5⟩
          have F5 := Lib.hid (hf.out.trans0 f5)
          obtain ⟨b9, o9, hp9, k9, -⟩ := HC.out w5 F5.out
          simp only [Option.some.injEq, Addr.mk.injEq] at hp9
          obtain ⟨rfl, rfl, -⟩ := hp9
          have e9 : (tk != tk) = false := by simp
          clear f5 HA HC
          go_wp2_with fail
          go_roundw
          case rel => exact ⟨j + 1, by go_num, by omega, F5⟩
          case measure => simp [intOf]; omega
        · obtain rfl : j = i := by omega
          go_wp2_with fail
          go_ret
          exact ⟨rfl, F3.out.trans0 hf.out⟩
end
end Go.Proofs.Yticagdppjknlaaa
