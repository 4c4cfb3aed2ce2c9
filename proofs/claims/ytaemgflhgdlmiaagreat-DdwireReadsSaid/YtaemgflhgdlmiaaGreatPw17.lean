/- SpBehind, SpMerge -/
import Derived.Test.YtaemgflhgdlmiaaGreatPw1
import Derived.Test.YtaemgflhgdlmiaaGreatPw2
import Derived.Test.YtaemgflhgdlmiaaGreatPw4
import Derived.Test.YtaemgflhgdlmiaaGreatPw5
import Derived.Test.YtaemgflhgdlmiaaGreatPw6
import Derived.Test.YtaemgflhgdlmiaaGreatPw7
import Derived.Test.YtaemgflhgdlmiaaGreatPw8
import Derived.BigRegion
import Derived.Deep.RegionLaw
import Derived.Laws.OwnMore
import Derived.Maps.AppendAt
import Derived.Lib.SliceRun
import Derived.StillTailTactics
import Derived.WalkKit
import Derived.WalkSpells
import Derived.WalkLawsBesides
import Derived.Deep.QuietTactic
import Derived.BigQuiet
import Derived.RegionTactic
import Derived.Deep.AppendLies
import Derived.Laws.ResultCell
import Derived.Laws.EntriesVeiled
import Derived.Lib.Hide
import Derived.Test.YtaemgflhgdlmiaaGreatRows
import Derived.Laws.BytesArg
import Derived.Lib.SlBytesConst
import Derived.Laws.AppendOwnNone
set_option maxRecDepth 100000
set_option maxHeartbeats 8000000
namespace Go.Proofs.YtaemgflhgdlmiaaGreat
open Go.RowKit
theorem last_of {L : List Pr} {M : Nat} (h : L.length = M + 1) : L = L.take M ++ [L[M]'(by omega)] := by
  rw [← List.take_succ_eq_append_getElem (by omega), List.take_of_length_le (by omega)]
theorem behind_any (w wr : World) (v : Value) (N : Nat) (L : List Pr) (k : Int) (n : Nat) (a : Acc w wr v N L) (hs : Srt L) (hL : ∀ x ∈ L, x.1 ≤ k) (hN : N ≤ 10000000) (ht : ltot L + n < 18446744073709551616) :
    Calls Tryz.prog 136 #[v, .agg #[.int .i64 k, .int .u64 (n : Int)]] wr fun e w' => ∃ v' N', e = .returned v' ∧ Acc w w' v' N' (lput L k n) := by
  obtain ⟨pv, cv, rfl⟩ := slFormN a.own
  have hlen := a.len
  have HR : Hid (Room (N + 1)) := Lib.hid (Room.mk (by omega))
  have fb : Fr S0 wr (wr.alloc (.cells #[.int .i64 k, .int .u64 (n : Int)] 67)) := Fr.alloc _ _ _
  have a1 := a.fr0 fb
  have HA := Lib.hid a1
  obtain ⟨W, hW⟩ : ∃ W, wr.alloc (.cells #[.int .i64 k, .int .u64 (n : Int)] 67) = W := ⟨_, rfl⟩
  have hB := heap_alloc_new wr (.cells #[.int .i64 k, .int .u64 (n : Int)] 67)
  have b0 : (wr.alloc (.cells #[.int .i64 k, .int .u64 (n : Int)] 67)).cell? ⟨wr.heap.size, 0, none⟩ = some (.int .i64 k) := by simp only [World.cell?, hB]; rfl
  have b1 : (wr.alloc (.cells #[.int .i64 k, .int .u64 (n : Int)] 67)).cell? ⟨wr.heap.size, 1, none⟩ = some (.int .u64 (n : Int)) := by simp only [World.cell?, hB]; rfl
  have HBS := Lib.hid hB
  by_cases h0 : N = 0
  · subst h0
    obtain rfl : L = [] := List.eq_nil_of_length_eq_zero hlen
    have HE : Hid (lput [] k n = [] ++ [(k, n)]) := Lib.hid rfl
    clear a a1 fb hB hs hL ht hN hlen hW b0 b1
    go_enter Tryz.func136, Tryz.ntmps136
    go_wp2_with fail
    go_quiet (fail)
    have HAQ := Lib.hid (HA.out.fr0 (Fr.drewN S0 _ nq))
    have q0 : ((wr.alloc (.cells #[.int .i64 k, .int .u64 (n : Int)] 67)).drewN nq).cell? ⟨wr.heap.size, 0, none⟩ = some (.int .i64 k) := by simp only [World.cell?, World.heap_drewN, HBS.out]; rfl
    have q1 : ((wr.alloc (.cells #[.int .i64 k, .int .u64 (n : Int)] 67)).drewN nq).cell? ⟨wr.heap.size, 1, none⟩ = some (.int .u64 (n : Int)) := by simp only [World.cell?, World.heap_drewN, HBS.out]; rfl
    clear HA
    generalize (wr.alloc (.cells #[.int .i64 k, .int .u64 (n : Int)] 67)).drewN nq = WQ at *
    go_wp2_with ((with_reducible show wpList _ _ _ (Oper.mk (some 35) _ _ _ _ _ :: _) _ _); refine app_one elPr (.tmp 32) (.tmp 34) rfl HAQ.out.own rfl rfl rfl rfl rfl (one_pr k n) HR.out ?_; intro g1 cap1 w3 hown hgrow hat hlt; have HA3 := Lib.hid (HAQ.out.app hown hgrow hat); clear hown hgrow hat hlt)
    go_ret
    exact ⟨_, _, rfl, by rw [HE.out]; exact HA3.out⟩
  · obtain ⟨M, rfl⟩ : ∃ M, N = M + 1 := ⟨N - 1, by omega⟩
    have hML : M < L.length := by omega
    obtain ⟨⟨tk, tn⟩, hT⟩ : ∃ t, L[M] = t := ⟨_, rfl⟩
    have hLL := last_of hlen
    rw [hT] at hLL
    have htk : tk ≤ k := by have := hL _ (List.getElem_mem hML); rwa [hT] at this
    have hahead : ∀ x ∈ L.take M, x.1 < tk := by
      intro x hx
      rw [hLL] at hs
      have := (List.pairwise_append.1 hs).2.2 x hx (tk, tn) (by simp)
      exact this
    have htn : tn + n < 18446744073709551616 := by
      have h1 := tot_take hML
      have h2 := tot_take_le L (M + 1)
      rw [hT] at h1
      simp only at h1
      omega
    have eM : ((M + 1 : Nat) : Int) - 1 = (M : Int) := by omega
    obtain ⟨g, rfl⟩ : ∃ g, pv = some ⟨g, 0, none⟩ := by
      rcases a.own.2 with ⟨h1, h2⟩ | ⟨g, cap, cur, h1, -⟩
      · omega
      · exact ⟨g, (Value.slice.inj h1).1⟩
    have hca : ∀ W, Acc w W (.slice (some ⟨g, 0, none⟩) (M + 1) cv) (M + 1) L → W.cell? ⟨g, M * 2, none⟩ = some (.int .i64 tk) ∧ W.cell? ⟨g, M * 2 + 1, none⟩ = some (.int .u64 (tn : Int)) ∧ W.frozen? ⟨g, M * 2 + 1, none⟩ = false := by
      intro W a
      obtain ⟨b', o', hp, c0, c1⟩ := (PrI.ofOwns a.own (by unfold maxLen; omega)).at M hML
      simp only [Option.some.injEq, Addr.mk.injEq] at hp
      obtain ⟨rfl, rfl, -⟩ := hp
      rw [hT] at c0 c1
      rw [Nat.zero_add] at c0 c1
      exact ⟨c0, c1, a.own.frozenAt _⟩
    have HCA := Lib.hid hca
    obtain ⟨c0, c1, z1⟩ := hca _ a1
    have hM0 : (0 : Int) ≤ (M : Int) := by omega
    have hMN : (M : Int) < (M : Int) + 1 := by omega
    have hMb : M ≤ 10000000 := by omega
    by_cases hk : tk = k
    · have HE : Hid (lput L k n = L.take M ++ [(k, tn + n)]) := Lib.hid (by
        conv => lhs; rw [hLL, hk]
        exact put_same fun x hx => hk ▸ hahead x hx)
      have esum : (tn : Int) + (n : Int) = ((tn + n : Nat) : Int) := by omega
      obtain ⟨U, hU⟩ : ∃ U, tn + n = U := ⟨_, rfl⟩
      rw [hU] at HE esum htn
      have hUm : (U : Int) < 18446744073709551616 := by omega
      have HLL : Hid (L = L.take M ++ [(k, tn)] ∧ (L.take M).length = M) := Lib.hid ⟨by rw [← hk]; exact hLL, by rw [List.length_take]; omega⟩
      rw [hk] at c0 HCA
      clear a a1 fb hB hs hL ht hN hlen hW hca hT hLL htk hahead hk hML hU
      go_enter Tryz.func136, Tryz.ntmps136
      go_wp2_with fail
      go_quiet (fail)
      have HAQ := Lib.hid (HA.out.fr0 ((Fr.drewN S0 _ nq).trans0 (Fr.drew S0 _)))
      have q1 : ((wr.alloc (.cells #[.int .i64 k, .int .u64 (n : Int)] 67)).drewN nq).drew.cell? ⟨wr.heap.size, 1, none⟩ = some (.int .u64 (n : Int)) := by
        show ((wr.alloc (.cells #[.int .i64 k, .int .u64 (n : Int)] 67)).drewN nq).cell? ⟨wr.heap.size, 1, none⟩ = some (.int .u64 (n : Int))
        simp only [World.cell?, World.heap_drewN, HBS.out]; rfl
      obtain ⟨-, q2, q3⟩ := HCA.out _ HAQ.out
      clear HA c0 c1 b0 b1 z1 HCA HBS
      generalize (wr.alloc (.cells #[.int .i64 k, .int .u64 (n : Int)] 67)).drewN nq = WQ at *
      go_wp2_with fail
      go_region
      all_goals
        go_wp2_with fail
        go_ret
        have st := HAQ.out.own.stored (M * 2 + 1) (.int .u64 (U : Int))
        refine ⟨_, M + 1, rfl, ⟨?_, HAQ.out.fresh, HAQ.out.fr.append st.2 fun b hb => HAQ.out.fresh b hb⟩⟩
        rw [HE.out]
        have e := prs_set (L.take M) k tn U [] M HLL.out.2
        rw [← HLL.out.1] at e
        rw [← e]
        exact st.1
    · have HE : Hid (lput L k n = L ++ [(k, n)]) := Lib.hid (put_last fun x hx => by
        rw [hLL] at hx
        rcases List.mem_append.1 hx with hx | hx
        · have := hahead x hx; omega
        · have := List.mem_singleton.1 hx
          subst this
          simp only
          omega)
      have hkk : (tk == k) = false := by rw [beq_eq_false_iff_ne]; exact hk
      clear a a1 fb hB hs hL ht hN hlen hW hca hT hLL htk hahead hk hML
      go_enter Tryz.func136, Tryz.ntmps136
      go_wp2_with fail
      go_quiet (fail)
      have HAQ := Lib.hid (HA.out.fr0 (Fr.drewN S0 _ nq))
      have q0 : ((wr.alloc (.cells #[.int .i64 k, .int .u64 (n : Int)] 67)).drewN nq).cell? ⟨wr.heap.size, 0, none⟩ = some (.int .i64 k) := by simp only [World.cell?, World.heap_drewN, HBS.out]; rfl
      have q1 : ((wr.alloc (.cells #[.int .i64 k, .int .u64 (n : Int)] 67)).drewN nq).cell? ⟨wr.heap.size, 1, none⟩ = some (.int .u64 (n : Int)) := by simp only [World.cell?, World.heap_drewN, HBS.out]; rfl
      clear HA c0 c1 b0 b1 z1
      generalize (wr.alloc (.cells #[.int .i64 k, .int .u64 (n : Int)] 67)).drewN nq = WQ at *
      go_wp2_with ((with_reducible show wpList _ _ _ (Oper.mk (some 35) _ _ _ _ _ :: _) _ _); refine app_one elPr (.tmp 32) (.tmp 34) rfl HAQ.out.own rfl rfl rfl rfl rfl (one_pr k n) HR.out ?_; intro g1 cap1 w3 hown hgrow hat hlt; have HA3 := Lib.hid (HAQ.out.app hown hgrow hat); clear hown hgrow hat hlt)
      go_ret
      exact ⟨_, _, rfl, by rw [HE.out]; exact HA3.out⟩
end Go.Proofs.YtaemgflhgdlmiaaGreat

namespace Go.Proofs.YtaemgflhgdlmiaaGreat
open Go.RowKit
def Sl (w : World) (v : Value) (X : List Pr) : Prop := ∃ p n c, v = .slice p n c ∧ X.length = n ∧ n ≤ c ∧ c ≤ 9223372036854775807 ∧ PrI w p X
theorem Sl.nil {w : World} {v : Value} {X : List Pr} (h : Sl w v X) (h0 : X.length = 0) : ∃ p c, v = .slice p 0 c ∧ X = [] ∧ c ≤ 9223372036854775807 := by
  obtain ⟨p, n, c, rfl, h1, -, h3, -⟩ := h
  have : n = 0 := by omega
  subst this
  exact ⟨p, c, rfl, List.eq_nil_of_length_eq_zero h0, h3⟩
theorem Sl.cons {w : World} {v : Value} {X : List Pr} (h : Sl w v X) (h0 : X.length ≠ 0) : ∃ b o n c k m R, v = .slice (some ⟨b, o, none⟩) (n + 1) c ∧ X = (k, m) :: R ∧ R.length = n ∧ n + 1 ≤ c ∧ c ≤ 9223372036854775807 ∧ PrI w (some ⟨b, o, none⟩) X := by
  obtain ⟨p, n, c, rfl, h1, h2, h3, h4⟩ := h
  cases X with
  | nil => exact absurd rfl h0
  | cons x R =>
    obtain ⟨b, o, rfl, -⟩ := h4.cel (by simp)
    rw [List.length_cons] at h1
    subst h1
    exact ⟨b, o, _, c, x.1, x.2, R, rfl, rfl, rfl, h2, h3, h4⟩
structure Mid (l1 l2 X Y L : List Pr) : Prop where
  sX : Srt X
  sY : Srt Y
  pX : Pos X
  pY : Pos Y
  sL : Srt L
  pL : Pos L
  le1 : ∀ x ∈ L, ∀ y ∈ X, x.1 ≤ y.1
  le2 : ∀ x ∈ L, ∀ y ∈ Y, x.1 ≤ y.1
  num : ∀ k, cnt L k + cnt X k + cnt Y k = cnt l1 k + cnt l2 k
  tot : ltot L + ltot X + ltot Y = ltot l1 + ltot l2
  len : L.length + X.length + Y.length ≤ l1.length + l2.length
theorem Mid.step {l1 l2 X Y L : List Pr} {k : Int} {m : Nat} (h : Mid l1 l2 ((k, m) :: X) Y L) (hy : ∀ y ∈ Y, k ≤ y.1) : Mid l1 l2 X Y (lput L k m) := by
  have hs := srt_cons.1 h.sX
  have hp := pos_cons.1 h.pX
  refine ⟨hs.2, h.sY, hp.2, h.pY, put_srt h.sL, put_pos h.pL hp.1, ?_, ?_, fun j => ?_, ?_, ?_⟩
  · intro x hx y hy'
    rcases put_mem hx with e | hx
    · rw [e]; exact Int.le_of_lt (hs.1 y hy')
    · exact h.le1 x hx y (List.mem_cons_of_mem _ hy')
  · intro x hx y hy'
    rcases put_mem hx with e | hx
    · rw [e]; exact hy y hy'
    · exact h.le2 x hx y hy'
  · have := h.num j
    rw [cnt_put _ _ _ h.sL]
    rw [cnt] at this
    simp only at this
    by_cases e : k = j
    · subst e
      rw [if_pos rfl] at this ⊢
      rw [cnt_out (l := X) fun z hz => by have := hs.1 z hz; simp only at this; omega]
      omega
    · rw [if_neg e] at this
      rw [if_neg fun h => e h.symm]
      omega
  · have := h.tot
    rw [tot_put]
    rw [ltot] at this
    simp only at this
    omega
  · have := h.len
    have := len_put_le L k m
    rw [List.length_cons] at *
    omega
theorem Mid.start {l1 l2 : List Pr} (h1 : Srt l1) (h2 : Srt l2) (p1 : Pos l1) (p2 : Pos l2) : Mid l1 l2 l1 l2 [] :=
  ⟨h1, h2, p1, p2, srt_nil, pos_nil, (fun _ h => by cases h), (fun _ h => by cases h), fun k => by simp [cnt], by simp [ltot], by simp⟩
theorem Mid.done {l1 l2 L : List Pr} (h1 : Srt l1) (h2 : Srt l2) (p1 : Pos l1) (p2 : Pos l2) (h : Mid l1 l2 [] [] L) : L = lputs l1 l2 :=
  ext_cnt h.sL (putAll_srt h1 l2) h.pL (putAll_pos p1 p2) fun k => by have := h.num k; rw [cnt_putAll _ _ _ h1 h2]; simp only [cnt] at this; omega
end Go.Proofs.YtaemgflhgdlmiaaGreat
