/- behind: a pair is put behind a row. -/
import Derived.Test.YtibgjmlgjmnheaaSpSto
import Derived.BigRegion
import Derived.Deep.RegionLaw
import Derived.Laws.OwnMore
namespace Go.Proofs.Ytibgjmlgjmnheaa
open Go.RowKit

theorem last_of {L : List Pr} {M : Nat} (h : L.length = M + 1) : L = L.take M ++ [L[M]'(by omega)] := by
  rw [← List.take_succ_eq_append_getElem (by omega), List.take_of_length_le (by omega)]

set_option maxRecDepth 100000 in
set_option maxHeartbeats 2000000 in
theorem behind_any (w wr : World) (v : Value) (N : Nat) (L : List Pr) (k : Int) (n : Nat) (a : Acc w wr v N L) (hs : Srt L) (hL : ∀ x ∈ L, x.1 ≤ k) (hN : N ≤ 10000000) (ht : ltot L + n < 18446744073709551616) :
    Calls Try.prog 64 #[v, .agg #[.int .i64 k, .int .u64 (n : Int)]] wr fun e w' => ∃ v' N', e = .returned v' ∧ Acc w w' v' N' (lput L k n) := by
  obtain ⟨pv, cv, rfl⟩ := slFormN a.own
  have hlen := a.len
  have HR : Hid (Room (N + 1)) := Lib.hid (Room.mk (by omega))
  have fb : Fr S0 wr (wr.alloc (.cells #[.int .i64 k, .int .u64 (n : Int)] 53)) := Fr.alloc _ _ _
  have a1 := a.fr0 fb
  have HA := Lib.hid a1
  obtain ⟨W, hW⟩ : ∃ W, wr.alloc (.cells #[.int .i64 k, .int .u64 (n : Int)] 53) = W := ⟨_, rfl⟩
  have hB := heap_alloc_new wr (.cells #[.int .i64 k, .int .u64 (n : Int)] 53)
  have b0 : (wr.alloc (.cells #[.int .i64 k, .int .u64 (n : Int)] 53)).cell? ⟨wr.heap.size, 0, none⟩ = some (.int .i64 k) := by simp only [World.cell?, hB]; rfl
  have b1 : (wr.alloc (.cells #[.int .i64 k, .int .u64 (n : Int)] 53)).cell? ⟨wr.heap.size, 1, none⟩ = some (.int .u64 (n : Int)) := by simp only [World.cell?, hB]; rfl
  have HBS := Lib.hid hB
  by_cases h0 : N = 0
  · subst h0
    obtain rfl : L = [] := List.eq_nil_of_length_eq_zero hlen
    have HE : Hid (lput [] k n = [] ++ [(k, n)]) := Lib.hid rfl
    clear a a1 fb hB hs hL ht hN hlen hW b0 b1
    go_enter Try.func64, Try.ntmps64
    go_wp2_with fail
    go_quiet (fail)
    have HAQ := Lib.hid (HA.out.fr0 (Fr.drewN S0 _ nq))
    have q0 : ((wr.alloc (.cells #[.int .i64 k, .int .u64 (n : Int)] 53)).drewN nq).cell? ⟨wr.heap.size, 0, none⟩ = some (.int .i64 k) := by simp only [World.cell?, World.heap_drewN, HBS.out]; rfl
    have q1 : ((wr.alloc (.cells #[.int .i64 k, .int .u64 (n : Int)] 53)).drewN nq).cell? ⟨wr.heap.size, 1, none⟩ = some (.int .u64 (n : Int)) := by simp only [World.cell?, World.heap_drewN, HBS.out]; rfl
    clear HA
    generalize (wr.alloc (.cells #[.int .i64 k, .int .u64 (n : Int)] 53)).drewN nq = WQ at *
    go_wp2_with ((with_reducible show wpList _ _ _ (Oper.mk (some 35) _ _ _ _ _ :: _) _ _); refine app_one elPr (.tmp 32) (.tmp 34) rfl HAQ.out.own rfl rfl rfl rfl rfl (one_pr k n) HR.out ?_; intro g1 cap1 w3 hown hgrow hat hlt; have HA3 := Lib.hid (HAQ.out.app hown hgrow hat); clear hown hgrow hat hlt)
    go_ret
    exact ⟨_, _, rfl, by rw [HE.out]; exact HA3.out⟩
  · obtain ⟨M, rfl⟩ : ∃ M, N = M + 1 := ⟨N - 1, by omega⟩
    have hML : M < L.length := by omega
    obtain ⟨⟨tk, tn⟩, hT⟩ : ∃ t, L[M] = t := ⟨_, rfl⟩
    have hLL := last_of hlen
    rw [hT] at hLL
    have htk : tk ≤ k := by have := hL _ (List.getElem_mem hML); rwa [hT] at this
    have hahead : ∀ x ∈ L.take M, x.1 < tk := by
      intro x hx
      rw [hLL] at hs
      have := (List.pairwise_append.1 hs).2.2 x hx (tk, tn) (by simp)
      exact this
    have htn : tn + n < 18446744073709551616 := by
      have h1 := tot_take hML
      have h2 := tot_take_le L (M + 1)
      rw [hT] at h1
      simp only at h1
      omega
    have eM : ((M + 1 : Nat) : Int) - 1 = (M : Int) := by omega
    obtain ⟨g, rfl⟩ : ∃ g, pv = some ⟨g, 0, none⟩ := by
      rcases a.own.2 with ⟨h1, h2⟩ | ⟨g, cap, cur, h1, -⟩
      · omega
      · exact ⟨g, (Value.slice.inj h1).1⟩
    have hca : ∀ W, Acc w W (.slice (some ⟨g, 0, none⟩) (M + 1) cv) (M + 1) L → W.cell? ⟨g, M * 2, none⟩ = some (.int .i64 tk) ∧ W.cell? ⟨g, M * 2 + 1, none⟩ = some (.int .u64 (tn : Int)) ∧ W.frozen? ⟨g, M * 2 + 1, none⟩ = false := by
      intro W a
      obtain ⟨b', o', hp, c0, c1⟩ := (PrI.ofOwns a.own (by unfold maxLen; omega)).at M hML
      simp only [Option.some.injEq, Addr.mk.injEq] at hp
      obtain ⟨rfl, rfl, -⟩ := hp
      rw [hT] at c0 c1
      rw [Nat.zero_add] at c0 c1
      exact ⟨c0, c1, a.own.frozenAt _⟩
    have HCA := Lib.hid hca
    obtain ⟨c0, c1, z1⟩ := hca _ a1
    have hM0 : (0 : Int) ≤ (M : Int) := by omega
    have hMN : (M : Int) < (M : Int) + 1 := by omega
    have hMb : M ≤ 10000000 := by omega
    by_cases hk : tk = k
    · have HE : Hid (lput L k n = L.take M ++ [(k, tn + n)]) := Lib.hid (by
        conv => lhs; rw [hLL, hk]
        exact put_same fun x hx => hk ▸ hahead x hx)
      have esum : (tn : Int) + (n : Int) = ((tn + n : Nat) : Int) := by omega
      obtain ⟨U, hU⟩ : ∃ U, tn + n = U := ⟨_, rfl⟩
      rw [hU] at HE esum htn
      have hUm : (U : Int) < 18446744073709551616 := by omega
      have HLL : Hid (L = L.take M ++ [(k, tn)] ∧ (L.take M).length = M) := Lib.hid ⟨by rw [← hk]; exact hLL, by rw [List.length_take]; omega⟩
      rw [hk] at c0 HCA
      clear a a1 fb hB hs hL ht hN hlen hW hca hT hLL htk hahead hk hML hU
      go_enter Try.func64, Try.ntmps64
      go_wp2_with fail
      go_quiet (fail)
      have HAQ := Lib.hid (HA.out.fr0 ((Fr.drewN S0 _ nq).trans0 (Fr.drew S0 _)))
      have q1 : ((wr.alloc (.cells #[.int .i64 k, .int .u64 (n : Int)] 53)).drewN nq).drew.cell? ⟨wr.heap.size, 1, none⟩ = some (.int .u64 (n : Int)) := by
        show ((wr.alloc (.cells #[.int .i64 k, .int .u64 (n : Int)] 53)).drewN nq).cell? ⟨wr.heap.size, 1, none⟩ = some (.int .u64 (n : Int))
        simp only [World.cell?, World.heap_drewN, HBS.out]; rfl
      obtain ⟨-, q2, q3⟩ := HCA.out _ HAQ.out
      clear HA c0 c1 b0 b1 z1 HCA HBS
      generalize (wr.alloc (.cells #[.int .i64 k, .int .u64 (n : Int)] 53)).drewN nq = WQ at *
      go_wp2_with fail
      go_region
      all_goals
        go_wp2_with fail
        go_ret
        have st := HAQ.out.own.stored (M * 2 + 1) (.int .u64 (U : Int))
        refine ⟨_, M + 1, rfl, ⟨?_, HAQ.out.fresh, HAQ.out.fr.append st.2 fun b hb => HAQ.out.fresh b hb⟩⟩
        rw [HE.out]
        have e := prs_set (L.take M) k tn U [] M HLL.out.2
        rw [← HLL.out.1] at e
        rw [← e]
        exact st.1
    · have HE : Hid (lput L k n = L ++ [(k, n)]) := Lib.hid (put_last fun x hx => by
        rw [hLL] at hx
        rcases List.mem_append.1 hx with hx | hx
        · have := hahead x hx; omega
        · have := List.mem_singleton.1 hx
          subst this
          simp only
          omega)
      have hkk : (tk == k) = false := by rw [beq_eq_false_iff_ne]; exact hk
      clear a a1 fb hB hs hL ht hN hlen hW hca hT hLL htk hahead hk hML
      go_enter Try.func64, Try.ntmps64
      go_wp2_with fail
      go_quiet (fail)
      have HAQ := Lib.hid (HA.out.fr0 (Fr.drewN S0 _ nq))
      have q0 : ((wr.alloc (.cells #[.int .i64 k, .int .u64 (n : Int)] 53)).drewN nq).cell? ⟨wr.heap.size, 0, none⟩ = some (.int .i64 k) := by simp only [World.cell?, World.heap_drewN, HBS.out]; rfl
      have q1 : ((wr.alloc (.cells #[.int .i64 k, .int .u64 (n : Int)] 53)).drewN nq).cell? ⟨wr.heap.size, 1, none⟩ = some (.int .u64 (n : Int)) := by simp only [World.cell?, World.heap_drewN, HBS.out]; rfl
      clear HA c0 c1 b0 b1 z1
      generalize (wr.alloc (.cells #[.int .i64 k, .int .u64 (n : Int)] 53)).drewN nq = WQ at *
      go_wp2_with ((with_reducible show wpList _ _ _ (Oper.mk (some 35) _ _ _ _ _ :: _) _ _); refine app_one elPr (.tmp 32) (.tmp 34) rfl HAQ.out.own rfl rfl rfl rfl rfl (one_pr k n) HR.out ?_; intro g1 cap1 w3 hown hgrow hat hlt; have HA3 := Lib.hid (HAQ.out.app hown hgrow hat); clear hown hgrow hat hlt)
      go_ret
      exact ⟨_, _, rfl, by rw [HE.out]; exact HA3.out⟩
end Go.Proofs.Ytibgjmlgjmnheaa
