/- The law on bytes that are cut off: true for all patterns, numbers and cuts. -/
import Derived.Test.YtgjiepbaagmmiaaLawBack
namespace Go.Proofs.Ytgjiepbaagmmiaa
open Go.RowKit

theorem slForm2 {w : World} {e : TypeId} {v : Value} {n : Nat} {xs : List Value} (h : w.ownsRow 0 e 1 v n xs) : ∃ p c, v = .slice p n c ∧ n ≤ c ∧ c ≤ maxLen := by
  rcases h.2 with ⟨h, h0⟩ | ⟨g, cap, cur, h, _, _, h1, h2, _⟩
  · exact ⟨none, 0, by rw [h, h0], by omega, by decide⟩
  · exact ⟨_, _, h, h1, h2⟩
theorem SlI.take {w : World} {k : IntKind} {p : Option Addr} {l : List Nat} (h : SlI w k p l) (n : Nat) : SlI w k p (l.take n) := by
  refine ⟨by have := h.1; rw [List.length_take]; omega, fun hl => ?_⟩
  obtain ⟨b, off, hp, hc⟩ := h.2 (by intro e; subst e; simp at hl)
  refine ⟨b, off, hp, fun i hi => ?_⟩
  rw [List.length_take] at hi
  rw [hc i (by omega), List.getElem_take]

set_option maxRecDepth 100000 in
set_option maxHeartbeats 1000000 in
theorem law_cut (s : ByteArray) (p : Option Addr) (c : Nat) (l : List Nat) (cut : Int) (w : World) (hs : s.size ≤ maxLen) (hl : SlI w .u64 p l) (hl64 : ∀ x ∈ l, x < 18446744073709551616) :
    Calls Try.prog 6 #[.string s, .slice p l.length c, .int .i64 cut] w fun e w' => e = .returned (.bool true) ∧ Fr S0 w w' := by
  have hlen1 := hl.1
  have HL := Lib.hid hl64
  have HS := Lib.hid hs
  unfold maxLen at hlen1 hs
  clear hl64
  have start : ∀ R, (∀ w1, Fr S0 w w1 → R (.returned (.bool true)) w1) → Calls Try.prog 8 #[] w R := fun R h => (alive_any w).mono fun e w1 he => by rw [he.1]; exact h w1 he.2
  by_cases k1 : (200 : Int) < (s.size : Int)
  · go_enter Try.func6, Try.ntmps6
    go_wp2_with (go_at_call 8; refine start _ ?_; intro w1 hf)
    go_ret
    exact ⟨rfl, hf⟩
  · by_cases k2 : (200 : Int) < (l.length : Int)
    · go_enter Try.func6, Try.ntmps6
      go_wp2_with (go_at_call 8; refine start _ ?_; intro w1 hf)
      go_ret
      exact ⟨rfl, hf⟩
    · go_enter Try.func6, Try.ntmps6
      go_wp2_with fail
      refine start _ ?_
      intro w1 hf
      go_wp2_with fail
      refine (put_any s p c l w1 HS.out (hl.fr0 hf) HL.out).mono ?_
      rintro e w2 ⟨hf2, hr⟩
      have f02 : Fr S0 w w2 := hf.trans0 hf2
      cases hp : putS (pat s) l with
      | error x =>
        rw [hp] at hr
        subst hr
        have hx : ((x : Int) != 0) = true := by
          have := putS_err _ _ _ hp
          rw [bne_iff_ne]; omega
        clear hp
        go_wp2
        go_ret
        exact ⟨rfl, f02⟩
      | ok bs =>
        rw [hp] at hr
        obtain ⟨v, rfl, own, hfv⟩ := hr
        obtain ⟨pv, cv, rfl, hcv, hcm⟩ := slForm2 own
        have hbl := putS_len _ _ _ hp
        by_cases c0 : cut < 0
        · clear hp hcm
          go_wp2
          go_ret
          exact ⟨rfl, f02⟩
        · by_cases c1 : (bs.length : Int) ≤ cut
          · clear hp hcm
            go_wp2
            go_ret
            exact ⟨rfl, f02⟩
          · obtain ⟨k, rfl⟩ : ∃ k : Nat, cut = (k : Int) := ⟨cut.toNat, by omega⟩
            have HG := Lib.hid (getS_cut (pat s) l bs k HL.out hp (by omega))
            have HBS := Lib.hid (putS_lt _ _ _ hp)
            have HK : Hid ((bs.take k).length = k) := Lib.hid (by rw [List.length_take]; omega)
            have hget := get_any s pv cv (bs.take k) w2 HS.out ((SlI.ofOwns own).take k) (fun x hx => HBS.out x (List.mem_of_mem_take hx))
            rw [HK.out] at hget
            have HGET := Lib.hid hget
            unfold maxLen at hcm
            clear hp hget
            go_wp2_with fail
            refine HGET.out.mono ?_
            rintro e w3 ⟨hf3, hr⟩
            rw [HG.out] at hr
            subst hr
            go_wp2
            go_ret
            exact ⟨rfl, f02.trans0 hf3⟩
end Go.Proofs.Ytgjiepbaagmmiaa
