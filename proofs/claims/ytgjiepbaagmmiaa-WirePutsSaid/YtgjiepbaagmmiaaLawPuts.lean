/- The law that what is written by any pattern is the document's: true for all patterns and numbers. -/
import Derived.Test.YtgjiepbaagmmiaaRefPut
import Derived.Test.YtgjiepbaagmmiaaAlive
namespace Go.Proofs.Ytgjiepbaagmmiaa
open Go.RowKit

set_option maxRecDepth 100000 in
set_option maxHeartbeats 1000000 in
theorem law_puts (s : ByteArray) (p : Option Addr) (c : Nat) (l : List Nat) (w : World) (hs : s.size ≤ maxLen) (hl : SlI w .u64 p l) (hl64 : ∀ x ∈ l, x < 18446744073709551616) :
    Calls Try.prog 3 #[.string s, .slice p l.length c] w fun e w' => e = .returned (.bool true) ∧ Fr S0 w w' := by
  have hlen1 := hl.1
  have HL := Lib.hid hl64
  have HS := Lib.hid hs
  unfold maxLen at hlen1 hs
  clear hl64
  have start : ∀ R, (∀ w1, Fr S0 w w1 → R (.returned (.bool true)) w1) → Calls Try.prog 8 #[] w R := fun R h => (alive_any w).mono fun e w1 he => by rw [he.1]; exact h w1 he.2
  by_cases k1 : (200 : Int) < (s.size : Int)
  · go_enter Try.func3, Try.ntmps3
    go_wp2_with (go_at_call 8; refine start _ ?_; intro w1 hf)
    go_ret
    exact ⟨rfl, hf⟩
  · by_cases k2 : (200 : Int) < (l.length : Int)
    · go_enter Try.func3, Try.ntmps3
      go_wp2_with (go_at_call 8; refine start _ ?_; intro w1 hf)
      go_ret
      exact ⟨rfl, hf⟩
    · go_enter Try.func3, Try.ntmps3
      go_wp2_with fail
      refine start _ ?_
      intro w1 hf
      go_wp2_with fail
      refine (put_any s p c l w1 HS.out (hl.fr0 hf) HL.out).mono ?_
      rintro e w2 ⟨hf2, hr⟩
      have f02 : Fr S0 w w2 := hf.trans0 hf2
      cases hp : putS (pat s) l with
      | error x =>
        rw [hp] at hr
        subst hr
        have HP := Lib.hid hp
        clear hp
        go_wp2_with fail
        refine (refput_any s p c l w2 HS.out (hl.fr0 f02) HL.out).mono ?_
        rintro e w3 ⟨hf3, hr⟩
        rw [HP.out] at hr
        subst hr
        have cv : (convert 24 9 (.slice none 0 0)).run Try.prog w3 = .ok (.string ByteArray.empty) w3 := run_convert_bytes_nil w3 24 5 Try.underlying24 Try.underlying5 0 0 9 Try.underlying9
        go_wp2
        go_ret
        exact ⟨rfl, f02.trans0 hf3⟩
      | ok bs =>
        rw [hp] at hr
        obtain ⟨v, rfl, own, hfv⟩ := hr
        have HP := Lib.hid hp
        clear hp
        go_wp2_with fail
        refine (refput_any s p c l w2 HS.out (hl.fr0 f02) HL.out).mono ?_
        rintro e w3 ⟨hf3, hr⟩
        rw [HP.out] at hr
        obtain ⟨v3, rfl, own3, -⟩ := hr
        obtain ⟨X, hX⟩ : ∃ X, strB bs = X := ⟨_, rfl⟩
        have c1 := conv_own (hf3.owns own (fun _ _ h => h))
        have c2 := conv_own own3
        rw [hX] at c1 c2
        clear hX own own3
        go_wp2
        go_ret
        exact ⟨rfl, f02.trans0 hf3⟩
end Go.Proofs.Ytgjiepbaagmmiaa
