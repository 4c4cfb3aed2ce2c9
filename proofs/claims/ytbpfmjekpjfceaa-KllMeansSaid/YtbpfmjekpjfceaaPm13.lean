/- KcCoin -/
import Derived.Test.YtbpfmjekpjfceaaPm1
import Derived.Test.YtbpfmjekpjfceaaPm2
import Derived.Test.YtbpfmjekpjfceaaPm3
import Derived.Test.YtbpfmjekpjfceaaPm11
import Derived.Test.YtbpfmjekpjfceaaPm12
import Derived.WalkKit
import Derived.StillTailTactics
import Derived.WalkSpells
import Derived.WalkLawsBesides
import Derived.Deep.QuietTactic
import Derived.BigQuiet
import Derived.RegionTactic
import Derived.Deep.AppendLies
import Derived.Deep.RegionLaw
import Derived.Laws.ResultCell
import Derived.Laws.EntriesVeiled
import Derived.Lib.Hide
import Derived.Test.YtbpfmjekpjfceaaRows
import Derived.Laws.BytesArg
import Derived.Lib.SlBytesConst
import Derived.Maps.AppendAt
import Derived.Laws.AppendOwnNone
set_option maxRecDepth 100000
set_option maxHeartbeats 8000000
namespace Go.Proofs.Ytbpfmjekpjfceaa
open Go.RowKit
theorem coin_at (b : List Nat) (k : Nat) (h : k < 8 * b.length) : num (bitsAt b k 1) = coin b k ∧ nxt b k = k + 1 := by
  have e := bitsAt_succ b k 0 (by omega)
  have e0 : bitsAt b k 0 = [] := by unfold bitsAt; simp
  have hb : bitAt b k < 2 := bitAt_lt b k
  refine ⟨?_, by unfold nxt; rw [if_pos h]⟩
  rw [show (1 : Nat) = 0 + 1 from rfl, e, e0, Nat.add_zero]
  unfold coin
  rw [if_pos h]
  unfold bitAt at hb ⊢
  simp [num]
theorem xcoin_any (g : Nat) (r : Option Nat) (b : List Nat) (k : Nat) (w : World) (h : RdIs w g r b k) (hs : b.length ≤ 140737488355328) :
    Calls Try.prog 20 #[.pointer (some ⟨g, 0, none⟩)] w fun e w' => e = .returned (.int .i64 (coin b k : Nat)) ∧ RdIs w' g r b (nxt b k) ∧ Fr (· = g) w w' := by
  by_cases hk : k < 8 * b.length
  · obtain ⟨e1, e2⟩ := coin_at b k hk
    have hc := rgroup_ok g r b k 1 w h (by omega) (by omega) hs
    rw [e1, show ((1 : Nat) : Int) = 1 from rfl] at hc
    have HB := Lib.hid (rbit_of g w _ _ _ hc)
    have h2 := coin_two b k
    rw [e2]
    obtain ⟨C, hC⟩ : ∃ C, coin b k = C := ⟨_, rfl⟩
    rw [hC] at HB h2 ⊢
    clear hc e1 e2 h hC hk
    go_enter Try.func20, Try.ntmps20
    go_wp2_with fail
    refine HB.out.mono ?_
    rintro e w1 ⟨rfl, f1⟩
    have F1 := Lib.hid f1
    clear f1
    go_wp2_with fail
    go_ret
    refine ⟨?_, F1.out.1, F1.out.2⟩
    first | rfl | (congr 2; omega)
  · have e1 : coin b k = 0 := by unfold coin; rw [if_neg hk]
    have e2 : nxt b k = k := by unfold nxt; rw [if_neg hk]
    have hc := rgroup_end g r b k 1 w h (by omega) (by omega) hs
    rw [show ((1 : Nat) : Int) = 1 from rfl] at hc
    have HB := Lib.hid (rbit_of g w _ _ _ hc)
    have H := Lib.hid h
    rw [e1, e2]
    clear hc e1 e2 h hk
    go_enter Try.func20, Try.ntmps20
    go_wp2_with fail
    refine HB.out.mono ?_
    rintro e w1 ⟨rfl, f1⟩
    have F1 := Lib.hid f1
    clear f1
    go_wp2_with fail
    go_ret
    exact ⟨rfl, H.out.fr0 F1.out, F1.out.mono fun _ _ h => h.elim⟩
theorem xleft_any (g : Nat) (r : Option Nat) (b : List Nat) (k : Nat) (w : World) (h : RdIs w g r b k) (hs : b.length ≤ 140737488355328) :
    Calls Try.prog 18 #[.pointer (some ⟨g, 0, none⟩)] w fun e w' => e = .returned (.int .i64 (8 * (b.length : Int) - k)) ∧ Fr S0 w w' := by
  have HB := Lib.hid (left_any g r b k w h hs)
  clear h
  go_enter Try.func18, Try.ntmps18
  go_wp2_with fail
  refine HB.out.mono ?_
  rintro e w1 ⟨rfl, f1⟩
  go_wp2_with fail
  go_ret
  exact ⟨rfl, f1⟩
theorem newr_any (q : Option Addr) (d : Nat) (l : List Nat) (w : World) (hl : SlI w .u8 q l) (hq : q = none → d = 0) (hL : l.length ≤ 140737488355328) :
    Calls Try.prog 43 #[.slice q l.length d] w fun e w' => ∃ g p c, e = .returned (.pointer (some ⟨g, 0, none⟩)) ∧ w'.heap[g]? = some (.cells #[.slice p l.length c, .int .i64 0] 85 (0, 0)) ∧
      w'.ownsRow 0 5 1 (.slice p l.length c) l.length (u8s l) ∧ Fr S0 w w' ∧ ∀ k, Value.ownBlock (.slice p l.length c) = some k → w.heap.size ≤ k := by
  have HC := Lib.hid (clone_any q d l w hl hq hL)
  clear hl hq
  go_enter Try.func43, Try.ntmps43
  go_wp2_with fail
  refine HC.out.mono ?_
  rintro e w1 ⟨v, rfl, f1, hv⟩
  obtain ⟨p, c, rfl, hn, -, -⟩ := slForm hv.own
  have HV := Lib.hid hv
  clear hv HC
  go_wp2
  go_ret
  exact ⟨w1.heap.size, p, c, rfl, heap_alloc_new w1 _, HV.out.own.alloc _, f1.trans0 (Fr.alloc _ _ _), HV.out.fresh⟩
theorem xnewcoins_any (q : Option Addr) (d : Nat) (l : List Nat) (w : World) (hl : SlI w .u8 q l) (h8 : ∀ x ∈ l, x < 256) (hq : q = none → d = 0) (hL : l.length ≤ 140737488355328) :
    Calls Try.prog 15 #[.slice q l.length d] w fun e w' => ∃ g r, e = .returned (.pointer (some ⟨g, 0, none⟩)) ∧ RdNew w w' g r l 0 := by
  have HC := Lib.hid (newr_any q d l w hl hq hL)
  have H8 := Lib.hid h8
  clear hl hq h8
  obtain ⟨n, hn⟩ : ∃ n, l.length = n := ⟨_, rfl⟩
  rw [hn] at HC ⊢
  have HN := Lib.hid hn
  clear hn
  go_enter Try.func15, Try.ntmps15
  go_wp2_with fail
  refine HC.out.mono ?_
  rintro e w1 ⟨g, p, c, rfl, hb, own, f1, hfr⟩
  have H1 := Lib.hid (And.intro own (And.intro f1 hfr))
  have c0 := wr_c0 hb
  have c1 := wr_c1 hb
  clear own f1 hfr HC hb
  go_wp2_with fail
  go_ret
  obtain ⟨own, f1, hfr⟩ := H1.out
  have hlt : ∀ k, Value.ownBlock (.slice p n c) = some k → k < w1.heap.size := fun k hk => (own.lt k hk).2
  have hN := HN.out
  subst hN
  exact ⟨w1.heap.size, _, rfl, ⟨⟨p, c, heap_alloc_new w1 _, own.alloc _, rfl⟩, H8.out, Nat.zero_le _, fun e => Nat.lt_irrefl _ (hlt _ e)⟩, f1.trans0 (Fr.alloc _ _ _), f1.size, hfr⟩
end Go.Proofs.Ytbpfmjekpjfceaa
