/- All that is told of a store is the list's. -/
import Derived.Test.YtocdjklgfmkbfaaDnAlive
namespace Go.Proofs.Ytocdjklgfmkbfaa
open Go.RowKit

theorem tells {w : World} {g h : Nat} {l : List Pr} (s : StIs w g h l) : Calls Try.prog 18 #[.pointer (some ⟨g, 0, none⟩)] w fun e w' => ∃ p c n, e = .returned (.slice p n c) ∧ PrI w' p l ∧ l.length = n ∧ Fr S0 w w' :=
  (pairs_any g h l w s).mono fun _ _ he => let ⟨p, c, n, e, hp⟩ := he; ⟨p, c, n, e, hp.pri (by have := s.ok.len; have := hp.len; omega), hp.len, hp.fr⟩

set_option maxRecDepth 100000 in
set_option maxHeartbeats 1000000 in
theorem same_any (g h n c : Nat) (p : Option Addr) (k : Int) (l : List Pr) (w : World) (hs : StIs w g h l) (hp : PrI w p l) (hn : l.length = n) :
    Calls Try.prog 16 #[.pointer (some ⟨g, 0, none⟩), .slice p n c, .int .i64 k] w fun e w' => e = .returned (.bool true) ∧ Fr S0 w w' := by
  have ho := hs.ok
  have hlen := ho.len
  rw [hn] at hlen
  have htot := ho.tot
  have HS := Lib.hid hs
  have HP := Lib.hid hp
  have HN := Lib.hid hn
  by_cases hl : l = []
  · subst hl
    obtain rfl : 0 = n := hn
    have HE := Lib.hid (ends_none g h w hs)
    clear hs hp hlen htot ho HN
    go_enter Try.func16, Try.ntmps16
    go_wp2_with fail
    refine HE.out.mono ?_
    rintro e w1 ⟨rfl, f1⟩
    have HF1 := Lib.hid f1
    have HT := Lib.hid (tells (HS.out.fr0 f1))
    clear HE f1
    go_wp2_with fail
    refine HT.out.mono ?_
    rintro e w2 ⟨p2, d2, n2, rfl, i2, hn2, f2⟩
    obtain rfl : 0 = n2 := hn2
    have HF2 := Lib.hid (HF1.out.trans0 f2)
    have HSM := Lib.hid (rsame_yes p2 p 0 d2 c [] w2 i2 (HP.out.fr0 HF2.out) rfl)
    clear HT HF1 i2 f2
    go_wp2_with fail
    refine HSM.out.mono ?_
    rintro e w3 ⟨rfl, f3⟩
    have HF3 := Lib.hid (HF2.out.trans0 f3)
    have HT3 := Lib.hid (total_any g h [] w3 (HS.out.fr0 HF3.out))
    clear HSM HF2 f3
    go_wp2_with fail
    refine HT3.out.mono ?_
    rintro e w4 ⟨rfl, f4⟩
    have HF4 := Lib.hid (HF3.out.trans0 f4)
    have HT4 := Lib.hid (rtotal_any p 0 c [] w4 (HP.out.fr0 HF4.out) rfl (by have := HS.out.ok.tot; omega))
    clear HT3 HF3 f4
    go_wp2_with fail
    refine HT4.out.mono ?_
    rintro e w5 ⟨rfl, f5⟩
    have HF5 := Lib.hid (HF4.out.trans0 f5)
    have HT5 := Lib.hid (len_any g h [] w5 (HS.out.fr0 HF5.out))
    clear HT4 HF4 f5
    go_wp2_with fail
    refine HT5.out.mono ?_
    rintro e w6 ⟨rfl, f6⟩
    have HF6 := Lib.hid (HF5.out.trans0 f6)
    have HT6 := Lib.hid (count_any g h [] w6 k (HS.out.fr0 HF6.out))
    clear HT5 HF5 f6
    go_wp2_with fail
    refine HT6.out.mono ?_
    rintro e w7 ⟨rfl, f7⟩
    have HF7 := Lib.hid (HF6.out.trans0 f7)
    have HT7 := Lib.hid (rcount_any p 0 c k [] w7 (HP.out.fr0 HF7.out) rfl)
    clear HT6 HF6 f7
    go_wp2_with fail
    refine HT7.out.mono ?_
    rintro e w8 ⟨rfl, f8⟩
    have HF8 := Lib.hid (HF7.out.trans0 f8)
    clear HT7 HF7 f8
    go_wp2_with fail
    go_ret
    exact ⟨rfl, HF8.out⟩
  · obtain ⟨a, b, hE⟩ := ends_nil_or ho.srt ho.pos hl
    obtain ⟨h0, e0, e1⟩ := ends_at ho.srt hE
    have HE := Lib.hid (ends_any g h l w hs hE)
    obtain ⟨bb, o, rfl, c0, -⟩ := hp.at 0 h0
    obtain ⟨b', o', hq, c1, -⟩ := hp.at (l.length - 1) (by omega)
    simp only [Option.some.injEq, Addr.mk.injEq] at hq
    obtain ⟨rfl, rfl, -⟩ := hq
    have HC : Hid (∀ W, Fr S0 w W → W.cell? ⟨bb, o, none⟩ = some (.int .i64 a) ∧ W.cell? ⟨bb, o + (n - 1) * 2, none⟩ = some (.int .i64 b)) := Lib.hid fun W f => by
      have d0 := f.cell c0 (fun h => h)
      have d1 := f.cell c1 (fun h => h)
      rw [e0, Nat.zero_mul, Nat.add_zero] at d0
      rw [e1, hn] at d1
      exact ⟨d0, d1⟩
    obtain ⟨i, hi⟩ : ∃ i, n - 1 = i := ⟨_, rfl⟩
    rw [hi] at HC
    have hn0 : (0 : Int) < (n : Int) := by omega
    have ei : (n : Int) - 1 = (i : Int) := by omega
    have hin : (i : Int) < (n : Int) := by omega
    clear hs hp hn htot ho hl hE h0 e0 e1 c0 c1 hi
    go_enter Try.func16, Try.ntmps16
    go_wp2_with fail
    refine HE.out.mono ?_
    rintro e w1 ⟨rfl, f1⟩
    have HF1 := Lib.hid f1
    have HT := Lib.hid (tells (HS.out.fr0 f1))
    obtain ⟨c0, c1⟩ := HC.out w1 f1
    clear HE f1
    go_wp2_with fail
    refine HT.out.mono ?_
    rintro e w2 ⟨p2, d2, n2, rfl, i2, hn2, f2⟩
    obtain rfl : n = n2 := HN.out.symm.trans hn2
    have HF2 := Lib.hid (HF1.out.trans0 f2)
    have HSM := Lib.hid (rsame_yes p2 (some ⟨bb, o, none⟩) n d2 c l w2 i2 (HP.out.fr0 HF2.out) hn2)
    clear HT HF1 i2 hn2 f2 c0 c1 HC
    go_wp2_with fail
    refine HSM.out.mono ?_
    rintro e w3 ⟨rfl, f3⟩
    have HF3 := Lib.hid (HF2.out.trans0 f3)
    have HT3 := Lib.hid (total_any g h l w3 (HS.out.fr0 HF3.out))
    clear HSM HF2 f3
    go_wp2_with fail
    refine HT3.out.mono ?_
    rintro e w4 ⟨rfl, f4⟩
    have HF4 := Lib.hid (HF3.out.trans0 f4)
    have HT4 := Lib.hid (rtotal_any (some ⟨bb, o, none⟩) n c l w4 (HP.out.fr0 HF4.out) HN.out (by have := HS.out.ok.tot; omega))
    clear HT3 HF3 f4
    go_wp2_with fail
    refine HT4.out.mono ?_
    rintro e w5 ⟨rfl, f5⟩
    have HF5 := Lib.hid (HF4.out.trans0 f5)
    have HT5 := Lib.hid (len_any g h l w5 (HS.out.fr0 HF5.out))
    clear HT4 HF4 f5
    go_wp2_with fail
    refine HT5.out.mono ?_
    rintro e w6 ⟨rfl, f6⟩
    have HF6 := Lib.hid (HF5.out.trans0 f6)
    have HT6 := Lib.hid (count_any g h l w6 k (HS.out.fr0 HF6.out))
    rw [HN.out]
    clear HT5 HF5 f6
    go_wp2_with fail
    refine HT6.out.mono ?_
    rintro e w7 ⟨rfl, f7⟩
    have HF7 := Lib.hid (HF6.out.trans0 f7)
    have HT7 := Lib.hid (rcount_any (some ⟨bb, o, none⟩) n c k l w7 (HP.out.fr0 HF7.out) HN.out)
    clear HT6 HF6 f7
    go_wp2_with fail
    refine HT7.out.mono ?_
    rintro e w8 ⟨rfl, f8⟩
    have HF8 := Lib.hid (HF7.out.trans0 f8)
    clear HT7 HF7 f8
    go_wp2_with fail
    go_ret
    exact ⟨rfl, HF8.out⟩
end Go.Proofs.Ytocdjklgfmkbfaa
