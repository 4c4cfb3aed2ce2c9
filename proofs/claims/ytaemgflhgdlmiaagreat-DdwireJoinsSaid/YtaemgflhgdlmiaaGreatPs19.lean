/- SpTake -/
import Derived.Test.YtaemgflhgdlmiaaGreatPs1
import Derived.Test.YtaemgflhgdlmiaaGreatPs2
import Derived.Test.YtaemgflhgdlmiaaGreatPs4
import Derived.Test.YtaemgflhgdlmiaaGreatPs5
import Derived.Test.YtaemgflhgdlmiaaGreatPs6
import Derived.Test.YtaemgflhgdlmiaaGreatPs7
import Derived.Test.YtaemgflhgdlmiaaGreatPs8
import Derived.Test.YtaemgflhgdlmiaaGreatPs14
import Derived.Test.YtaemgflhgdlmiaaGreatPs15
import Derived.Test.YtaemgflhgdlmiaaGreatPs17
import Derived.Deep.RegionLaw
import Derived.Deep.RegionHeld3
import Derived.Maps.AppendAt
import Derived.Lib.SliceRun
import Derived.StillTailTactics
import Derived.BigRegion
import Derived.WalkKit
import Derived.WalkSpells
import Derived.WalkLawsBesides
import Derived.Deep.QuietTactic
import Derived.BigQuiet
import Derived.RegionTactic
import Derived.Deep.AppendLies
import Derived.Laws.ResultCell
import Derived.Laws.EntriesVeiled
import Derived.Lib.Hide
import Derived.Test.YtaemgflhgdlmiaaGreatRows
import Derived.Laws.BytesArg
import Derived.Lib.SlBytesConst
import Derived.Laws.AppendOwnNone
import Derived.Lib.AppendZeros
import Derived.Laws.CopyOwn
import Derived.Lib.Overlaps
import Derived.Laws.Externs
import Derived.Lib.AppendZerosOnto
import Derived.Laws.OwnMore
set_option maxRecDepth 100000
set_option maxHeartbeats 8000000
namespace Go.Proofs.YtaemgflhgdlmiaaGreat
open Go.RowKit
variable {X Y : Sx}
theorem takeE0_eq (l m : List Pr) : takeE0 l m = if 4611686018427387904 - ltot l < ltot m then 6 else 0 := by
  unfold takeE0
  by_cases hm : m = []
  · subst hm
    rw [if_pos rfl, if_neg (by simp [ltot])]
  · rw [if_neg hm]
theorem Sto.sl {w : World} {g h : Nat} {p : Option Addr} {n c : Nat} {l : List Pr} (s : Sto X w g h p n c l) : Sl w (.slice p n c) l := ⟨p, n, c, rfl, s.len, s.cap.1, by have := s.cap.2; unfold maxLen at this; omega, s.pri⟩
theorem Sl.fr0 {w w' : World} {v : Value} {X : List Pr} (h : Sl w v X) (f : Fr S0 w w') : Sl w' v X := let ⟨p, n, c, h1, h2, h3, h4, h5⟩ := h; ⟨p, n, c, h1, h2, h3, h4, h5.fr0 f⟩
theorem Acc.back {w w1 wr : World} {v : Value} {N : Nat} {L : List Pr} (h : Acc w1 wr v N L) (f : Fr S0 w w1) : Acc w wr v N L := ⟨h.own, fun g hg => Nat.le_trans f.size (h.fresh g hg), f.trans0 h.fr⟩
section
variable (g h g2 h2 : Nat) (l l2 : List Pr) (w : World)
theorem take_any (s : StIs X w g h l) (t : StIs Y w g2 h2 l2) :
    Calls Tryz.prog 99 #[.pointer (some ⟨g, 3, none⟩), .pointer (some ⟨g2, 3, none⟩)] w fun e w' => e = .returned (.int .i64 (takeE0 l l2 : Nat)) ∧ ∃ h', Turned X w w' g h h' (takeL0 l l2) := by
  have eE := takeE0_eq l l2
  have HTS := Lib.hid (fun W f => Turned.same (w' := W) s f)
  have HB := Lib.hid (beyond_any g h l w (ltot l2) s)
  have HOK := Lib.hid s.ok
  have HGW := Lib.hid s.lt
  obtain ⟨p, n, c, s⟩ := s
  obtain ⟨p2, n2, c2, t⟩ := t
  have y1 := t.raw.c1
  obtain ⟨T, hT⟩ : ∃ T, ltot l = T := ⟨_, rfl⟩
  obtain ⟨T2, hT2⟩ : ∃ T, ltot l2 = T := ⟨_, rfl⟩
  have htl := s.ok.tot
  have htl2 := t.ok.tot
  by_cases hc : 4611686018427387904 - ltot l < ltot l2
  · rw [if_pos hc] at eE
    have e2 : takeL0 l l2 = l := by unfold takeL0; rw [eE, if_neg (by decide)]
    rw [eE, e2]
    rw [decide_eq_true hc] at HB
    rw [hT2] at HB y1
    clear s t eE e2 hc hT hT2 htl htl2
    go_enter Tryz.func99, Tryz.ntmps99
    go_wp2_with fail
    refine HB.out.mono ?_
    rintro e w1 ⟨rfl, rfl⟩
    go_wp2_with fail
    go_ret
    exact ⟨rfl, h, HTS.out _ (Fr.refl _ _)⟩
  · rw [if_neg hc] at eE
    have e2 : takeL0 l l2 = lputs l l2 := by unfold takeL0; rw [eE, if_pos rfl]
    rw [eE, e2]
    have HG : Hid (Good (lputs l l2)) := Lib.hid (s.ok.puts t.ok (by omega))
    have HTT : Hid (ltot (lputs l l2) = T + T2) := Lib.hid (by rw [tot_putAll, hT, hT2])
    rw [decide_eq_false hc] at HB
    rw [hT2] at HB y1
    have HM : Hid (∀ W, Fr S0 w W → Calls Tryz.prog 120 #[.slice p n c, .slice p2 n2 c2] W fun e w' => ∃ q N d, e = .returned (.slice q N d) ∧ Acc W w' (.slice q N d) N (lputs l l2)) := Lib.hid fun W f =>
      (merged_any _ _ l l2 W (s.sl.fr0 f) (t.sl.fr0 f) s.ok.srt t.ok.srt s.ok.pos t.ok.pos (by have := s.ok.len; have := t.ok.len; omega) (by omega)).mono fun e w' he => by
        obtain ⟨v, N, e1, ha⟩ := he
        obtain ⟨q, d, rfl⟩ := slFormN ha.own
        exact ⟨q, N, d, e1, ha⟩
    obtain ⟨U, hU⟩ : ∃ U, T + T2 = U := ⟨_, rfl⟩
    rw [hU] at HTT
    have esum : (T : Int) + (T2 : Int) = (U : Int) := by omega
    have hUm : (U : Int) ≤ 4611686018427387904 := by omega
    have hr := s.raw
    rw [hT] at hr
    have hgw := hr.lt
    have HNEW : Hid (∀ W v N, Acc w W v N (lputs l l2) → Raw X W g p n c T ∧ W.cell? ⟨g2, 4, none⟩ = some (.int .u64 (T2 : Int))) := Lib.hid fun W v N ha => ⟨hr.fr0 ha.fr, ha.fr.cell y1 (fun h => h)⟩
    have HEND : Hid (∀ w6 q N d, Acc w w6 (.slice q N d) N (lputs l l2) → Turned X w ((w6.setCell ⟨g, 3, none⟩ (.slice q N d)).setCell ⟨g, 4, none⟩ (.int .u64 (U : Int))) g h (blk q h) (lputs l l2)) := Lib.hid fun w6 q N d ha => by
      have r6 := hr.fr0 ha.fr
      have hq : ∀ a, q = some a → a.block ≠ g := fun a ha' => by have := ha.fresh a.block (by rw [ha']; rfl); omega
      have f1 : Fr (· = g) w6 ((w6.setCell ⟨g, 3, none⟩ (.slice q N d)).setCell ⟨g, 4, none⟩ (.int .u64 (U : Int))) := (Fr.setCell (· = g) _ _ _ rfl).trans (Fr.setCell (· = g) _ _ _ rfl) fun _ _ h => h
      have r7 := (r6.set0 q N d).set1 U
      rw [← HTT.out] at r7
      rw [← HTT.out] at f1 ⊢
      refine ⟨⟨q, N, d, r7, f1.owns ha.own fun b hb eb => ?_, fun a ha => by rw [ha]; rfl, fun hn => ?_, HG.out⟩, ?_, (ha.fr.mono (T := fun x => x = g ∨ x = h) fun _ _ h => h.elim).trans f1 fun _ _ e => .inl e⟩
      · cases q with
        | none => cases hb
        | some a => exact hq a rfl ((Option.some.inj hb).trans eb)
      · cases q with
        | none => exact absurd rfl hn
        | some a => exact hq a rfl
      · cases q with
        | none => exact .inl rfl
        | some a => exact .inr ⟨ha.fresh a.block rfl, by have := (ha.own.lt a.block rfl).2; simpa [World.setCell, blk] using this⟩
    have x0 := hr.c0
    have x1 := hr.c1
    have z0 := hr.fz 3
    have z1 := hr.fz 4
    have y0 := t.raw.c0
    have hwrap : IntKind.u64.wrap ((T : Int) + (T2 : Int)) = (U : Int) := by rw [esum]; simp [IntKind.wrap, IntKind.bits, IntKind.signed]; omega
    clear s t hr eE e2 hc hT hT2 htl htl2 hU HTS HOK HGW HG HTT hgw hUm esum
    go_enter Tryz.func99, Tryz.ntmps99
    go_wp2_with fail
    refine HB.out.mono ?_
    rintro e w1 ⟨rfl, rfl⟩
    clear HB
    go_wp2_with fail
    go_region_law (first
      | (go_simp; go_at_call 120; (with_reducible refine (HM.out _ (Fr.drew _ _)).mono ?_); rintro _ w6 ⟨q6, N6, d6, rfl, ha6⟩; have HA6 := Lib.hid (ha6.back (Fr.drew S0 w1)); obtain ⟨hr6, u4⟩ := HNEW.out _ _ _ HA6.out; have u0 := hr6.c0; have u1 := hr6.c1; have u2 := hr6.fz 3; have u3 := hr6.fz 4; clear ha6 hr6 x0 x1 y0 y1 z0 z1 HM HNEW; dsimp only))
    all_goals
      go_wp2_with fail
      go_ret
      exact ⟨rfl, _, HEND.out _ _ _ _ HA6.out⟩
end
end Go.Proofs.YtaemgflhgdlmiaaGreat
