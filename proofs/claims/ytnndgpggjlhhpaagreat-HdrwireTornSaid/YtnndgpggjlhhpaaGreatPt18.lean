/- HwCounts -/
import Derived.Test.YtnndgpggjlhhpaaGreatPt1
import Derived.Test.YtnndgpggjlhhpaaGreatPt2
import Derived.Test.YtnndgpggjlhhpaaGreatPt3
import Derived.Test.YtnndgpggjlhhpaaGreatPt4
import Derived.Test.YtnndgpggjlhhpaaGreatPt5
import Derived.Test.YtnndgpggjlhhpaaGreatPt6
import Derived.Test.YtnndgpggjlhhpaaGreatPt7
import Derived.Test.YtnndgpggjlhhpaaGreatPt8
import Derived.Test.YtnndgpggjlhhpaaGreatPt9
import Derived.Test.YtnndgpggjlhhpaaGreatPt10
import Derived.Test.YtnndgpggjlhhpaaGreatPt11
import Derived.Test.YtnndgpggjlhhpaaGreatPt12
import Derived.Test.YtnndgpggjlhhpaaGreatPt13
import Derived.Test.YtnndgpggjlhhpaaGreatPt14
import Derived.Test.YtnndgpggjlhhpaaGreatPt15
import Derived.Test.YtnndgpggjlhhpaaGreatPt16
import Derived.Test.YtnndgpggjlhhpaaGreatPt17
import Derived.RangeFuncNested
import Derived.RangeFuncBound
import Derived.RangeFuncCalls
import Derived.RangeFuncLeaves
import Derived.Shelf.Abstract
import Derived.Shelf.RegionOpen
import Derived.WalkKit
import Derived.OwnWalkIn
import Derived.TacticsInMore
import Derived.LoopNIn
import Derived.LoopIn
import Derived.Sort.BigQuietIn
import Derived.Lib.Repeat
import Derived.StillTailTactics
import Derived.Laws.BitsAllLaws
import Derived.Laws.BytesArg
import Derived.Lib.SlBytesConst
import Derived.Maps.AppendAt
import Derived.Laws.AppendOwnNone
import Derived.WalkSpells
import Derived.WalkLawsBesides
import Derived.Deep.QuietTactic
import Derived.BigQuiet
import Derived.RegionTactic
import Derived.Deep.AppendLies
import Derived.Deep.RegionLaw
import Derived.Laws.ResultCell
import Derived.Laws.EntriesVeiled
import Derived.Lib.Hide
import Derived.Test.YtnndgpggjlhhpaaGreatRows
import Derived.Maps.RangeWalk
import Derived.BigRegion
import Derived.Deep.RegionHeld3
import Derived.Deep.CutBlock
import Derived.Deep.DeepCutAuto
import Derived.Deep.CutRange
import Derived.Lib.BitFns
import Derived.Shelf.Small.Bits
import Derived.Shelf.Strconv.Itoa0
import Derived.Shelf.Bits.Mul64
import Derived.Laws.Externs
import Derived.Shelf.Spec.BitsCarry
import Derived.Shelf.SlSortCmp.WholeK
import Derived.Shelf.Strings.Repeat
set_option maxRecDepth 100000
set_option maxHeartbeats 8000000
namespace Go.Proofs.YtnndgpggjlhhpaaGreat
open Go.RowKit Go.Shelf
attribute [local go_sem] Oper.semAt_some
def appendO (ats : Array TypeId) (ty : TypeId) (args : Array Value) : Sem Value := Builtin.append_ ats ty args
theorem builtin_appendO (ats : Array TypeId) (ty : TypeId) (cs : Array Bool) (args : Array Value) : builtin .append ats ty cs args = (do pure (.value (← appendO ats ty args))) := rfl
attribute [local go_sem ↓ high] builtin_appendO
theorem keepsFrom_fr {B : Nat} {W W' : World} (f : Fr S0 W W') : KeepsFrom B W W' := ⟨f.size, fun _ _ _ hk _ => f.row hk fun h => h⟩
theorem boxed_fr {W W' : World} {B : Nat} {t : TypeId} {v : Value} (h : Boxed W B t v) (f : Fr S0 W W') : Boxed W' B t v := f.row h fun h => h
theorem keepsOthers_row {W W' : World} {e : TypeId} {v : Value} {n : Nat} {xs : List Value} (own : W.ownsRow 0 e 1 v n xs) (hg : W.grownBy W' v.ownBlock) : KeepsOthers W W' :=
  KeepsOthers.of_grownBy hg fun j o ej hj => by
    rcases own.2 with ⟨rfl, _⟩ | ⟨g, cap, cur, rfl, _, hgb, _⟩
    · simp [Value.ownBlock] at ej
    · obtain rfl : g = j := by simpa [Value.ownBlock] using ej
      rw [hgb] at hj; cases hj; rfl
def chunksB (L : List Nat) (pre : List Nat) : List Nat := pre.flatMap fun x => encs ((L.drop x).take 64)
theorem chunksB_snoc (L pre : List Nat) (x : Nat) : chunksB L (pre ++ [x]) = chunksB L pre ++ encs ((L.drop x).take 64) := by simp [chunksB]
theorem encs_le (l : List Nat) : (encs l).length ≤ 10 * l.length := by
  induction l with
  | nil => exact Nat.le_refl _
  | cons n l ih =>
    have := enc_length 9 n (by decide)
    rw [encs_cons, List.length_append, List.length_cons]
    omega
theorem chunksB_len (L : List Nat) (pre : List Nat) : (chunksB L pre).length ≤ 640 * pre.length := by
  induction pre with
  | nil => exact Nat.le_refl _
  | cons x r ih =>
    have h1 := encs_le ((L.drop x).take 64)
    have h2 : ((L.drop x).take 64).length ≤ 64 := by rw [List.length_take]; omega
    have h3 : chunksB L (x :: r) = encs ((L.drop x).take 64) ++ chunksB L r := rfl
    rw [h3, List.length_append, List.length_cons]
    omega
theorem chunks_take (L : List Nat) : ∀ k, 64 * k ≤ L.length + 63 → chunksB L ((starts L.length).take k) = encs (L.take (64 * k))
  | 0, _ => by simp [chunksB, encs]
  | k + 1, h => by
    rw [starts_take L.length k (by omega), chunksB_snoc, chunks_take L k (by omega), ← encs_app]
    congr 1
    rw [show 64 * (k + 1) = 64 * k + 64 by omega, List.take_add]
theorem chunks_all (L : List Nat) : chunksB L (starts L.length) = encs L := by
  have h := chunks_take L ((L.length + 63) / 64) (by omega)
  rw [List.take_of_length_le (by rw [starts_len]; exact Nat.le_refl _), List.take_of_length_le (by omega)] at h
  exact h
theorem repeat_any (N : Nat) (hN : N ≤ 1000000) (W : World) : Calls Tryz.prog 86 #[.string { data := #[110] }, .int .i64 (N : Nat)] W fun e w' => e = .returned (.string (sCnt N)) ∧ Fr S0 W w' :=
  (strings_Repeat ⟨#[110]⟩ N W (by omega) (by show 1 * N ≤ _; omega)).mono fun e w' ⟨h1, h2⟩ => ⟨h1, Fr.ofBelow h2⟩
theorem counts_in (n : Nat) (hn : 3 ≤ n) (b o m c : Nat) (L : List Nat) (w : World) (hL : L.length = m) (hs : SlI w .u64 (some ⟨b, o, none⟩) L) (h64 : ∀ x ∈ L, x < 18446744073709551616) (hb : b < w.heap.size) (hmc : m ≤ c) (hm : m ≤ 1000000) :
    CallsIn Fence.wide n Tryz.prog 52 #[.slice (some ⟨b, o, none⟩) m c] w fun e W' => ∃ v, e = .returned v ∧ RowNew w W' v (encs L) ∧ Below w.heap.size w W' := by
  have hn1 : 1 ≤ n := by omega
  refine callsIn_of_wp_marks Tryz.func52 rfl trivial ?_ rfl
  simp only [Tryz.ntmps52, List.size_toArray, List.length_cons, List.length_nil, Nat.reduceAdd, Nat.reduceSub, Array.replicate_succ, Array.replicate_zero, List.push_toArray, List.append_toArray, List.nil_append, List.cons_append]
  gi_wp2_with (refine ⟨trivial, ?_⟩; gi_at_call 85; refine (callsIn_wide.2 (chunk_any _ _ _ _)).mono ?_; rintro e w' ⟨rfl, rfl⟩)
  obtain ⟨X, hX⟩ : ∃ X, w.heap.size = X := ⟨_, rfl⟩
  have hx1 : (w.alloc (.cells #[.slice none 0 0] 31)).heap.size = X + 1 := by rw [size_alloc, hX]
  have bX := ((Boxed.new w 31 (.slice none 0 0)).alloc (.cells #[.slice (some ⟨b, o, none⟩) m c] 70)).alloc (.cells #[.int .i64 64] 3)
  have b1 := (Boxed.new (w.alloc (.cells #[.slice none 0 0] 31)) 70 (.slice (some ⟨b, o, none⟩) m c)).alloc (.cells #[.int .i64 64] 3)
  have b2 := Boxed.new ((w.alloc (.cells #[.slice none 0 0] 31)).alloc (.cells #[.slice (some ⟨b, o, none⟩) m c] 70)) 3 (.int .i64 64)
  have hF0 : Fr S0 w (((w.alloc (.cells #[.slice none 0 0] 31)).alloc (.cells #[.slice (some ⟨b, o, none⟩) m c] 70)).alloc (.cells #[.int .i64 64] 3)) := ((Fr.alloc _ _ _).trans0 (Fr.alloc _ _ _)).trans0 (Fr.alloc _ _ _)
  have hsz : (((w.alloc (.cells #[.slice none 0 0] 31)).alloc (.cells #[.slice (some ⟨b, o, none⟩) m c] 70)).alloc (.cells #[.int .i64 64] 3)).heap.size = X + 3 := by simp [hX]
  simp only [World.size_alloc, hX] at bX b1 b2
  rw [hX]
  generalize ((w.alloc (.cells #[.slice none 0 0] 31)).alloc (.cells #[.slice (some ⟨b, o, none⟩) m c] 70)).alloc (.cells #[.int .i64 64] 3) = W0 at bX b1 b2 hF0 hsz ⊢
  clear hx1
  have hs0 := hs.fr0 hF0
  have hbX : b < X := by omega
  have hCH : Hid (∀ k, k ≤ 1000000 → Room (k * 1000)) := Lib.hid fun k hk => Room.mk (by omega)
  refine wpIn_rangeFunc_ownG rfl hn1 (gf := 116) (lb := #[.pointer (some ⟨X + 1, 0, none⟩), .pointer (some ⟨X + 1 + 1, 0, none⟩)]) rfl trivial (enters_of Tryz.func116 (by kernel_rfl) rfl)
    (chunk_stops (n - 1) (by omega) X (X + 1) (X + 1 + 1) (X + 3) b o m c hmc (by omega) W0 b1.cell b2.cell (by omega) (by omega) (by omega)) KpX.trans (kpX_b (by omega)) (Below.refl _ _) (fun _ => rfl)
    (fun pre W => (∃ v, Boxed W X 31 v ∧ W.ownsRow 0 5 1 v (chunksB L pre).length (u8s (chunksB L pre)) ∧ ∀ k, v.ownBlock = some k → X + 3 ≤ k) ∧ KpX X (X + 3) W0 W)
    (fun _ _ _ => False)
    (OwnFrom.and ((holdsRow_own 0 X 31 5 1 (fun pre => (chunksB L pre).length) (fun pre => u8s (chunksB L pre)) (fun _ v => ∀ k, v.ownBlock = some k → X + 3 ≤ k)).from _) (kpX_own (by omega)))
    (fun _ _ _ _ _ hs _ _ => hs)
    ⟨⟨_, bX, World.ownsRow_nil _ _ _ _, fun k h => by simp [Value.ownBlock] at h⟩, Fr.refl _ _⟩
    (fun x => { tmps := #[.slice (some ⟨b, o, none⟩) m c, undef, .slice none 0 0, .pointer (some ⟨X, 0, none⟩), chunkV b o m x, .slice (some ⟨b, o, none⟩) m c, .func (.func 116) #[] #[.pointer (some ⟨X + 1, 0, none⟩), .pointer (some ⟨X + 1 + 1, 0, none⟩)], chunkV b o m x, undef, undef, undef, undef, undef, undef, undef, undef], defers := [] }) ?assign ?body ?done ?stop
  case assign =>
    intro lp x W K hK
    gi_wp2
    exact hK
  case body =>
    rintro lp pre x W ⟨⟨v, bv, own, hv⟩, hB⟩ hpl
    have hd : 1 ≤ n - 1 - 1 := by omega
    have hmx : Tryz.prog.follows .mixedOrders = true := by kernel_rfl
    obtain ⟨p, d, rfl, -⟩ := slForm own
    obtain ⟨N, hN⟩ : ∃ N, min 64 (m - x) = N := ⟨_, rfl⟩
    have hCV : chunkV b o m x = .slice (some ⟨b, o + x, none⟩) N N := by unfold chunkV; rw [hN]
    rw [hCV]
    obtain ⟨l, hl⟩ : ∃ l, (L.drop x).take 64 = l := ⟨_, rfl⟩
    have hll : l.length = N := by rw [← hl, ← hN, List.length_take, List.length_drop, hL]
    have HS := Lib.hid (fun W2 (f : Fr S0 W W2) => show SlI W2 .u64 (some ⟨b, o + x, none⟩) l from hl ▸ ((((hs0.fr hB (fun _ a ha e => by
      obtain rfl := Option.some.inj ha
      have e : b = X ∨ X + 3 ≤ b := e
      omega)).fr0 f).drop x).take 64))
    have HPUT := Lib.hid (fun W2 (f : Fr S0 W W2) => hput_any (sCnt N) (some ⟨b, o + x, none⟩) N N l (encs l) W2 (by rw [sCnt_size, ← hN]; unfold maxLen; omega) hll (HS.out W2 f) (fun y hy => h64 y (by rw [← hl] at hy; exact List.mem_of_mem_drop (List.mem_of_mem_take hy))) (by rw [← hll]; exact puts_cnt (fun y hy => h64 y (by rw [← hl] at hy; exact List.mem_of_mem_drop (List.mem_of_mem_take hy))) (by rw [← hl, List.length_take]; omega)))
    have HREP := Lib.hid (fun W2 => repeat_any N (by omega) W2)
    have hsn := chunksB_snoc L pre x
    have HLP := Lib.hid (chunksB_len L pre)
    have HLE := Lib.hid (encs_le l)
    rw [hl] at hsn
    obtain ⟨B1, hB1⟩ : ∃ B1, chunksB L pre = B1 := ⟨_, rfl⟩
    obtain ⟨E2, hE2⟩ : ∃ E2, encs l = E2 := ⟨_, rfl⟩
    obtain ⟨M1, hM1⟩ : ∃ M1, B1.length = M1 := ⟨_, rfl⟩
    obtain ⟨K2, hK2⟩ : ∃ K2, E2.length = K2 := ⟨_, rfl⟩
    rw [hB1, hM1] at own bv hv HLP
    rw [hB1, hE2] at hsn
    rw [hE2, hK2] at HPUT HLE
    have HROOM : Hid (Room (M1 + K2)) := Lib.hid (Room.mk (by have h1 := HLP.out; have h2 := HLE.out; omega))
    have HOWN := Lib.hid own
    have HBV := Lib.hid bv
    have HHV := Lib.hid hv
    have HKB := Lib.hid hB
    have HSN := Lib.hid (And.intro hsn (And.intro hM1 hK2))
    have y0 : W.cell? ⟨X, 0, none⟩ = some (.slice p M1 d) := bv.cell
    clear own bv hv hB hsn hM1 hK2 hB1 hE2 hll hl hN hCV h64 hs0 hs b1 b2 bX hpl
    gi_wp2
    gi_region_with_o (first
      | (refine ⟨trivial, ?_⟩; gi_at_call 86; refine (CallsIn.inRound lp (callsIn_wide.2 (HREP.out _))).mono ?_; rintro e u1 ⟨rfl, f1⟩; (have F1 := Lib.hid ((Fr.drew S0 W).trans0 f1)); (have y1 := F1.out.cell y0 (fun h => h)); clear f1)
      | (refine ⟨trivial, ?_⟩; gi_at_call 54; refine (CallsIn.inRound lp (callsIn_wide.2 (HPUT.out _ F1.out))).mono ?_; rintro e u2 ⟨q, d2, rfl, hr2, f2⟩; (have F2 := Lib.hid (F1.out.trans0 f2)); (have y2 := F2.out.cell y0 (fun h => h)); (have own2 := F2.out.owns HOWN.out (fun _ _ h => h)); (have bv2 := boxed_fr HBV.out F2.out); (obtain ⟨p3, c3, u3, hrun, own3, g3, at3⟩ := run_many (P := Tryz.prog) (t := 31) (e := 5) (ty := 31) el8 own2 (SrcIs.ofOwns (m := K2) (by have h := hr2.own; rw [HSN.out.2.2] at h; exact h)) (one8s _) HROOM.out); (have hrun : (appendO #[31, 31] 31 #[.slice p M1 d, .slice q K2 d2]).run Tryz.prog u2 = .ok (.slice p3 (M1 + K2) c3) u3 := hrun); (have bv3 := bv2.kept g3 (bv2.not_row (by decide) own2)); (have y3 := bv3.cell); (have z3 := bv3.frozen); (have HB3 := Lib.hid bv3); (have HO3 := Lib.hid own3); (have HG3 := Lib.hid g3); (have HA3 := Lib.hid at3); (have HO2 := Lib.hid own2); clear hr2 f2 own2 bv2 bv3 own3 g3 at3))
    all_goals
      gi_wp2
      have HO4 := Lib.hid (HO3.out.kept (grownBy_setCell' u3 X (.slice p3 (M1 + K2) c3)) (.inr (HB3.out.not_row (by decide) HO3.out).symm))
      have HSZ : Hid (X + 3 ≤ u2.heap.size) := Lib.hid (by have h1 := (show Fr _ W0 W from HKB.out).size; have h2 := F2.out.size; omega)
      simp only [ownPostG]
      refine ⟨((keepsFrom_fr F2.out).trans ((keepsOthers_row HO2.out HG3.out).from _)).trans ((KeepsOthers.setCell _ _ _).from _),
        ((F2.out.mono fun j _ e => e.elim).trans (Fr.grown HG3.out) fun j _ e => .inr (HHV.out j e)).trans (Fr.setCell (fun k => k = X ∨ X + 3 ≤ k) u3 ⟨X, 0, none⟩ _ (.inl rfl)) fun _ _ e => e,
        ⟨.slice p3 (M1 + K2) c3, HB3.out.set _, ?_, ?_⟩,
        (show Fr _ W0 W from HKB.out).trans (((F2.out.mono fun j _ e => e.elim).trans (Fr.grown HG3.out) fun j _ e => .inr (HHV.out j e)).trans (Fr.setCell (fun k => k = X ∨ X + 3 ≤ k) u3 ⟨X, 0, none⟩ _ (.inl rfl)) fun _ _ e => e) fun _ _ e => e⟩
      · rw [HSN.out.1, List.length_append, HSN.out.2.1, HSN.out.2.2, ← u8s_append]
        exact HO4.out
      · intro k hk
        rcases HA3.out with e | e
        · exact HHV.out k (e ▸ hk)
        · rw [hk] at e
          have := Option.some.inj e
          have := HSZ.out
          omega
  case done =>
    rintro D ys W hD rfl ⟨⟨v, bv, own, hv⟩, hB⟩ hK
    have y0 := bv.cell
    have hall := chunks_all L
    rw [hL] at hall
    rw [hall] at own
    have HE : Hid (Below w.heap.size w (W.putObj D (.deferred none))) := Lib.hid ((Fr.below (hF0.trans hB fun j hj e => by
      have e : j = X ∨ X + 3 ≤ j := e
      omega)).trans (belowK_b (w := w) (Nat.le_refl _) W D _ (.deferred none) (by omega) hK rfl rfl))
    have HO : Hid (RowNew w (W.putObj D (.deferred none)) v (encs L)) := Lib.hid ⟨own.kept (grownBy_putObj' W D (.deferred none)) (by
      rcases own.2 with ⟨rfl, _⟩ | ⟨g, cap, cur, rfl, _, hgb, _⟩
      · exact .inl rfl
      · refine .inr fun e => ?_
        have e2 : g = D := by simpa [Value.ownBlock] using e
        rw [e2, hK] at hgb
        cases hgb), fun k hk => by have := hv k hk; omega⟩
    clear own hB bv hv
    gi_wp2
    refine ⟨by simp, .inl ⟨_, _, rfl, run_takeDeferred hK, ?_⟩⟩
    exact ⟨_, results_tmp rfl _ _ _, v, rfl, HO.out, HE.out⟩
  case stop =>
    rintro D c pre W _ _ h _
    exact h.elim
theorem counts_any (b o m c : Nat) (L : List Nat) (w : World) (hL : L.length = m) (hs : SlI w .u64 (some ⟨b, o, none⟩) L) (h64 : ∀ x ∈ L, x < 18446744073709551616) (hb : b < w.heap.size) (hmc : m ≤ c) (hm : m ≤ 1000000) :
    Calls Tryz.prog 52 #[.slice (some ⟨b, o, none⟩) m c] w fun e W' => ∃ q d, e = .returned (.slice q (encs L).length d) ∧ RowNew w W' (.slice q (encs L).length d) (encs L) ∧ Fr S0 w W' :=
  (callsIn_wide.1 (counts_in 3 (by decide) b o m c L w hL hs h64 hb hmc hm)).mono fun e W' ⟨v, h1, h2, h3⟩ => by
    obtain ⟨q, d, rfl, -⟩ := slForm h2.own
    exact ⟨q, d, h1, h2, Fr.ofBelow h3⟩
end Go.Proofs.YtnndgpggjlhhpaaGreat
