/- WkAll -/
import Derived.Test.YtnndgpggjlhhpaaGreatPt1
import Derived.Test.YtnndgpggjlhhpaaGreatPt2
import Derived.Test.YtnndgpggjlhhpaaGreatPt4
import Derived.Test.YtnndgpggjlhhpaaGreatPt5
import Derived.Deep.RegionLaw
import Derived.Deep.RegionHeld3
import Derived.BigQuiet
import Derived.StillTailTactics
import Derived.BigRegion
import Derived.Deep.CutBlock
import Derived.Deep.DeepCutAuto
import Derived.Deep.CutRange
import Derived.WalkKit
import Derived.WalkSpells
import Derived.WalkLawsBesides
import Derived.Deep.QuietTactic
import Derived.RegionTactic
import Derived.Deep.AppendLies
import Derived.Laws.ResultCell
import Derived.Laws.EntriesVeiled
import Derived.Lib.Hide
import Derived.Test.YtnndgpggjlhhpaaGreatRows
import Derived.Laws.BytesArg
import Derived.Lib.SlBytesConst
import Derived.Maps.AppendAt
import Derived.Laws.AppendOwnNone
import Derived.Lib.BitFns
import Derived.Shelf.Small.Bits
import Derived.Shelf.Strconv.Itoa0
import Derived.Shelf.Bits.Mul64
import Derived.Laws.Externs
import Derived.Shelf.Spec.BitsCarry
set_option maxRecDepth 100000
set_option maxHeartbeats 8000000
namespace Go.Proofs.YtnndgpggjlhhpaaGreat
open Go.RowKit
structure Tab (w : World) (g : Nat) (p : Option Addr) (n c : Nat) (l : List Pr) : Prop where
  blk : w.heap[g]? = some (.cells #[.slice p n c] 195 (0, 0))
  pri : PrI w p (stp l)
  len : l.length = n
  ok : Tb l
  small : n ≤ 100000
  cap : n ≤ c ∧ c ≤ maxLen
def TabIs (w : World) (g : Nat) (l : List Pr) : Prop := ∃ p n c, Tab w g p n c l
section
variable {w w' : World} {g : Nat} {p : Option Addr} {n c : Nat} {l : List Pr}
theorem Tab.c0 (s : Tab w g p n c l) : w.cell? ⟨g, 0, none⟩ = some (.slice p n c) := by simp [World.cell?, s.blk]
theorem Tab.fr0 (s : Tab w g p n c l) (f : Fr S0 w w') : Tab w' g p n c l := ⟨f.row s.blk fun h => h, s.pri.fr0 f, s.len, s.ok, s.small, s.cap⟩
theorem TabIs.fr0 (s : TabIs w g l) (f : Fr S0 w w') : TabIs w' g l := let ⟨p, n, c, s⟩ := s; ⟨p, n, c, s.fr0 f⟩
theorem TabIs.ok (s : TabIs w g l) : Tb l := let ⟨_, _, _, s⟩ := s; s.ok
theorem TabIs.small (s : TabIs w g l) : l.length ≤ 100000 := let ⟨_, _, _, s⟩ := s; s.len ▸ s.small
theorem TabIs.lt (s : TabIs w g l) : g < w.heap.size := let ⟨_, _, _, s⟩ := s; (Array.getElem?_eq_some_iff.1 s.blk).1
end
theorem ahead_any (g i : Nat) (l : List Pr) (w : World) (s : TabIs w g l) (hi : i ≤ l.length) :
    Calls Tryz.prog 171 #[.pointer (some ⟨g, 0, none⟩), .int .i64 (i : Nat)] w fun e w' => e = .returned (.int .u64 (ahd l i : Nat)) ∧ w' = w := by
  obtain ⟨p, n, c, s⟩ := s
  by_cases h0 : i = 0
  · subst h0
    rw [ahd_zero]
    clear s hi
    go_enter Tryz.func171, Tryz.ntmps171
    go_wp2_with fail
    go_ret
    exact ⟨rfl, rfl⟩
  · obtain ⟨j, hj⟩ : ∃ j, i - 1 = j := ⟨_, rfl⟩
    have hjl : j < l.length := by omega
    have c0 := s.c0
    obtain ⟨b, o, rfl, k0, k1⟩ := s.pri.at j (by rw [stp_len]; exact hjl)
    rw [stp_at l j hjl] at k1
    have hin : (j : Int) < (n : Int) := by have := s.len; omega
    have hsm := s.small
    have e1 : (i : Int) - 1 = (j : Int) := by omega
    have hi0 : ((i : Int) == 0) = false := by rw [beq_eq_false_iff_ne]; omega
    have ea : ltot (l.take (j + 1)) = ahd l i := by unfold ahd; rw [show j + 1 = i by omega]
    simp only [ea] at k1
    obtain ⟨A, hA⟩ : ∃ A, ahd l i = A := ⟨_, rfl⟩
    rw [hA] at k1 ⊢
    clear k0 hA ea s hj h0 hi hjl
    go_enter Tryz.func171, Tryz.ntmps171
    go_wp2_with fail
    go_ret
    exact ⟨rfl, rfl⟩
theorem total_any (g : Nat) (l : List Pr) (w : World) (s : TabIs w g l) :
    Calls Tryz.prog 141 #[.pointer (some ⟨g, 0, none⟩)] w fun e w' => e = .returned (.int .u64 (ltot l : Nat)) ∧ w' = w := by
  have HA := Lib.hid (ahead_any g l.length l w s (Nat.le_refl _))
  rw [ahd_all] at HA
  obtain ⟨p, n, c, s⟩ := s
  rw [s.len] at HA
  have c0 := s.c0
  obtain ⟨T, hT⟩ : ∃ T, ltot l = T := ⟨_, rfl⟩
  rw [hT] at HA ⊢
  clear s hT
  go_enter Tryz.func141, Tryz.ntmps141
  go_wp2_with fail
  refine HA.out.mono ?_
  rintro e w1 ⟨rfl, rfl⟩
  go_wp2_with fail
  go_ret
  exact ⟨rfl, rfl⟩
end Go.Proofs.YtnndgpggjlhhpaaGreat
namespace Go.Proofs.YtnndgpggjlhhpaaGreat
open Go.RowKit
section
variable (C b g bg bf : Nat) (v : Value) (q : Pr → Bool) (l : List Pr) (w : World)
end
end Go.Proofs.YtnndgpggjlhhpaaGreat
namespace Go.Proofs.YtnndgpggjlhhpaaGreat
open Go.RowKit
section
variable (C b g : Nat) (v : Value) (q : Pr → Bool) (l : List Pr) (w : World)
end
section
variable (g : Nat) (k : Int) (l : List Pr) (w : World)
end
section
variable (g r : Nat) (l : List Pr) (w : World)
end
end Go.Proofs.YtnndgpggjlhhpaaGreat
namespace Go.Proofs.YtnndgpggjlhhpaaGreat
open Go.RowKit
def KsI (w : World) (q : Option Addr) (ks : List Int) : Prop := ks ≠ [] → ∃ b o, q = some ⟨b, o, none⟩ ∧ ∀ i, (h : i < ks.length) → w.cell? ⟨b, o + i, none⟩ = some (.int .i64 ks[i])
theorem KsI.fr0 {w w' : World} {q : Option Addr} {ks : List Int} (h : KsI w q ks) (f : Fr S0 w w') : KsI w' q ks := fun hk => let ⟨b, o, hp, hc⟩ := h hk; ⟨b, o, hp, fun i hi => f.cell (hc i hi) fun h => h⟩
theorem KsI.at {w : World} {q : Option Addr} {ks : List Int} (h : KsI w q ks) (i : Nat) (hi : i < ks.length) : ∃ b o, q = some ⟨b, o, none⟩ ∧ w.cell? ⟨b, o + i, none⟩ = some (.int .i64 ks[i]) :=
  let ⟨b, o, hp, hc⟩ := h (by intro e; simp [e] at hi); ⟨b, o, hp, hc i hi⟩
def Look (l : List Pr) (rs : List Nat) (j : Nat) (ks : List Int) : Prop := ks.length = rs.length ∧ ∀ i, (h : i < rs.length) → i < j → ks[i]? = some (keyW l rs[i])
theorem Look.step {l : List Pr} {rs : List Nat} {j : Nat} {ks : List Int} (h : Look l rs j ks) (hj : j < rs.length) : Look l rs (j + 1) (ks.set j (keyW l rs[j])) := by
  obtain ⟨h1, h2⟩ := h
  refine ⟨by rw [List.length_set]; exact h1, fun i hi hij => ?_⟩
  rw [List.getElem?_set]
  by_cases e : j = i
  · subst e
    rw [if_pos rfl, if_pos (by omega)]
  · rw [if_neg e]
    exact h2 i hi (by omega)
theorem Look.done {l : List Pr} {rs : List Nat} {j : Nat} {ks : List Int} (h : Look l rs j ks) (hj : j = rs.length) : ks = rs.map (keyW l) := by
  subst hj
  refine List.ext_getElem? fun i => ?_
  by_cases hi : i < rs.length
  · rw [h.2 i hi hi, List.getElem?_map, List.getElem?_eq_getElem hi]
    rfl
  · rw [List.getElem?_eq_none (by rw [h.1]; omega), List.getElem?_eq_none (by rw [List.length_map]; omega)]
end Go.Proofs.YtnndgpggjlhhpaaGreat
namespace Go.Proofs.YtnndgpggjlhhpaaGreat
open Go.RowKit
section
variable (g : Nat) (l : List Pr) (w : World)
end
end Go.Proofs.YtnndgpggjlhhpaaGreat
namespace Go.Proofs.YtnndgpggjlhhpaaGreat
open Go.RowKit
theorem info_stp : (Tryz.prog.info? 197).map (fun i => (i.zero, i.size, i.bytes)) = some (some (.agg #[.int .i64 0, .int .u64 0]), 2, 16) := by kernel_rfl
theorem elStp : ElemOk Tryz.prog 193 197 (.agg #[.int .i64 0, .int .u64 0]) 2 16 := ⟨Tryz.underlying193, info_stp, rfl, by decide, by decide⟩
theorem pri_own {w : World} {e : TypeId} {q : Option Addr} {n d : Nat} {l : List Pr} (h : w.ownsRow 0 e 2 (.slice q n d) n (prs l)) (hm : n ≤ maxLen) : PrI w q l := by
  have hlen : l.length * 2 = n * 2 := by have h1 := h.1; rw [prs_len] at h1; exact h1
  refine ⟨by omega, fun hl => ?_⟩
  rcases h.2 with ⟨hv, hn⟩ | ⟨g, cap, cur, hv, _⟩
  · exact absurd (List.eq_nil_of_length_eq_zero (by omega)) hl
  · simp only [Value.slice.injEq] at hv
    obtain ⟨rfl, -, rfl⟩ := hv
    refine ⟨g, 0, rfl, fun i hi => ?_⟩
    obtain ⟨h1, h2⟩ := prs_at l i hi
    rw [Nat.zero_add]
    exact ⟨(h.cellAt _ (by omega)).trans h1, (h.cellAt _ (by omega)).trans h2⟩
theorem own_cap {w : World} {e : TypeId} {s : Nat} {q : Option Addr} {n d m : Nat} {xs : List Value} (h : w.ownsRow 0 e s (.slice q n d) m xs) : n ≤ d ∧ d ≤ maxLen := by
  rcases h.2 with ⟨hv, -⟩ | ⟨g, cap, cur, hv, _, _, h1, h2, _⟩
  · simp only [Value.slice.injEq] at hv
    obtain ⟨-, rfl, rfl⟩ := hv
    exact ⟨Nat.le_refl _, Nat.zero_le _⟩
  · simp only [Value.slice.injEq] at hv
    obtain ⟨-, rfl, rfl⟩ := hv
    exact ⟨h1, h2⟩
structure Mk (w0 w : World) (g : Nat) (v : Value) (l : List Pr) : Prop where
  blk : w.heap[g]? = some (.cells #[v] 195 (0, 0))
  own : w.ownsRow 0 197 2 v l.length (prs (stp l))
  off : v.ownBlock ≠ some g
  new : w0.heap.size ≤ g
  fresh : ∀ y, v.ownBlock = some y → w0.heap.size ≤ y
  fr : Fr S0 w0 w
section
variable {w0 w w' : World} {g : Nat} {v : Value} {l : List Pr}
theorem Mk.tab (h : Mk w0 w g v l) (ok : Tb l) (hs : l.length ≤ 100000) : TabIs w g l := by
  obtain ⟨p, c, rfl⟩ := slFormN h.own
  exact ⟨p, l.length, c, h.blk, pri_own h.own (by unfold maxLen; omega), rfl, ok, hs, own_cap h.own⟩
theorem Mk.c (h : Mk w0 w g v l) : w.cell? ⟨g, 0, none⟩ = some v := by simp [World.cell?, h.blk]
theorem Mk.z (h : Mk w0 w g v l) : w.frozen? ⟨g, 0, none⟩ = false := by simp [World.frozen?, h.blk]
theorem Mk.fr0 (h : Mk w0 w g v l) (f : Fr S0 w w') : Mk w0 w' g v l := ⟨f.row h.blk (fun h => h), f.owns h.own fun _ _ h => h, h.off, h.new, h.fresh, h.fr.trans0 f⟩
theorem Mk.app {w1 w2 : World} {x : Pr} {gg cap n : Nat} (h : Mk w0 w g v l) (hn : l.length = n) (hown : w2.ownsRow 0 197 2 (.slice (some ⟨gg, 0, none⟩) (n + 1) cap) (n + 1) (prs (stp l) ++ [.int .i64 x.1, .int .u64 ((ltot l + x.2 : Nat) : Int)]))
    (f1 : Fr S0 w w1) (hgrow : w1.grownBy w2 v.ownBlock) (hat : v.ownBlock = some gg ∨ w.heap.size ≤ gg) :
    (w2.heap[g]? = some (.cells #[v] 195 (0, 0))) ∧ Mk w0 (w2.setCell ⟨g, 0, none⟩ (.slice (some ⟨gg, 0, none⟩) (n + 1) cap)) g (.slice (some ⟨gg, 0, none⟩) (n + 1) cap) (l ++ [x]) := by
  subst hn
  have hg : g < w.heap.size := (Array.getElem?_eq_some_iff.1 h.blk).1
  have hgg : gg ≠ g := by
    rintro rfl
    rcases hat with h1 | h1
    · exact h.off h1
    · omega
  have b2 : w2.heap[g]? = some (.cells #[v] 195 (0, 0)) := (Fr.grown hgrow).row (f1.row h.blk (fun h => h)) (fun e => h.off e)
  refine ⟨b2, ⟨(heap_setCell_same _ g 0 _ _ _ b2).trans rfl, ?_, ?_, h.new, ?_, ?_⟩⟩
  · rw [stp_snoc, prs_snoc, List.length_append]
    refine (Fr.setCell (· = g) w2 ⟨g, 0, none⟩ _ rfl).owns hown fun y hy e => ?_
    obtain rfl : gg = y := Option.some.inj hy
    exact hgg e
  · intro hy
    exact hgg (Option.some.inj hy)
  · intro y hy
    obtain rfl : gg = y := Option.some.inj hy
    rcases hat with h1 | h1
    · exact h.fresh gg h1
    · have := h.fr.size; omega
  · have k1 : Fr S0 w0 w2 := (h.fr.trans0 f1).append hgrow h.fresh
    exact k1.trans (Fr.setCell (· = g) w2 ⟨g, 0, none⟩ _ rfl) fun j hj e => by have := h.new; omega
end
theorem tb_take {l : List Pr} (h : Tb l) (j : Nat) : Tb (l.take j) := Tb.of_app (m := l.drop j) (by rw [List.take_append_drop]; exact h)
theorem take_last {l : List Pr} {i j : Nat} (hi : i < l.length) (hj : j + 1 = i) (hl : 0 < (l.take i).length) : ((l.take i)[(l.take i).length - 1]'(by omega)).1 = (l[j]'(by omega)).1 := by
  have e : (l.take i).length = i := by rw [List.length_take]; omega
  rw [List.getElem_take]
  congr 2
  omega
def Rises (l : List Pr) (i : Nat) (k : Int) : Prop := ∀ j, (h : j < l.length) → j + 1 = i → l[j].1 < k
theorem tb_next {l : List Pr} {i : Nat} (hi : i < l.length) (h : Tb (l.take i)) (hk : Rises l i l[i].1) (h0 : 0 < l[i].2) (ht : l[i].2 ≤ 4611686018427387904 - ahd l i) : Tb (l.take (i + 1)) := by
  rw [List.take_succ_eq_append_getElem hi]
  refine h.snoc (fun hl => ?_) h0 ht
  have e : (l.take i).length = i := by rw [List.length_take]; omega
  have := hk (i - 1) (by omega) (by omega)
  rw [take_last hi (j := i - 1) (by omega) hl]
  exact this
theorem tb_next' {l : List Pr} {i : Nat} (hi : i < l.length) (h : Tb l) : Rises l i l[i].1 ∧ 0 < l[i].2 ∧ l[i].2 ≤ 4611686018427387904 - ahd l i := by
  have h2 := tb_take h (i + 1)
  rw [List.take_succ_eq_append_getElem hi] at h2
  obtain ⟨h3, h4, h5⟩ := h2.last
  refine ⟨fun j _ hj => ?_, h4, h5⟩
  have e : (l.take i).length = i := by rw [List.length_take]; omega
  have := h3 (by omega)
  rw [take_last hi hj (by omega)] at this
  exact this
theorem new_any (p : Option Addr) (n c : Nat) (l : List Pr) (w : World) (h : PrI w p l) (hn : l.length = n) (hsm : n ≤ 100000) (h64 : ∀ x ∈ l, x.2 < 18446744073709551616) :
    Calls Tryz.prog 97 #[.slice p n c] w fun e w' => Fr S0 w w' ∧
      ((Tb l ∧ ∃ g, e = .returned (.tuple #[.pointer (some ⟨g, 0, none⟩), .int .i64 0]) ∧ TabIs w' g l ∧ w.heap.size ≤ g) ∨ (¬ Tb l ∧ e = .returned (.tuple #[.pointer none, .int .i64 1]))) := by
  have H := Lib.hid h
  have HN := Lib.hid hn
  have H64 := Lib.hid h64
  have HR : Hid (Room n) := Lib.hid (Room.mk (by omega))
  clear h hn h64
  go_enter Tryz.func97, Tryz.ntmps97
  go_wp2_with (at_make; refine make_room elStp (.const (.int .i64 0)) (.tmp 8) rfl rfl rfl rfl HR.out ?_; intro w1 hown hf1; have HO := Lib.hid hown; have HF1 := Lib.hid hf1; clear hown hf1)
  have HM : Hid (Mk w (w1.alloc (.cells #[.slice (some ⟨w.heap.size, 0, none⟩) 0 n] 195)) w1.heap.size (.slice (some ⟨w.heap.size, 0, none⟩) 0 n) []) := Lib.hid
    ⟨heap_alloc_new _ _, (Fr.alloc S0 _ _).owns HO.out fun _ _ h => h, fun e => by have h1 := (HO.out.lt w.heap.size rfl).2; have h2 : w.heap.size = w1.heap.size := Option.some.inj e; omega, HF1.out.size, fun y hy => by obtain rfl := Option.some.inj hy; exact Nat.le_refl _, HF1.out.trans0 (Fr.alloc _ _ _)⟩
  clear HO HF1
  obtain ⟨g, hg⟩ : ∃ g, w1.heap.size = g := ⟨_, rfl⟩
  rw [hg] at HM ⊢
  generalize w1.alloc (.cells #[.slice (some ⟨w.heap.size, 0, none⟩) 0 n] 195) = w2 at HM ⊢
  clear hg
  go_loopw [2, 3, 5, 6, 14, 19, 33] (fun _ _ _ _ i _ _ wr => ∃ j : Nat, j ≤ n ∧ i = .int .i64 j ∧ Hid (Tb (l.take j)) ∧ Hid (∃ v, Mk w wr g v (l.take j))) (fun _ _ _ _ i _ _ _ => n - (intOf i).toNat)
  case atStart => exact ⟨0, by omega, rfl, Lib.hid Tb.nil, Lib.hid ⟨_, HM.out⟩⟩
  case round =>
    obtain ⟨i, hi, rfl, ht, hm⟩ := hrel
    by_cases hin : (i : Int) < (n : Int)
    · have hil : i < l.length := by rw [HN.out]; omega
      obtain ⟨v, hv⟩ := hm.out
      have hli : (l.take i).length = i := by rw [List.length_take]; omega
      obtain ⟨q, d, rfl⟩ : ∃ q d, v = .slice q i d := by
        obtain ⟨q, d, e⟩ := slFormN hv.own
        exact ⟨q, d, by rw [e, hli]⟩
      have HV := Lib.hid hv
      have HLI := Lib.hid hli
      have hpr := H.out.fr0 hv.fr
      obtain ⟨b, o, hp, k0, k1⟩ := hpr.at i hil
      have HP := Lib.hid hp
      obtain ⟨⟨tk, tn⟩, hx⟩ : ∃ t, l[i] = t := ⟨_, rfl⟩
      have HTK : Hid (l.take (i + 1) = l.take i ++ [(tk, tn)]) := Lib.hid (by rw [List.take_succ_eq_append_getElem hil, hx])
      rw [hx] at k0 k1
      simp only at k0 k1
      have fb := Fr.alloc S0 wr (.cells #[.int .i64 tk, .int .u64 (tn : Int)] 65)
      have HFB := Lib.hid fb
      have HTT : Hid (∀ W, Fr S0 wr W → Calls Tryz.prog 141 #[.pointer (some ⟨g, 0, none⟩)] W fun e w' => e = .returned (.int .u64 (ahd l i : Nat)) ∧ w' = W) := Lib.hid fun W f => total_any g (l.take i) W ((hv.tab ht.out (by omega)).fr0 f)
      have htot : ahd l i ≤ 4611686018427387904 := ht.out.tot
      have h64 : tn < 18446744073709551616 := by have := H64.out _ (List.getElem_mem hil); rw [hx] at this; exact this
      have HNX : Hid (Tb l → Rises l i tk ∧ 0 < tn ∧ tn ≤ 4611686018427387904 - ahd l i) := Lib.hid fun hh => by have := tb_next' hil hh; rw [hx] at this; exact this
      have HNY : Hid (Rises l i tk → 0 < tn → tn ≤ 4611686018427387904 - ahd l i → Tb (l.take (i + 1))) := Lib.hid fun a1 a2 a3 => tb_next hil ht.out (by rw [hx]; exact a1) (by rw [hx]; exact a2) (by rw [hx]; exact a3)
      obtain ⟨T, hT⟩ : ∃ T, ahd l i = T := ⟨_, rfl⟩
      have HAT := Lib.hid hT
      rw [hT] at HTT htot HNX HNY
      obtain ⟨D, hD⟩ : ∃ D, 4611686018427387904 - T = D := ⟨_, rfl⟩
      have eD : (4611686018427387904 : Int) - (T : Int) = (D : Int) := by omega
      have eD2 : IntKind.u64.wrap ((4611686018427387904 : Int) - (T : Int)) = (D : Int) := by rw [eD]; exact wrap_nat rfl (by omega)
      rw [hD] at HNX HNY
      have hDT : D + T = 4611686018427387904 := by omega
      have y0 := fb.cell hv.c (fun h => h)
      clear hT hD
      obtain ⟨HNT, j, pk, ej, hjn, k3, hl0, hd0⟩ | ⟨hno, HC5⟩ : (Hid (¬ Tb l) ∧ ∃ (j : Nat) (pk : Int), (i : Int) - 1 = (j : Int) ∧ (j : Int) < (n : Int) ∧ (wr.alloc (.cells #[.int .i64 tk, .int .u64 (tn : Int)] 65)).cell? ⟨b, o + j * 2, none⟩ = some (.int .i64 pk) ∧ decide (tk ≤ pk) = true ∧ decide (0 < i) = true) ∨ (Rises l i tk ∧ Hid (i = 0 ∨ ∃ (j : Nat) (pk : Int), (i : Int) - 1 = (j : Int) ∧ (j : Int) < (n : Int) ∧ (wr.alloc (.cells #[.int .i64 tk, .int .u64 (tn : Int)] 65)).cell? ⟨b, o + j * 2, none⟩ = some (.int .i64 pk) ∧ decide (tk ≤ pk) = false ∧ decide (0 < i) = true)) := by
        by_cases hi0 : i = 0
        · exact .inr ⟨fun j _ hj => by omega, Lib.hid (.inl hi0)⟩
        · obtain ⟨j, hj⟩ : ∃ j, j + 1 = i := ⟨i - 1, by omega⟩
          have hjl : j < l.length := by omega
          obtain ⟨b2, o2, hp3, k2, -⟩ := hpr.at j hjl
          obtain ⟨rfl, rfl⟩ : b = b2 ∧ o = o2 := by rw [hp] at hp3; simpa using hp3
          have k3 := fb.cell k2 (fun h => h)
          by_cases hle : tk ≤ l[j].1
          · exact .inl ⟨Lib.hid fun hh => by have := (HNX.out hh).1 j hjl hj; omega, j, _, by omega, by omega, k3, decide_eq_true hle, decide_eq_true (by omega)⟩
          · exact .inr ⟨fun j2 _ hj2 => by obtain rfl : j = j2 := (by omega); omega, Lib.hid (.inr ⟨j, _, by omega, by omega, k3, decide_eq_false hle, decide_eq_true (by omega)⟩)⟩
      · obtain rfl := HP.out
        clear ht hm hx hpr hp HNX HNY hv fb hil hi hli h64 htot hDT
        go_wp2_with fail
        go_quiet (fail)
        go_wp2_with fail
        go_ret2
        exact ⟨(HV.out.fr.trans0 HFB.out).trans0 (Fr.drewN _ _ _), .inr ⟨HNT.out, rfl⟩⟩
      obtain rfl := HP.out
      by_cases hz : tn = 0
      · have hz0 : ((tn : Int) == 0) = true := by rw [beq_iff_eq]; omega
        have HNT : Hid (¬ Tb l) := Lib.hid fun hh => by have := (HNX.out hh).2.1; omega
        clear hno
        clear ht hm hx hpr hp HNX HNY hv fb hil hi hli h64 htot hDT hz
        go_wp2_with fail
        go_cut [19] from 20 to 32 (fun x wx => x = .bool false ∧ ∃ k, wx = (wr.alloc (.cells #[.int .i64 tk, .int .u64 (tn : Int)] 65)).drewN k)
        case first =>
          rcases HC5.out with hi0 | ⟨j, pk, ej, hjn, k3, hl0, hd0⟩
          · have hd0 : decide (0 < i) = false := decide_eq_false (by omega)
            clear hi0
            go_quiet (fail)
            go_wp2_with fail
            go_meet
            exact ⟨rfl, _, rfl⟩
          · go_quiet (fail)
            go_wp2_with fail
            go_meet
            exact ⟨rfl, _, rfl⟩
        case rest =>
          obtain ⟨rfl, n1, rfl⟩ := hcut
          clear HC5
          go_wp2_with fail
          go_quiet (first | (exact (HTT.out _ (HFB.out.trans0 (Fr.drewN _ _ _))).mono fun _ _ h => ⟨h.1, _, h.2⟩))
          go_wp2_with fail
          go_ret2
          exact ⟨((HV.out.fr.trans0 HFB.out).trans0 (Fr.drewN _ _ _)).trans0 (Fr.drewN _ _ _), .inr ⟨HNT.out, rfl⟩⟩
      have hz0 : ((tn : Int) == 0) = false := by rw [beq_eq_false_iff_ne]; omega
      by_cases hgt : D < tn
      · have hg0 : decide (D < tn) = true := decide_eq_true hgt
        have HNT : Hid (¬ Tb l) := Lib.hid fun hh => by have := (HNX.out hh).2.2; omega
        clear hno
        clear ht hm hx hpr hp HNX HNY hv fb hil hi hli h64 htot hDT hz hgt
        go_wp2_with fail
        go_cut [19] from 20 to 32 (fun x wx => x = .bool false ∧ ∃ k, wx = (wr.alloc (.cells #[.int .i64 tk, .int .u64 (tn : Int)] 65)).drewN k)
        case first =>
          rcases HC5.out with hi0 | ⟨j, pk, ej, hjn, k3, hl0, hd0⟩
          · have hd0 : decide (0 < i) = false := decide_eq_false (by omega)
            clear hi0
            go_quiet (fail)
            go_wp2_with fail
            go_meet
            exact ⟨rfl, _, rfl⟩
          · go_quiet (fail)
            go_wp2_with fail
            go_meet
            exact ⟨rfl, _, rfl⟩
        case rest =>
          obtain ⟨rfl, n1, rfl⟩ := hcut
          clear HC5
          go_wp2_with fail
          go_quiet (first | (exact (HTT.out _ (HFB.out.trans0 (Fr.drewN _ _ _))).mono fun _ _ h => ⟨h.1, _, h.2⟩))
          go_wp2_with fail
          go_ret2
          exact ⟨((HV.out.fr.trans0 HFB.out).trans0 (Fr.drewN _ _ _)).trans0 (Fr.drewN _ _ _), .inr ⟨HNT.out, rfl⟩⟩
      have hg0 : decide (D < tn) = false := decide_eq_false hgt
      have HTN : Hid (Tb (l.take (i + 1))) := Lib.hid (HNY.out hno (by omega) (by omega))
      have HR2 : Hid (Room (i + 1)) := Lib.hid (Room.mk (by omega))
      obtain ⟨T2, hT2⟩ : ∃ T2, T + tn = T2 := ⟨_, rfl⟩
      have eT2 : IntKind.u64.wrap ((T : Int) + (tn : Int)) = (T2 : Int) := wrap_nat (by omega) (by omega)
      have HT2 : Hid (ltot (l.take i) + tn = T2) := Lib.hid (by rw [← hT2, ← HAT.out]; rfl)
      clear hT2 hno
      clear ht hm hx hpr hp HNX HNY hv fb hil hi hli h64 htot hDT hz hgt
      go_wp2_with fail
      go_cut [19] from 20 to 32 (fun x wx => x = .bool false ∧ ∃ k, wx = (wr.alloc (.cells #[.int .i64 tk, .int .u64 (tn : Int)] 65)).drewN k)
      case first =>
        rcases HC5.out with hi0 | ⟨j, pk, ej, hjn, k3, hl0, hd0⟩
        · have hd0 : decide (0 < i) = false := decide_eq_false (by omega)
          clear hi0
          go_quiet (fail)
          go_wp2_with fail
          go_meet
          exact ⟨rfl, _, rfl⟩
        · go_quiet (fail)
          go_wp2_with fail
          go_meet
          exact ⟨rfl, _, rfl⟩
      case rest =>
        obtain ⟨rfl, n1, rfl⟩ := hcut
        clear HC5
        go_wp2_with fail
        go_quiet (first | (exact (HTT.out _ (HFB.out.trans0 (Fr.drewN _ _ _))).mono fun _ _ h => ⟨h.1, _, h.2⟩))
        go_wp2_with fail
        have HF3 : Hid (Fr S0 wr (((wr.alloc (.cells #[.int .i64 tk, .int .u64 (tn : Int)] 65)).drewN n1).drewN nq)) := Lib.hid ((HFB.out.trans0 (Fr.drewN _ _ _)).trans0 (Fr.drewN _ _ _))
        have b3 : (((wr.alloc (.cells #[.int .i64 tk, .int .u64 (tn : Int)] 65)).drewN n1).drewN nq).heap[wr.heap.size]? = some (.cells #[.int .i64 tk, .int .u64 (tn : Int)] 65) := heap_alloc_new wr (.cells #[.int .i64 tk, .int .u64 (tn : Int)] 65)
        generalize hW3 : ((wr.alloc (.cells #[.int .i64 tk, .int .u64 (tn : Int)] 65)).drewN n1).drewN nq = W3 at HF3 b3 ⊢
        clear hW3
        have HM3 := Lib.hid (HV.out.fr0 HF3.out)
        have own3 := HM3.out.own
        rw [HLI.out] at own3
        have HO3 := Lib.hid own3
        have z0 := HM3.out.c
        have z1 : W3.cell? ⟨wr.heap.size, 0, none⟩ = some (.int .i64 tk) := by simp [World.cell?, b3]
        have z2 : W3.cell? ⟨wr.heap.size, 1, none⟩ = some (.int .u64 (tn : Int)) := by simp [World.cell?, b3]
        have z3 := (Fr.alloc S0 W3 (.cells #[.int .i64 tk, .int .u64 (T2 : Int)] 197)).cell z0 (fun h => h)
        have one : ∀ u ∈ (#[Value.int .i64 tk, Value.int .u64 (T2 : Int)]).toList, u.oneCell' = true := one_pr tk T2
        have HONE := Lib.hid one
        clear own3 b3 k0 k1 y0 one
        go_region_law (first
          | (go_simp; go_at_call 141; (with_reducible refine (HTT.out _ (HF3.out.trans0 (Fr.drew _ _))).mono ?_); rintro _ w5 ⟨rfl, rfl⟩; dsimp only)
          | (refine app_step elStp (.tmp 49) (.tmp 58) rfl HO3.out rfl rfl rfl rfl rfl HONE.out HR2.out ?_; intro gg cap w4 hown hgrow hat hlt2; have hat2 : (Value.slice q i d).ownBlock = some gg ∨ W3.heap.size ≤ gg := (by rcases hat with h1 | h1; exact .inl h1; exact .inr (by omega)); have HAP := Lib.hid (HM3.out.app (x := (tk, tn)) HLI.out (by simp only [HT2.out]; exact hown) (Fr.alloc S0 _ _) hgrow hat2); have y3 : w4.cell? ⟨g, 0, none⟩ = some (.slice q i d) := (by simp [World.cell?, HAP.out.1]); have y4 : w4.frozen? ⟨g, 0, none⟩ = false := (by simp [World.frozen?, HAP.out.1]); clear hown hgrow hat hat2 hlt2))
        all_goals
          go_wp2_with fail
          go_roundw
          case rel => exact ⟨i + 1, by omega, by go_num, HTN, Lib.hid ⟨_, by rw [HTK.out]; exact HAP.out.2⟩⟩
          case measure => simp [intOf]; omega
    · obtain rfl : i = n := by omega
      obtain ⟨v, hv⟩ := hm.out
      have hll : l.take i = l := by rw [← HN.out, List.take_length]
      have ht2 := ht.out
      rw [hll] at hv ht2
      have HE : Hid (Fr S0 w wr ∧ Tb l ∧ TabIs wr g l ∧ w.heap.size ≤ g) := Lib.hid ⟨hv.fr, ht2, hv.tab ht2 (by rw [HN.out]; exact hsm), hv.new⟩
      clear hm hv hll ht2 ht
      go_wp2_with fail
      go_ret2
      exact ⟨HE.out.1, .inl ⟨HE.out.2.1, g, rfl, HE.out.2.2⟩⟩
end Go.Proofs.YtnndgpggjlhhpaaGreat
