/- DnPairs, DnRef, DnRefPut, DnRefAdd, DnRefTake, SpRefAdd -/
import Derived.Test.YtaemgflhgdlmiaaGreatPw1
import Derived.Test.YtaemgflhgdlmiaaGreatPw2
import Derived.Test.YtaemgflhgdlmiaaGreatPw4
import Derived.StillTailTactics
import Derived.BigRegion
import Derived.WalkKit
import Derived.WalkSpells
import Derived.WalkLawsBesides
import Derived.Deep.QuietTactic
import Derived.BigQuiet
import Derived.RegionTactic
import Derived.Deep.AppendLies
import Derived.Deep.RegionLaw
import Derived.Laws.ResultCell
import Derived.Laws.EntriesVeiled
import Derived.Lib.Hide
import Derived.Test.YtaemgflhgdlmiaaGreatRows
import Derived.Laws.BytesArg
import Derived.Lib.SlBytesConst
import Derived.Maps.AppendAt
import Derived.Laws.AppendOwnNone
set_option maxRecDepth 100000
set_option maxHeartbeats 8000000
namespace Go.Proofs.YtaemgflhgdlmiaaGreat
open Go.RowKit
theorem info_pr : (Tryz.prog.info? 67).map (fun i => (i.zero, i.size, i.bytes)) = some (some (.agg #[.int .i64 0, .int .u64 0]), 2, 16) := by kernel_rfl
theorem elPr : ElemOk Tryz.prog 40 67 (.agg #[.int .i64 0, .int .u64 0]) 2 16 := ⟨Tryz.underlying40, info_pr, rfl, by decide, by decide⟩
def prs (l : List Pr) : List Value := l.flatMap fun t => [.int .i64 t.1, .int .u64 (t.2 : Int)]
theorem prs_snoc (l : List Pr) (t : Pr) : prs (l ++ [t]) = prs l ++ [.int .i64 t.1, .int .u64 (t.2 : Int)] := by simp [prs]
theorem prs_len (l : List Pr) : (prs l).length = l.length * 2 := by
  induction l with
  | nil => rfl
  | cons t l ih => rw [show prs (t :: l) = [.int .i64 t.1, .int .u64 (t.2 : Int)] ++ prs l from rfl, List.length_append, ih, List.length_cons]; simp; omega
theorem prs_at : ∀ (l : List Pr) (i : Nat) (h : i < l.length), (prs l)[i * 2]? = some (.int .i64 l[i].1) ∧ (prs l)[i * 2 + 1]? = some (.int .u64 (l[i].2 : Int))
  | t :: l, 0, _ => by simp [prs]
  | t :: l, i + 1, h => by
    have := prs_at l i (by simpa using h)
    rw [show prs (t :: l) = [.int .i64 t.1, .int .u64 (t.2 : Int)] ++ prs l from rfl]
    rw [List.getElem?_append_right (by simp; omega), List.getElem?_append_right (by simp; omega)]
    simp only [List.length_cons, List.length_nil, List.getElem_cons_succ]
    rw [show (i + 1) * 2 - (0 + 1 + 1) = i * 2 by omega, show (i + 1) * 2 + 1 - (0 + 1 + 1) = i * 2 + 1 by omega]
    exact this
theorem one_pr (x : Int) (y : Nat) : ∀ u ∈ (#[Value.int .i64 x, Value.int .u64 (y : Int)]).toList, u.oneCell' = true := by
  intro u hu
  simp only [List.mem_cons, List.not_mem_nil, or_false] at hu
  rcases hu with rfl | rfl <;> rfl
structure PrI (w : World) (p : Option Addr) (l : List Pr) : Prop where
  len : l.length ≤ maxLen
  cel : l ≠ [] → ∃ b off, p = some ⟨b, off, none⟩ ∧ ∀ i, (h : i < l.length) → w.cell? ⟨b, off + i * 2, none⟩ = some (.int .i64 l[i].1) ∧ w.cell? ⟨b, off + i * 2 + 1, none⟩ = some (.int .u64 (l[i].2 : Nat))
theorem PrI.fr {S : Nat → Prop} {w w' : World} {p : Option Addr} {l : List Pr} (h : PrI w p l) (f : Fr S w w') (ho : Off S p) : PrI w' p l :=
  ⟨h.len, fun hl => let ⟨b, o, hp, hc⟩ := h.cel hl; ⟨b, o, hp, fun i hi => ⟨f.cell (hc i hi).1 (ho ⟨b, o, none⟩ hp), f.cell (hc i hi).2 (ho ⟨b, o, none⟩ hp)⟩⟩⟩
theorem PrI.fr0 {w w' : World} {p : Option Addr} {l : List Pr} (h : PrI w p l) (f : Fr S0 w w') : PrI w' p l := h.fr f (Off.s0 p)
theorem PrI.at {w : World} {p : Option Addr} {l : List Pr} (h : PrI w p l) (i : Nat) (hi : i < l.length) : ∃ b off, p = some ⟨b, off, none⟩ ∧ w.cell? ⟨b, off + i * 2, none⟩ = some (.int .i64 l[i].1) ∧ w.cell? ⟨b, off + i * 2 + 1, none⟩ = some (.int .u64 (l[i].2 : Nat)) :=
  let ⟨b, off, hp, hc⟩ := h.cel (by intro e; simp [e] at hi); ⟨b, off, hp, hc i hi⟩
theorem PrI.nil (w : World) (p : Option Addr) : PrI w p [] := ⟨by simp, fun h => absurd rfl h⟩
theorem PrI.lt {w : World} {p : Option Addr} {l : List Pr} (h : PrI w p l) (hl : l ≠ []) : ∀ a, p = some a → a.block < w.heap.size := by
  intro a ha
  obtain ⟨b, off, hp, hc⟩ := h.cel hl
  rw [hp] at ha
  obtain rfl := Option.some.inj ha
  exact World.block_lt_of_cell? w _ (hc 0 (List.length_pos_iff.2 hl)).1
theorem PrI.ofOwns {w : World} {q : Option Addr} {n d : Nat} {l : List Pr} (h : w.ownsRow 0 67 2 (.slice q n d) n (prs l)) (hm : n ≤ maxLen) : PrI w q l := by
  have hlen : l.length * 2 = n * 2 := by have h1 := h.1; rw [prs_len] at h1; exact h1
  refine ⟨by omega, fun hl => ?_⟩
  rcases h.2 with ⟨hv, hn⟩ | ⟨g, cap, cur, hv, _⟩
  · exact absurd (List.eq_nil_of_length_eq_zero (by omega)) hl
  · simp only [Value.slice.injEq] at hv
    obtain ⟨rfl, -, rfl⟩ := hv
    refine ⟨g, 0, rfl, fun i hi => ?_⟩
    obtain ⟨h1, h2⟩ := prs_at l i hi
    rw [Nat.zero_add]
    exact ⟨(h.cellAt _ (by omega)).trans h1, (h.cellAt _ (by omega)).trans h2⟩
theorem slFormN {w : World} {e : TypeId} {s : Nat} {v : Value} {n : Nat} {xs : List Value} (h : w.ownsRow 0 e s v n xs) : ∃ p c, v = .slice p n c := by
  rcases h.2 with ⟨h, h0⟩ | ⟨g, cap, cur, h, _⟩
  · exact ⟨none, 0, by rw [h, h0]⟩
  · exact ⟨_, _, h⟩
structure BoxPr (w : World) (x : Nat) (v : Value) (n : Nat) (l : List Pr) : Prop where
  blk : w.heap[x]? = some (.cells #[v] 40 (0, 0))
  own : w.ownsRow 0 67 2 v n (prs l)
  off : v.ownBlock ≠ some x
theorem BoxPr.c {w : World} {x : Nat} {v : Value} {n : Nat} {l : List Pr} (h : BoxPr w x v n l) : w.cell? ⟨x, 0, none⟩ = some v := by simp [World.cell?, h.blk]
theorem BoxPr.z {w : World} {x : Nat} {v : Value} {n : Nat} {l : List Pr} (h : BoxPr w x v n l) : w.frozen? ⟨x, 0, none⟩ = false := by simp [World.frozen?, h.blk]
structure PrsNew (w w' : World) (p : Option Addr) (c n : Nat) (l : List Pr) : Prop where
  own : w'.ownsRow 0 67 2 (.slice p n c) n (prs l)
  len : l.length = n
  fresh : ∀ a, p = some a → w.heap.size ≤ a.block
  fr : Fr S0 w w'
theorem PrsNew.pri {w w' : World} {p : Option Addr} {c n : Nat} {l : List Pr} (h : PrsNew w w' p c n l) (hn : n ≤ 1000000) : PrI w' p l := PrI.ofOwns h.own (by unfold maxLen; omega)
theorem BoxPr.fr0 {w w' : World} {x : Nat} {v : Value} {n : Nat} {l : List Pr} (h : BoxPr w x v n l) (f : Fr S0 w w') : BoxPr w' x v n l := ⟨f.row h.blk (fun h => h), f.owns h.own fun _ _ h => h, h.off⟩
end Go.Proofs.YtaemgflhgdlmiaaGreat

namespace Go.Proofs.YtaemgflhgdlmiaaGreat
open Go.RowKit
theorem tot_take {l : List Pr} {j : Nat} (h : j < l.length) : ltot (l.take (j + 1)) = ltot (l.take j) + l[j].2 := by
  rw [List.take_succ_eq_append_getElem h]
  generalize l.take j = d
  induction d with
  | nil => simp [ltot]
  | cons x d ih => rw [List.cons_append, ltot, ltot, ih]; omega
theorem tot_take_le (l : List Pr) (j : Nat) : ltot (l.take j) ≤ ltot l := by
  induction l generalizing j with
  | nil => simp
  | cons x l ih =>
    cases j with
    | zero => simp [ltot]
    | succ j => rw [List.take_succ_cons, ltot, ltot]; have := ih j; omega
theorem rtotal_any (p : Option Addr) (n c : Nat) (l : List Pr) (w : World) (h : PrI w p l) (hn : l.length = n) (ht : ltot l < 18446744073709551616) :
    Calls Tryz.prog 37 #[.slice p n c] w fun e w' => e = .returned (.int .u64 (ltot l : Nat)) ∧ Fr S0 w w' := by
  have H := Lib.hid h
  have HN := Lib.hid hn
  have HT := Lib.hid ht
  have hlen := h.len
  rw [hn] at hlen
  unfold maxLen at hlen
  clear h hn ht
  go_enter Tryz.func37, Tryz.ntmps37
  go_wp2_with fail
  go_loopw [3, 4] (fun s i wr => ∃ j T : Nat, j ≤ n ∧ i = .int .i64 j ∧ s = .int .u64 T ∧ Hid (ltot (l.take j) = T) ∧ w = wr) (fun _ i _ => n - (intOf i).toNat)
  case atStart => exact ⟨0, 0, by omega, rfl, rfl, (by first | exact Lib.hid rfl | exact Lib.hid trivial), rfl⟩
  case round =>
    obtain ⟨j, T, hj, rfl, rfl, hT, hw⟩ := hrel
    obtain rfl := hw
    by_cases hjn : (j : Int) < (n : Int)
    · have hjl : j < l.length := by rw [HN.out]; omega
      obtain ⟨b, o, rfl, c0, c1⟩ := H.out.at j hjl
      have HD := Lib.hid (tot_take hjl)
      have hle := tot_take_le l (j + 1)
      rw [HD.out, hT.out] at hle
      obtain ⟨⟨tk, tn⟩, ht⟩ : ∃ t, l[j] = t := ⟨_, rfl⟩
      rw [ht] at c0 c1 HD hle
      have hlt : T + tn < 18446744073709551616 := by have := HT.out; simp only at hle; omega
      clear ht hle
      simp only at c0 c1 hlt HD
      have HDD : Hid (ltot (l.take (j + 1)) = T + tn) := Lib.hid (by rw [HD.out, hT.out])
      clear HD hT
      go_wp2_with fail
      go_roundw
      case rel => exact ⟨j + 1, T + tn, by omega, by go_num, by go_num, HDD, trivial⟩
      case measure => simp [intOf]; omega
    · obtain rfl : j = n := by omega
      have HV : Hid (ltot l = T) := Lib.hid (by rw [← hT.out, ← HN.out, List.take_length])
      clear hT
      go_wp2_with fail
      go_ret
      exact ⟨by first | (rw [HV.out]; done) | (rw [HV.out]; rfl), Fr.refl _ _⟩
end Go.Proofs.YtaemgflhgdlmiaaGreat

namespace Go.Proofs.YtaemgflhgdlmiaaGreat
open Go.RowKit
theorem rsame_yes (p q : Option Addr) (n c d : Nat) (l : List Pr) (w : World) (h : PrI w p l) (h' : PrI w q l) (hn : l.length = n) :
    Calls Tryz.prog 38 #[.slice p n c, .slice q n d] w fun e w' => e = .returned (.bool true) ∧ Fr S0 w w' := by
  have H := Lib.hid h
  have H' := Lib.hid h'
  have HN := Lib.hid hn
  have hlen := h.len
  rw [hn] at hlen
  unfold maxLen at hlen
  clear h h' hn
  go_enter Tryz.func38, Tryz.ntmps38
  go_wp2_with fail
  go_loopw [5] (fun i wr => ∃ j : Nat, j ≤ n ∧ i = .int .i64 j ∧ Fr S0 w wr) (fun i _ => n - (intOf i).toNat)
  case atStart => exact ⟨0, by omega, rfl, Fr.refl _ _⟩
  case round =>
    obtain ⟨j, hj, rfl, hfr⟩ := hrel
    have HFR := Lib.hid hfr
    clear hfr
    by_cases hjn : (j : Int) < (n : Int)
    · obtain ⟨b, o, rfl, c0, c1⟩ := (H.out.fr0 HFR.out).at j (by rw [HN.out]; omega)
      obtain ⟨b', o', rfl, e0, e1⟩ := (H'.out.fr0 HFR.out).at j (by rw [HN.out]; omega)
      obtain ⟨⟨tk, tn⟩, ht⟩ : ∃ t, l[j]'(by rw [HN.out]; omega) = t := ⟨_, rfl⟩
      rw [ht] at c0 c1 e0 e1
      clear ht
      go_wp2_with fail
      go_quiet (fail)
      go_wp2_with fail
      go_roundw
      case rel => exact ⟨j + 1, by omega, by go_num, HFR.out.trans0 (Fr.drewN _ _ _)⟩
      case measure => simp [intOf]; omega
    · go_wp2_with fail
      go_ret
      exact ⟨rfl, HFR.out⟩
structure Acc (w wr : World) (v : Value) (N : Nat) (L : List Pr) : Prop where
  own : wr.ownsRow 0 67 2 v N (prs L)
  fresh : Fresh w v
  fr : Fr S0 w wr
theorem Acc.nil {w wr : World} (f : Fr S0 w wr) : Acc w wr (.slice none 0 0) 0 [] := ⟨World.ownsRow_nil _ _ _ _, fresh_nil _ _, f⟩
theorem Acc.len {w wr : World} {v : Value} {N : Nat} {L : List Pr} (h : Acc w wr v N L) : L.length = N := by
  have := h.own.1
  rw [prs_len] at this
  omega
theorem Acc.fr0 {w wr w2 : World} {v : Value} {N : Nat} {L : List Pr} (h : Acc w wr v N L) (f : Fr S0 wr w2) : Acc w w2 v N L := ⟨f.owns h.own fun _ _ h => h, h.fresh, h.fr.trans0 f⟩
theorem Acc.app {w wr w3 : World} {v : Value} {N : Nat} {L : List Pr} {o : Obj} {g cap n : Nat} {k : Int} (h : Acc w wr v N L) (own : w3.ownsRow 0 67 2 (.slice (some ⟨g, 0, none⟩) (N + 1) cap) (N + 1) (prs L ++ #[Value.int .i64 k, Value.int .u64 (n : Int)].toList))
    (hg : (wr.alloc o).grownBy w3 v.ownBlock) (hat : v.ownBlock = some g ∨ g = wr.heap.size + 1) : Acc w w3 (.slice (some ⟨g, 0, none⟩) (N + 1) cap) (N + 1) (L ++ [(k, n)]) :=
  ⟨by rw [prs_snoc]; exact own, fresh_app h.fr h.fresh hat, (h.fr.trans0 (Fr.alloc S0 wr _)).append hg h.fresh⟩
structure Rd (w : World) (v : Value) (l : List Pr) : Prop where
  ex : ∃ p n c, v = .slice p n c ∧ l.length = n ∧ PrI w p l
theorem Acc.rd {w wr : World} {v : Value} {N : Nat} {L : List Pr} (h : Acc w wr v N L) (hN : N ≤ 100000) : Rd wr v L := by
  have hl := h.len
  obtain ⟨own, f, r⟩ := h
  obtain ⟨p, c, rfl⟩ := slFormN own
  exact ⟨p, _, c, rfl, hl, PrI.ofOwns own (by unfold maxLen; omega)⟩
theorem rput_any (p : Option Addr) (m c n : Nat) (k : Int) (l : List Pr) (w : World) (h : PrI w p l) (hm : l.length = m) (hM : m ≤ 100000) (ht : ltot l + n < 18446744073709551616) :
    Calls Tryz.prog 76 #[.slice p m c, .int .i64 k, .int .u64 (n : Nat)] w fun e w' => ∃ v N, e = .returned v ∧ Acc w w' v N (lput l k n) := by
  have H := Lib.hid h
  have HM := Lib.hid hm
  have HT := Lib.hid (fun (j : Nat) (hj : j < l.length) => (by have h1 := tot_take hj; have h2 := tot_take_le l (j + 1); omega : l[j].2 + n < 18446744073709551616))
  have hnn : (n : Int) < 18446744073709551616 := by omega
  have HNN := Lib.hid hnn
  clear h hm ht hnn
  go_enter Tryz.func76, Tryz.ntmps76
  go_wp2_with fail
  go_loopw [7, 8, 9] (fun o d i wr => ∃ (j N : Nat) (L : List Pr) (dn : Bool), j ≤ m ∧ i = .int .i64 j ∧ d = .bool dn ∧ N ≤ j + dn.toNat ∧ Hid (Acc w wr o N L) ∧ Hid (L ++ (if dn then l.drop j else lput (l.drop j) k n) = lput l k n)) (fun _ _ i _ => m - (intOf i).toNat)
  case atStart => exact ⟨0, 0, [], false, by omega, rfl, rfl, by simp, Lib.hid (Acc.nil (Fr.refl _ _)), by first | exact Lib.hid rfl | exact Lib.hid trivial⟩
  case round =>
    obtain ⟨j, N, L, dn, hj, rfl, rfl, hNj', hacc, heq⟩ := hrel
    have hNj := Lib.hid hNj'
    have hN1 : N ≤ j + 1 := by cases dn <;> simp at hNj' <;> omega
    clear hNj'
    obtain ⟨pv, cv, rfl⟩ := slFormN hacc.out.own
    have HR : Hid (Room (N + 1)) := Lib.hid (Room.mk (by omega))
    have HR2 : Hid (Room (N + 1 + 1)) := Lib.hid (Room.mk (by omega))
    by_cases hjm : (j : Int) < (m : Int)
    · have hjl : j < l.length := by rw [HM.out]; omega
      have HT1 := HT.out j hjl
      have HDR := Lib.hid (List.drop_eq_getElem_cons hjl)
      obtain ⟨b, o, rfl, c0, c1⟩ := (H.out.fr0 hacc.out.fr).at j hjl
      have HC : Hid (∀ W, Fr S0 w W → W.cell? ⟨b, o + j * 2, none⟩ = some (.int .i64 l[j].1) ∧ W.cell? ⟨b, o + j * 2 + 1, none⟩ = some (.int .u64 (l[j].2 : Int))) := Lib.hid fun W f => by
        obtain ⟨b', o', hp, c3, c4⟩ := (H.out.fr0 f).at j hjl
        simp only [Option.some.injEq, Addr.mk.injEq] at hp
        obtain ⟨rfl, rfl, -⟩ := hp
        exact ⟨c3, c4⟩
      obtain ⟨⟨tk, tn⟩, ht⟩ : ∃ t, l[j] = t := ⟨_, rfl⟩
      rw [ht] at c0 c1 HDR HT1 HC
      simp only at c0 c1 HT1 HC
      clear ht
      cases dn with
      | true =>
        have HE : Hid ((L ++ [(tk, tn)]) ++ l.drop (j + 1) = lput l k n) := Lib.hid (by rw [← heq.out, if_pos rfl, HDR.out, List.append_assoc]; rfl)
        clear heq HDR
        go_wp2_with ((with_reducible show wpList _ _ _ (Oper.mk (some 58) _ _ _ _ _ :: _) _ _); refine app_one elPr (.tmp 52) (.tmp 57) rfl hacc.out.own rfl rfl rfl rfl rfl (one_pr tk tn) HR.out ?_; intro g1 cap1 w3 hown hgrow hat hlt; have HA3 := Lib.hid (hacc.out.app hown hgrow hat); clear hown hgrow hat hlt)
        go_roundw
        case rel => exact ⟨j + 1, N + 1, _, true, by omega, by go_num, rfl, by have := hNj.out; simp at this ⊢; omega, HA3, by rw [if_pos rfl]; exact HE⟩
        case measure => simp [intOf]; omega
      | false =>
        by_cases hlt : tk < k
        · have HE : Hid ((L ++ [(tk, tn)]) ++ lput (l.drop (j + 1)) k n = lput l k n) := Lib.hid (by rw [← heq.out, if_neg (by decide), HDR.out, lput, if_pos hlt, List.append_assoc]; rfl)
          have hge : decide (k ≤ tk) = false := decide_eq_false (by omega)
          clear heq HDR
          go_wp2_with ((with_reducible show wpList _ _ _ (Oper.mk (some 58) _ _ _ _ _ :: _) _ _); refine app_one elPr (.tmp 52) (.tmp 57) rfl hacc.out.own rfl rfl rfl rfl rfl (one_pr tk tn) HR.out ?_; intro g1 cap1 w3 hown hgrow hat hlt; have HA3 := Lib.hid (hacc.out.app hown hgrow hat); clear hown hgrow hat hlt)
          go_roundw
          case rel => exact ⟨j + 1, N + 1, _, false, by omega, by go_num, rfl, by have := hNj.out; simp at this ⊢; omega, HA3, by rw [if_neg (by decide)]; exact HE⟩
          case measure => simp [intOf]; omega
        · have hge : decide (k ≤ tk) = true := decide_eq_true (by omega)
          by_cases hk : tk = k
          · subst hk
            have HE : Hid ((L ++ [(tk, tn + n)]) ++ l.drop (j + 1) = lput l tk n) := Lib.hid (by rw [← heq.out, if_neg (by decide), HDR.out, lput, if_neg hlt, if_pos rfl, List.append_assoc]; rfl)
            have esum : (tn : Int) + (n : Int) = ((tn + n : Nat) : Int) := by omega
            obtain ⟨U, hU⟩ : ∃ U, tn + n = U := ⟨_, rfl⟩
            rw [hU] at HE esum HT1
            have hUm : (U : Int) < 18446744073709551616 := by omega
            clear heq HDR hlt hU HT1
            go_wp2_with ((with_reducible show wpList _ _ _ (Oper.mk (some 45) _ _ _ _ _ :: _) _ _); refine app_one elPr (.tmp 34) (.tmp 44) rfl hacc.out.own rfl rfl rfl rfl rfl (one_pr tk U) HR.out ?_; intro g1 cap1 w3 hown hgrow hat hlt; have HA3 := Lib.hid (hacc.out.app hown hgrow hat); clear hown hgrow hat hlt)
            go_roundw
            case rel => exact ⟨j + 1, N + 1, _, true, by omega, by go_num, rfl, by have := hNj.out; simp at this ⊢; omega, HA3, by rw [if_pos rfl]; exact HE⟩
            case measure => simp [intOf]; omega
          · have HE : Hid (((L ++ [(k, n)]) ++ [(tk, tn)]) ++ l.drop (j + 1) = lput l k n) := Lib.hid (by rw [← heq.out, if_neg (by decide), HDR.out, lput, if_neg hlt, if_neg hk, List.append_assoc, List.append_assoc]; rfl)
            have hkk : (tk == k) = false := by rw [beq_eq_false_iff_ne]; exact hk
            clear heq HDR hlt hk
            go_wp2_with (first
              | ((with_reducible show wpList _ _ _ (Oper.mk (some 51) _ _ _ _ _ :: _) _ _); refine app_one elPr (.tmp 46) (.tmp 50) rfl hacc.out.own rfl rfl rfl rfl rfl (one_pr k n) HR.out ?_; intro g1 cap1 w3 hown hgrow hat hlt; have HA3 := Lib.hid (hacc.out.app hown hgrow hat); obtain ⟨d0, d1⟩ := HC.out w3 HA3.out.fr; clear hown hgrow hat hlt)
              | ((with_reducible show wpList _ _ _ (Oper.mk (some 58) _ _ _ _ _ :: _) _ _); refine app_one elPr (.tmp 52) (.tmp 57) rfl HA3.out.own rfl rfl rfl rfl rfl (one_pr tk tn) HR2.out ?_; intro g2 cap2 w4 hown hgrow hat hlt; have HA4 := Lib.hid (HA3.out.app hown hgrow hat); clear hown hgrow hat hlt))
            go_roundw
            case rel => exact ⟨j + 1, N + 1 + 1, _, true, by omega, by go_num, rfl, by have := hNj.out; simp at this ⊢; omega, HA4, by rw [if_pos rfl]; exact HE⟩
            case measure => simp [intOf]; omega
    · obtain rfl : j = m := by omega
      cases dn with
      | true =>
        have HE : Hid (L = lput l k n) := Lib.hid (by rw [← heq.out, if_pos rfl, ← HM.out, List.drop_length, List.append_nil])
        clear heq
        go_wp2_with fail
        go_ret
        exact ⟨_, rfl, N, by rw [← HE.out]; exact hacc.out⟩
      | false =>
        have HE : Hid (L ++ [(k, n)] = lput l k n) := Lib.hid (by rw [← heq.out, if_neg (by decide), ← HM.out, List.drop_length, lput])
        clear heq
        go_wp2_with ((with_reducible show wpList _ _ _ (Oper.mk (some 66) _ _ _ _ _ :: _) _ _); refine app_one elPr (.tmp 61) (.tmp 65) rfl hacc.out.own rfl rfl rfl rfl rfl (one_pr k n) HR.out ?_; intro g1 cap1 w3 hown hgrow hat hlt; have HA3 := Lib.hid (hacc.out.app hown hgrow hat); clear hown hgrow hat hlt)
        go_ret
        exact ⟨_, rfl, N + 1, by rw [← HE.out]; exact HA3.out⟩
end Go.Proofs.YtaemgflhgdlmiaaGreat

namespace Go.Proofs.YtaemgflhgdlmiaaGreat
open Go.RowKit
structure Got (w w' : World) (p : Option Addr) (v : Value) (l : List Pr) : Prop where
  ex : ∃ q n c, v = .slice q n c ∧ l.length = n ∧ PrI w' q l ∧ (q = p ∨ ∀ a, q = some a → w.heap.size ≤ a.block ∧ a.block < w'.heap.size)
  fr : Fr S0 w w'
theorem Got.same {w w' : World} {p : Option Addr} {n c : Nat} {l : List Pr} (h : PrI w p l) (hn : l.length = n) (f : Fr S0 w w') : Got w w' p (.slice p n c) l := ⟨⟨p, n, c, rfl, hn, h.fr0 f, .inl rfl⟩, f⟩
theorem Acc.got {w w0 w' : World} {v : Value} {N : Nat} {l : List Pr} (p : Option Addr) (h : Acc w0 w' v N l) (hN : l.length ≤ 100000) (f : Fr S0 w w0) : Got w w' p v l := by
  have hl := h.len
  obtain ⟨own, fv, r⟩ := h
  obtain ⟨q, c, rfl⟩ := slFormN own
  refine ⟨⟨q, _, c, rfl, hl, PrI.ofOwns own (by unfold maxLen; omega), .inr fun a ha => ?_⟩, f.trans0 r⟩
  subst ha
  rcases own.2 with ⟨h1, -⟩ | ⟨g', cap, cur, h1, -⟩
  · cases h1
  · obtain ⟨h2, -, -⟩ := Value.slice.inj h1
    obtain rfl := Option.some.inj h2
    have h3 := fv g' rfl
    have h4 := f.size
    exact ⟨Nat.le_trans h4 h3, (own.lt g' rfl).2⟩
section
variable (p : Option Addr) (m c n : Nat) (k : Int) (l : List Pr) (w : World)
end
end Go.Proofs.YtaemgflhgdlmiaaGreat

namespace Go.Proofs.YtaemgflhgdlmiaaGreat
open Go.RowKit
theorem len_put_le : ∀ (l : List Pr) (k : Int) (n : Nat), (lput l k n).length ≤ l.length + 1
  | [], _, _ => by simp [lput]
  | x :: r, k, n => by
    have := len_put_le r k n
    rw [lput]
    split
    · rw [List.length_cons, List.length_cons]; omega
    · split <;> simp
theorem len_puts_le : ∀ (m l : List Pr), (lputs l m).length ≤ l.length + m.length
  | [], l => by simp [lputs]
  | x :: m, l => by
    have h1 := len_puts_le m (lput l x.1 x.2)
    have h2 := len_put_le l x.1 x.2
    rw [show lputs l (x :: m) = lputs (lput l x.1 x.2) m from rfl, List.length_cons]
    omega
theorem lputs_take (l q : List Pr) (i : Nat) (h : i < q.length) : lputs l (q.take (i + 1)) = lput (lputs l (q.take i)) q[i].1 q[i].2 := by
  rw [List.take_succ_eq_append_getElem h, putAll_snoc]
theorem Got.step {w W w' : World} {p : Option Addr} {v v2 : Value} {N : Nat} {l l2 : List Pr} (h : Got w W p v l) (a : Acc W w' v2 N l2) (hN : l2.length ≤ 100000) : Got w w' p v2 l2 := a.got p hN h.fr
section
variable (p p2 : Option Addr) (m m2 c c2 : Nat) (l q : List Pr) (w : World)
end
end Go.Proofs.YtaemgflhgdlmiaaGreat

namespace Go.Proofs.YtaemgflhgdlmiaaGreat
open Go.RowKit
def addE0 (l : List Pr) (k : Int) (n : Nat) : Nat := if n = 0 then 4 else if k < -1048576 ∨ 1048576 < k then 5 else if 4611686018427387904 - ltot l < n then 6 else 0
def addL0 (l : List Pr) (k : Int) (n : Nat) : List Pr := if addE0 l k n = 0 then lput l k n else l
section
variable (p p2 : Option Addr) (m m2 c c2 n : Nat) (k : Int) (l q : List Pr) (w : World)
theorem radd0_any (h : PrI w p l) (hm : l.length = m) (hlen : m ≤ 50000) (htot : ltot l ≤ 4611686018427387904) (hn : n < 18446744073709551616) :
    Calls Tryz.prog 54 #[.slice p m c, .int .i64 k, .int .u64 (n : Nat), .int .i64 0] w fun e w' => ∃ v, e = .returned (.tuple #[v, .int .i64 (addE0 l k n : Nat)]) ∧ Got w w' p v (addL0 l k n) := by
  have HG : Hid (∀ W, Fr S0 w W → Got w W p (.slice p m c) l) := Lib.hid fun W f => Got.same h hm f
  by_cases h0 : n = 0
  · subst h0
    have e : addE0 l k 0 = 4 := by unfold addE0; rw [if_pos rfl]
    have e2 : addL0 l k 0 = l := by unfold addL0; rw [e, if_neg (by decide)]
    rw [e, e2]
    clear e e2 h hm hn htot hlen
    go_enter Tryz.func54, Tryz.ntmps54
    go_wp2_with fail
    go_ret2
    exact ⟨_, rfl, HG.out _ (Fr.refl _ _)⟩
  have hn0 : ((n : Int) == 0) = false := by rw [beq_eq_false_iff_ne]; omega
  by_cases hk : k < -1048576 ∨ 1048576 < k
  · have e : addE0 l k n = 5 := by unfold addE0; rw [if_neg h0, if_pos hk]
    have e2 : addL0 l k n = l := by unfold addL0; rw [e, if_neg (by decide)]
    rw [e, e2]
    by_cases h1 : k < -1048576
    · clear e e2 h hm hn hk h0 htot hlen
      go_enter Tryz.func54, Tryz.ntmps54
      go_wp2_with fail
      go_ret2
      exact ⟨_, rfl, HG.out _ (Fr.refl _ _)⟩
    · have h2 : (1048576 : Int) < k := by omega
      have h3 : decide (k < -1048576) = false := decide_eq_false h1
      clear e e2 h hm hn hk h0 h1 htot hlen
      go_enter Tryz.func54, Tryz.ntmps54
      go_wp2_with fail
      go_ret2
      exact ⟨_, rfl, HG.out _ (Fr.refl _ _)⟩
  have h3 : decide (k < -1048576) = false := decide_eq_false (by omega)
  have h4 : decide (1048576 < k) = false := decide_eq_false (by omega)
  have HT := Lib.hid (rtotal_any p m c l w h hm (by omega))
  obtain ⟨T, hT⟩ : ∃ T, ltot l = T := ⟨_, rfl⟩
  obtain ⟨K, hK⟩ : ∃ K, 4611686018427387904 - T = K := ⟨_, rfl⟩
  have eE : addE0 l k n = if K < n then 6 else 0 := by unfold addE0; rw [if_neg h0, if_neg hk, hT, hK]
  rw [hT] at HT htot
  have eK : (4611686018427387904 : Int) - (T : Int) = (K : Int) := by omega
  have hkm : (K : Int) ≤ 4611686018427387904 := by omega
  by_cases hc : K < n
  · rw [if_pos hc] at eE
    have e2 : addL0 l k n = l := by unfold addL0; rw [eE, if_neg (by decide)]
    rw [eE, e2]
    have hc2 : (K : Int) < (n : Int) := by omega
    clear eE e2 h hm hn hk h0 htot hc hT hK hlen
    go_enter Tryz.func54, Tryz.ntmps54
    go_wp2_with fail
    refine HT.out.mono ?_
    rintro e w2 ⟨rfl, f2⟩
    clear HT
    go_wp2_with fail
    go_ret2
    exact ⟨_, rfl, HG.out _ f2⟩
  · rw [if_neg hc] at eE
    have e2 : addL0 l k n = lput l k n := by unfold addL0; rw [eE, if_pos rfl]
    have hlen2 := len_put_le l k n
    rw [eE, e2]
    have hc2 : decide (K < n) = false := decide_eq_false hc
    have HP := Lib.hid (fun W (f : Fr S0 w W) => rput_any p m c n k l W (h.fr0 f) hm (by omega) (by omega))
    have HL : Hid ((lput l k n).length ≤ 100000) := Lib.hid (by omega)
    clear eE e2 h hm hn hk h0 htot hc hT hK hlen2 HG hlen
    go_enter Tryz.func54, Tryz.ntmps54
    go_wp2_with fail
    refine HT.out.mono ?_
    rintro e w2 ⟨rfl, f2⟩
    have HF2 := Lib.hid f2
    have HP2 := Lib.hid (HP.out w2 f2)
    clear HT f2 HP
    go_wp2_with fail
    refine HP2.out.mono ?_
    rintro e w3 ⟨v, N, rfl, hacc⟩
    have HE := Lib.hid (hacc.got p HL.out HF2.out)
    clear HP2 hacc
    go_wp2_with fail
    go_ret2
    exact ⟨_, rfl, HE.out⟩
end
end Go.Proofs.YtaemgflhgdlmiaaGreat
