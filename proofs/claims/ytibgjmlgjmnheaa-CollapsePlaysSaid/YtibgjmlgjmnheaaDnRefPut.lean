/- The document's answers that make rows: Same, Put, Without. -/
import Derived.Test.YtibgjmlgjmnheaaDnRef
namespace Go.Proofs.Ytibgjmlgjmnheaa
open Go.RowKit

set_option maxRecDepth 100000 in
set_option maxHeartbeats 1000000 in
theorem rsame_yes (p q : Option Addr) (n c d : Nat) (l : List Pr) (w : World) (h : PrI w p l) (h' : PrI w q l) (hn : l.length = n) :
    Calls Try.prog 40 #[.slice p n c, .slice q n d] w fun e w' => e = .returned (.bool true) ∧ Fr S0 w w' := by
  have H := Lib.hid h
  have H' := Lib.hid h'
  have HN := Lib.hid hn
  have hlen := h.len
  rw [hn] at hlen
  unfold maxLen at hlen
  clear h h' hn
  go_enter Try.func40, Try.ntmps40
  go_wp2_with fail
  go_loopw [5] (fun i wr => ∃ j : Nat, j ≤ n ∧ i = .int .i64 j ∧ Fr S0 w wr) (fun i _ => n - (intOf i).toNat)
  case atStart => exact ⟨0, by omega, rfl, Fr.refl _ _⟩
  case round =>
    obtain ⟨j, hj, rfl, hfr⟩ := hrel
    have HFR := Lib.hid hfr
    clear hfr
    by_cases hjn : (j : Int) < (n : Int)
    · obtain ⟨b, o, rfl, c0, c1⟩ := (H.out.fr0 HFR.out).at j (by rw [HN.out]; omega)
      obtain ⟨b', o', rfl, e0, e1⟩ := (H'.out.fr0 HFR.out).at j (by rw [HN.out]; omega)
      obtain ⟨⟨tk, tn⟩, ht⟩ : ∃ t, l[j]'(by rw [HN.out]; omega) = t := ⟨_, rfl⟩
      rw [ht] at c0 c1 e0 e1
      clear ht
      go_wp2_with fail
      go_quiet (fail)
      go_wp2_with fail
      go_roundw
      case rel => exact ⟨j + 1, by omega, by go_num, HFR.out.trans0 (Fr.drewN _ _ _)⟩
      case measure => simp [intOf]; omega
    · go_wp2_with fail
      go_ret
      exact ⟨rfl, HFR.out⟩

/-- a row of pairs that is being made, new to w -/
structure Acc (w wr : World) (v : Value) (N : Nat) (L : List Pr) : Prop where
  own : wr.ownsRow 0 53 2 v N (prs L)
  fresh : Fresh w v
  fr : Fr S0 w wr
theorem Acc.nil {w wr : World} (f : Fr S0 w wr) : Acc w wr (.slice none 0 0) 0 [] := ⟨World.ownsRow_nil _ _ _ _, fresh_nil _ _, f⟩
theorem Acc.len {w wr : World} {v : Value} {N : Nat} {L : List Pr} (h : Acc w wr v N L) : L.length = N := by
  have := h.own.1
  rw [prs_len] at this
  omega
theorem Acc.fr0 {w wr w2 : World} {v : Value} {N : Nat} {L : List Pr} (h : Acc w wr v N L) (f : Fr S0 wr w2) : Acc w w2 v N L := ⟨f.owns h.own fun _ _ h => h, h.fresh, h.fr.trans0 f⟩
theorem Acc.app {w wr w3 : World} {v : Value} {N : Nat} {L : List Pr} {o : Obj} {g cap n : Nat} {k : Int} (h : Acc w wr v N L) (own : w3.ownsRow 0 53 2 (.slice (some ⟨g, 0, none⟩) (N + 1) cap) (N + 1) (prs L ++ #[Value.int .i64 k, Value.int .u64 (n : Int)].toList))
    (hg : (wr.alloc o).grownBy w3 v.ownBlock) (hat : v.ownBlock = some g ∨ g = wr.heap.size + 1) : Acc w w3 (.slice (some ⟨g, 0, none⟩) (N + 1) cap) (N + 1) (L ++ [(k, n)]) :=
  ⟨by rw [prs_snoc]; exact own, fresh_app h.fr h.fresh hat, (h.fr.trans0 (Fr.alloc S0 wr _)).append hg h.fresh⟩
/-- a slice of pairs that is new to w, or one that was there -/
structure Rd (w : World) (v : Value) (l : List Pr) : Prop where
  ex : ∃ p n c, v = .slice p n c ∧ l.length = n ∧ PrI w p l
theorem Acc.rd {w wr : World} {v : Value} {N : Nat} {L : List Pr} (h : Acc w wr v N L) (hN : N ≤ 100000) : Rd wr v L := by
  have hl := h.len
  obtain ⟨own, f, r⟩ := h
  obtain ⟨p, c, rfl⟩ := slFormN own
  exact ⟨p, _, c, rfl, hl, PrI.ofOwns own (by unfold maxLen; omega)⟩

set_option maxRecDepth 100000 in
set_option maxHeartbeats 2000000 in
theorem rput_any (p : Option Addr) (m c n : Nat) (k : Int) (l : List Pr) (w : World) (h : PrI w p l) (hm : l.length = m) (hM : m ≤ 100000) (ht : ltot l + n < 18446744073709551616) :
    Calls Try.prog 30 #[.slice p m c, .int .i64 k, .int .u64 (n : Nat)] w fun e w' => ∃ v N, e = .returned v ∧ Acc w w' v N (lput l k n) := by
  have H := Lib.hid h
  have HM := Lib.hid hm
  have HT := Lib.hid (fun (j : Nat) (hj : j < l.length) => (by have h1 := tot_take hj; have h2 := tot_take_le l (j + 1); omega : l[j].2 + n < 18446744073709551616))
  have hnn : (n : Int) < 18446744073709551616 := by omega
  have HNN := Lib.hid hnn
  clear h hm ht hnn
  go_enter Try.func30, Try.ntmps30
  go_wp2_with fail
  go_loopw [7, 8, 9] (fun o d i wr => ∃ (j N : Nat) (L : List Pr) (dn : Bool), j ≤ m ∧ i = .int .i64 j ∧ d = .bool dn ∧ N ≤ j + dn.toNat ∧ Hid (Acc w wr o N L) ∧ Hid (L ++ (if dn then l.drop j else lput (l.drop j) k n) = lput l k n)) (fun _ _ i _ => m - (intOf i).toNat)
  case atStart => exact ⟨0, 0, [], false, by omega, rfl, rfl, by simp, Lib.hid (Acc.nil (Fr.refl _ _)), by first | exact Lib.hid rfl | exact Lib.hid trivial⟩
  case round =>
    obtain ⟨j, N, L, dn, hj, rfl, rfl, hNj', hacc, heq⟩ := hrel
    have hNj := Lib.hid hNj'
    have hN1 : N ≤ j + 1 := by cases dn <;> simp at hNj' <;> omega
    clear hNj'
    obtain ⟨pv, cv, rfl⟩ := slFormN hacc.out.own
    have HR : Hid (Room (N + 1)) := Lib.hid (Room.mk (by omega))
    have HR2 : Hid (Room (N + 1 + 1)) := Lib.hid (Room.mk (by omega))
    by_cases hjm : (j : Int) < (m : Int)
    · have hjl : j < l.length := by rw [HM.out]; omega
      have HT1 := HT.out j hjl
      have HDR := Lib.hid (List.drop_eq_getElem_cons hjl)
      obtain ⟨b, o, rfl, c0, c1⟩ := (H.out.fr0 hacc.out.fr).at j hjl
      have HC : Hid (∀ W, Fr S0 w W → W.cell? ⟨b, o + j * 2, none⟩ = some (.int .i64 l[j].1) ∧ W.cell? ⟨b, o + j * 2 + 1, none⟩ = some (.int .u64 (l[j].2 : Int))) := Lib.hid fun W f => by
        obtain ⟨b', o', hp, c3, c4⟩ := (H.out.fr0 f).at j hjl
        simp only [Option.some.injEq, Addr.mk.injEq] at hp
        obtain ⟨rfl, rfl, -⟩ := hp
        exact ⟨c3, c4⟩
      obtain ⟨⟨tk, tn⟩, ht⟩ : ∃ t, l[j] = t := ⟨_, rfl⟩
      rw [ht] at c0 c1 HDR HT1 HC
      simp only at c0 c1 HT1 HC
      clear ht
      cases dn with
      | true =>
        have HE : Hid ((L ++ [(tk, tn)]) ++ l.drop (j + 1) = lput l k n) := Lib.hid (by rw [← heq.out, if_pos rfl, HDR.out, List.append_assoc]; rfl)
        clear heq HDR
        go_wp2_with ((with_reducible show wpList _ _ _ (Oper.mk (some 58) _ _ _ _ _ :: _) _ _); refine app_one elPr (.tmp 52) (.tmp 57) rfl hacc.out.own rfl rfl rfl rfl rfl (one_pr tk tn) HR.out ?_; intro g1 cap1 w3 hown hgrow hat hlt; have HA3 := Lib.hid (hacc.out.app hown hgrow hat); clear hown hgrow hat hlt)
        go_roundw
        case rel => exact ⟨j + 1, N + 1, _, true, by omega, by go_num, rfl, by have := hNj.out; simp at this ⊢; omega, HA3, by rw [if_pos rfl]; exact HE⟩
        case measure => simp [intOf]; omega
      | false =>
        by_cases hlt : tk < k
        · have HE : Hid ((L ++ [(tk, tn)]) ++ lput (l.drop (j + 1)) k n = lput l k n) := Lib.hid (by rw [← heq.out, if_neg (by decide), HDR.out, lput, if_pos hlt, List.append_assoc]; rfl)
          have hge : decide (k ≤ tk) = false := decide_eq_false (by omega)
          clear heq HDR
          go_wp2_with ((with_reducible show wpList _ _ _ (Oper.mk (some 58) _ _ _ _ _ :: _) _ _); refine app_one elPr (.tmp 52) (.tmp 57) rfl hacc.out.own rfl rfl rfl rfl rfl (one_pr tk tn) HR.out ?_; intro g1 cap1 w3 hown hgrow hat hlt; have HA3 := Lib.hid (hacc.out.app hown hgrow hat); clear hown hgrow hat hlt)
          go_roundw
          case rel => exact ⟨j + 1, N + 1, _, false, by omega, by go_num, rfl, by have := hNj.out; simp at this ⊢; omega, HA3, by rw [if_neg (by decide)]; exact HE⟩
          case measure => simp [intOf]; omega
        · have hge : decide (k ≤ tk) = true := decide_eq_true (by omega)
          by_cases hk : tk = k
          · subst hk
            have HE : Hid ((L ++ [(tk, tn + n)]) ++ l.drop (j + 1) = lput l tk n) := Lib.hid (by rw [← heq.out, if_neg (by decide), HDR.out, lput, if_neg hlt, if_pos rfl, List.append_assoc]; rfl)
            have esum : (tn : Int) + (n : Int) = ((tn + n : Nat) : Int) := by omega
            obtain ⟨U, hU⟩ : ∃ U, tn + n = U := ⟨_, rfl⟩
            rw [hU] at HE esum HT1
            have hUm : (U : Int) < 18446744073709551616 := by omega
            clear heq HDR hlt hU HT1
            go_wp2_with ((with_reducible show wpList _ _ _ (Oper.mk (some 45) _ _ _ _ _ :: _) _ _); refine app_one elPr (.tmp 34) (.tmp 44) rfl hacc.out.own rfl rfl rfl rfl rfl (one_pr tk U) HR.out ?_; intro g1 cap1 w3 hown hgrow hat hlt; have HA3 := Lib.hid (hacc.out.app hown hgrow hat); clear hown hgrow hat hlt)
            go_roundw
            case rel => exact ⟨j + 1, N + 1, _, true, by omega, by go_num, rfl, by have := hNj.out; simp at this ⊢; omega, HA3, by rw [if_pos rfl]; exact HE⟩
            case measure => simp [intOf]; omega
          · have HE : Hid (((L ++ [(k, n)]) ++ [(tk, tn)]) ++ l.drop (j + 1) = lput l k n) := Lib.hid (by rw [← heq.out, if_neg (by decide), HDR.out, lput, if_neg hlt, if_neg hk, List.append_assoc, List.append_assoc]; rfl)
            have hkk : (tk == k) = false := by rw [beq_eq_false_iff_ne]; exact hk
            clear heq HDR hlt hk
            go_wp2_with (first
              | ((with_reducible show wpList _ _ _ (Oper.mk (some 51) _ _ _ _ _ :: _) _ _); refine app_one elPr (.tmp 46) (.tmp 50) rfl hacc.out.own rfl rfl rfl rfl rfl (one_pr k n) HR.out ?_; intro g1 cap1 w3 hown hgrow hat hlt; have HA3 := Lib.hid (hacc.out.app hown hgrow hat); obtain ⟨d0, d1⟩ := HC.out w3 HA3.out.fr; clear hown hgrow hat hlt)
              | ((with_reducible show wpList _ _ _ (Oper.mk (some 58) _ _ _ _ _ :: _) _ _); refine app_one elPr (.tmp 52) (.tmp 57) rfl HA3.out.own rfl rfl rfl rfl rfl (one_pr tk tn) HR2.out ?_; intro g2 cap2 w4 hown hgrow hat hlt; have HA4 := Lib.hid (HA3.out.app hown hgrow hat); clear hown hgrow hat hlt))
            go_roundw
            case rel => exact ⟨j + 1, N + 1 + 1, _, true, by omega, by go_num, rfl, by have := hNj.out; simp at this ⊢; omega, HA4, by rw [if_pos rfl]; exact HE⟩
            case measure => simp [intOf]; omega
    · obtain rfl : j = m := by omega
      cases dn with
      | true =>
        have HE : Hid (L = lput l k n) := Lib.hid (by rw [← heq.out, if_pos rfl, ← HM.out, List.drop_length, List.append_nil])
        clear heq
        go_wp2_with fail
        go_ret
        exact ⟨_, rfl, N, by rw [← HE.out]; exact hacc.out⟩
      | false =>
        have HE : Hid (L ++ [(k, n)] = lput l k n) := Lib.hid (by rw [← heq.out, if_neg (by decide), ← HM.out, List.drop_length, lput])
        clear heq
        go_wp2_with ((with_reducible show wpList _ _ _ (Oper.mk (some 66) _ _ _ _ _ :: _) _ _); refine app_one elPr (.tmp 61) (.tmp 65) rfl hacc.out.own rfl rfl rfl rfl rfl (one_pr k n) HR.out ?_; intro g1 cap1 w3 hown hgrow hat hlt; have HA3 := Lib.hid (hacc.out.app hown hgrow hat); clear hown hgrow hat hlt)
        go_ret
        exact ⟨_, rfl, N + 1, by rw [← HE.out]; exact HA3.out⟩

end Go.Proofs.Ytibgjmlgjmnheaa
