/- The code's stacks: all values with their weights. -/
import Derived.Test.YtbpfmjekpjfceaaKcTell
namespace Go.Proofs.Ytbpfmjekpjfceaa
open Go.RowKit

/-- all values with their weights, from the level h on -/
def trms : Nat → Lv → List Tm
  | _, [] => []
  | h, l :: r => l.map (fun v => (v, 2 ^ h)) ++ trms (h + 1) r
theorem trms_snoc : ∀ (L : Lv) (h : Nat) (l : List Int), trms h (L ++ [l]) = trms h L ++ l.map fun v => (v, 2 ^ (h + L.length))
  | [], h, l => by simp [trms]
  | x :: r, h, l => by
    rw [List.cons_append, trms, trms, trms_snoc r (h + 1) l, List.append_assoc, List.length_cons, show h + 1 + r.length = h + (r.length + 1) by omega]
theorem trms_len : ∀ (L : Lv) (h : Nat), (trms h L).length = kept L
  | [], _ => rfl
  | l :: r, h => by rw [trms, List.length_append, List.length_map, trms_len r, kept]
section
variable (g k T E : Nat) (C D : Nat → Prop) (L : Lv) (w : World)
set_option maxRecDepth 100000 in
set_option maxHeartbeats 4000000 in
theorem xterms_any (s : KsS w g C D k L T E) (hk : kept L ≤ 1000000000) (hL : L.length ≤ 60) : Calls Try.prog 54 #[.pointer (some ⟨g, 0, none⟩)] w fun e w' => ∃ v, e = .returned v ∧ Acc 107 w w' v (kept L) (trms 0 L) := by
  have HKK := Lib.hid (xkept_any g k T E C D L w s hk (by omega))
  obtain ⟨p, n, c, rs, s⟩ := s
  have c1 := s.c1
  have hlen := s.len
  obtain ⟨N0, hN0⟩ : ∃ N0, kept L = N0 := ⟨_, rfl⟩
  rw [hN0] at HKK hk ⊢
  have HN0 := Lib.hid hN0
  have HS := Lib.hid s
  have HR : Hid (Room N0) := Lib.hid (Room.mk (by omega))
  have hnL : n ≤ 60 := by omega
  have hNi : (N0 : Int) ≤ 1000000000 := by omega
  clear s hN0
  go_enter Try.func54, Try.ntmps54
  go_wp2_with fail
  refine HKK.out.mono ?_
  rintro e w1 ⟨rfl, rfl⟩
  clear HKK
  go_wp2_with (at_make; refine make_room elTm (.const (.int .i64 0)) (.tmp 9) rfl rfl rfl rfl HR.out ?_; intro w2 hown hf1; have HACC : Hid (Acc 107 w1 w2 (.slice (some ⟨w1.heap.size, 0, none⟩) 0 N0) 0 []) := Lib.hid ⟨hown, fun g hg => by obtain rfl := Option.some.inj hg; exact Nat.le_refl _, hf1⟩; have c1b := (HS.out.fr0 hf1).c1; clear hown hf1)
  go_loopw [3, 4, 5, 7, 16, 21, 22, 23] (fun u _ _ _ z _ _ _ wr => ∃ j : Nat, z = .int .i64 j ∧ j ≤ n ∧ Hid (Acc 107 w1 wr u (kept (L.take j)) (trms 0 (L.take j)))) (fun _ _ _ _ z _ _ _ _ => n - (intOf z).toNat)
  case atStart => exact ⟨0, rfl, by omega, HACC⟩
  case round =>
    obtain ⟨j, rfl, hj, hacc⟩ := hrel
    by_cases hjn : (j : Int) < (n : Int)
    · have hjM : j < L.length := by omega
      obtain ⟨b, rfl, -, -, q, m, d, ch0, z, -, -⟩ := HS.out.lev j hjM
      have ch := hacc.out.fr.cell ch0 (fun h => h)
      clear ch0
      obtain ⟨h1, h2⟩ := kept_take L j hjM
      have htk : L.take (j + 1) = L.take j ++ [L[j]] := List.take_succ_eq_append_getElem hjM
      obtain ⟨l, hl⟩ : ∃ l, L[j] = l := ⟨_, rfl⟩
      rw [hl] at z h1 htk
      have hzl := z.len
      have HZ := Lib.hid z
      have hjl : (L.take j).length = j := by rw [List.length_take]; omega
      have HT1 : Hid (trms 0 (L.take (j + 1)) = trms 0 (L.take j) ++ l.map fun v => (v, 2 ^ j)) := Lib.hid (by rw [htk, trms_snoc, hjl, Nat.zero_add])
      have HK1 : Hid (kept (L.take (j + 1)) = kept (L.take j) + m ∧ kept (L.take j) + m ≤ N0) := Lib.hid (by rw [h1, hzl] at h2; exact ⟨by rw [h1, hzl], by rw [HN0.out] at h2; exact h2⟩)
      have HZL := Lib.hid hzl
      obtain ⟨X, hX⟩ : ∃ X, 2 ^ j = X := ⟨_, rfl⟩
      rw [hX] at HT1
      have hXb : X ≤ 1152921504606846976 := by rw [← hX]; exact Nat.pow_le_pow_right (by decide) (by omega : j ≤ 60)
      have ipow : (2 : Int) ^ j = (X : Int) := by rw [← hX]; push_cast; rfl
      have ew1 : IntKind.u64.wrap ((2 : Int) ^ j) = (X : Int) := by rw [ipow, IntKind.wrap_u64]; omega
      have ew2 : (2 : Int) ^ j % 18446744073709551616 = (X : Int) := by rw [ipow]; omega
      have hj64 : (j : Int) < 64 := by omega
      have hj0 : (0 : Int) ≤ (j : Int) := by omega
      have hmi : (m : Int) ≤ 1000000000 := by have := HK1.out; omega
      clear z h1 h2 htk hl hzl hX hjl ipow
      go_wp2_with fail
      go_loopw [3, 7, 23] (fun u _ z wy => ∃ i : Nat, z = .int .i64 i ∧ i ≤ m ∧ Hid (Acc 107 w1 wy u (kept (L.take j) + i) (trms 0 (L.take j) ++ (l.take i).map fun v => (v, X)))) (fun _ _ z _ => m - (intOf z).toNat)
      case atStart => exact ⟨0, rfl, by omega, by simpa using hacc⟩
      case round =>
        obtain ⟨i, rfl, hi, hacc2⟩ := hrel
        by_cases him : (i : Int) < (m : Int)
        · have hil : i < l.length := by rw [HZL.out]; omega
          obtain ⟨pv, cv, rfl⟩ := slFormN hacc2.out.own
          obtain ⟨b2, o2, rfl, d0⟩ := (HZ.out.fr0 hacc2.out.fr).at i hil
          obtain ⟨v, hv⟩ : ∃ v, l[i] = v := ⟨_, rfl⟩
          have HTK : Hid (trms 0 (L.take j) ++ (l.take (i + 1)).map (fun v => (v, X)) = (trms 0 (L.take j) ++ (l.take i).map fun v => (v, X)) ++ [(v, X)]) := Lib.hid (by rw [List.take_succ_eq_append_getElem hil, hv]; simp)
          rw [hv] at d0
          obtain ⟨M, hM⟩ : ∃ M, kept (L.take j) + i = M := ⟨_, rfl⟩
          rw [hM] at hacc2 ⊢
          have HM := Lib.hid hM
          have HR2 : Hid (Room (M + 1)) := Lib.hid (Room.mk (by have := HK1.out; omega))
          have hi0 : (0 : Int) ≤ (i : Int) := by omega
          clear hil hv hM
          go_wp2_with (first
            | ((with_reducible show wpList _ _ _ (Oper.mk (some 33) _ _ _ _ _ :: _) _ _); refine app_one elTm (.tmp 27) (.tmp 32) rfl hacc2.out.own rfl rfl rfl rfl rfl (one_pr v X) HR2.out ?_; intro g1 cap1 w6 hown hgrow hat hlt; have HA6 := Lib.hid (hacc2.out.app hown hgrow hat); clear hown hgrow hat hlt)
            | fail)
          go_roundw
          case rel => exact ⟨i + 1, by go_num, by omega, by rw [HTK.out, ← Nat.add_assoc, HM.out]; exact HA6⟩
          case measure => simp [intOf]; omega
        · obtain rfl : i = m := by omega
          obtain ⟨pv, cv, rfl⟩ := slFormN hacc2.out.own
          have hall : l.take i = l := List.take_of_length_le (by rw [HZL.out]; exact Nat.le_refl _)
          rw [hall] at hacc2
          rw [← HK1.out.1] at hacc2 ⊢
          rw [← HT1.out] at hacc2
          clear hall
          go_wp2_with fail
          go_roundw
          case rel => exact ⟨j + 1, by go_num, by omega, hacc2⟩
          case measure => simp [intOf]; omega
    · obtain rfl : j = n := by omega
      go_wp2_with fail
      go_ret
      refine ⟨_, rfl, ?_⟩
      have h := hacc.out
      rw [← hlen, List.take_length, HN0.out] at h
      exact h
end
end Go.Proofs.Ytbpfmjekpjfceaa
