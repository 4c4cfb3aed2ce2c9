/- The document's Into: a value is put into a list by size. -/
import Derived.Test.YtbpfmjekpjfceaaKlRow
namespace Go.Proofs.Ytbpfmjekpjfceaa
open Go.RowKit

section
variable (p : Option Addr) (n c : Nat) (l : List Int) (v : Int) (w : World)
set_option maxRecDepth 100000 in
set_option maxHeartbeats 4000000 in
theorem rinto_any (h : Sz w p n c l) (hN : n ≤ 1000000000) :
    Calls Try.prog 81 #[.slice p n c, .int .i64 v] w fun e w' => ∃ u, e = .returned u ∧ AccZ w w' u (n + 1) (insZ v l) := by
  have HS := Lib.hid h
  have HL := Lib.hid h.len
  clear h
  have hNi : (n : Int) ≤ 1000000000 := by omega
  go_enter Try.func81, Try.ntmps81
  go_wp2_with fail
  go_loopw [5, 6, 7] (fun o d z wr => ∃ (i N : Nat) (b : Bool) (acc : List Int), z = .int .i64 (i : Int) ∧ d = .bool b ∧ i ≤ n ∧ N = (if b then i + 1 else i) ∧ Hid (AccZ w wr o N acc) ∧ Hid (insZ v l = acc ++ (if b then l.drop i else insZ v (l.drop i)))) (fun _ _ z _ => n - (intOf z).toNat)
  case atStart => exact ⟨0, 0, false, [], rfl, rfl, by omega, rfl, Lib.hid (AccZ.nil (Fr.refl _ _)), Lib.hid rfl⟩
  case round =>
    obtain ⟨i, N, b, acc, rfl, rfl, hi, hNb, hacc, heq⟩ := hrel
    obtain ⟨pv, cv, rfl⟩ := slFormN hacc.out.own
    by_cases hin : (i : Int) < (n : Int)
    · have hil : i < l.length := by rw [HL.out]; omega
      obtain ⟨b1, o1, rfl, d0⟩ := (HS.out.fr0 hacc.out.fr).at i hil
      have hdr := List.drop_eq_getElem_cons hil
      have HD : Hid (∀ W, Fr S0 w W → W.cell? ⟨b1, o1 + i, none⟩ = some (.int .i64 l[i])) := Lib.hid fun W f => by
        obtain ⟨b', o', hp', c0⟩ := (HS.out.fr0 f).at i hil
        simp only [Option.some.injEq, Addr.mk.injEq] at hp'
        obtain ⟨rfl, rfl, -⟩ := hp'
        exact c0
      obtain ⟨x, hx⟩ : ∃ x, l[i] = x := ⟨_, rfl⟩
      rw [hx] at d0 hdr HD
      clear hx
      cases b with
      | true =>
        obtain rfl : N = i + 1 := hNb
        have HNX : Hid (insZ v l = (acc ++ [x]) ++ l.drop (i + 1)) := Lib.hid (by rw [heq.out, if_pos rfl, hdr]; simp)
        have HR : Hid (Room (i + 1 + 1)) := Lib.hid (Room.mk (by omega))
        clear heq hdr
        go_wp2_with (first
          | ((with_reducible show wpList _ _ _ (Oper.mk (some 34) _ _ _ _ _ :: _) _ _); refine app_one elZ (.tmp 28) (.tmp 33) rfl hacc.out.own rfl rfl rfl rfl rfl (one_z _) HR.out ?_; intro g1 cap1 w3 hown hgrow hat hlt; have HA3 := Lib.hid (hacc.out.app hown hgrow hat); clear hown hgrow hat hlt)
          | fail)
        go_roundw
        case rel => exact ⟨i + 1, i + 1 + 1, true, acc ++ [x], by go_num, rfl, by omega, rfl, HA3, Lib.hid (by rw [HNX.out, if_pos rfl])⟩
        case measure => simp [intOf]; omega
      | false =>
        obtain rfl : N = i := hNb
        by_cases hv : v < x
        · have HNX : Hid (insZ v l = ((acc ++ [v]) ++ [x]) ++ l.drop (N + 1)) := Lib.hid (by rw [heq.out, if_neg (by decide), hdr, insZ, if_pos hv]; simp)
          have HR : Hid (Room (N + 1)) := Lib.hid (Room.mk (by omega))
          have HR2 : Hid (Room (N + 1 + 1)) := Lib.hid (Room.mk (by omega))
          have kv : decide (v < x) = true := decide_eq_true hv
          clear heq hdr hv
          go_wp2_with (first
            | ((with_reducible show wpList _ _ _ (Oper.mk (some 27) _ _ _ _ _ :: _) _ _); refine app_one elZ (.tmp 24) (.tmp 26) rfl hacc.out.own rfl rfl rfl rfl rfl (one_z _) HR.out ?_; intro g1 cap1 w3 hown hgrow hat hlt; have HA3 := Lib.hid (hacc.out.app hown hgrow hat); have d1 := HD.out _ HA3.out.fr; clear hown hgrow hat hlt)
            | ((with_reducible show wpList _ _ _ (Oper.mk (some 34) _ _ _ _ _ :: _) _ _); refine app_one elZ (.tmp 28) (.tmp 33) rfl HA3.out.own rfl rfl rfl rfl rfl (one_z _) HR2.out ?_; intro g2 cap2 w4 hown hgrow hat hlt; have HA4 := Lib.hid (HA3.out.app hown hgrow hat); clear hown hgrow hat hlt)
            | fail)
          go_roundw
          case rel => exact ⟨N + 1, N + 1 + 1, true, (acc ++ [v]) ++ [x], by go_num, rfl, by omega, rfl, HA4, Lib.hid (by rw [HNX.out, if_pos rfl])⟩
          case measure => simp [intOf]; omega
        · have HNX : Hid (insZ v l = (acc ++ [x]) ++ insZ v (l.drop (N + 1))) := Lib.hid (by rw [heq.out, if_neg (by decide), hdr, insZ, if_neg hv]; simp)
          have HR : Hid (Room (N + 1)) := Lib.hid (Room.mk (by omega))
          have kv : decide (v < x) = false := decide_eq_false hv
          clear heq hdr hv
          go_wp2_with (first
            | ((with_reducible show wpList _ _ _ (Oper.mk (some 34) _ _ _ _ _ :: _) _ _); refine app_one elZ (.tmp 28) (.tmp 33) rfl hacc.out.own rfl rfl rfl rfl rfl (one_z _) HR.out ?_; intro g1 cap1 w3 hown hgrow hat hlt; have HA3 := Lib.hid (hacc.out.app hown hgrow hat); clear hown hgrow hat hlt)
            | fail)
          go_roundw
          case rel => exact ⟨N + 1, N + 1, false, acc ++ [x], by go_num, rfl, by omega, rfl, HA3, Lib.hid (by rw [HNX.out, if_neg (by decide)])⟩
          case measure => simp [intOf]; omega
    · obtain rfl : i = n := by omega
      have hdn : l.drop i = [] := by rw [← HL.out, List.drop_length]
      cases b with
      | true =>
        obtain rfl : N = i + 1 := hNb
        have HE : Hid (insZ v l = acc) := Lib.hid (by rw [heq.out, if_pos rfl, hdn, List.append_nil])
        clear heq hdn
        go_wp2_with fail
        go_ret
        exact ⟨_, rfl, by rw [HE.out]; exact hacc.out⟩
      | false =>
        obtain rfl : N = i := hNb
        have HE : Hid (insZ v l = acc ++ [v]) := Lib.hid (by rw [heq.out, if_neg (by decide), hdn, insZ])
        have HR : Hid (Room (N + 1)) := Lib.hid (Room.mk (by omega))
        clear heq hdn
        go_wp2_with (first
          | ((with_reducible show wpList _ _ _ (Oper.mk (some 40) _ _ _ _ _ :: _) _ _); refine app_one elZ (.tmp 37) (.tmp 39) rfl hacc.out.own rfl rfl rfl rfl rfl (one_z _) HR.out ?_; intro g1 cap1 w3 hown hgrow hat hlt; have HA3 := Lib.hid (hacc.out.app hown hgrow hat); clear hown hgrow hat hlt)
          | fail)
        go_ret
        exact ⟨_, rfl, by rw [HE.out]; exact HA3.out⟩
end
end Go.Proofs.Ytbpfmjekpjfceaa
