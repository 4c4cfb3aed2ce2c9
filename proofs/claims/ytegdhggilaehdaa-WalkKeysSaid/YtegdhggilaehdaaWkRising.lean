/- Lists of pairs that were made rising. -/
import Derived.Test.YtegdhggilaehdaaWkMath
import Derived.Test.YtegdhggilaehdaaDnPairs
import Derived.Laws.AppendOwn
namespace Go.Proofs.Ytegdhggilaehdaa
open Go.RowKit

/-- a list that a call made: rising, new to w -/
structure Rsd (w w' : World) (p : Option Addr) (n : Nat) (l : List Pr) : Prop where
  pri : PrI w' p l
  len : l.length = n
  small : n ≤ 60
  ok : Tb l
  fr : Fr S0 w w'
theorem Rsd.h64 {w w' : World} {p : Option Addr} {n : Nat} {l : List Pr} (h : Rsd w w' p n l) : ∀ x ∈ l, x.2 < 18446744073709551616 := by
  intro x hx
  obtain ⟨a, b, rfl⟩ := List.append_of_mem hx
  have := h.ok.tot
  rw [tot_app, ltot] at this
  omega

/-- what is known of a list that is being made: its length, its last key at most -/
def RsdI (d : List Pr) (j : Nat) (k : Int) : Prop := d.length = j ∧ Tb d ∧ (∀ y ∈ d, y.1 ≤ k) ∧ ltot d ≤ j * 1099511627776000
theorem rsd_step {d : List Pr} {j : Nat} {k K : Int} {X : Nat} (h : RsdI d j k) (hj : j ≤ 60) (hk : k < K) (hX : 0 < X) (hX2 : X ≤ 1099511627776000) : RsdI (d ++ [(K, X)]) (j + 1) K := by
  obtain ⟨h1, h2, h3, h4⟩ := h
  refine ⟨by rw [List.length_append, h1]; rfl, h2.snoc (fun hl => ?_) hX ?_, fun y hy => ?_, ?_⟩
  · have := h3 _ (List.getElem_mem (l := d) (n := d.length - 1) (by omega))
    simp only
    omega
  · simp only
    omega
  · rcases List.mem_append.1 hy with h | h
    · have := h3 y h; omega
    · obtain rfl := List.mem_singleton.1 h
      exact Int.le_refl _
  · rw [tot_snoc]
    simp only
    omega
theorem rsd_end {w wr : World} {v : Value} {d : List Pr} {j : Nat} {k : Int} (own : wr.ownsRow 0 58 2 v j (prs d)) (h : RsdI d j k) (hj : j ≤ 60) (f : Fr S0 w wr) : ∃ q d' m L, v = .slice q m d' ∧ Rsd w wr q m L := by
  obtain ⟨q, c, rfl⟩ := slFormN own
  exact ⟨q, c, j, d, rfl, PrI.ofOwns own (by unfold maxLen; omega), h.1, hj, h.2.1, f⟩

set_option maxRecDepth 100000 in
set_option maxHeartbeats 2000000 in
theorem rising_any (p : Option Addr) (n c : Nat) (l : List Pr) (w : World) (h : PrI w p l) (hn : l.length = n) (h64 : ∀ x ∈ l, x.2 < 18446744073709551616) :
    Calls Try.prog 14 #[.slice p n c] w fun e w' => ∃ q d m, e = .returned (.slice q m d) ∧ ∃ L, Rsd w w' q m L := by
  have H := Lib.hid h
  have HN := Lib.hid hn
  have H64 := Lib.hid h64
  have hlen := h.len
  rw [hn] at hlen
  unfold maxLen at hlen
  clear h hn h64
  go_enter Try.func14, Try.ntmps14
  go_wp2_with fail
  go_loopw [3, 4, 5, 6] (fun v kk i _ wr => ∃ (j : Nat) (k : Int) (d : List Pr), j ≤ n ∧ j ≤ 60 ∧ i = .int .i64 j ∧ kk = .int .i64 k ∧ -100000 ≤ k ∧ k ≤ 5000 * (j : Int) ∧ Hid (wr.ownsRow 0 58 2 v j (prs d)) ∧ Hid (RsdI d j k) ∧ Hid (Fr S0 w wr) ∧ Hid (∀ y, v.ownBlock = some y → w.heap.size ≤ y)) (fun _ _ i _ _ => n - (intOf i).toNat)
  case atStart => exact ⟨0, -100000, [], by omega, by omega, rfl, rfl, by omega, by omega, Lib.hid (World.ownsRow_nil _ _ _ _), Lib.hid ⟨rfl, Tb.nil, (fun _ h => by cases h), by decide⟩, Lib.hid (Fr.refl _ _), Lib.hid (fun _ h => by cases h)⟩
  case round =>
    obtain ⟨j, k, d, hj, hj60, rfl, rfl, hk1, hk2, ho, hd, hfr, hfv⟩ := hrel
    by_cases hjn : (j : Int) < (n : Int)
    · by_cases hjs : (j : Int) < 60
      · have hjl : j < l.length := by rw [HN.out]; omega
        obtain ⟨b, o, rfl, k0, k1⟩ := (H.out.fr0 hfr.out).at j hjl
        have htn := H64.out _ (List.getElem_mem hjl)
        obtain ⟨⟨tk, tn⟩, hx⟩ : ∃ x, l[j] = x := ⟨_, rfl⟩
        rw [hx] at k0 k1 htn
        simp only at k0 k1 htn
        clear hx hjl
        obtain ⟨U, hU⟩ : ∃ U : Nat, (IntKind.u64.wrap tk).tmod 5000 = (U : Int) ∧ U < 5000 := by
          have h1 : 0 ≤ IntKind.u64.wrap tk := by rw [IntKind.wrap_u64]; omega
          rw [Int.tmod_eq_emod_of_nonneg h1]
          exact ⟨(IntKind.u64.wrap tk % 5000).toNat, by omega, by omega⟩
        obtain ⟨eU, hU⟩ := hU
        obtain ⟨M, hM⟩ : ∃ M, tn % 1000 = M := ⟨_, rfl⟩
        have hM1 : M < 1000 := by omega
        have eM : (tn : Int) % 1000 = (M : Int) := by omega
        clear hM
        have HR : Hid (Room (j + 1)) := Lib.hid (Room.mk (by omega))
        by_cases hb : ((tn : Int) % 50 == 7) = true
        · skip
          obtain ⟨X, hX⟩ : ∃ X, (1 + M) * 1099511627776 = X := ⟨_, rfl⟩
          have eX : (1 + (M : Int)) * 1099511627776 = (X : Int) := by omega
          have HD := Lib.hid (rsd_step hd.out (by omega) (show k < k + 1 + (U : Int) by omega) (show 0 < X by omega) (show X ≤ 1099511627776000 by omega))
          clear hX hd hM1
          go_wp2_with (at_builtin; refine app_one elPr (.tmp 44) (.tmp 48) rfl ho.out rfl rfl rfl rfl rfl (one_pr _ X) HR.out ?_; intro gg cap w2 hown hgrow hat hlt2; have HO2 := Lib.hid hown; have HG := Lib.hid hgrow; have HA := Lib.hid hat; clear hown hgrow hat hlt2)
          go_roundw
          case rel => exact ⟨j + 1, k + 1 + (U : Int), d ++ [(k + 1 + (U : Int), X)], by omega, by omega, by go_num, by go_num, by omega, by omega, Lib.hid (by rw [prs_snoc]; exact HO2.out), HD, Lib.hid ((hfr.out.trans0 (Fr.alloc _ _ _)).append HG.out hfv.out), Lib.hid (fun y hy => by
            obtain rfl : gg = y := Option.some.inj hy
            rcases HA.out with h1 | h1
            · exact hfv.out gg h1
            · have := hfr.out.size; omega)⟩
          case measure => simp [intOf]; omega
        · have hb : ((tn : Int) % 50 == 7) = false := by simpa using hb
          obtain ⟨X, hX⟩ : ∃ X, 1 + M = X := ⟨_, rfl⟩
          have eX : 1 + (M : Int) = (X : Int) := by omega
          have HD := Lib.hid (rsd_step hd.out (by omega) (show k < k + 1 + (U : Int) by omega) (show 0 < X by omega) (show X ≤ 1099511627776000 by omega))
          clear hX hd hM1
          go_wp2_with (at_builtin; refine app_one elPr (.tmp 44) (.tmp 48) rfl ho.out rfl rfl rfl rfl rfl (one_pr _ X) HR.out ?_; intro gg cap w2 hown hgrow hat hlt2; have HO2 := Lib.hid hown; have HG := Lib.hid hgrow; have HA := Lib.hid hat; clear hown hgrow hat hlt2)
          go_roundw
          case rel => exact ⟨j + 1, k + 1 + (U : Int), d ++ [(k + 1 + (U : Int), X)], by omega, by omega, by go_num, by go_num, by omega, by omega, Lib.hid (by rw [prs_snoc]; exact HO2.out), HD, Lib.hid ((hfr.out.trans0 (Fr.alloc _ _ _)).append HG.out hfv.out), Lib.hid (fun y hy => by
            obtain rfl : gg = y := Option.some.inj hy
            rcases HA.out with h1 | h1
            · exact hfv.out gg h1
            · have := hfr.out.size; omega)⟩
          case measure => simp [intOf]; omega
      · have hE : Hid (∃ q d' m L, u3 = .slice q m d' ∧ Rsd w wr q m L) := Lib.hid (rsd_end ho.out hd.out hj60 hfr.out)
        clear ho hd hfr hfv
        go_wp2_with fail
        go_ret
        obtain ⟨q, d', m, L, e, hr⟩ := hE.out
        exact ⟨q, d', m, by rw [← e]; rfl, L, hr⟩
    · have hE : Hid (∃ q d' m L, u3 = .slice q m d' ∧ Rsd w wr q m L) := Lib.hid (rsd_end ho.out hd.out hj60 hfr.out)
      clear ho hd hfr hfv
      go_wp2_with fail
      go_ret
      obtain ⟨q, d', m, L, e, hr⟩ := hE.out
      exact ⟨q, d', m, by rw [← e]; rfl, L, hr⟩
end Go.Proofs.Ytegdhggilaehdaa
