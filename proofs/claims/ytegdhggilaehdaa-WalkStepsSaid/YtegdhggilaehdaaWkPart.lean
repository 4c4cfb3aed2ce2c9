/- Part, Share, Parts. -/
import Derived.Test.YtegdhggilaehdaaWkLook
namespace Go.Proofs.Ytegdhggilaehdaa
open Go.RowKit

theorem rk_yes {a d n : Nat} (h : rkE a d n = 0) : 0 < d ∧ a ≤ d ∧ 0 < n ∧ rkR a d n = rnk a d n := by
  unfold rkE at h
  by_cases h1 : d = 0 ∨ d < a
  · rw [if_pos h1] at h; omega
  · rw [if_neg h1] at h
    by_cases h2 : n = 0
    · rw [if_pos h2] at h; omega
    · unfold rkR
      rw [if_neg h1, if_neg h2]
      exact ⟨by omega, by omega, by omega, rfl⟩
/-- Part's value -/
def partV (l : List Pr) (a d : Nat) : Int := if rkE a d (ltot l) = 0 then keyW l (rkR a d (ltot l)) else 0
section
variable (g : Nat) (l : List Pr) (w : World)
set_option maxRecDepth 100000 in
set_option maxHeartbeats 1000000 in
theorem part_any (a d : Nat) (s : TabIs w g l) (hd : d < 18446744073709551616) :
    Calls Try.prog 19 #[.pointer (some ⟨g, 0, none⟩), .int .u64 (a : Nat), .int .u64 (d : Nat)] w fun e w' => e = .returned (.tuple #[.int .i64 (partV l a d), .int .i64 (rkE a d (ltot l) : Nat)]) ∧ Fr S0 w w' := by
  have hmf : ∀ first cap W, (Instr.makeFunc (.func 15) first cap).run Try.prog W = .ok (.func (.func 15) first cap) W := fun _ _ _ => rfl
  have HT := Lib.hid (total_any g l w s)
  have ht := s.ok.tot
  have HR := Lib.hid (rank_any a d (ltot l) w (by omega) hd)
  have HS := Lib.hid s
  have HE : Hid (rkE a d (ltot l) = 0 → 0 < d ∧ a ≤ d ∧ 0 < ltot l ∧ rkR a d (ltot l) = rnk a d (ltot l)) := Lib.hid rk_yes
  obtain ⟨E, hE⟩ : ∃ E, rkE a d (ltot l) = E := ⟨_, rfl⟩
  have HV : Hid (partV l a d = if E = 0 then keyW l (rkR a d (ltot l)) else 0) := Lib.hid (by unfold partV; rw [hE])
  have hb : ∀ r, 0 < d ∧ a ≤ d ∧ 0 < ltot l ∧ r = rnk a d (ltot l) → 1 ≤ r ∧ r ≤ ltot l := by
    rintro r ⟨h1, h2, h3, rfl⟩
    exact rnk_all h2 h3
  have HB := Lib.hid hb
  obtain ⟨R, hR⟩ : ∃ R, rkR a d (ltot l) = R := ⟨_, rfl⟩
  obtain ⟨T, hT⟩ : ∃ T, ltot l = T := ⟨_, rfl⟩
  rw [hE, hR] at HE
  rw [hR] at HV
  rw [hE, hR] at HR
  rw [hT] at HT HR HE HB
  rw [hE]
  have HTT := Lib.hid hT
  clear s hE hR hT ht hb hd
  by_cases h0 : E = 0
  · have hr := HB.out R (HE.out h0)
    have HRL : Hid (1 ≤ R ∧ R ≤ ltot l) := Lib.hid ⟨hr.1, by rw [HTT.out]; exact hr.2⟩
    rw [HV.out, if_pos h0]
    subst h0
    have HLK : Hid (∀ W b, Fr S0 w W → W.cell? ⟨b, 0, none⟩ = some (.int .u64 (R : Nat)) → Calls Try.prog 34 #[.func (.func 15) #[.pointer (some ⟨g, 0, none⟩)] #[], .slice (some ⟨b, 0, none⟩) 1 1] W fun e w' => ∃ v, e = .returned v ∧ KsN W w' v [keyW l R]) := Lib.hid fun W b f hb =>
      lookup_any g 1 1 _ l [R] W (HS.out.fr0 f) ⟨by simp [maxLen], fun _ => ⟨b, 0, rfl, fun i hi => by obtain rfl : i = 0 := (by simpa using hi); exact hb⟩⟩ rfl (by decide) (fun r hr => by obtain rfl := List.mem_singleton.1 hr; exact HRL.out)
    obtain ⟨K, hK⟩ : ∃ K, keyW l R = K := ⟨_, rfl⟩
    rw [hK] at HLK ⊢
    clear hr HV hK
    go_enter Try.func19, Try.ntmps19
    go_wp2_with fail
    refine HT.out.mono ?_
    rintro e w1 ⟨rfl, rfl⟩
    go_wp2_with fail
    refine HR.out.mono ?_
    rintro e w2 ⟨rfl, f2⟩
    have HF2 := Lib.hid f2
    clear f2
    go_wp2_with fail
    refine (HLK.out _ _ (HF2.out.trans0 (Fr.alloc _ _ _)) (new_cell _ _ _)).mono ?_
    rintro e w3 ⟨v, rfl, q, c, rfl, hk, f3⟩
    obtain ⟨b, o, rfl, k0⟩ := hk.at 0 (by simp)
    simp only [Nat.add_zero, List.getElem_cons_zero] at k0
    have HF3 := Lib.hid f3
    clear hk f3
    dsimp only [List.length_cons, List.length_nil]
    go_wp2_with fail
    go_ret2
    exact ⟨rfl, (HF2.out.trans0 (Fr.alloc _ _ _)).trans0 HF3.out⟩
  · have he0 : ((E : Int) != 0) = true := by rw [bne_iff_ne]; omega
    rw [HV.out, if_neg h0]
    clear HV HB HE h0
    go_enter Try.func19, Try.ntmps19
    go_wp2_with fail
    refine HT.out.mono ?_
    rintro e w1 ⟨rfl, rfl⟩
    go_wp2_with fail
    refine HR.out.mono ?_
    rintro e w2 ⟨rfl, f2⟩
    go_wp2_with fail
    go_ret2
    exact ⟨rfl, f2⟩

set_option maxRecDepth 100000 in
set_option maxHeartbeats 1000000 in
theorem share_none (k : Int) (s : TabIs w g []) :
    Calls Try.prog 22 #[.pointer (some ⟨g, 0, none⟩), .int .i64 k] w fun e w' => e = .returned (.tuple #[.int .u64 0, .int .u64 0, .int .i64 8]) ∧ Fr S0 w w' := by
  have HT : Hid (Calls Try.prog 11 #[.pointer (some ⟨g, 0, none⟩)] w fun e w' => e = .returned (.int .u64 0) ∧ w' = w) := Lib.hid (total_any g [] w s)
  clear s
  go_enter Try.func22, Try.ntmps22
  go_wp2_with fail
  refine HT.out.mono ?_
  rintro e w1 ⟨rfl, rfl⟩
  go_wp2_with fail
  go_ret3
  exact ⟨rfl, Fr.refl _ _⟩
set_option maxRecDepth 100000 in
set_option maxHeartbeats 1000000 in
theorem share_yes (k : Int) (s : TabIs w g l) (hl : l ≠ []) :
    Calls Try.prog 22 #[.pointer (some ⟨g, 0, none⟩), .int .i64 k] w fun e w' => e = .returned (.tuple #[.int .u64 (upt l k / Nat.gcd (upt l k) (ltot l) : Nat), .int .u64 (ltot l / Nat.gcd (upt l k) (ltot l) : Nat), .int .i64 0]) ∧ Fr S0 w w' := by
  have HT := Lib.hid (fun W (f : Fr S0 w W) => total_any g l W (s.fr0 f))
  have HU := Lib.hid (upto_any g k l w s)
  have ht := s.ok.tot
  have h0 : ltot l ≠ 0 := fun h => hl ((tot_zero s.ok.pos).1 h)
  have HL := Lib.hid (fun W => least_yes (upt l k) (ltot l) W (by omega) (upt_le l k) (by omega))
  obtain ⟨G, hG⟩ : ∃ G, Nat.gcd (upt l k) (ltot l) = G := ⟨_, rfl⟩
  obtain ⟨U, hU⟩ : ∃ U, upt l k = U := ⟨_, rfl⟩
  obtain ⟨T, hT⟩ : ∃ T, ltot l = T := ⟨_, rfl⟩
  rw [hG, hU, hT] at HL
  rw [hG, hU, hT]
  rw [hU] at HU
  rw [hT] at HT h0
  have ht0 : ((T : Int) == 0) = false := by rw [beq_eq_false_iff_ne]; omega
  have HT0 := Lib.hid (HT.out w (Fr.refl _ _))
  clear s hl hG hU hT ht h0
  go_enter Try.func22, Try.ntmps22
  go_wp2_with fail
  refine HT0.out.mono ?_
  rintro e w1 ⟨rfl, rfl⟩
  go_wp2_with fail
  refine HU.out.mono ?_
  rintro e w2 ⟨rfl, f2⟩
  have HT2 := Lib.hid (HT.out w2 f2)
  have HF2 := Lib.hid f2
  clear f2
  go_wp2_with fail
  refine HT2.out.mono ?_
  rintro e w3 ⟨rfl, rfl⟩
  go_wp2_with fail
  refine (HL.out _).mono ?_
  rintro e w4 ⟨rfl, f4⟩
  have HF4 := Lib.hid (HF2.out.trans0 f4)
  clear f4
  go_wp2_with fail
  go_ret3
  exact ⟨rfl, HF4.out⟩
end

/-- the ranks that cut into k parts -/
def cutR (m k n : Nat) : List Nat := (List.range m).map fun i => rnk (i + 1) k n
theorem told_eq {m k n : Nat} {l : List Nat} (h : Told m k n m l) : l = cutR m k n := by
  obtain ⟨h1, h2⟩ := h
  unfold cutR
  refine List.ext_getElem (by simp [h1]) fun i hi hj => ?_
  have := h2 i (by omega)
  rw [List.getD_eq_getElem?_getD, List.getElem?_eq_getElem hi] at this
  simpa using this
section
variable (g : Nat) (l : List Pr) (w : World)
set_option maxRecDepth 100000 in
set_option maxHeartbeats 1000000 in
theorem parts_arg (k : Int) (s : TabIs w g l) (h : k < 1 ∨ 1000 < k) :
    Calls Try.prog 26 #[.pointer (some ⟨g, 0, none⟩), .int .i64 k] w fun e w' => e = .returned (.tuple #[.slice none 0 0, .int .i64 1]) ∧ Fr S0 w w' := by
  have HT := Lib.hid (total_any g l w s)
  have HC := Lib.hid (cut_arg (ltot l) k w h)
  obtain ⟨T, hT⟩ : ∃ T, ltot l = T := ⟨_, rfl⟩
  rw [hT] at HT HC
  clear s hT h
  go_enter Try.func26, Try.ntmps26
  go_wp2_with fail
  refine HT.out.mono ?_
  rintro e w1 ⟨rfl, rfl⟩
  go_wp2_with fail
  refine HC.out.mono ?_
  rintro e w2 ⟨rfl, f2⟩
  go_wp2_with fail
  go_ret2
  exact ⟨rfl, f2⟩
set_option maxRecDepth 100000 in
set_option maxHeartbeats 1000000 in
theorem parts_none (k : Int) (s : TabIs w g []) (h1 : 1 ≤ k) (h2 : k ≤ 1000) :
    Calls Try.prog 26 #[.pointer (some ⟨g, 0, none⟩), .int .i64 k] w fun e w' => e = .returned (.tuple #[.slice none 0 0, .int .i64 8]) ∧ Fr S0 w w' := by
  have HT : Hid (Calls Try.prog 11 #[.pointer (some ⟨g, 0, none⟩)] w fun e w' => e = .returned (.int .u64 0) ∧ w' = w) := Lib.hid (total_any g [] w s)
  have HC := Lib.hid (pcut_none k w h1 h2)
  clear s h1 h2
  go_enter Try.func26, Try.ntmps26
  go_wp2_with fail
  refine HT.out.mono ?_
  rintro e w1 ⟨rfl, rfl⟩
  go_wp2_with fail
  refine HC.out.mono ?_
  rintro e w2 ⟨rfl, f2⟩
  go_wp2_with fail
  go_ret2
  exact ⟨rfl, f2⟩
set_option maxRecDepth 100000 in
set_option maxHeartbeats 1000000 in
theorem parts_yes (m k : Nat) (s : TabIs w g l) (hl : l ≠ []) (hm : m < 1000) (hk : m + 1 = k) :
    Calls Try.prog 26 #[.pointer (some ⟨g, 0, none⟩), .int .i64 (k : Nat)] w fun e w' => ∃ v, e = .returned (.tuple #[v, .int .i64 0]) ∧ KsN w w' v ((cutR m k (ltot l)).map (keyW l)) := by
  have hmf : ∀ first cap W, (Instr.makeFunc (.func 15) first cap).run Try.prog W = .ok (.func (.func 15) first cap) W := fun _ _ _ => rfl
  have HT := Lib.hid (total_any g l w s)
  have ht := s.ok.tot
  have h0 : ltot l ≠ 0 := fun h => hl ((tot_zero s.ok.pos).1 h)
  have HC := Lib.hid (cut_yes (ltot l) m k w (by omega) (by omega) hm hk)
  have HLK : Hid (∀ W p c, Fr S0 w W → SlI W .u64 p (cutR m k (ltot l)) → Calls Try.prog 34 #[.func (.func 15) #[.pointer (some ⟨g, 0, none⟩)] #[], .slice p m c] W fun e w' => ∃ v, e = .returned v ∧ KsN W w' v ((cutR m k (ltot l)).map (keyW l))) := Lib.hid fun W p c f hp =>
    lookup_any g m c p l _ W (s.fr0 f) hp (by simp [cutR]) (by omega) (fun r hr => by
      unfold cutR at hr
      obtain ⟨i, hi, rfl⟩ := List.mem_map.1 hr
      have := List.mem_range.1 hi
      exact rnk_all (by omega) (by omega))
  obtain ⟨RS, hRS⟩ : ∃ RS, cutR m k (ltot l) = RS := ⟨_, rfl⟩
  have HTE : Hid (∀ L, Told m k (ltot l) m L → L = RS) := Lib.hid fun L h => by rw [← hRS]; exact told_eq h
  obtain ⟨T, hT⟩ : ∃ T, ltot l = T := ⟨_, rfl⟩
  rw [hRS] at HLK ⊢
  rw [hT] at HT HC HTE
  clear s hT h0 ht hl hRS hm hk
  go_enter Try.func26, Try.ntmps26
  go_wp2_with fail
  refine HT.out.mono ?_
  rintro e w1 ⟨rfl, rfl⟩
  go_wp2_with fail
  refine HC.out.mono ?_
  rintro e w2 ⟨v, rfl, p, c, L, rfl, hsl, htd, f2⟩
  obtain rfl := HTE.out L htd
  have HSL := Lib.hid hsl
  have HF2 := Lib.hid f2
  clear hsl htd f2
  go_wp2_with fail
  refine (HLK.out _ _ _ HF2.out HSL.out).mono ?_
  rintro e w3 ⟨v, rfl, q, d, rfl, hk, f3⟩
  have HE := Lib.hid (And.intro hk (HF2.out.trans0 f3))
  clear hk f3
  go_wp2_with fail
  go_ret2
  exact ⟨_, rfl, q, d, by first | (rw [List.length_map]; done) | (rw [List.length_map]; rfl), HE.out.1, HE.out.2⟩
end
end Go.Proofs.Ytegdhggilaehdaa
