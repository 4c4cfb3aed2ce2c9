/- The document's answers of layer 5: what is read. -/
import Derived.Test.YtmcmchldjfnneaaHufRef
import Derived.Deep.RegionHeld3
namespace Go.Proofs.Ytmcmchldjfnneaa
open Go.RowKit

theorem code_succ (c j : Nat) : code c (j + 1) = [c / 2 ^ j % 2] ++ code c j := by
  unfold code
  rw [grp_succ, List.reverse_append]
  rfl

set_option maxRecDepth 100000 in
set_option maxHeartbeats 400000 in
theorem rbits5_any (c n : Nat) (w : World) (hc : c < 4294967296) (hn : n ≤ 15) :
    Calls Try.prog 62 #[.int .u32 c, .int .u8 n] w fun e w' => ∃ v, e = .returned v ∧ Fr S0 w w' ∧ RowNew w w' v (code c n) := by
  have HR : Hid (∀ j : Nat, j < n → Room (1 + j)) := Lib.hid fun j h => Room.mk (by omega)
  go_enter Try.func62, Try.ntmps62
  go_wp2_with fail
  go_loopw [0, 5, 6] (fun m v i wr => ∃ j : Nat, j ≤ n ∧ i = .int .u8 j ∧ m = .int .u32 (c / 2 ^ j : Nat) ∧ Fr S0 w wr ∧ wr.ownsRow 0 5 1 v j (u8s (code c j)) ∧ Fresh w v) (fun _ _ i _ => n - (intOf i).toNat)
  case atStart => exact ⟨0, by omega, rfl, by rw [Nat.pow_zero, Nat.div_one], Fr.refl _ _, World.ownsRow_nil _ _ _ _, fresh_nil _ _⟩
  case round =>
    obtain ⟨j, hj, rfl, rfl, hfr, own, hfv⟩ := hrel
    have HD : Hid (c / 2 ^ (j + 1) = c / 2 ^ j / 2) := Lib.hid (by rw [Nat.div_div_eq_div_mul, Nat.pow_succ])
    have HG := Lib.hid (code_succ c j)
    obtain ⟨m, hm⟩ : ∃ m, c / 2 ^ j = m := ⟨_, rfl⟩
    have hms : m < 4294967296 := by rw [← hm]; exact Nat.lt_of_le_of_lt (Nat.div_le_self _ _) hc
    have em : (m : Int) % 2 = ((m % 2 : Nat) : Int) := by omega
    have EM := Lib.hid em
    rw [hm] at HD HG ⊢
    clear hm em
    by_cases hjc : (j : Int) < (n : Int)
    · have HRJ := Lib.hid (HR.out j (by omega))
      obtain ⟨p, cp, rfl, -, -, -⟩ := slForm own
      have HSZ := Lib.hid hfr.size
      go_wp2_with (first
        | ((with_reducible show wpList _ _ _ (Oper.mk (some 17) _ _ _ _ _ :: _) _ _); refine app_many el8 (.tmp 15) (.tmp 16) (own_one wr _ 5) (SrcIs.ofOwns (own.alloc _)) rfl rfl rfl rfl rfl (one8s _) HRJ.out ?_; intro q1 c1 w1 own1 g1 at1; have f1 := fr_made hfr g1; have v1 := fresh_many (fresh_made (n := 1) (c := 1) hfr) (size_le hfr) at1; clear g1 at1)
        | fail)
      go_roundw
      case rel =>
        refine ⟨j + 1, by omega, by go_num, by rw [HD.out]; go_num, f1, ?_, v1⟩
        rw [HG.out, ← u8s_append, u8s_one, ← EM.out, Nat.add_comm j 1]
        exact own1
      case measure => simp [intOf]; omega
    · obtain rfl : j = n := by omega
      go_wp2
      go_ret
      exact ⟨_, rfl, hfr, by rw [code_length]; exact own, hfv⟩

/-- bits begin with others -/
def begB (A C : List Nat) : Bool := decide (C.length ≤ A.length ∧ A.take C.length = C)

set_option maxRecDepth 100000 in
set_option maxHeartbeats 400000 in
theorem begins_any (p q : Option Addr) (d e : Nat) (A C : List Nat) (w : World) (ha : SlI w .u8 p A) (hc : SlI w .u8 q C) (hp : p = none → d = 0) (hd : A.length ≤ d) (hdm : d ≤ maxLen) (hA : ∀ x ∈ A, x < 256) (hC : ∀ x ∈ C, x < 256) :
    Calls Try.prog 61 #[.slice p A.length d, .slice q C.length e] w fun r w' => r = .returned (.bool (begB A C)) ∧ ∃ n, w' = w.drewN n := by
  obtain ⟨M, hM⟩ : ∃ M, C.length = M := ⟨_, rfl⟩
  by_cases hle : M ≤ A.length
  · have k1 : ∀ w', Fr S0 w w' → (convert 22 9 (.slice p M d)).run Try.prog w' = .ok (.string (strB (A.take M))) w' := fun w' f => conv_sl (ha.fr0 f) M d hle
    have k2 : ∀ w', Fr S0 w w' → (convert 22 9 (.slice q M e)).run Try.prog w' = .ok (.string (strB C)) w' := fun w' f => by
      have := conv_sl (hc.fr0 f) C.length e (Nat.le_refl _)
      rw [List.take_length, hM] at this
      exact this
    have hAT : ∀ x ∈ A.take M, x < 256 := fun x hx => hA x (List.mem_of_mem_take hx)
    have E : Hid (((strB (A.take M)).toList == (strB C).toList) = begB A C) := Lib.hid (by
      rw [strB_beq _ _ hAT hC]
      unfold begB
      rw [hM, decide_eq_decide]
      exact ⟨fun h => ⟨hle, h⟩, fun h => h.2⟩)
    obtain ⟨S1, hS1⟩ : ∃ X, strB (A.take M) = X := ⟨_, rfl⟩
    obtain ⟨S2, hS2⟩ : ∃ X, strB C = X := ⟨_, rfl⟩
    rw [hS1] at k1 E
    rw [hS2] at k2 E
    have k3 := k1 w (Fr.refl _ _)
    have k4 := k2 w (Fr.refl _ _)
    have k5 := fun n => k1 (w.drewN n) (Fr.drewN _ _ _)
    have k6 := fun n => k2 (w.drewN n) (Fr.drewN _ _ _)
    clear k1 k2
    have hle' : decide (M ≤ A.length) = true := decide_eq_true hle
    have hMd : (M : Int) ≤ (d : Int) := by omega
    have hM0 : (0 : Int) ≤ (M : Int) := by omega
    unfold maxLen at hdm
    cases p with
    | none =>
      obtain rfl := hp rfl
      clear ha hc hp hA hC hAT hS1 hS2
      rw [hM]
      clear hM
      go_enter Try.func61, Try.ntmps61
      go_wp2_with fail
      go_quiet (fail)
      go_wp2_with fail
      go_ret
      exact ⟨by rw [← E.out]; rfl, _, rfl⟩
    | some a =>
      clear ha hc hp hA hC hAT hS1 hS2
      rw [hM]
      clear hM
      by_cases hd0 : d = 0
      · subst hd0
        go_enter Try.func61, Try.ntmps61
        go_wp2_with fail
        go_quiet (fail)
        go_wp2_with fail
        go_ret
        exact ⟨by rw [← E.out]; rfl, _, rfl⟩
      · go_enter Try.func61, Try.ntmps61
        go_wp2_with fail
        go_quiet (fail)
        go_wp2_with fail
        go_ret
        exact ⟨by rw [← E.out]; rfl, _, rfl⟩
  · have E : Hid (begB A C = false) := Lib.hid (decide_eq_false fun h => hle (hM ▸ h.1))
    have hlt : decide (M ≤ A.length) = false := decide_eq_false hle
    rw [hM]
    clear ha hc hle hM
    go_enter Try.func61, Try.ntmps61
    go_wp2_with fail
    go_quiet (fail)
    go_wp2_with fail
    go_ret
    exact ⟨by rw [E.out]; rfl, _, rfl⟩

/-- what the document says is read -/
def RefFound (l B : List Nat) (e : Ending) : Prop :=
  (∃ i, hits l B i ∧ e = .returned (.tuple #[.int .i64 (i : Nat), .int .i64 (len l i : Nat), .int .i64 0])) ∨
  ((∀ i, ¬ hits l B i) ∧ mx l = 0 ∧ e = .returned (.tuple #[.int .i64 0, .int .i64 0, .int .i64 62])) ∨
  ((∀ i, ¬ hits l B i) ∧ mx l ≠ 0 ∧ (ful l ∨ B.length = 0) ∧ e = .returned (.tuple #[.int .i64 0, .int .i64 (B.length : Nat), .int .i64 20])) ∨
  ((∀ i, ¬ hits l B i) ∧ mx l ≠ 0 ∧ ¬ (ful l ∨ B.length = 0) ∧ e = .returned (.tuple #[.int .i64 0, .int .i64 1, .int .i64 62]))
def RefTold (w : World) (l B : List Nat) (e : Ending) (w' : World) : Prop := RefFound l B e ∧ Fr S0 w w'
theorem begB_hits {l B : List Nat} (hb : Bit01 B) (ok : okl l) (hm : mx l ≤ 15) {i : Nat} (hi : 0 < len l i) : begB B (code (cod l i) (len l i)) = decide (hits l B i) := by
  have hc := cod_two ok hi hm
  unfold begB
  rw [decide_eq_decide, code_length]
  constructor
  · rintro ⟨h1, h2⟩
    refine ⟨hi, h1, ?_⟩
    rw [h2, val_code, Nat.mod_eq_of_lt hc]
  · rintro ⟨-, h1, h2⟩
    refine ⟨h1, val_inj (hb.sub fun _ hx => List.mem_of_mem_take hx) (code_bit _ _) (by rw [List.length_take, code_length]; omega) ?_⟩
    rw [h2, val_code, Nat.mod_eq_of_lt hc]
theorem hits_none {l B : List Nat} (h : ∀ i, i < l.length → ¬ hits l B i) : ∀ i, ¬ hits l B i := fun i hi => h i (len_in hi.1) hi
theorem mx_flag {l : List Nat} {j : Nat} (hj : j < l.length) {F : Bool} (hF : F = decide (mx (l.take j) ≠ 0)) (h : F = true ∨ 0 < len l j) : true = decide (mx (l.take (j + 1)) ≠ 0) := by
  rw [mx_take l j hj]
  refine (decide_eq_true ?_).symm
  rcases h with h | h
  · rw [hF] at h
    have := of_decide_eq_true h
    omega
  · omega
theorem mx_flag0 {l : List Nat} {j : Nat} (hj : j < l.length) {F : Bool} (hF : F = decide (mx (l.take j) ≠ 0)) (h0 : len l j = 0) : F = decide (mx (l.take (j + 1)) ≠ 0) := by
  rw [mx_take l j hj, h0, hF, decide_eq_decide]
  omega

set_option maxRecDepth 100000 in
set_option maxHeartbeats 4000000 in
theorem rread_any (p q : Option Addr) (d e : Nat) (l B : List Nat) (w : World) (hl : SlI w .u8 p l) (h15 : ∀ x ∈ l, x ≤ 15) (hL : l.length ≤ 320) (ok : okl l)
    (hB : SlI w .u8 q B) (hq : q = none → e = 0) (he : B.length ≤ e) (hem : e ≤ maxLen) (hb : Bit01 B) :
    Calls Try.prog 44 #[.slice p l.length d, .slice q B.length e] w (RefTold w l B) := by
  have hm : mx l ≤ 15 := mx_le h15
  have HL := Lib.hid hl
  have H15 := Lib.hid h15
  have HBT := Lib.hid hb
  have HBG := Lib.hid (fun (W : World) (r : Option Addr) (c : Nat) (C : List Nat) (f : Fr S0 w W) (hc : SlI W .u8 r C) (h8 : ∀ x ∈ C, x < 256) => begins_any q r e c B C W (hB.fr0 f) hc hq he hem (fun x hx => by have := hb x hx; omega) h8)
  have HC := Lib.hid (rcodes_any p d l w hl h15 hL)
  have HK := Lib.hid (rcheck_any p d l)
  have HOK := Lib.hid ok
  have HBH := Lib.hid (fun i hi => begB_hits (i := i) hb ok hm hi)
  have HTWO := Lib.hid (fun i hi => cod_two (i := i) ok hi hm)
  have HQ := Lib.hid hq
  have bB : B.length ≤ maxLen := hB.1
  unfold maxLen at bB
  clear hl h15 hB hq hb ok he hem
  go_enter Try.func44, Try.ntmps44
  go_wp2_with fail
  refine HC.out.mono ?_
  rintro r w1 ⟨v, rfl, f1, hv⟩
  obtain ⟨pc, cc, rfl, -, -, -⟩ := slForm hv.own
  have HCO : Hid (SlI w1 .u32 pc (cods l)) := Lib.hid (SlI.ofOwns hv.own)
  rw [cods_length]
  clear hv HC
  go_wp2_with fail
  go_loopw [8, 9] (fun s i wr => ∃ (j : Nat) (F : Bool), j ≤ l.length ∧ i = .int .i64 j ∧ s = .bool F ∧ F = decide (mx (l.take j) ≠ 0) ∧ (∀ i, i < j → ¬ hits l B i) ∧ Fr S0 w wr ∧ Fr S0 w1 wr) (fun _ i _ => l.length - (intOf i).toNat)
  case atStart => exact ⟨0, false, by omega, rfl, rfl, by simp [mx], fun i hi => by omega, f1, Fr.refl _ _⟩
  case round =>
    obtain ⟨j, F, hj, rfl, rfl, hF, hno, hfr, hfr1⟩ := hrel
    have HF := Lib.hid hF
    have HNO := Lib.hid hno
    clear hF hno
    by_cases hjc : (j : Int) < (l.length : Int)
    · have hjl : j < l.length := by omega
      obtain ⟨b, o, hpe, hcl⟩ := (HL.out.fr0 hfr).at j hjl
      obtain ⟨b2, o2, hpe2, hcl2⟩ := (HCO.out.fr0 hfr1).at j (by rw [cods_length]; exact hjl)
      rw [cods_get] at hcl2
      have hx15 := H15.out _ (List.getElem_mem hjl)
      have HLEN := Lib.hid (len_get l j hjl)
      have HC32 : Hid (cod l j < 32768) := Lib.hid (by
        by_cases h0 : 0 < len l j
        · have h1 := HTWO.out j h0
          have h2 : 2 ^ len l j ≤ 32768 := Nat.le_trans (Nat.pow_le_pow_right (n := 2) (by decide) (Nat.le_trans (mx_len l j) hm)) (by decide)
          omega
        · unfold cod; rw [if_pos (by omega)]; omega)
      have HBJ := Lib.hid (HBH.out j)
      obtain ⟨x, hx⟩ : ∃ x, l[j] = x := ⟨_, rfl⟩
      obtain ⟨c, hc⟩ : ∃ c, cod l j = c := ⟨_, rfl⟩
      rw [hx] at hcl hx15 HLEN
      rw [hc] at hcl2 HC32 HBJ
      rw [HLEN.out] at HBJ
      subst hpe hpe2
      clear hx hc
      by_cases hx0 : 0 < x
      · have HFL : Hid (true = decide (mx (l.take (j + 1)) ≠ 0)) := Lib.hid (mx_flag hjl HF.out (.inr (by rw [HLEN.out]; exact hx0)))
        have HBI := Lib.hid (fun W => rbits5_any c x W (by have := HC32.out; omega) hx15)
        have HB1 := Lib.hid (HBJ.out hx0)
        have hx0' : ((x : Int) > 0) := by omega
        clear HBJ
        by_cases hh : hits l B j
        · cases F with
          | true =>
            have HHI := Lib.hid hh
            clear hh
            rw [decide_eq_true HHI.out] at HB1
            go_wp2_with fail
            go_region_held3 (fun w' => w'.cell? ⟨b, o + j, none⟩ = some (.int .u8 (x : Nat)) ∧ w'.cell? ⟨b2, o2 + j, none⟩ = some (.int .u32 (c : Nat)))
              (first | go_keep | (go_split_ands; exact ⟨f2.cell (by assumption) (fun h => h), f2.cell (by assumption) (fun h => h)⟩) | (go_split_ands; exact ⟨by assumption, by assumption⟩))
              (first
                | (go_at_call 62; refine (HBI.out _).mono ?_; rintro r w2 ⟨v, rfl, f2, hv⟩; obtain ⟨rq, rc, rfl, -, -, -⟩ := slForm hv.own; have HV := Lib.hid hv; clear hv)
                | (go_at_call 61; refine (HBG.out w2 rq rc (code c x) (hfr.trans0 ((Fr.drew S0 wr).trans0 f2)) (SlI.ofOwns HV.out.own) (fun y hy => by have := code_bit c x y hy; omega)).mono ?_; rw [HB1.out]; rintro r w3 ⟨rfl, nn, rfl⟩))
            have F2 := Lib.hid (hfr.trans0 (((Fr.drew S0 wr).trans0 f2).trans0 (Fr.drewN S0 w2 nn)))
            have F3 := Lib.hid (hfr1.trans0 (((Fr.drew S0 wr).trans0 f2).trans0 (Fr.drewN S0 w2 nn)))
            have hx2 : (w2.drewN nn).cell? ⟨b, o + j, none⟩ = some (.int .u8 (x : Nat)) := (Fr.drewN S0 w2 nn).cell (f2.cell ((Fr.drew S0 wr).cell hcl (fun h => h)) (fun h => h)) (fun h => h)
            generalize w2.drewN nn = W at F2 F3 hx2 ⊢
            clear f2 HV hcl hcl2
            go_wp2_with fail
            go_quiet (fail)
            go_wp2_with fail
            go_ret3
            exact ⟨.inl ⟨j, HHI.out, by rw [HLEN.out]; rfl⟩, F2.out.trans0 (Fr.drewN _ _ _)⟩
          | false =>
            have HHI := Lib.hid hh
            clear hh
            rw [decide_eq_true HHI.out] at HB1
            go_wp2_with fail
            go_region_held3 (fun w' => w'.cell? ⟨b, o + j, none⟩ = some (.int .u8 (x : Nat)) ∧ w'.cell? ⟨b2, o2 + j, none⟩ = some (.int .u32 (c : Nat)))
              (first | go_keep | (go_split_ands; exact ⟨f2.cell (by assumption) (fun h => h), f2.cell (by assumption) (fun h => h)⟩) | (go_split_ands; exact ⟨by assumption, by assumption⟩))
              (first
                | (go_at_call 62; refine (HBI.out _).mono ?_; rintro r w2 ⟨v, rfl, f2, hv⟩; obtain ⟨rq, rc, rfl, -, -, -⟩ := slForm hv.own; have HV := Lib.hid hv; clear hv)
                | (go_at_call 61; refine (HBG.out w2 rq rc (code c x) (hfr.trans0 ((Fr.drew S0 wr).trans0 f2)) (SlI.ofOwns HV.out.own) (fun y hy => by have := code_bit c x y hy; omega)).mono ?_; rw [HB1.out]; rintro r w3 ⟨rfl, nn, rfl⟩))
            have F2 := Lib.hid (hfr.trans0 (((Fr.drew S0 wr).trans0 f2).trans0 (Fr.drewN S0 w2 nn)))
            have F3 := Lib.hid (hfr1.trans0 (((Fr.drew S0 wr).trans0 f2).trans0 (Fr.drewN S0 w2 nn)))
            have hx2 : (w2.drewN nn).cell? ⟨b, o + j, none⟩ = some (.int .u8 (x : Nat)) := (Fr.drewN S0 w2 nn).cell (f2.cell ((Fr.drew S0 wr).cell hcl (fun h => h)) (fun h => h)) (fun h => h)
            generalize w2.drewN nn = W at F2 F3 hx2 ⊢
            clear f2 HV hcl hcl2
            go_wp2_with fail
            go_quiet (fail)
            go_wp2_with fail
            go_ret3
            exact ⟨.inl ⟨j, HHI.out, by rw [HLEN.out]; rfl⟩, F2.out.trans0 (Fr.drewN _ _ _)⟩
        · cases F with
          | true =>
            have HNJ : Hid (∀ i, i < j + 1 → ¬ hits l B i) := Lib.hid (fun i hi => by
              by_cases e : i = j
              · subst e; exact hh
              · exact HNO.out i (by omega))
            rw [decide_eq_false hh] at HB1
            clear hh
            go_wp2_with fail
            go_region_held3 (fun w' => w'.cell? ⟨b, o + j, none⟩ = some (.int .u8 (x : Nat)) ∧ w'.cell? ⟨b2, o2 + j, none⟩ = some (.int .u32 (c : Nat)))
              (first | go_keep | (go_split_ands; exact ⟨f2.cell (by assumption) (fun h => h), f2.cell (by assumption) (fun h => h)⟩) | (go_split_ands; exact ⟨by assumption, by assumption⟩))
              (first
                | (go_at_call 62; refine (HBI.out _).mono ?_; rintro r w2 ⟨v, rfl, f2, hv⟩; obtain ⟨rq, rc, rfl, -, -, -⟩ := slForm hv.own; have HV := Lib.hid hv; clear hv)
                | (go_at_call 61; refine (HBG.out w2 rq rc (code c x) (hfr.trans0 ((Fr.drew S0 wr).trans0 f2)) (SlI.ofOwns HV.out.own) (fun y hy => by have := code_bit c x y hy; omega)).mono ?_; rw [HB1.out]; rintro r w3 ⟨rfl, nn, rfl⟩))
            have F2 := Lib.hid (hfr.trans0 (((Fr.drew S0 wr).trans0 f2).trans0 (Fr.drewN S0 w2 nn)))
            have F3 := Lib.hid (hfr1.trans0 (((Fr.drew S0 wr).trans0 f2).trans0 (Fr.drewN S0 w2 nn)))
            have hx2 : (w2.drewN nn).cell? ⟨b, o + j, none⟩ = some (.int .u8 (x : Nat)) := (Fr.drewN S0 w2 nn).cell (f2.cell ((Fr.drew S0 wr).cell hcl (fun h => h)) (fun h => h)) (fun h => h)
            generalize w2.drewN nn = W at F2 F3 hx2 ⊢
            clear f2 HV hcl hcl2
            go_wp2_with fail
            go_roundw
            case rel => exact ⟨j + 1, true, by omega, by go_num, rfl, HFL.out, HNJ.out, F2.out, F3.out⟩
            case measure => simp [intOf]; omega
          | false =>
            have HNJ : Hid (∀ i, i < j + 1 → ¬ hits l B i) := Lib.hid (fun i hi => by
              by_cases e : i = j
              · subst e; exact hh
              · exact HNO.out i (by omega))
            rw [decide_eq_false hh] at HB1
            clear hh
            go_wp2_with fail
            go_region_held3 (fun w' => w'.cell? ⟨b, o + j, none⟩ = some (.int .u8 (x : Nat)) ∧ w'.cell? ⟨b2, o2 + j, none⟩ = some (.int .u32 (c : Nat)))
              (first | go_keep | (go_split_ands; exact ⟨f2.cell (by assumption) (fun h => h), f2.cell (by assumption) (fun h => h)⟩) | (go_split_ands; exact ⟨by assumption, by assumption⟩))
              (first
                | (go_at_call 62; refine (HBI.out _).mono ?_; rintro r w2 ⟨v, rfl, f2, hv⟩; obtain ⟨rq, rc, rfl, -, -, -⟩ := slForm hv.own; have HV := Lib.hid hv; clear hv)
                | (go_at_call 61; refine (HBG.out w2 rq rc (code c x) (hfr.trans0 ((Fr.drew S0 wr).trans0 f2)) (SlI.ofOwns HV.out.own) (fun y hy => by have := code_bit c x y hy; omega)).mono ?_; rw [HB1.out]; rintro r w3 ⟨rfl, nn, rfl⟩))
            have F2 := Lib.hid (hfr.trans0 (((Fr.drew S0 wr).trans0 f2).trans0 (Fr.drewN S0 w2 nn)))
            have F3 := Lib.hid (hfr1.trans0 (((Fr.drew S0 wr).trans0 f2).trans0 (Fr.drewN S0 w2 nn)))
            have hx2 : (w2.drewN nn).cell? ⟨b, o + j, none⟩ = some (.int .u8 (x : Nat)) := (Fr.drewN S0 w2 nn).cell (f2.cell ((Fr.drew S0 wr).cell hcl (fun h => h)) (fun h => h)) (fun h => h)
            generalize w2.drewN nn = W at F2 F3 hx2 ⊢
            clear f2 HV hcl hcl2
            go_wp2_with fail
            go_roundw
            case rel => exact ⟨j + 1, true, by omega, by go_num, rfl, HFL.out, HNJ.out, F2.out, F3.out⟩
            case measure => simp [intOf]; omega
      · obtain rfl : x = 0 := by omega
        have HFL := Lib.hid (mx_flag0 hjl HF.out HLEN.out)
        have HNJ : Hid (∀ i, i < j + 1 → ¬ hits l B i) := Lib.hid (fun i hi => by
          by_cases e : i = j
          · subst e; intro h; have := h.1; rw [HLEN.out] at this; omega
          · exact HNO.out i (by omega))
        have hd : decide ((0 : Int) < 0) = false := by decide
        clear HBJ hx0
        cases F with
        | true =>
          go_wp2_with fail
          go_quiet (fail)
          go_wp2_with fail
          go_roundw
          case rel => exact ⟨j + 1, true, by omega, by go_num, rfl, HFL.out, HNJ.out, hfr.trans0 (Fr.drewN _ _ _), hfr1.trans0 (Fr.drewN _ _ _)⟩
          case measure => simp [intOf]; omega
        | false =>
          go_wp2_with fail
          go_quiet (fail)
          go_wp2_with fail
          go_roundw
          case rel => exact ⟨j + 1, false, by omega, by go_num, rfl, HFL.out, HNJ.out, hfr.trans0 (Fr.drewN _ _ _), hfr1.trans0 (Fr.drewN _ _ _)⟩
          case measure => simp [intOf]; omega
    · obtain rfl : j = l.length := by omega
      rw [List.take_length] at HF
      have HNA := Lib.hid (hits_none HNO.out)
      cases F with
      | false =>
        have HM0 : Hid (mx l = 0) := Lib.hid (by
          have := of_decide_eq_false HF.out.symm
          omega)
        go_wp2_with fail
        go_ret3
        exact ⟨.inr (.inl ⟨HNA.out, HM0.out, rfl⟩), hfr⟩
      | true =>
        have HM0 : Hid (mx l ≠ 0) := Lib.hid (of_decide_eq_true HF.out.symm)
        have hck := ck_ok (l := l) (by rw [long_none H15.out]; rintro (h | h); · omega
                                       · cases h) HOK.out
        have hK := HK.out wr (HL.out.fr0 hfr) (fun y hy => by have := H15.out y hy; omega) (by omega)
        rw [hck.1, hck.2] at hK
        have HK1 := Lib.hid hK
        clear hK hck HK
        by_cases hfu : ful l
        · have HFU := Lib.hid hfu
          rw [decide_eq_true hfu] at HK1
          clear hfu
          go_wp2_with fail
          refine HK1.out.mono ?_
          rintro r w' ⟨rfl, rfl⟩
          go_wp2_with fail
          go_ret3
          exact ⟨.inr (.inr (.inl ⟨HNA.out, HM0.out, .inl HFU.out, rfl⟩)), hfr⟩
        · have HFU := Lib.hid hfu
          rw [decide_eq_false hfu] at HK1
          clear hfu
          by_cases hB0 : B.length = 0
          · have HB0 := Lib.hid hB0
            rw [hB0]
            clear hB0
            go_wp2_with fail
            refine HK1.out.mono ?_
            rintro r w' ⟨rfl, rfl⟩
            go_wp2_with fail
            go_ret3
            exact ⟨.inr (.inr (.inl ⟨HNA.out, HM0.out, .inr HB0.out, by rw [HB0.out]; rfl⟩)), hfr⟩
          · have HB0 := Lib.hid hB0
            have hbb : ((B.length : Int) == 0) = false := by rw [beq_eq_false_iff_ne]; omega
            clear hB0
            go_wp2_with fail
            refine HK1.out.mono ?_
            rintro r w' ⟨rfl, rfl⟩
            go_wp2_with fail
            go_ret3
            exact ⟨.inr (.inr (.inr ⟨HNA.out, HM0.out, (fun h => h.elim HFU.out HB0.out), rfl⟩)), hfr⟩
end Go.Proofs.Ytmcmchldjfnneaa
