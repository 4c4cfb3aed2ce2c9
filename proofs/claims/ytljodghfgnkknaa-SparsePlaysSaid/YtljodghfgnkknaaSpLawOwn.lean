/- Pairs that were told may be written over; a list that was taken is its own still. -/
import Derived.Test.YtljodghfgnkknaaSpCounted
import Derived.Test.YtljodghfgnkknaaSpTake
namespace Go.Proofs.Ytljodghfgnkknaa
open Go.RowKit

/-- two lists that were counted, and the document's beside the later one -/
theorem Cnt.two {w w1 w2 w3 : World} {g h g2 h2 n n2 : Nat} {q q2 : Option Addr} {l l2 : List Pr} (f : Fr S0 w w1) (c1 : Cnt w1 w2 g h q n l) (c2 : Cnt w2 w3 g2 h2 q2 n2 l2) :
    ∃ own, Cl own 0 w w3 g h l ∧ Cl own 1 w w3 g2 h2 l2 ∧ Ls own 2 w3 q2 l2 ∧ Fr S0 w w3 := by
  have s1 := f.size
  have s2 := c1.fr.size
  have s3 := c2.fr.size
  have a1 := c1.g0
  have a2 := c1.h0
  have a3 := c1.is.lt
  have a4 := c1.hl
  have b1 := c2.g0
  have b2 := c2.h0
  refine ⟨fun y => if y < w2.heap.size then 0 else if y = g2 ∨ y = h2 then 1 else 2, ⟨c1.is.fr0 c2.fr, by omega, by omega, by omega, if_pos a3, if_pos a4⟩, ⟨c2.is, by omega, by omega, c2.hl, ?_, ?_⟩, ⟨c2.pri, fun a ha => ⟨?_, (c2.q0 a ha).2.1⟩⟩, (f.trans0 c1.fr).trans0 c2.fr⟩
  · exact (if_neg (by omega)).trans (if_pos (.inl rfl))
  · exact (if_neg (by omega)).trans (if_pos (.inr rfl))
  · obtain ⟨h1, -, h3, h4⟩ := c2.q0 a ha
    exact (if_neg (by omega)).trans (if_neg (by omega))
theorem takeE0_small {l m : List Pr} (h1 : ltot l ≤ 1000000) (h2 : ltot m ≤ 1000000) : takeE0 l m = 0 := by rw [takeE0_eq, if_neg (by omega)]
theorem take_small {l m : List Pr} (h1 : ltot l ≤ 1000000) (h2 : ltot m ≤ 1000000) : takeL0 l m = lputs l m := by unfold takeL0; rw [if_pos (takeE0_small h1 h2)]
theorem own_len {l : List Pr} (h : Good l) (ht : ltot l ≤ 1000000) : addE0 (cutN l 1) 3 3 = 0 ∧ 1 ≤ (addL0 (cutN l 1) 3 3).length ∧ (addL0 (cutN l 1) 3 3).length ≤ 2 := by
  have h1 := cut_tot h.srt h.pos (m := 1) (by omega)
  have h2 := cut_len h.srt h.pos (m := 1) (by omega)
  have h3 := len_put 3 3 (cut_srt h.srt h.pos (m := 1) (by omega)) (cut_pos h.srt h.pos (m := 1) (by omega))
  have hE : addE0 (cutN l 1) 3 3 = 0 := by unfold addE0; rw [if_neg (by omega), if_neg (by omega), if_neg (by omega)]
  have hL : addL0 (cutN l 1) 3 3 = lput (cutN l 1) 3 3 := by unfold addL0; rw [if_pos hE]
  have h4 : 0 < (lput (cutN l 1) 3 3).length := List.length_pos_iff.2 (put_ne _ _ _)
  refine ⟨hE, ?_, ?_⟩ <;> rw [hL]
  · omega
  · rw [h3]; split <;> omega
/-- a row of pairs whose counts are numbers -/
def NumRow (w : World) (p : Option Addr) (n c : Nat) : Prop := ∃ xs, w.ownsRow 0 57 2 (.slice p n c) n xs ∧ ∀ k, k < n → ∃ y : Nat, y < 18446744073709551616 ∧ xs[k * 2 + 1]? = some (.int .u64 (y : Int))
theorem NumRow.new {w w' : World} {p : Option Addr} {c n : Nat} {l : List Pr} (h : PrsNew w w' p c n l) (hs : Srt l) (ht : ltot l < 18446744073709551616) : NumRow w' p n c := by
  refine ⟨_, h.own, fun k hk => ?_⟩
  have hk' : k < l.length := by have := h.len; omega
  refine ⟨(l[k]'hk').2, ?_, (prs_at l k hk').2⟩
  have h1 := cnt_mem hs (List.getElem_mem hk')
  have h2 := cnt_tot l (l[k]'hk').1
  omega
theorem NumRow.put {w : World} {n c j Z : Nat} {g : Nat} {xs : List Value} (h : w.ownsRow 0 57 2 (.slice (some ⟨g, 0, none⟩) n c) n xs) (hy : ∀ k, k < n → ∃ y : Nat, y < 18446744073709551616 ∧ xs[k * 2 + 1]? = some (.int .u64 (y : Int))) (hz : Z < 18446744073709551616) (hj : j < n) :
    NumRow (w.setCell ⟨g, j * 2 + 1, none⟩ (.int .u64 (Z : Int))) (some ⟨g, 0, none⟩) n c := by
  refine ⟨_, (h.stored (j * 2 + 1) (.int .u64 (Z : Int))).1, fun k hk => ?_⟩
  have hl : xs.length = n * 2 := h.1
  by_cases hkj : k = j
  · subst hkj
    exact ⟨Z, hz, by rw [List.getElem?_set_self (by omega)]⟩
  · obtain ⟨y, h1, h2⟩ := hy k hk
    exact ⟨y, h1, by rw [List.getElem?_set_ne (by omega)]; exact h2⟩

set_option maxRecDepth 100000 in
set_option maxHeartbeats 4000000 in
theorem law_own (p p' : Option Addr) (c c' m m' : Nat) (l l' : List Pr) (w : World) (hm : l.length = m) (h : PrI w p l) (h64 : ∀ x ∈ l, x.2 < 18446744073709551616) (hm' : l'.length = m') (h' : PrI w p' l') (h64' : ∀ x ∈ l', x.2 < 18446744073709551616) :
    Calls Try.prog 7 #[.slice p m c, .slice p' m' c'] w fun e w' => e = .returned (.bool true) ∧ Fr S0 w w' := by
  have hw := start w
  have HCA := Lib.hid (fun W (f : Fr S0 w W) => counted_any p c m l W hm (h.fr0 f) h64)
  have HCB := Lib.hid (fun W (f : Fr S0 w W) => counted_any p' c' m' l' W hm' (h'.fr0 f) h64')
  have HGA := Lib.hid (And.intro (cntd_good l) (cntd_tot l))
  have HGB := Lib.hid (And.intro (cntd_good l') (And.intro (cntd_tot l') (cntd_len l')))
  clear h h64 hm h' h64' hm'
  go_enter Try.func7, Try.ntmps7
  go_wp2_with fail
  refine hw _ ?_
  intro w1 f1
  have HF1 := Lib.hid f1
  have HC1 := Lib.hid (HCA.out w1 f1)
  clear hw f1 HCA
  go_wp2_with fail
  refine HC1.out.mono ?_
  rintro e w2 ⟨g, gh, q0, n0, d0, rfl, ca⟩
  have HA2 := Lib.hid ca
  have HC2 := Lib.hid (HCB.out w2 (HF1.out.trans0 ca.fr))
  clear ca HCB HC1
  go_wp2_with fail
  refine HC2.out.mono ?_
  rintro e w3 ⟨g2, gh2, q, n, d, rfl, cb⟩
  obtain ⟨own3, k1, k2, k3, k4⟩ := Cnt.two HF1.out HA2.out cb
  have HS3 := Lib.hid (And.intro k1 (And.intro k2 (And.intro k3 k4)))
  have HQN := Lib.hid cb.len
  clear cb HC2 HA2 HF1 k1 k2 k3 k4
  obtain ⟨LA, hLA⟩ : ∃ L, cntd l = L := ⟨_, rfl⟩
  obtain ⟨LB, hLB⟩ : ∃ L, cntd l' = L := ⟨_, rfl⟩
  rw [hLA] at HS3 HGA
  rw [hLB] at HS3 HGB HQN
  clear hLA hLB
  have HT3 := Lib.hid (take_any g gh g2 gh2 LA LB w3 HS3.out.1.is HS3.out.2.1.is)
  rw [takeE0_small (by have := HGA.out.2; omega) (by have := HGB.out.2.1; omega), take_small (by have := HGA.out.2; omega) (by have := HGB.out.2.1; omega)] at HT3
  have HG1 := Lib.hid (And.intro (HGA.out.1.puts HGB.out.1 (by have := HGA.out.2; have := HGB.out.2.1; omega)) (show ltot (lputs LA LB) ≤ 1000000 by rw [tot_putAll]; have := HGA.out.2; have := HGB.out.2.1; omega))
  obtain ⟨L1, hL1⟩ : ∃ L, lputs LA LB = L := ⟨_, rfl⟩
  rw [hL1] at HG1 HT3
  clear hL1 HGA
  go_wp2_with fail
  refine HT3.out.mono ?_
  rintro e w4 ⟨rfl, gh4, t4⟩
  have HS4 := Lib.hid (And.intro (HS3.out.1.turn t4) (And.intro (HS3.out.2.1.other HS3.out.1 t4 (by decide)) (And.intro (HS3.out.2.2.1.turn HS3.out.1 t4 (by decide)) (HS3.out.1.frame t4 HS3.out.2.2.2))))
  clear t4 HT3 HS3
  generalize hue own3 0 gh gh4 = own4 at HS4
  have HP4 := Lib.hid (pairs_any g gh4 L1 w4 HS4.out.1.is)
  go_wp2_with fail
  refine HP4.out.mono ?_
  rintro e w5 ⟨p5, d5, n5, rfl, hp⟩
  have HNR := Lib.hid (NumRow.new hp HG1.out.1.srt (by have := HG1.out.2; omega))
  have HFR : Hid (∀ a, p5 = some a → w4.heap.size ≤ a.block) := Lib.hid hp.fresh
  have HFP : Hid (Fr S0 w4 w5) := Lib.hid hp.fr
  have hn5 : n5 ≤ 10000000 := by have := HG1.out.1.len; have := hp.len; omega
  clear hp HP4
  go_wp2_with fail
  go_loopw [10] (fun x wr => ∃ j : Nat, j ≤ n5 ∧ x = .int .i64 j ∧ Hid (NumRow wr p5 n5 d5) ∧ Hid (Fr S0 w4 wr)) (fun x _ => n5 - (intOf x).toNat)
  case atStart => exact ⟨0, by omega, rfl, HNR, HFP⟩
  case round =>
    clear HNR HFP
    obtain ⟨j, hj, rfl, ho, hf⟩ := hrel
    by_cases hjn : (j : Int) < (n5 : Int)
    · obtain ⟨xs, hx, hy⟩ := ho.out
      have hxl : xs.length = n5 * 2 := hx.1
      obtain ⟨gp, rfl⟩ : ∃ gp, p5 = some ⟨gp, 0, none⟩ := by
        rcases hx.2 with ⟨h1, h2⟩ | ⟨gp, c1, c2, h1, -⟩
        · omega
        · exact ⟨gp, (Value.slice.inj h1).1⟩
      obtain ⟨y, hyb, hyv⟩ := hy j (by omega)
      have c1 := (hx.cellAt (j * 2 + 1) (by omega)).trans hyv
      have z1 := hx.frozenAt (j * 2 + 1)
      obtain ⟨Z, hZ⟩ : ∃ Z, (y + 1) % 18446744073709551616 = Z := ⟨_, rfl⟩
      have hZb : Z < 18446744073709551616 := by omega
      have ez : IntKind.u64.wrap ((y : Int) + 1) = (Z : Int) := by simp [IntKind.wrap, IntKind.bits, IntKind.signed]; omega
      have h1 := hx.stored (j * 2 + 1) (.int .u64 (Z : Int))
      have HO2 := Lib.hid (NumRow.put (j := j) hx hy hZb (by omega))
      have HFX := Lib.hid (hf.out.append h1.2 fun k' hk' => by have h3 := HFR.out ⟨gp, 0, none⟩ rfl; obtain rfl : gp = k' := Option.some.inj hk'; exact h3)
      clear ho hx hxl hy h1 hf hyv hZ
      go_wp2_with fail
      go_roundw
      case rel => exact ⟨j + 1, by omega, by go_num, HO2, HFX⟩
      case measure => simp [intOf]; omega
    · have HS5 := Lib.hid (And.intro (HS4.out.1.fr0 hf.out) (And.intro (HS4.out.2.1.fr0 hf.out) (And.intro (HS4.out.2.2.1.fr0 hf.out) (HS4.out.2.2.2.trans0 hf.out))))
      have HC5 := Lib.hid (cut_any g gh4 1 L1 wr (by decide) HS5.out.1.is)
      obtain ⟨e1, e2, e3⟩ := own_len HG1.out.1 HG1.out.2
      have em : most 1 = 1 := by decide
      rw [em] at HC5
      obtain ⟨L2, hL2⟩ : ∃ L, cutN L1 1 = L := ⟨_, rfl⟩
      obtain ⟨L3, hL3⟩ : ∃ L, addL0 L2 3 3 = L := ⟨_, rfl⟩
      rw [hL2] at HC5 e1 e2 e3
      rw [hL3] at e2 e3
      have HE := Lib.hid (And.intro e1 hL3)
      clear ho hf HS4 e1 hL3 hL2 em
      go_wp2_with fail
      refine HC5.out.mono ?_
      rintro e w6 ⟨rfl, gh6, t6⟩
      have HS6 := Lib.hid (And.intro (HS5.out.1.turn t6) (And.intro (HS5.out.2.1.other HS5.out.1 t6 (by decide)) (And.intro (HS5.out.2.2.1.turn HS5.out.1 t6 (by decide)) (HS5.out.1.frame t6 HS5.out.2.2.2))))
      clear t6 HC5 HS5
      generalize hue own4 0 gh4 gh6 = own6 at HS6
      have HA6 := Lib.hid (HS6.out.1.add 3 3 0 L3 (by decide) HE.out.1 HE.out.2)
      go_wp2_with fail
      refine HA6.out.mono ?_
      rintro e w7 ⟨rfl, gh7, t7⟩
      have HS7 := Lib.hid (And.intro (HS6.out.1.turn t7) (And.intro (HS6.out.2.1.other HS6.out.1 t7 (by decide)) (And.intro (HS6.out.2.2.1.turn HS6.out.1 t7 (by decide)) (HS6.out.1.frame t7 HS6.out.2.2.2))))
      clear t7 HA6 HS6
      generalize hue own6 0 gh6 gh7 = own7 at HS7
      have HP7 := Lib.hid (pairs_any g gh7 L3 w7 HS7.out.1.is)
      go_wp2_with fail
      refine HP7.out.mono ?_
      rintro e w8 ⟨p8, d8, n8, rfl, hp⟩
      obtain rfl : L3.length = n8 := hp.len
      have HS8 := Lib.hid (And.intro (HS7.out.2.1.fr0 hp.fr) (And.intro (HS7.out.2.2.1.fr0 hp.fr) (HS7.out.2.2.2.trans0 hp.fr)))
      have HP8 := Lib.hid (pairs_any g2 gh2 LB w8 HS8.out.1.is)
      obtain ⟨M, hM⟩ : ∃ M, L3.length = M := ⟨_, rfl⟩
      rw [hM] at e2 e3 ⊢
      have e4 : (1 : Int) ≤ (M : Int) := by omega
      have e5 : (M : Int) ≤ 2 := by omega
      clear hp HP7 HS7 HE hM
      go_wp2_with fail
      refine HP8.out.mono ?_
      rintro e w9 ⟨p9, d9, n9, rfl, hp⟩
      obtain rfl : n = n9 := HQN.out.symm.trans hp.len
      have HSM := Lib.hid (rsame_yes p9 q n d9 d LB w9 (hp.pri (by have := HQN.out; have h9 := HGB.out.2.2; omega)) (HS8.out.2.1.pri.fr0 hp.fr) HQN.out)
      have HF9 := Lib.hid (HS8.out.2.2.trans0 hp.fr)
      clear hp HP8 HS8
      go_wp2_with fail
      refine HSM.out.mono ?_
      rintro e w10 ⟨rfl, f10⟩
      clear HSM
      go_wp2_with fail
      go_ret
      exact ⟨rfl, HF9.out.trans0 f10⟩
end Go.Proofs.Ytljodghfgnkknaa
