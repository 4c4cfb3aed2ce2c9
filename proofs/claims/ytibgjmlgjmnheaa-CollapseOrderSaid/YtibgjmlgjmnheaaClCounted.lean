/- A store to which pairs were counted that were made small, and the document's list beside it. -/
import Derived.Test.YtibgjmlgjmnheaaClAlive
import Derived.Deep.CutBlock
import Derived.Deep.DeepCutAuto
import Derived.Deep.CutRange
namespace Go.Proofs.Ytibgjmlgjmnheaa
open Go.RowKit

/-- pairs made small: at most a hundred -/
def sml (l : List Pr) : List Pr := (l.map fun x => (x.1.tmod 1048577, 1 + x.2 % 1000)).take 100
def cntd (l : List Pr) : List Pr := lputs [] (sml l)
theorem tmod_in (x : Int) : -1048576 ≤ x.tmod 1048577 ∧ x.tmod 1048577 ≤ 1048576 := by
  rcases (by omega : 0 ≤ x ∨ x < 0) with h | h
  · rw [Int.tmod_eq_emod_of_nonneg h]; omega
  · have h2 : x.tmod 1048577 = -((-x).tmod 1048577) := by rw [Int.neg_tmod]; omega
    rw [h2, Int.tmod_eq_emod_of_nonneg (by omega)]; omega
theorem sml_all (l : List Pr) : ∀ x ∈ sml l, (-1048576 ≤ x.1 ∧ x.1 ≤ 1048576) ∧ 0 < x.2 ∧ x.2 ≤ 1000 := by
  intro x hx
  obtain ⟨y, hy, rfl⟩ := List.mem_map.1 (List.mem_of_mem_take hx)
  exact ⟨tmod_in _, by simp only; omega, by simp only; omega⟩
theorem sml_len (l : List Pr) : (sml l).length = min 100 l.length := by unfold sml; simp
theorem tot_small : ∀ (l : List Pr), (∀ x ∈ l, x.2 ≤ 1000) → ltot l ≤ l.length * 1000
  | [], _ => by simp [ltot]
  | x :: l, h => by
    have h1 := h x List.mem_cons_self
    have h2 := tot_small l fun y hy => h y (List.mem_cons_of_mem _ hy)
    rw [ltot, List.length_cons]
    omega
theorem sml_take_tot (l : List Pr) (j : Nat) : ltot (lputs [] ((sml l).take j)) ≤ 100000 := by
  have h1 := tot_small ((sml l).take j) fun x hx => (sml_all l x (List.mem_of_mem_take hx)).2.2
  have h2 := tot_putAll ((sml l).take j) []
  have h3 := sml_len l
  rw [List.length_take] at h1
  simp only [ltot] at h2
  omega
theorem sml_take_good (l : List Pr) (j : Nat) : Good (lputs [] ((sml l).take j)) := by
  refine ⟨putAll_srt srt_nil _, putAll_pos pos_nil fun x hx => (sml_all l x (List.mem_of_mem_take hx)).2.1, by have := sml_take_tot l j; omega, fun x hx => ?_⟩
  rcases putAll_mem _ _ _ hx with ⟨y, hy, e⟩ | hx
  · rw [← e]; exact (sml_all l y (List.mem_of_mem_take hy)).1
  · cases hx
theorem sml_take_len (l : List Pr) (j : Nat) : (lputs [] ((sml l).take j)).length ≤ 100 := by
  have h1 := len_puts_le ((sml l).take j) []
  have h2 := sml_len l
  rw [List.length_take] at h1
  simp only [List.length_nil] at h1
  omega
theorem cntd_good (l : List Pr) : Good (cntd l) := by
  have := sml_take_good l (sml l).length
  rwa [List.take_length] at this
theorem cntd_tot (l : List Pr) : ltot (cntd l) ≤ 100000 := by
  have := sml_take_tot l (sml l).length
  rwa [List.take_length] at this
theorem cntd_len (l : List Pr) : (cntd l).length ≤ 100 := by
  have := sml_take_len l (sml l).length
  rwa [List.take_length] at this

/-- a store that is new to w, and the document's list beside it, in other blocks -/
structure Cnt (w w' : World) (g h m : Nat) (q : Option Addr) (n : Nat) (l : List Pr) : Prop where
  is : Col w' g h m l
  g0 : w.heap.size ≤ g
  h0 : w.heap.size ≤ h
  hl : h < w'.heap.size
  pri : PrI w' q l
  len : l.length = n
  q0 : ∀ a, q = some a → w.heap.size ≤ a.block ∧ a.block < w'.heap.size ∧ a.block ≠ g ∧ a.block ≠ h
  fr : Fr S0 w w'

theorem Ls.new {own : Nat → Nat} {j : Nat} {W W' : World} {v : Value} {N : Nat} {l : List Pr} (a : Acc W W' v N l) (hN : l.length ≤ 100000) : ∃ q c, v = .slice q N c ∧ l.length = N ∧ Ls (Go.Proofs.Ytibgjmlgjmnheaa.dye own j W.heap.size) j W' q l := by
  have hl := a.len
  obtain ⟨q, c, rfl⟩ := slFormN a.own
  refine ⟨q, c, rfl, hl, PrI.ofOwns a.own (by unfold maxLen; omega), fun b hb => ?_⟩
  have h1 := a.fresh b.block (by rw [hb]; rfl)
  have h2 := (a.own.lt b.block (by rw [hb]; rfl)).2
  exact ⟨if_pos h1, h2⟩

set_option maxRecDepth 100000 in
set_option maxHeartbeats 4000000 in
theorem counted_any (p : Option Addr) (c m b : Nat) (l : List Pr) (w : World) (hb2 : 2 ≤ b) (hb3 : b ≤ 4096) (hm : l.length = m) (h : PrI w p l) (h64 : ∀ x ∈ l, x.2 < 18446744073709551616) :
    Calls Try.prog 16 #[.int .i64 (b : Nat), .slice p m c] w fun e w' => ∃ g h q n d, e = .returned (.tuple #[.pointer (some ⟨g, 0, none⟩), .slice q n d]) ∧ Cnt w w' g h b q n (cntd l) := by
  have H := Lib.hid h
  have H64 := Lib.hid h64
  have HM := Lib.hid hm
  have hlen := h.len
  rw [hm] at hlen
  unfold maxLen at hlen
  have HNW := Lib.hid (new_yes b w hb2 hb3)
  clear h h64 hm hb2 hb3
  go_enter Try.func16, Try.ntmps16
  go_wp2_with fail
  refine HNW.out.mono ?_
  rintro e w2 ⟨g, rfl, hnew⟩
  have C0 := Lib.hid (Cl.ofNew (own := fun _ => 5) (i := 0) (Fr.refl S0 w) hnew)
  have F0 := Lib.hid hnew.fr
  clear hnew HNW
  go_wp2_with fail
  go_loopw [8, 9, 10, 11] (fun wv x _ _ wr => ∃ (k h n d : Nat) (own : Nat → Nat) (q : Option Addr), k ≤ m ∧ k ≤ 100 ∧ x = .int .i64 k ∧ wv = .slice q n d ∧ Hid ((lputs [] ((sml l).take k)).length = n) ∧ Hid (Cl own 0 w wr g h b (lputs [] ((sml l).take k))) ∧ Hid (Ls own 1 wr q (lputs [] ((sml l).take k))) ∧ Hid (Fr S0 w wr ∧ ∀ a, q = some a → w.heap.size ≤ a.block)) (fun _ x _ _ _ => m - (intOf x).toNat)
  case atStart => exact ⟨0, _, 0, 0, _, none, by omega, by omega, rfl, rfl, Lib.hid rfl, C0, Lib.hid (Ls.nil _ _ _), Lib.hid ⟨F0.out, fun _ h => by cases h⟩⟩
  case round =>
    clear C0 F0
    obtain ⟨k, h, n, d, own, q, hk, hk100, rfl, rfl, hn, hc, hs, hf⟩ := hrel
    by_cases hkm : (k : Int) < (m : Int) ∧ (k : Int) < 100
    · obtain ⟨hk1, hk2⟩ := hkm
      have hkl : k < l.length := by rw [HM.out]; omega
      have hks : k < (sml l).length := by rw [sml_len]; omega
      obtain ⟨pb, po, hpe, c0, c1⟩ := (H.out.fr0 hf.out.1).at k hkl
      have hx64 := H64.out _ (List.getElem_mem hkl)
      have hsk : (sml l)[k]'hks = ((l[k]'hkl).1.tmod 1048577, 1 + (l[k]'hkl).2 % 1000) := by
        have h1 : (sml l)[k]? = some ((l[k]'hkl).1.tmod 1048577, 1 + (l[k]'hkl).2 % 1000) := by
          unfold sml
          rw [List.getElem?_take, if_pos (by omega), List.getElem?_map, List.getElem?_eq_getElem hkl]
          rfl
        exact Option.some.inj ((List.getElem?_eq_getElem hks).symm.trans h1)
      have hstep := lputs_take [] (sml l) k hks
      have hg1 := sml_take_good l k
      have hg2 := sml_take_good l (k + 1)
      have htt := sml_take_tot l k
      have hll := sml_take_len l (k + 1)
      obtain ⟨⟨tk, tn⟩, hx⟩ : ∃ x, l[k]'hkl = x := ⟨_, rfl⟩
      rw [hx] at c0 c1 hsk hx64
      simp only at c0 c1 hsk hx64
      obtain ⟨K, hK⟩ : ∃ K, tk.tmod 1048577 = K := ⟨_, rfl⟩
      obtain ⟨R, hR⟩ : ∃ R, tn % 1000 = R := ⟨_, rfl⟩
      obtain ⟨V, hV⟩ : ∃ V, 1 + R = V := ⟨_, rfl⟩
      have hKin := tmod_in tk
      rw [hK] at hKin
      rw [hK, hR, hV] at hsk
      rw [hsk] at hstep
      simp only at hstep
      have eR : (tn : Int) % 1000 = (R : Int) := by omega
      have eR2 : (tn : Int).tmod 1000 = (R : Int) := by rw [Int.tmod_eq_emod_of_nonneg (by omega)]; omega
      have eV : (1 : Int) + (R : Int) = (V : Int) := by omega
      have hVb : V ≤ 1000 := by omega
      have hRb : R < 1000 := by omega
      have hE : addE0 (lputs [] ((sml l).take k)) K V = 0 := by unfold addE0; rw [if_neg (by omega), if_neg (by omega), if_neg (by omega)]
      have hL : addL0 (lputs [] ((sml l).take k)) K V = lputs [] ((sml l).take (k + 1)) := by unfold addL0; rw [hE, if_pos rfl, hstep]
      have HADD := Lib.hid (fun W (f : Fr S0 wr W) => (hc.out.fr0 f).add K V 0 _ (by omega) hE hL)
      have HPUT : Hid (∀ W, PrI W q (lputs [] ((sml l).take k)) → Calls Try.prog 30 #[.slice q n d, .int .i64 K, .int .u64 (V : Nat)] W fun e w' => ∃ v N, e = .returned v ∧ Acc W w' v N (lputs [] ((sml l).take (k + 1)))) := Lib.hid fun W hp => by
        have := rput_any q n d V K _ W hp hn.out (by have := sml_take_len l k; have := hn.out; omega) (by omega)
        rwa [← hstep] at this
      have HLL := Lib.hid hll
      subst hpe
      clear hx hsk hstep hg1 hg2 htt hll hE hL hR hV hKin hx64
      go_wp2_with fail
      go_quiet (fail)
      have HC1 := Lib.hid (And.intro (hc.out.fr0 (Fr.drewN S0 wr nq)) (And.intro (hs.out.fr0 (Fr.drewN S0 wr nq)) (hf.out.1.trans0 (Fr.drewN S0 wr nq))))
      have HA1 := Lib.hid (HADD.out _ (Fr.drewN S0 wr nq))
      have HF := Lib.hid hf.out.2
      clear hc hs hf c0 c1 HADD
      generalize wr.drewN nq = W1 at *
      go_wp2_with fail
      refine HA1.out.mono ?_
      rintro e W2 ⟨rfl, h', t2⟩
      have HC2 := Lib.hid (And.intro (HC1.out.1.turn t2) (And.intro (HC1.out.2.1.turn HC1.out.1 t2 (by decide)) (HC1.out.1.frame t2 HC1.out.2.2)))
      clear t2 HA1 HC1
      generalize hue own 0 h h' = own2 at HC2
      have HP2 := Lib.hid (HPUT.out W2 HC2.out.2.1.pri)
      clear HPUT
      go_wp2_with fail
      refine HP2.out.mono ?_
      rintro e W3 ⟨v, N, rfl, ha⟩
      obtain ⟨q', c', rfl, hl', hls⟩ := Ls.new (j := 1) (own := own2) ha (by have := HLL.out; omega)
      have HC3 := Lib.hid (And.intro (HC2.out.1.dye (j := 1) ha.fr) (And.intro hls (HC2.out.2.2.trans0 ha.fr)))
      have HL3 := Lib.hid hl'
      have HF3 : Hid (∀ a, q' = some a → w.heap.size ≤ a.block) := Lib.hid fun a hq' => Nat.le_trans HC2.out.2.2.size (ha.fresh a.block (by rw [hq']; rfl))
      clear ha hl' hls HC2 HP2
      go_wp2_with fail
      go_roundw
      case rel => exact ⟨k + 1, h', N, c', _, q', by omega, by omega, by go_num, rfl, HL3, Lib.hid HC3.out.1, Lib.hid HC3.out.2.1, Lib.hid ⟨HC3.out.2.2, HF3.out⟩⟩
      case measure => simp [intOf]; omega
    · have hend : (sml l).take k = sml l := List.take_of_length_le (by rw [sml_len, HM.out]; omega)
      have HE : Hid (∃ h, Cnt w wr g h b q n (cntd l)) := Lib.hid (by
        have hn2 := hn.out
        have hc2 := hc.out
        have hs2 := hs.out
        rw [hend] at hn2 hc2 hs2
        exact ⟨h, hc2.is, hc2.g0, hc2.h0, hc2.hl, hs2.pri, hn2, fun a ha => ⟨hf.out.2 a ha, (hs2.col a ha).2, fun e => (by have h1 := (hs2.col a ha).1; rw [e, hc2.cg] at h1; cases h1), fun e => (by have h1 := (hs2.col a ha).1; rw [e, hc2.ch] at h1; cases h1)⟩, hf.out.1⟩)
      clear hn hc hs hf hend
      by_cases hk1 : (k : Int) < (m : Int)
      · have hk2 : decide ((k : Int) < 100) = false := decide_eq_false (by omega)
        go_wp2_with fail
        go_ret2
        obtain ⟨h, hh⟩ := HE.out
        exact ⟨g, h, q, n, d, rfl, hh⟩
      · go_wp2_with fail
        go_ret2
        obtain ⟨h, hh⟩ := HE.out
        exact ⟨g, h, q, n, ⟨d, rfl⟩, hh⟩
end Go.Proofs.Ytibgjmlgjmnheaa
