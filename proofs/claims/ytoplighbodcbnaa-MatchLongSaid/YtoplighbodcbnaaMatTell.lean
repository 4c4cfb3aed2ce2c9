/- What a text's tokens tell: the text. -/
import Derived.Test.YtoplighbodcbnaaMatList
namespace Go.Proofs.Ytoplighbodcbnaa
open Go.RowKit Go.MapKept

set_option maxRecDepth 100000 in
set_option maxHeartbeats 1000000 in
theorem fits_byte (x k : Nat) (w : World) : Calls Try.prog 17 #[.agg (tkc (x, 0, 0)), .int .i64 (k : Nat)] w fun r w' => r = .returned (.bool true) ∧ Fr S0 w w' := by
  unfold tkc
  go_enter Try.func17, Try.ntmps17
  go_wp2
  go_ret
  exact ⟨rfl, Fr.alloc _ _ _⟩
set_option maxRecDepth 100000 in
set_option maxHeartbeats 1000000 in
theorem fits_again (s d k : Nat) (w : World) (h1 : 3 ≤ s) (h2 : s ≤ 258) (h3 : 0 < d) (h4 : d ≤ k) (h5 : d ≤ 32768) (hk : k ≤ 1048576) : Calls Try.prog 17 #[.agg (tkc (0, s, d)), .int .i64 (k : Nat)] w fun r w' => r = .returned (.bool true) ∧ Fr S0 w w' := by
  unfold tkc
  have r0 : ¬ (d : Int) = 0 := by omega
  have r1 : (0 : Int) < (d : Int) := by omega
  have r2 : (3 : Int) ≤ (s : Int) := by omega
  have r3 : (s : Int) ≤ 258 := by omega
  obtain ⟨e, he⟩ : ∃ e, min k 32768 = e := ⟨_, rfl⟩
  have emin : (if (32768 : Int) < (k : Int) then 32768 else (k : Int)) = (e : Int) := by split <;> omega
  have r4 : (d : Int) ≤ (e : Int) := by omega
  go_enter Try.func17, Try.ntmps17
  go_wp2
  go_ret
  exact ⟨rfl, Fr.alloc _ _ _⟩

/-- what has come of appending to v -/
structure PutTo (w w' : World) (v v' : Value) : Prop where
  fr : Fr (fun g => v.ownBlock = some g) w w'
  at' : ∀ g, v'.ownBlock = some g → v.ownBlock = some g ∨ w.heap.size ≤ g
theorem PutTo.refl (w : World) (v : Value) : PutTo w w v v := ⟨Fr.refl _ _, fun _ h => .inl h⟩
theorem PutTo.app {w w1 w2 : World} {o : Obj} {v v1 : Value} {g n c : Nat} (h : PutTo w w1 v v1) (hg : (w1.alloc o).grownBy w2 v1.ownBlock) (hat : v1.ownBlock = some g ∨ g = w1.heap.size + 1) : PutTo w w2 v (.slice (some ⟨g, 0, none⟩) n c) :=
  ⟨(h.fr.trans0 (Fr.alloc _ _ _)).trans (Fr.grown hg) fun j hj e => by
    rcases h.at' j e with h1 | h1
    · exact h1
    · omega, fun g' hg' => by
    obtain rfl : g = g' := Option.some.inj hg'
    rcases hat with h1 | h1
    · exact h.at' g h1
    · have := h.fr.size; exact .inr (by omega)⟩

set_option maxRecDepth 100000 in
set_option maxHeartbeats 1000000 in
theorem put_byte (p : Option Addr) (n c x : Nat) (l : List Nat) (w : World) (h : w.ownsRow 0 5 1 (.slice p n c) n (u8s l)) (hn : n ≤ 1048576) :
    Calls Try.prog 18 #[.slice p n c, .agg (tkc (x, 0, 0))] w fun r w' => ∃ p' c', r = .returned (.slice p' (n + 1) c') ∧ w'.ownsRow 0 5 1 (.slice p' (n + 1) c') (n + 1) (u8s (l ++ [x])) ∧ PutTo w w' (.slice p n c) (.slice p' (n + 1) c') := by
  have H := Lib.hid h
  have HR : Hid (Room (n + 1)) := Lib.hid (Room.mk (by omega))
  clear h
  unfold tkc
  go_enter Try.func18, Try.ntmps18
  go_wp2_with (at_builtin; refine app_one el8 (.tmp 8) (.tmp 11) (size_alloc _ _) (H.out.alloc _) rfl rfl rfl rfl rfl (by first | exact one8 | exact one8s _) HR.out ?_; intro g cap w2 hown hgrow hat hlt2; have HO := Lib.hid hown; have HG := Lib.hid hgrow; have HA := Lib.hid hat; clear hown hgrow hat)
  go_ret
  refine ⟨_, _, rfl, ?_, ?_⟩
  · rw [← u8s_append]; exact HO.out
  · exact PutTo.app (w1 := w.alloc _) ⟨Fr.alloc _ _ _, fun g h => .inl h⟩ HG.out (HA.out.imp id fun e => by rw [size_alloc]; exact e)

set_option maxRecDepth 100000 in
set_option maxHeartbeats 1000000 in
theorem put_again (p : Option Addr) (c k s d : Nat) (b : List Nat) (w : World) (h : w.ownsRow 0 5 1 (.slice p k c) k (u8s (b.take k))) (hd : 0 < d) (hdk : d ≤ k) (hks : k + s ≤ b.length) (hlen : b.length ≤ 1048576) (hrun : ∀ j, j < s → b.getD (k - d + j) 0 = b.getD (k + j) 0) :
    Calls Try.prog 18 #[.slice p k c, .agg (tkc (0, s, d))] w fun r w' => ∃ p' c', r = .returned (.slice p' (k + s) c') ∧ w'.ownsRow 0 5 1 (.slice p' (k + s) c') (k + s) (u8s (b.take (k + s))) ∧ PutTo w w' (.slice p k c) (.slice p' (k + s) c') := by
  have H := Lib.hid h
  have HRUN := Lib.hid hrun
  have r0 : ¬ (d : Int) = 0 := by omega
  obtain ⟨m, hm⟩ : ∃ m, b.length = m := ⟨_, rfl⟩
  have HM := Lib.hid hm
  rw [hm] at hks hlen
  clear h hrun hm
  unfold tkc
  go_enter Try.func18, Try.ntmps18
  go_wp2_with fail
  obtain ⟨W0, hW0⟩ : ∃ W0, w.alloc (.cells #[.int .u8 0, .int .i64 (s : Int), .int .i64 (d : Int)] 34) = W0 := ⟨_, rfl⟩
  have HF0 : Hid (Fr S0 w W0) := Lib.hid (by rw [← hW0]; exact Fr.alloc _ _ _)
  have hB0 : W0.heap[w.heap.size]? = some (.cells #[.int .u8 0, .int .i64 (s : Int), .int .i64 (d : Int)] 34) := by rw [← hW0]; exact heap_alloc_new w _
  have HB0 := Lib.hid hB0
  rw [hW0]
  have HLT := Lib.hid (fun g (hg : Value.ownBlock (.slice p k c) = some g) => (H.out.lt g hg).2)
  obtain ⟨G, hG⟩ : ∃ G, w.heap.size = G := ⟨_, rfl⟩
  have HGG := Lib.hid hG
  rw [hG] at HB0
  rw [hG]
  clear hB0 hW0 hG
  go_loopw [0, 15] (fun v i wr => ∃ (j : Nat) (p' : Option Addr) (c' : Nat), j ≤ s ∧ i = .int .i64 j ∧ v = .slice p' (k + j) c' ∧ wr.ownsRow 0 5 1 (.slice p' (k + j) c') (k + j) (u8s (b.take (k + j))) ∧ PutTo w wr (.slice p k c) (.slice p' (k + j) c') ∧ wr.heap[G]? = some (.cells #[.int .u8 0, .int .i64 (s : Int), .int .i64 (d : Int)] 34) ∧ (∀ g, Value.ownBlock (.slice p' (k + j) c') = some g → g ≠ G)) (fun _ i _ => s - (intOf i).toNat)
  case atStart => exact ⟨0, p, c, by omega, rfl, rfl, HF0.out.owns H.out fun _ _ h => h, ⟨HF0.out.mono fun _ _ h => h.elim, fun _ h => .inl h⟩, HB0.out, fun g hg => by have := HLT.out g hg; have := HGG.out; omega⟩
  case round =>
    obtain ⟨j, p', c', hj, rfl, rfl, hown, hto, hB, hne⟩ := hrel
    have HOWN := Lib.hid hown
    have HTO := Lib.hid hto
    have HB := Lib.hid hB
    have HNE := Lib.hid hne
    obtain ⟨t0, t1, t2, _⟩ := tok_facts hB
    clear hown hto hB hne
    by_cases hjs : (j : Int) < (s : Int)
    · have hx := HOWN.out
      obtain ⟨x, hx0⟩ : ∃ x, b.getD (k + j) 0 = x := ⟨_, rfl⟩
      have HX := Lib.hid hx0
      have hsl : SlI wr .u8 p' (b.take (k + j)) := SlI.ofOwns hx
      obtain ⟨B, o, rfl, hc⟩ := hsl.at (k + j - d) (by rw [List.length_take, HM.out]; omega)
      have hv : (b.take (k + j))[k + j - d]'(by rw [List.length_take, HM.out]; omega) = x := by
        rw [List.getElem_take, ← getD_at b (k + j - d) (by rw [HM.out]; omega), ← hx0, ← HRUN.out j (by omega)]
        congr 1
        omega
      rw [hv] at hc
      have hc' : wr.cell? ⟨B, o + (k + j - d), none⟩ = some (.int .u8 (x : Int)) := hc
      obtain ⟨K, hK⟩ : ∃ K, k + j = K := ⟨_, rfl⟩
      obtain ⟨I, hI⟩ : ∃ I, K - d = I := ⟨_, rfl⟩
      rw [hK] at HOWN HTO HNE HX hc'
      rw [hI] at hc'
      have HK := Lib.hid hK
      rw [hK]
      have q1 : (K : Int) - (d : Int) = (I : Int) := by omega
      have q2 : (I : Int) < (K : Int) := by omega
      have q3 : K ≤ 1048576 := by omega
      have q4 : I ≤ 1048576 := by omega
      have HR : Hid (Room (K + 1)) := Lib.hid (Room.mk (by omega))
      have HTAKE : Hid (b.take (K + 1) = b.take K ++ [x]) := Lib.hid (by
        rw [List.take_succ_eq_append_getElem (by rw [HM.out]; omega), ← getD_at b K (by rw [HM.out]; omega), ← HX.out])
      clear hx hx0 hsl hc hv hK hI
      go_wp2_with (at_builtin; refine app_one el8 (.tmp 17) (.tmp 26) rfl HOWN.out rfl rfl rfl rfl rfl one8 HR.out ?_; intro g cap w2 hown hgrow hat hlt2; have HO := Lib.hid hown; have HG := Lib.hid hgrow; have HA := Lib.hid hat; clear hown hgrow hat)
      go_roundw
      case rel => exact ⟨j + 1, by omega, by simp, some ⟨g, 0, none⟩, cap, ⟨rfl, by have := HK.out; omega, rfl⟩, by rw [show k + (j + 1) = K + 1 by have := HK.out; omega, HTAKE.out, ← u8s_append]; exact HO.out, by rw [show k + (j + 1) = K + 1 by have := HK.out; omega]; exact PutTo.app HTO.out HG.out HA.out, (Fr.grown HG.out).row ((Fr.alloc S0 _ _).row HB.out (fun h => h)) (fun e => HNE.out _ e rfl), fun g' hg' => by
        obtain rfl : g = g' := Option.some.inj hg'
        rcases HA.out with h1 | h1
        · exact HNE.out g h1
        · have := (Array.getElem?_eq_some_iff.1 HB.out).1; omega⟩
      case measure => simp [intOf]; omega
    · have ej : j = s := by omega
      subst ej
      go_wp2
      go_ret
      exact ⟨p', c', rfl, HOWN.out, HTO.out⟩
end Go.Proofs.Ytoplighbodcbnaa
