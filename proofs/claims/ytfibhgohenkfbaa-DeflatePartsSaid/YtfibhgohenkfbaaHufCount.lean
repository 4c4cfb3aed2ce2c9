/- How many codes there are of each length. -/
import Derived.Test.YtfibhgohenkfbaaHufFull
namespace Go.Proofs.Ytfibhgohenkfbaa
open Go.RowKit

theorem mny_take (l : List Nat) (j : Nat) (h : j < l.length) (n : Nat) : mny (l.take (j + 1)) n = if len l j = n ∧ 0 < n then mny (l.take j) n + 1 else mny (l.take j) n := by
  unfold mny
  by_cases e : n = 0
  · subst e; simp
  · rw [if_neg e, if_neg e, count_take l n j h]
    by_cases k : len l j = n
    · rw [if_pos k, if_pos ⟨k, by omega⟩]
    · rw [if_neg k, if_neg (fun q => k q.1)]; rfl
theorem mx_take_le (l : List Nat) (j : Nat) : mx (l.take j) ≤ mx l := by
  have : mx l = max (mx (l.take j)) (mx (l.drop j)) := by rw [← mx_append, List.take_append_drop]
  omega
/-- zero from n on -/
def till (n : Nat) (f : Nat → Nat) : Nat → Nat := fun k => if k < n then f k else 0
theorem till_lt {n k : Nat} (f : Nat → Nat) (h : k < n) : till n f k = f k := by unfold till; rw [if_pos h]
theorem till_all (f : Nat → Nat) (k : Nat) (h : k < 16) : till 16 f k = f k := till_lt f h
theorem till_succ (f : Nat → Nat) (n k : Nat) : upd (till n f) n (f n) k = till (n + 1) f k := by
  by_cases e : k = n
  · subst e; rw [upd_at, till_lt f (by omega)]
  · rw [upd_ne _ _ e]
    unfold till
    by_cases h : k < n
    · rw [if_pos h, if_pos (by omega)]
    · rw [if_neg h, if_neg (by omega)]

theorem cnt_zero (l : List Nat) (n : Nat) : mny (l.take 0) n = 0 := by simp [mny]

theorem cnt_no {w : World} {g j : Nat} {A B C : Value} {l : List Nat} {f a : Nat → Nat} (h : SetRow w g A B C (mny (l.take j)) f a (mx (l.take j))) (hj : j < l.length) (hx : len l j = 0) :
    SetRow w g A B C (mny (l.take (j + 1))) f a (mx (l.take (j + 1))) :=
  h.congr (fun n _ => by rw [mny_take l j hj, if_neg (by omega)]) (fun _ _ => rfl) (fun _ _ => rfl) (by rw [mx_take l j hj, hx]; omega)
theorem SetRow.drew {w : World} {g : Nat} {A B C : Value} {m f a : Nat → Nat} {e : Nat} (h : SetRow w g A B C m f a e) : SetRow w.drew g A B C m f a e := h.fr (S := S0) (Fr.drew _ _) (fun h => h)
theorem cnt_yes {w : World} {g j x M E : Nat} {A B C : Value} {l : List Nat} {f a : Nat → Nat} (h : SetRow w g A B C (mny (l.take j)) f a (mx (l.take j))) (hj : j < l.length) (hx : len l j = x) (h0 : 0 < x) (h15 : x ≤ 15) (hM : mny (l.take j) x = M)
    (hE : max (mx (l.take j)) x = E) :
    SetRow ((w.setCell ⟨g, 3 + x * 3, none⟩ (.int .i64 ((M : Int) + 1))).setCell ⟨g, 51, none⟩ (.int .i64 (E : Nat))).drew g A B C (mny (l.take (j + 1))) f a (mx (l.take (j + 1))) := by
  refine ((h.sm x (by omega) (M + 1)).se E).drew.congr (fun n _ => ?_) (fun _ _ => rfl) (fun _ _ => rfl) (by rw [mx_take l j hj, hx, hE])
  rw [mny_take l j hj]
  by_cases e : n = x
  · subst e; rw [upd_at, if_pos ⟨hx, h0⟩, hM]
  · rw [upd_ne _ _ e, if_neg (by omega)]
theorem fr_two {w wr : World} {g : Nat} (h : Fr (· = g) w wr) (k i : Nat) (u v : Value) : Fr (· = g) w ((wr.setCell ⟨g, k, none⟩ u).setCell ⟨g, i, none⟩ v).drew :=
  ((h.trans (Fr.setCell (· = g) _ ⟨g, k, none⟩ _ rfl) (fun _ _ h => h)).trans (Fr.setCell (· = g) _ ⟨g, i, none⟩ _ rfl) (fun _ _ h => h)).trans0 (Fr.drew _ _)

theorem cnt_next {w : World} {g n F M N : Nat} {A B C : Value} {m f a : Nat → Nat} {e : Nat} (h : SetRow w g A B C m (till n f) (till n a) e) (hn : n < 16) (hf : f n = 2 * (F + M)) (ha : a n = N + M) :
    SetRow ((w.setCell ⟨g, 3 + n * 3 + 1, none⟩ (.int .u32 (((F : Int) + (M : Int)) * 2))).setCell ⟨g, 3 + n * 3 + 2, none⟩ (.int .i64 ((N : Int) + (M : Int)))).drew.drew g A B C m (till (n + 1) f) (till (n + 1) a) e := by
  have e1 : ((F : Int) + (M : Int)) * 2 = ((f n : Nat) : Int) := by omega
  have e2 : (N : Int) + (M : Int) = ((a n : Nat) : Int) := by omega
  rw [e1, e2]
  exact ((h.sf n hn (f n)).sa n hn (a n)).drew.drew.congr (fun _ _ => rfl) (fun k _ => till_succ f n k) (fun k _ => till_succ a n k) rfl

set_option maxRecDepth 100000 in
set_option maxHeartbeats 1000000 in
theorem count_any (g : Nat) (p : Option Addr) (d : Nat) {B C : Value} (l : List Nat) (w : World) (h : SetRow w g (.slice p l.length d) B C (fun _ => 0) (fun _ => 0) (fun _ => 0) 0)
    (hl : SlI w .u8 p l) (hp : Off (· = g) p) (h15 : ∀ x ∈ l, x ≤ 15) (hL : l.length ≤ 320) :
    Calls Try.prog 76 #[.pointer (some ⟨g, 0, none⟩)] w fun r w' => r = .returned (.tuple #[]) ∧ Fr (· = g) w w' ∧ SetRow w' g (.slice p l.length d) B C (mny l) (fst l) (ahd l) (mx l) := by
  have H := Lib.hid h
  have HL := Lib.hid hl
  have HP := Lib.hid hp
  have H15 := Lib.hid h15
  have hc0 := h.c0
  clear h hl hp h15
  go_enter Try.func76, Try.ntmps76
  go_wp2_with fail
  go_loopw [3, 11] (fun _ i wr => ∃ j : Nat, j ≤ l.length ∧ i = .int .i64 j ∧ Fr (· = g) w wr ∧ SetRow wr g (.slice p l.length d) B C (mny (l.take j)) (fun _ => 0) (fun _ => 0) (mx (l.take j))) (fun _ i _ => l.length - (intOf i).toNat)
  case atStart => exact ⟨0, by omega, rfl, Fr.refl _ _, H.out.congr (fun n _ => (cnt_zero l n).symm) (fun _ _ => rfl) (fun _ _ => rfl) (by simp [mx])⟩
  case round =>
    obtain ⟨j, hj, rfl, hfr, hs⟩ := hrel
    by_cases hjc : (j : Int) < (l.length : Int)
    · have hjl : j < l.length := by omega
      obtain ⟨b, o, hpe, hcl⟩ := (HL.out.fr hfr fun _ => HP.out).at j hjl
      have HX15 := H15.out _ (List.getElem_mem hjl)
      have HLEN := len_get l j hjl
      obtain ⟨x, hx⟩ : ∃ x, l[j] = x := ⟨_, rfl⟩
      rw [hx] at hcl HX15 HLEN
      clear hx
      subst hpe
      by_cases hx0 : 0 < x
      · have h1 := hs.cm x (by omega)
        have h2 := hs.fz (3 + x * 3)
        have h3 := hs.ce
        have h4 := hs.fz 51
        obtain ⟨M, hM⟩ : ∃ M, mny (l.take j) x = M := ⟨_, rfl⟩
        obtain ⟨E, hE⟩ : ∃ E, mx (l.take j) = E := ⟨_, rfl⟩
        have hM1 : M ≤ 320 := by rw [← hM]; exact Nat.le_trans (mny_le _ _) (by rw [List.length_take]; omega)
        have HS := Lib.hid (fun E' q => cnt_yes (E := E') hs hjl HLEN hx0 HX15 hM q)
        rw [hE] at h3 HS
        rw [hM] at h1
        clear hM hE HLEN hs
        by_cases hmx : E < x
        · have HS' := Lib.hid (HS.out x (by omega))
          clear HS
          go_wp2_with fail
          go_region
          go_wp2_with fail
          go_roundw
          case rel => exact ⟨j + 1, by omega, by go_num, fr_two hfr _ _ _ _, HS'.out⟩
          case measure => simp [intOf]; omega
        · have HS' := Lib.hid (HS.out E (by omega))
          clear HS
          go_wp2_with fail
          go_region
          go_wp2_with fail
          go_roundw
          case rel => exact ⟨j + 1, by omega, by go_num, fr_two hfr _ _ _ _, HS'.out⟩
          case measure => simp [intOf]; omega
      · obtain rfl : x = 0 := by omega
        have HS := Lib.hid (cnt_no hs hjl HLEN)
        clear HLEN hs
        go_wp2_with fail
        go_roundw
        case rel => exact ⟨j + 1, by omega, by go_num, hfr, HS.out⟩
        case measure => simp [intOf]; omega
    · obtain rfl : j = l.length := by omega
      rw [List.take_length] at hs
      have HS := Lib.hid (hs.congr (fun _ _ => rfl) (f' := till 1 (fst l)) (fun n _ => by unfold till; split <;> first | rfl | (rw [show n = 0 by omega]; rfl)) (a' := till 1 (ahd l)) (fun n _ => by unfold till; split <;> first | rfl | (rw [show n = 0 by omega]; rfl)) rfl)
      clear hs
      go_wp2_with fail
      go_loopw [4] (fun i wr => ∃ j : Nat, 1 ≤ j ∧ j ≤ 16 ∧ i = .int .i64 j ∧ Fr (· = g) w wr ∧ SetRow wr g (.slice p l.length d) B C (mny l) (till j (fst l)) (till j (ahd l)) (mx l)) (fun i _ => 16 - (intOf i).toNat)
      case atStart => exact ⟨1, by omega, by omega, rfl, hfr, HS.out⟩
      case round =>
        obtain ⟨j, hj1, hj, rfl, hfr, hs⟩ := hrel
        by_cases hjc : (j : Int) ≤ 15
        · obtain ⟨k, rfl⟩ : ∃ k, j = k + 1 := ⟨j - 1, by omega⟩
          have h1 := hs.cm k (by omega)
          have h2 := hs.cf k (by omega)
          have h3 := hs.ca k (by omega)
          rw [till_lt _ (by omega)] at h2 h3
          have hM := mny_le l k
          have hF := top_eq l k
          have hT := top_small l k (by omega) (by omega)
          have hA := ahd_small l k (by omega) (by omega)
          obtain ⟨M, hM'⟩ : ∃ M, mny l k = M := ⟨_, rfl⟩
          obtain ⟨F, hF'⟩ : ∃ F, fst l k = F := ⟨_, rfl⟩
          obtain ⟨N, hN'⟩ : ∃ N, ahd l k = N := ⟨_, rfl⟩
          rw [hM'] at h1 hM hF
          rw [hF'] at h2 hF
          rw [hN'] at h3 hA
          have HF1 : Hid (fst l (k + 1) = 2 * (F + M)) := Lib.hid (by rw [fst_succ, hF])
          have HN1 : Hid (ahd l (k + 1) = N + M) := Lib.hid (by rw [ahd_succ, hM', hN'])
          rw [hF] at hT
          have hgn : g < wr.heap.size := hs.lt
          clear hF hM' hF' hN'
          go_wp2_with fail
          have hs1 := hs.fr (S := S0) (Fr.alloc S0 wr (.cells #[.int .i64 (M : Nat), .int .u32 (F : Nat), .int .i64 (N : Nat)] 98)) (fun h => h)
          have hf1 := hfr.trans0 (Fr.alloc S0 wr (.cells #[.int .i64 (M : Nat), .int .u32 (F : Nat), .int .i64 (N : Nat)] 98))
          have hb1 := heap_alloc_new wr (.cells #[.int .i64 (M : Nat), .int .u32 (F : Nat), .int .i64 (N : Nat)] 98)
          obtain ⟨n, hn⟩ : ∃ n, wr.heap.size = n := ⟨_, rfl⟩
          rw [hn] at hb1 hgn ⊢
          generalize wr.alloc (.cells #[.int .i64 (M : Nat), .int .u32 (F : Nat), .int .i64 (N : Nat)] 98) = W at hs1 hf1 hb1 ⊢
          have n0 : W.cell? ⟨n, 0, none⟩ = some (.int .i64 (M : Nat)) := by simp [World.cell?, hb1]
          have n1 : W.cell? ⟨n, 1, none⟩ = some (.int .u32 (F : Nat)) := by simp [World.cell?, hb1]
          have n2 : W.cell? ⟨n, 2, none⟩ = some (.int .i64 (N : Nat)) := by simp [World.cell?, hb1]
          have k1 := hs1.cf (k + 1) (by omega)
          have k2 := hs1.fz (3 + (k + 1) * 3 + 1)
          have k3 := hs1.ca (k + 1) (by omega)
          have k4 := hs1.fz (3 + (k + 1) * 3 + 2)
          have hgn' : ¬ n = g := by omega
          clear h1 h2 h3 hn hs hb1
          go_region
          go_wp2_with fail
          go_region
          go_wp2_with fail
          go_roundw
          case rel => exact ⟨k + 1 + 1, by omega, by omega, by go_num, (fr_two hf1 _ _ _ _).trans0 (Fr.drew _ _), cnt_next hs1 (by omega) HF1.out HN1.out⟩
          case measure => simp [intOf]; omega
        · obtain rfl : j = 16 := by omega
          have HE := Lib.hid (hs.congr (fun _ _ => rfl) (till_all _) (till_all _) rfl)
          clear hs
          go_wp2_with fail
          go_end0
          exact ⟨rfl, hfr, HE.out⟩
end Go.Proofs.Ytfibhgohenkfbaa
