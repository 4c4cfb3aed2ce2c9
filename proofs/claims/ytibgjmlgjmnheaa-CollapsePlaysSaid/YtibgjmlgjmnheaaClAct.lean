/- Add and Take of a store. -/
import Derived.Test.YtibgjmlgjmnheaaClWithin
namespace Go.Proofs.Ytibgjmlgjmnheaa
open Go.RowKit

theorem pri_one {W : World} {g : Nat} {k : Int} {n : Nat} {t : TypeId} (hb : W.heap[g]? = some (.cells #[.int .i64 k, .int .u64 (n : Nat)] t (0, 0))) : PrI W (some ⟨g, 0, none⟩) [(k, n)] := by
  refine ⟨by unfold maxLen; simp only [List.length_cons, List.length_nil]; omega, fun _ => ⟨g, 0, rfl, fun i hi => ?_⟩⟩
  have hi' : i < 1 := hi
  obtain rfl : i = 0 := by omega
  simp [World.cell?, hb]
theorem pri_two {W : World} {g : Nat} {k j : Int} {n m : Nat} {t : TypeId} (hb : W.heap[g]? = some (.cells #[.int .i64 k, .int .u64 (n : Nat), .int .i64 j, .int .u64 (m : Nat)] t (0, 0))) : PrI W (some ⟨g, 0, none⟩) [(k, n), (j, m)] := by
  refine ⟨by unfold maxLen; simp only [List.length_cons, List.length_nil]; omega, fun _ => ⟨g, 0, rfl, fun i hi => ?_⟩⟩
  have hi' : i < 2 := hi
  rcases (by omega : i = 0 ∨ i = 1) with rfl | rfl <;> simp [World.cell?, hb]
theorem cell_row {w : World} {g : Nat} {v : Value} {t : TypeId} (h : w.heap[g]? = some (.cells #[v] t (0, 0))) : w.cell? ⟨g, 0, none⟩ = some v := by simp [World.cell?, h]
theorem addE0_cut {a : List Pr} {m : Nat} (hs : Srt a) (hp : Pos a) (hm : 1 ≤ m) (k : Int) (n : Nat) : addE0 (cutN a m) k n = addE0 a k n := by unfold addE0; rw [cut_tot hs hp hm]
theorem takeE0_cut {a b : List Pr} {m : Nat} (hs : Srt a) (hp : Pos a) (ht : Srt b) (hq : Pos b) (hm : 1 ≤ m) : takeE0 (cutN a m) (cutN b m) = takeE0 a b := by rw [takeE0_eq, takeE0_eq, cut_tot hs hp hm, cut_tot ht hq hm]
theorem addE0_lt (l : List Pr) (k : Int) (n : Nat) : addE0 l k n < 9223372036854775808 := by unfold addE0; split <;> (try split) <;> (try split) <;> omega
theorem takeE0_lt (l m : List Pr) : takeE0 l m < 9223372036854775808 := by rw [takeE0_eq]; split <;> omega
theorem Good.addL {a : List Pr} (h : Good a) (k : Int) (n : Nat) : Good (addL0 a k n) := by
  unfold addL0
  by_cases e : addE0 a k n = 0
  · rw [if_pos e]
    obtain ⟨h1, h2, h3⟩ := addE0_zero e
    exact h.put h1 (h3 h.tot) h2
  · rw [if_neg e]; exact h
theorem Good.takeL {a b : List Pr} (h : Good a) (k : Good b) : Good (takeL0 a b) := by
  unfold takeL0
  by_cases e : takeE0 a b = 0
  · rw [if_pos e]
    rw [takeE0_eq] at e
    have := h.tot
    exact h.puts k (by split at e <;> omega)
  · rw [if_neg e]; exact h

/-- a key more -/
theorem col_add {W w' : World} {g h h' m n : Nat} {k0 k : Int} {a : List Pr} (ok : Good a) (m2 : 2 ≤ m) (m3 : m ≤ 4096) (key : cutA a m ≠ 0 → k0 = hk (cutN a m)) (X : Sx) (hX : X = ⟨m, k0, cutA a m⟩)
    (t : (addE0 a k n ≠ 0 ∧ Turned X W w' g h h' (addL0 (cutN a m) k n)) ∨ (addE0 a k n = 0 ∧ Turned ⟨m, hk (cutN (addL0 (cutN a m) k n) m), cutA (addL0 (cutN a m) k n) m + many [(k0, cutA a m)] (hk (cutN (addL0 (cutN a m) k n) m))⟩ W w' g h h' (cutN (addL0 (cutN a m) k n) m))) :
    TurnC W w' g h h' m (addL0 a k n) := by
  subst hX
  have eE := addE0_cut ok.srt ok.pos (by omega : 1 ≤ m) k n
  have hg := ok.addL k n
  unfold addL0 at t hg ⊢
  rw [eE] at t
  rcases t with ⟨h0, t⟩ | ⟨h0, t⟩
  · rw [if_neg h0] at t hg ⊢
    exact ⟨⟨k0, t.sto, key, hg, m2, m3⟩, t.row, t.fr⟩
  · rw [if_pos h0] at t hg ⊢
    obtain ⟨f1, f2⟩ := fold_add (k := k) (n := n) ok.srt ok.pos (addE0_zero h0).1 (by omega : 1 ≤ m) key
    rw [f1] at t
    have e : cutA (lput (cutN a m) k n) m + many [(k0, cutA a m)] (hk (cutN (lput a k n) m)) = cutA (lput a k n) m := by
      rw [f2, many, many]; simp only; omega
    rw [e] at t
    exact ⟨⟨_, t.sto, fun _ => rfl, hg, m2, m3⟩, t.row, t.fr⟩
/-- all of another store -/
theorem col_take {W w' : World} {g h h' m : Nat} {k0 j0 : Int} {a b : List Pr} (ok : Good a) (okb : Good b) (m2 : 2 ≤ m) (m3 : m ≤ 4096) (key : cutA a m ≠ 0 → k0 = hk (cutN a m)) (keyb : cutA b m ≠ 0 → j0 = hk (cutN b m)) (X : Sx) (hX : X = ⟨m, k0, cutA a m⟩)
    (t : (takeE0 a b ≠ 0 ∧ Turned X W w' g h h' (takeL0 (cutN a m) (cutN b m))) ∨ (takeE0 a b = 0 ∧ Turned ⟨m, hk (cutN (takeL0 (cutN a m) (cutN b m)) m), cutA (takeL0 (cutN a m) (cutN b m)) m + many [(k0, cutA a m), (j0, cutA b m)] (hk (cutN (takeL0 (cutN a m) (cutN b m)) m))⟩ W w' g h h' (cutN (takeL0 (cutN a m) (cutN b m)) m))) :
    TurnC W w' g h h' m (takeL0 a b) := by
  subst hX
  have eE := takeE0_cut ok.srt ok.pos okb.srt okb.pos (by omega : 1 ≤ m)
  have hg := ok.takeL okb
  unfold takeL0 at t hg ⊢
  rw [eE] at t
  rcases t with ⟨h0, t⟩ | ⟨h0, t⟩
  · rw [if_neg h0] at t hg ⊢
    exact ⟨⟨k0, t.sto, key, hg, m2, m3⟩, t.row, t.fr⟩
  · rw [if_pos h0] at t hg ⊢
    have f1 := cut_merge ok.srt ok.pos okb.srt okb.pos (by omega : 1 ≤ m)
    have f2 := fold_step ok.srt ok.pos okb.srt okb.pos (by omega : 1 ≤ m) key keyb
    rw [f1] at t
    have e : cutA (lputs (cutN a m) (cutN b m)) m + many [(k0, cutA a m), (j0, cutA b m)] (hk (cutN (lputs a b) m)) = cutA (lputs a b) m := by
      rw [f2, many, many, many]; simp only; omega
    rw [e] at t
    exact ⟨⟨_, t.sto, fun _ => rfl, hg, m2, m3⟩, t.row, t.fr⟩

theorem TurnC.back {w W w' : World} {g h h' m : Nat} {l : List Pr} (f : Fr S0 w W) (t : TurnC W w' g h h' m l) : TurnC w w' g h h' m l :=
  ⟨t.sto, t.row.imp id fun ⟨a, b⟩ => ⟨Nat.le_trans f.size a, b⟩, (f.mono fun _ _ h => h.elim).trans t.fr fun _ _ h => h⟩
section
variable (g h m n : Nat) (k : Int) (a : List Pr) (w : World)
set_option maxRecDepth 100000 in
set_option maxHeartbeats 2000000 in
theorem cadd_any (hn : n < 18446744073709551616) (s : Col w g h m a) (hh : h < w.heap.size) :
    Calls Try.prog 11 #[.pointer (some ⟨g, 0, none⟩), .int .i64 k, .int .u64 (n : Nat)] w fun e w' => e = .returned (.int .i64 (addE0 a k n : Nat)) ∧ ∃ h', TurnC w w' g h h' m (addL0 a k n) := by
  obtain ⟨k0, s⟩ := s
  have c3 : w.cell? ⟨g, 3, none⟩ = some (.int .i64 k0) := s.is.ck
  have c4 : w.cell? ⟨g, 4, none⟩ = some (.int .u64 (cutA a m : Nat)) := s.is.cf
  have hgl := s.is.lt
  obtain ⟨F, hF⟩ : ∃ F, cutA a m = F := ⟨_, rfl⟩
  rw [hF] at c4
  have f1 := Fr.alloc S0 w (.cells #[.int .i64 k] 3)
  have f2 := f1.trans0 (Fr.alloc S0 _ (.cells #[.int .u64 (n : Nat)] 32))
  have f3 := f2.trans0 (Fr.alloc S0 _ (.cells #[.int .i64 k0, .int .u64 (F : Nat)] 61))
  have x3 := f2.cell c3 (fun h => h)
  have x4 := f2.cell c4 (fun h => h)
  have b1 := heap_alloc_new w (.cells #[.int .i64 k] 3)
  have b2 := heap_alloc_new (w.alloc (.cells #[.int .i64 k] 3)) (.cells #[.int .u64 (n : Nat)] 32)
  have b3 := heap_alloc_new ((w.alloc (.cells #[.int .i64 k] 3)).alloc (.cells #[.int .u64 (n : Nat)] 32)) (.cells #[.int .i64 k0, .int .u64 (F : Nat)] 61)
  have g1 := ((Fr.alloc S0 _ (.cells #[.int .u64 (n : Nat)] 32)).trans0 (Fr.alloc S0 _ (.cells #[.int .i64 k0, .int .u64 (F : Nat)] 61))).row b1 (fun h => h)
  have g2 := (Fr.alloc S0 _ (.cells #[.int .i64 k0, .int .u64 (F : Nat)] 61)).row b2 (fun h => h)
  have hE := addE0_cut s.ok.srt s.ok.pos (by have := s.m2; omega : 1 ≤ m) k n
  have hact := add1_any g h n w.heap.size (w.alloc (.cells #[.int .i64 k] 3)).heap.size k (cutN a m) _ hn (s.is.fr0 f3) (cell_row g1) (cell_row g2)
  rw [hE] at hact
  have hgood : Good (addL0 (cutN a m) k n) := (s.ok.cut (by have := s.m2; omega)).addL k n
  have HW := within2_any 26 (addE0 a k n) g h m ((w.alloc (.cells #[.int .i64 k] 3)).alloc (.cells #[.int .u64 (n : Nat)] 32)).heap.size 1 (.pointer (some ⟨w.heap.size, 0, none⟩)) (.pointer (some ⟨(w.alloc (.cells #[.int .i64 k] 3)).heap.size, 0, none⟩)) (cutN a m) (addL0 (cutN a m) k n) [(k0, F)] _ has_cadd (s.is.fr0 f3) rfl ⟨s.m2, s.m3⟩ (pri_one b3) rfl
    (by simp only [size_alloc]; omega) (addE0_lt _ _ _) (by have := hgood.tot; have := cutA_le a m; have := s.ok.tot; simp only [ltot]; omega) (by omega) hact
  simp only [size_alloc] at HW
  have HEND : Hid (∀ w' h', ((addE0 a k n ≠ 0 ∧ Turned ⟨m, k0, cutA a m⟩ (((w.alloc (.cells #[.int .i64 k] 3)).alloc (.cells #[.int .u64 (n : Nat)] 32)).alloc (.cells #[.int .i64 k0, .int .u64 (F : Nat)] 61)) w' g h h' (addL0 (cutN a m) k n)) ∨ (addE0 a k n = 0 ∧ Turned ⟨m, hk (cutN (addL0 (cutN a m) k n) m), cutA (addL0 (cutN a m) k n) m + many [(k0, F)] (hk (cutN (addL0 (cutN a m) k n) m))⟩ (((w.alloc (.cells #[.int .i64 k] 3)).alloc (.cells #[.int .u64 (n : Nat)] 32)).alloc (.cells #[.int .i64 k0, .int .u64 (F : Nat)] 61)) w' g h h' (cutN (addL0 (cutN a m) k n) m))) → TurnC w w' g h h' m (addL0 a k n)) := Lib.hid fun w' h' t => by
    subst hF
    exact (col_add s.ok s.m2 s.m3 s.key _ rfl t).back f3
  have HWH := Lib.hid HW
  clear HW s c3 c4 f1 f2 f3 b1 b2 b3 g1 g2 hE hact hgood hF
  go_enter Try.func11, Try.ntmps11
  go_wp2_with fail
  refine HWH.out.mono ?_
  rintro e w1 ⟨rfl, h', t⟩
  have T := Lib.hid (HEND.out _ _ t)
  clear t HWH HEND x3 x4
  go_wp2_with fail
  go_ret
  exact ⟨rfl, h', T.out⟩
end
end Go.Proofs.Ytibgjmlgjmnheaa
