/- The document's examples. -/
import Derived.Test.YtnckoghgplnhfaaGreatZlPure
import Derived.Test.YtnckoghgplnhfaaGreatZlPack
import Derived.Test.YtnckoghgplnhfaaGreatZlOpen
namespace Go.Proofs.YtnckoghgplnhfaaGreat
open Go.RowKit

def EX : List Nat := [120, 1, 75, 4, 0, 0, 98, 0, 98]
theorem ex_wrap : wrap9 (bst [97]) [97] = EX := by
  unfold bst
  rw [ex_fixed, ex_stored, if_neg (by decide)]
  decide
theorem ex_reads : Reads (bst [97]) [97] := reads_bst [97] (by decide)
theorem ex_open (lim : Nat) (h : 1 ≤ lim) : zopen EX lim = .ok [97] 0 := by
  rw [← ex_wrap, wrap9_cons]
  exact zopen_yes ex_reads 120 1 lim (by decide) h
theorem ex_less : zopen EX 0 = .no 64 := by
  rw [← ex_wrap, wrap9_cons]
  exact zopen_less ex_reads 120 1 0 (by decide) (by decide)
theorem ex_more : zopen (EX ++ [0]) 9 = .no 92 := by
  rw [← ex_wrap, wrap9_cons]
  have := zopen_more ex_reads 120 1 9 0 (by decide) (by decide)
  simpa [List.append_assoc] using this
/-- opening what a call owns -/
theorem open_own {x : Res (List Nat)} {q : Option Addr} {c N lim : Nat} {L : List Nat} {w : World} (hN : L.length = N) (own : w.ownsRow 0 5 1 (.slice q N c) N (u8s L)) (h8 : ∀ x ∈ L, x < 256) (hs : N ≤ 1000000) (hl : lim ≤ 1048576) (hx : zopen L lim = x) :
    Calls Tryz.prog 10 #[.slice q N c, .int .i64 (lim : Nat)] w (OpenEnds x w) := by
  obtain ⟨p, d, e, -, h1, h2⟩ := slForm own
  simp only [Value.slice.injEq, true_and] at e
  obtain ⟨rfl, rfl⟩ := e
  exact open_any q N c lim L w hN (SlI.ofOwns own) h8 h1 h2 hs hl hx

set_option maxRecDepth 100000 in
set_option maxHeartbeats 2000000 in
theorem alive9_any (w : World) : Calls Tryz.prog 7 #[] w fun e w' => e = .returned (.bool true) ∧ Fr S0 w w' := by
  have kb := constB
  have R1 : Hid (∀ W, Calls Tryz.prog 8 #[.slice (some ⟨W.heap.size, 0, none⟩) 1 1] (W.alloc (.cells #[.int .u8 97] 5 (1, 2))) fun e w' => ∃ q c, e = .returned (.slice q 9 c) ∧ Fr S0 W w' ∧ w'.ownsRow 0 5 1 (.slice q 9 c) 9 (u8s EX) ∧ (convert 22 9 (.slice q 9 c)).run Tryz.prog w' = .ok (.string (strB EX)) w') := Lib.hid fun W => by
    refine (pack_any (some ⟨W.heap.size, 0, none⟩) 1 1 [97] _ rfl (SlI.new W _ _ _ _ _ rfl (by decide)) (by decide) (fun h => by cases h) (by decide) (by decide)).mono ?_
    rintro e w' ⟨v, rfl, f, hv⟩
    rw [ex_wrap] at hv
    obtain ⟨q, c, rfl, -, -, -⟩ := slForm hv.own
    exact ⟨q, c, rfl, (Fr.alloc S0 W _).trans0 f, hv.own, conv_own hv.own⟩
  have R2 : Hid (∀ W q c, W.ownsRow 0 5 1 (.slice q 9 c) 9 (u8s EX) → Calls Tryz.prog 10 #[.slice q 9 c, .int .i64 9] W fun e w' => ∃ q' c', e = .returned (.tuple #[.slice q' 1 c', .int .i64 0]) ∧ Fr S0 W w' ∧ w'.ownsRow 0 5 1 (.slice q' 1 c') 1 (u8s [97])) := Lib.hid fun W q c own => by
    refine (open_own (lim := 9) rfl own (by decide) (by decide) (by decide) (ex_open 9 (by decide))).mono ?_
    rintro e w' ⟨f, v, rfl, hv⟩
    obtain ⟨q', c', rfl, -, -, -⟩ := slForm hv.own
    exact ⟨q', c', rfl, f, hv.own⟩
  have R3 : Hid (∀ W q c, W.ownsRow 0 5 1 (.slice q 10 c) 10 (u8s EX ++ u8s [0]) → Calls Tryz.prog 10 #[.slice q 10 c, .int .i64 9] W fun e w' => e = .returned (.tuple #[.slice none 0 0, .int .i64 92]) ∧ Fr S0 W w') := Lib.hid fun W q c own => by
    rw [u8s_append] at own
    refine (open_own (lim := 9) rfl own (by decide) (by decide) (by decide) ex_more).mono ?_
    rintro e w' ⟨f, rfl⟩
    exact ⟨rfl, f⟩
  have R4 : Hid (∀ W q c, W.ownsRow 0 5 1 (.slice q 9 c) 9 (u8s EX) → Calls Tryz.prog 10 #[.slice q 9 c, .int .i64 0] W fun e w' => e = .returned (.tuple #[.slice none 0 0, .int .i64 64]) ∧ Fr S0 W w') := Lib.hid fun W q c own => by
    refine (open_own (lim := 0) rfl own (by decide) (by decide) (by decide) ex_less).mono ?_
    rintro e w' ⟨f, rfl⟩
    exact ⟨rfl, f⟩
  have R5 : Hid (∀ W : World, Calls Tryz.prog 12 #[.slice (some ⟨W.heap.size, 0, none⟩) 2 2] (W.alloc (.cells #[.int .u8 120, .int .u8 156] 5)) fun e w' => e = .returned (.bool true) ∧ Fr S0 W w') := Lib.hid fun W => by
    refine (zhead_any (some ⟨W.heap.size, 0, none⟩) 2 2 [120, 156] _ rfl (SlI.new W _ _ _ _ _ rfl (by decide)) (by decide)).mono ?_
    rintro e w' ⟨rfl, f⟩
    exact ⟨rfl, (Fr.alloc S0 W _).trans0 f⟩
  have R6 : Hid (∀ W : World, Calls Tryz.prog 12 #[.slice (some ⟨W.heap.size, 0, none⟩) 2 2] (W.alloc (.cells #[.int .u8 120, .int .u8 0] 5)) fun e w' => e = .returned (.bool false) ∧ Fr S0 W w') := Lib.hid fun W => by
    refine (zhead_any (some ⟨W.heap.size, 0, none⟩) 2 2 [120, 0] _ rfl (SlI.new W _ _ _ _ _ rfl (by decide)) (by decide)).mono ?_
    rintro e w' ⟨rfl, f⟩
    exact ⟨rfl, (Fr.alloc S0 W _).trans0 f⟩
  have HR : Hid (Room 9 ∧ Room (9 + 1)) := Lib.hid ⟨Room.mk (by decide), Room.mk (by decide)⟩
  have es : strB EX = ⟨#[120, 1, 75, 4, 0, 0, 98, 0, 98]⟩ := by decide
  go_enter Tryz.func7, Tryz.ntmps7
  go_wp2_with fail
  refine (R1.out _).mono ?_
  rintro e w1 ⟨q1, c1, rfl, f1, o1, k1⟩
  rw [es] at k1
  have F1 := Lib.hid f1
  have O1 := Lib.hid o1
  have K2 := Lib.hid (R2.out w1 q1 c1 o1)
  clear f1 o1 R1 R2 es
  go_wp2_with fail
  refine K2.out.mono ?_
  rintro e w2 ⟨q2, c2, rfl, f2, o2⟩
  have F2 := Lib.hid (F1.out.trans0 f2)
  have O2 := Lib.hid (f2.owns O1.out (fun _ _ h => h))
  have A2 := Lib.hid o2
  clear f2 o2 K2 F1 O1 k1
  go_wp2_with (first
    | ((with_reducible show wpList _ _ _ (Oper.mk (some 19) _ _ _ _ _ :: _) _ _); refine app_many el8 (.tmp 17) (.tmp 18) (own_none w2 _) ((SrcIs.ofOwns O2.out).fr (Fr.alloc S0 w2 _) (fun _ _ h => h)) rfl rfl rfl rfl rfl (one8s _) HR.out.1 ?_; intro p3 c3 w3 own3 g3 at3; have F3 : Hid (Fr S0 w2 w3) := Lib.hid ((Fr.alloc S0 w2 _).append g3 (fun k hk => by simp only [Value.ownBlock, Option.some.injEq] at hk; omega)); have O3 := Lib.hid own3; have V3 : Hid (∀ k, Value.ownBlock (.slice p3 9 c3) = some k → w2.heap.size ≤ k) := Lib.hid (fun k hk => by rcases at3 with q | q <;> (rw [q] at hk; simp only [Value.ownBlock, Option.some.injEq, size_alloc] at hk; omega)); clear own3 g3 at3)
    | ((with_reducible show wpList _ _ _ (Oper.mk (some 21) _ _ _ _ _ :: _) _ _); refine app_many el8 (.tmp 19) (.tmp 20) (O3.out.alloc _) (SrcIs.ofOwns (own_one w3 _ _)) rfl rfl rfl rfl rfl one8 HR.out.2 ?_; intro p4 c4 w4 own4 g4 at4; have F4 : Hid (Fr S0 w2 w4) := Lib.hid ((F3.out.trans0 (Fr.alloc S0 w3 _)).append g4 V3.out); have K4 := Lib.hid (R3.out w4 p4 _ own4); clear own4 g4 at4)
    | fail)
  refine K4.out.mono ?_
  rintro e w5 ⟨rfl, f5⟩
  have F5 := Lib.hid ((F2.out.trans0 F4.out).trans0 f5)
  have O5 := Lib.hid ((F4.out.trans0 f5).owns O2.out (fun _ _ h => h))
  have A5 := Lib.hid ((F4.out.trans0 f5).owns A2.out (fun _ _ h => h))
  have K5 := Lib.hid (R4.out w5 q1 c1 O5.out)
  clear f5 K4 F4 O3 V3 F3 F2 O2 A2 R3 R4
  go_wp2_with fail
  refine K5.out.mono ?_
  rintro e w6 ⟨rfl, f6⟩
  have F6 := Lib.hid (F5.out.trans0 f6)
  have k6 := conv_own (bs := EX) (f6.owns O5.out (fun _ _ h => h))
  have k6' := conv_own (bs := [97]) (f6.owns A5.out (fun _ _ h => h))
  rw [show strB EX = ⟨#[120, 1, 75, 4, 0, 0, 98, 0, 98]⟩ by decide] at k6
  rw [show strB [97] = ⟨#[97]⟩ by decide] at k6'
  clear f6 K5 O5 A5 F5
  go_wp2_with fail
  refine (R5.out _).mono ?_
  rintro e w7 ⟨rfl, f7⟩
  have F7 := Lib.hid (F6.out.trans0 f7)
  clear f7 F6 k6 k6' R5
  go_wp2_with fail
  refine (R6.out _).mono ?_
  rintro e w8 ⟨rfl, f8⟩
  have F8 := Lib.hid (F7.out.trans0 f8)
  clear f8 F7 R6
  go_wp2_with fail
  go_ret
  exact ⟨rfl, F8.out⟩
theorem start9 (w : World) (R) (h : ∀ w1, Fr S0 w w1 → R (.returned (.bool true)) w1) : Calls Tryz.prog 7 #[] w R :=
  (alive9_any w).mono fun e w1 he => by rw [he.1]; exact h w1 he.2
end Go.Proofs.YtnckoghgplnhfaaGreat
