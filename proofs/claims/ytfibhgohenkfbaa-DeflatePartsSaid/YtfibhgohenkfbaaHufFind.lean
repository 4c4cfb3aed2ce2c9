/- Symbols are read. -/
import Derived.Test.YtfibhgohenkfbaaHufUse
import Derived.Test.YtfibhgohenkfbaaBitRd
import Derived.IntWalk
namespace Go.Proofs.Ytfibhgohenkfbaa
open Go.RowKit

theorem dry_down {l B : List Nat} (hb : Bit01 B) {n : Nat} (h : dry l B n) (hn : n ≤ B.length) : ∀ {j : Nat}, j ≤ n → dry l B j := by
  intro j hj
  by_cases e : j = n
  · subst e; exact h
  · refine val_fall hb (n - j) j (by omega) (by omega) ?_
    rw [show j + (n - j) = n by omega]
    have := top_eq l n
    unfold dry at h
    omega
theorem dry_none {l B : List Nat} (hb : Bit01 B) {n : Nat} (h : dry l B n) (hn : n ≤ B.length) (hm : n = B.length ∨ n = mx l) : ∀ i, ¬ hits l B i := by
  intro i hi
  have h1 := mx_len l i
  have h2 := hi.2.1
  exact hits_wet hi (dry_down hb h hn (by omega))
/-- what is read of the bits -/
def Found (l B : List Nat) (e : Ending) (n : Nat) : Prop :=
  (∃ i, hits l B i ∧ e = .returned (.tuple #[.int .i64 (i : Nat), .int .i64 0]) ∧ n = len l i) ∨
  ((∀ i, ¬ hits l B i) ∧ B.length < mx l ∧ e = .returned (.tuple #[.int .i64 0, .int .i64 20]) ∧ n = B.length) ∨
  ((∀ i, ¬ hits l B i) ∧ mx l ≤ B.length ∧ e = .returned (.tuple #[.int .i64 0, .int .i64 62]) ∧ n = mx l)
theorem shl_or (c x : Nat) (hc : c < 2147483648) (hx : x < 2) : bits .or .u32 ((c : Int) * 2) (x : Int) = ((2 * c + x : Nat) : Int) := by
  rw [show (c : Int) * 2 = ((2 * c : Nat) : Int) by omega, u32_or_nat _ _ (by omega) (by omega)]
  congr 1
  have := Nat.shiftLeft_add_eq_or_of_lt (i := 1) (b := x) (by omega) c
  rw [Nat.shiftLeft_eq, Nat.pow_one, Nat.mul_comm] at this
  exact this.symm
theorem bit_next (b : List Nat) (k j : Nat) (h : j < ((bts b).drop k).length) : num (bitsAt b (k + j) 1) = ((bts b).drop k)[j] := by
  have h2 : k + j < (bts b).length := by rw [List.length_drop] at h; omega
  unfold bitsAt
  rw [List.getElem_drop, List.drop_eq_getElem_cons h2, List.take_succ_cons, List.take_zero, num_one]

/-- the symbol is read, and the reader has gone on -/
def Told (w : World) (l b : List Nat) (k gr : Nat) (r : Option Nat) (e : Ending) (w' : World) : Prop := ∃ n, Found l ((bts b).drop k) e n ∧ RdTo w w' gr r b (k + n)
/-- (under a name) -/
def Dry (l B : List Nat) (j : Nat) : Prop := dry l B j
set_option maxRecDepth 100000 in
set_option maxHeartbeats 2000000 in
theorem find_any (A B g : Nat) (l : List Nat) (gr : Nat) (r : Option Nat) (b : List Nat) (k : Nat) (w : World) (h : SetIs w A B g l) (hr : RdIs w gr r b k) (hg : gr < A ∨ B ≤ gr) (hb : b.length ≤ 140737488355328) :
    Calls Try.prog 111 #[.pointer (some ⟨g, 0, none⟩), .func (.func 112) #[.pointer (some ⟨gr, 0, none⟩)] #[]] w (Told w l b k gr r) := by
  have HS := Lib.hid h
  have HR := Lib.hid hr
  have hm := h.mx15
  have HB : Hid (Bit01 ((bts b).drop k)) := Lib.hid ((bts_bit b).sub fun _ hx => List.mem_of_mem_drop hx)
  have HBL : Hid (k + ((bts b).drop k).length = 8 * b.length) := Lib.hid (by have := hr.inside; rw [List.length_drop, bts_length]; omega)
  have HNX := Lib.hid (bit_next b k)
  obtain ⟨BB, hBB⟩ : ∃ X, (bts b).drop k = X := ⟨_, rfl⟩
  rw [hBB] at HB HBL HNX
  have HBB := Lib.hid hBB
  obtain ⟨pl, cl, cb, cc, ob, oc, h1, -⟩ := h.ex
  have k1 := h1.ce
  obtain ⟨M, hM⟩ : ∃ M, mx l = M := ⟨_, rfl⟩
  rw [hM] at k1 hm
  have HM := Lib.hid hM
  have q1 : IntKind.i64.wrap ((M : Int) + 1) = (M : Int) + 1 := IntWalk.i64_in _ (by omega)
  have q2 : (1 : Int) ≤ (M : Int) + 1 := by omega
  have q3 : (M : Int) + 1 ≤ 16 := by omega
  have q4 : ((M : Int) + 1).toNat = M + 1 := by omega
  clear h hr h1 hM hBB
  go_enter Try.func111, Try.ntmps111
  go_wp2_with fail
  go_quiet (fail)
  clear q1 q2 q3 q4 k1
  go_wp2_with fail
  go_loopw [6, 22] (fun c i wr => ∃ j : Nat, j ≤ M ∧ i = .int .i64 j ∧ c = .int .u32 (val (BB.take j) : Nat) ∧ j ≤ BB.length ∧ Dry l BB j ∧ RdTo w wr gr r b (k + j)) (fun _ i _ => M - (intOf i).toNat)
  case atStart => exact ⟨0, by omega, rfl, rfl, by omega, dry_zero l BB, (HR.out.drewN nq)⟩
  case round =>
    obtain ⟨j, hj, rfl, rfl, hjB, hdry, hto⟩ := hrel
    have HD := Lib.hid hdry
    have HT := Lib.hid hto
    clear hdry hto
    by_cases hjc : (j : Int) < (M : Int)
    · have hSW := HS.out.fr HT.out.2 (fun q hq hq2 e => by omega)
      obtain ⟨pl, cl, cb, cc, ob, oc, h1, -, -, -, -, -, h7, h8⟩ := hSW.ex
      have k1 := h1.cm (j + 1) (by omega)
      have k2 := h1.cf (j + 1) (by omega)
      have k3 := h1.ca (j + 1) (by omega)
      have k4 := h1.c2
      rw [show 3 + (j + 1) * 3 = 6 + j * 3 by omega] at k1 k2 k3
      have bM := mny_le l (j + 1)
      have bF := fst_small l (j + 1) (by omega) (by have := HS.out.small; omega)
      have bN := ahd_small l (j + 1) (by omega) (by have := HS.out.small; omega)
      have bL := HS.out.small
      have hgW := hSW.lt
      have HTOP := Lib.hid (top_eq l (j + 1))
      have HFS := Lib.hid (fst_succ l j)
      by_cases hend : j = BB.length
      · have HE := Lib.hid (fun W (q : RdIs W gr r b (k + j)) => rbit_of gr W _ _ _ (rgroup_end gr r b (k + j) 1 W q (by omega) (by have := HBL.out; omega) (by omega)))
        have HNO := Lib.hid (dry_none HB.out HD.out hjB (.inl hend))
        obtain ⟨A1, hA1⟩ : ∃ X, mny l (j + 1) = X := ⟨_, rfl⟩
        obtain ⟨A2, hA2⟩ : ∃ X, fst l (j + 1) = X := ⟨_, rfl⟩
        obtain ⟨A3, hA3⟩ : ∃ X, ahd l (j + 1) = X := ⟨_, rfl⟩
        rw [hA1] at k1
        rw [hA2] at k2
        rw [hA3] at k3
        have HEND := Lib.hid hend
        obtain ⟨V, hV⟩ : ∃ V, val (BB.take j) = V := ⟨_, rfl⟩
        rw [hV]
        clear h1 h7 h8 hSW bM bF bN hA1 hA2 hA3 hend k4 hV
        go_wp2_with fail
        have f1 := Fr.alloc S0 wr (.cells #[.int .i64 (A1 : Nat), .int .u32 (A2 : Nat), .int .i64 (A3 : Nat)] 98)
        generalize wr.alloc (.cells #[.int .i64 (A1 : Nat), .int .u32 (A2 : Nat), .int .i64 (A3 : Nat)] 98) = W at f1 ⊢
        have HX := Lib.hid (HT.out.fr0 f1)
        clear f1 k1 k2 k3
        refine (HE.out W HX.out.1).mono ?_
        rintro e w2 ⟨rfl, f2⟩
        have HY := Lib.hid (HX.out.fr0 f2)
        clear f2
        go_wp2_with fail
        go_ret2
        exact ⟨BB.length, by rw [HBB.out]; exact .inr (.inl ⟨HNO.out, by rw [HM.out, ← HEND.out]; omega, rfl, rfl⟩), by rw [← HEND.out]; exact HY.out⟩
      · have hjB2 : j < BB.length := by omega
        have hval := val_take BB j hjB2
        have hx2 := HB.out _ (List.getElem_mem hjB2)
        have hV := val_lt (HB.out.sub (m := BB.take j) fun _ hx => List.mem_of_mem_take hx)
        rw [List.length_take, Nat.min_eq_left hjB] at hV
        have hV2 : 2 ^ j ≤ 16384 := Nat.le_trans (Nat.pow_le_pow_right (n := 2) (by decide) (show j ≤ 14 by omega)) (by decide)
        have hge := dry_ge HD.out hjB2
        have hbit := HNX.out j hjB2
        obtain ⟨x, hx⟩ : ∃ x, BB[j] = x := ⟨_, rfl⟩
        rw [hx] at hval hx2 hbit
        have HE := Lib.hid (fun W (q : RdIs W gr r b (k + j)) => rbit_of gr W _ _ _ (rgroup_ok gr r b (k + j) 1 W q (by omega) (by have := HBL.out; omega) (by omega)))
        rw [hbit] at HE
        have HHIT := Lib.hid (fun q => hit_here HD.out hjB2 q)
        have HDRY : Hid (¬ val (BB.take (j + 1)) < top l (j + 1) → Dry l BB (j + 1)) := Lib.hid (fun q => Nat.le_of_not_lt q)
        have hor := shl_or (val (BB.take j)) x (by omega) hx2
        rw [← hval] at hor
        obtain ⟨D, hD⟩ : ∃ D, val (BB.take (j + 1)) = fst l (j + 1) + D := ⟨val (BB.take (j + 1)) - fst l (j + 1), by omega⟩
        have hTOP := HTOP.out
        rw [hD] at hor HHIT HDRY hval
        rw [hTOP] at HHIT HDRY
        have HVJ := Lib.hid hD
        have HK1 := Lib.hid k1
        obtain ⟨A1, hA1⟩ : ∃ X, mny l (j + 1) = X := ⟨_, rfl⟩
        obtain ⟨A2, hA2⟩ : ∃ X, fst l (j + 1) = X := ⟨_, rfl⟩
        obtain ⟨A3, hA3⟩ : ∃ X, ahd l (j + 1) = X := ⟨_, rfl⟩
        have HA3 := Lib.hid hA3
        rw [hA1] at k1 bM HHIT HDRY
        rw [hA2] at k2 bF HHIT HDRY hor hval HVJ
        rw [hA3] at k3 bN
        obtain ⟨V, hVV⟩ : ∃ V, val (BB.take j) = V := ⟨_, rfl⟩
        rw [hVV] at hV hor hval ⊢
        rw [Int.natCast_add] at hor
        have bD : A2 + D ≤ 32767 := by omega
        have bV : V ≤ 16384 := by omega
        have hgr : gr < wr.heap.size := HT.out.1.lt
        clear h1 h7 h8 hSW hA1 hA2 hA3 hend k4 hVV hval hV hV2 hbit hx hge hTOP hD HK1 hx2
        go_wp2_with fail
        have f1 := Fr.alloc S0 wr (.cells #[.int .i64 (A1 : Nat), .int .u32 (A2 : Nat), .int .i64 (A3 : Nat)] 98)
        have hb1 := heap_alloc_new wr (.cells #[.int .i64 (A1 : Nat), .int .u32 (A2 : Nat), .int .i64 (A3 : Nat)] 98)
        obtain ⟨n, hn⟩ : ∃ n, wr.heap.size = n := ⟨_, rfl⟩
        rw [hn] at hb1 hgr ⊢
        generalize wr.alloc (.cells #[.int .i64 (A1 : Nat), .int .u32 (A2 : Nat), .int .i64 (A3 : Nat)] 98) = W at f1 hb1 ⊢
        have HX := Lib.hid (HT.out.fr0 f1)
        have HB1 := Lib.hid hb1
        clear f1 k1 k2 k3 hn hb1
        refine (HE.out W HX.out.1).mono ?_
        rintro e w2 ⟨rfl, f2⟩
        have hb2 := f2.2.row HB1.out (by omega)
        have n0 : w2.cell? ⟨n, 0, none⟩ = some (.int .i64 (A1 : Nat)) := by simp [World.cell?, hb2]
        have n1 : w2.cell? ⟨n, 1, none⟩ = some (.int .u32 (A2 : Nat)) := by simp [World.cell?, hb2]
        have n2 : w2.cell? ⟨n, 2, none⟩ = some (.int .i64 (A3 : Nat)) := by simp [World.cell?, hb2]
        have HY := Lib.hid (HX.out.trans f2)
        clear f2 hb2 HB1 HX HE
        by_cases hin : D < A1
        · obtain ⟨i, hh, hli, hri⟩ := HHIT.out (by omega)
          have hS2 := HS.out.fr HY.out.2 (fun q hq hq2 e => by omega)
          obtain ⟨pl, cl, cb, cc, ob, oc, h1, -, -, -, -, -, h7, h8⟩ := hS2.ex
          have k4 := h1.c2
          have hpos : pos l i = A3 + D := by unfold pos; rw [hli, HA3.out, hri]; omega
          have hord := ordTo_get l l.length i (len_in hh.1) hh.1
          rw [hpos] at hord
          obtain ⟨hlt, hget⟩ := List.getElem?_eq_some_iff.1 hord
          obtain ⟨bb, oo, hpe, hcl⟩ := h7.at (A3 + D) hlt
          rw [hget] at hcl
          simp only [Option.some.injEq, Addr.mk.injEq] at hpe
          obtain ⟨rfl, rfl, -⟩ := hpe
          rw [Nat.zero_add] at hcl
          rw [ordTo_length] at hlt
          obtain ⟨Q, hQ⟩ : ∃ Q, ahd l (mx l + 1) = Q := ⟨_, rfl⟩
          rw [hQ] at k4 hlt
          have q1 : ((A3 : Int) + (D : Int)).toNat = A3 + D := by omega
          have q2 : IntKind.i64.wrap ((A3 : Int) + (D : Int)) = (A3 : Int) + (D : Int) := IntWalk.i64_in _ (by omega)
          have q3 : (0 : Int) ≤ (A3 : Int) + (D : Int) := by omega
          have q4 : (A3 : Int) + (D : Int) < (Q : Int) := by omega
          have hin' : (D : Int) < (A1 : Int) := by omega
          have HH := Lib.hid hh
          have HLI := Lib.hid hli
          clear hh hli hri hS2 h1 h7 h8 hpos hord hget hQ HHIT HDRY hlt hin
          go_wp2_with fail
          go_quiet (fail)
          go_wp2_with fail
          go_ret2
          exact ⟨j + 1, by rw [HBB.out]; exact .inl ⟨i, HH.out, rfl, HLI.out.symm⟩, HY.out.fr0 (Fr.drewN _ _ _)⟩
        · have HDR := Lib.hid (HDRY.out (by omega))
          have hin' : ¬ (D : Int) < (A1 : Int) := by omega
          clear HHIT HDRY hin
          go_wp2_with fail
          go_roundw
          case rel => exact ⟨j + 1, by omega, by go_num, by rw [HVJ.out]; go_num, by omega, HDR.out, HY.out⟩
          case measure => simp [intOf]; omega
    · obtain rfl : j = M := by omega
      have HNO := Lib.hid (dry_none HB.out HD.out hjB (.inr HM.out.symm))
      obtain ⟨V, hV⟩ : ∃ V, val (BB.take j) = V := ⟨_, rfl⟩
      rw [hV]
      clear hV
      go_wp2_with fail
      go_ret2
      exact ⟨j, by rw [HBB.out]; exact .inr (.inr ⟨HNO.out, by rw [HM.out]; exact hjB, rfl, HM.out.symm⟩), HT.out⟩

set_option maxRecDepth 100000 in
set_option maxHeartbeats 400000 in
theorem read_any (A B g : Nat) (l : List Nat) (gr : Nat) (r : Option Nat) (b : List Nat) (k : Nat) (w : World) (h : SetIs w A B g l) (hr : RdIs w gr r b k) (hg : gr < A ∨ B ≤ gr) (hb : b.length ≤ 140737488355328) :
    Calls Try.prog 109 #[.pointer (some ⟨g, 0, none⟩), .pointer (some ⟨gr, 0, none⟩)] w (Told w l b k gr r) := by
  have HF := Lib.hid (find_any A B g l gr r b k w h hr hg hb)
  have hmf : ∀ (fn : Fn) (first cap : Array Value) (w : World), (Instr.makeFunc fn first cap).run Try.prog w = .ok (.func fn first cap) w := fun _ _ _ _ => rfl
  clear h hr hg hb
  go_enter Try.func109, Try.ntmps109
  go_wp2_with fail
  refine HF.out.mono ?_
  rintro e w' ⟨n, hn, hto⟩
  have HT := Lib.hid hto
  rcases hn with ⟨i, hi, rfl, e1⟩ | ⟨hi, hm, rfl, e1⟩ | ⟨hi, hm, rfl, e1⟩
  · have K : Hid (Told w l b k gr r (.returned (.tuple #[.int .i64 (i : Nat), .int .i64 0])) w') := Lib.hid ⟨n, .inl ⟨i, hi, rfl, e1⟩, HT.out⟩
    clear hi e1 hto HT HF
    go_wp2_with fail
    go_ret2
    exact K.out
  · have K : Hid (Told w l b k gr r (.returned (.tuple #[.int .i64 0, .int .i64 20])) w') := Lib.hid ⟨n, .inr (.inl ⟨hi, hm, rfl, e1⟩), HT.out⟩
    clear hi e1 hto HT HF hm
    go_wp2_with fail
    go_ret2
    exact K.out
  · have K : Hid (Told w l b k gr r (.returned (.tuple #[.int .i64 0, .int .i64 62])) w') := Lib.hid ⟨n, .inr (.inr ⟨hi, hm, rfl, e1⟩), HT.out⟩
    clear hi e1 hto HT HF hm
    go_wp2_with fail
    go_ret2
    exact K.out
set_option maxRecDepth 100000 in
theorem read_nil (g : Nat) (w : World) :
    Calls Try.prog 109 #[.pointer (some ⟨g, 0, none⟩), .pointer none] w fun e w' => e = .returned (.tuple #[.int .i64 0, .int .i64 1]) ∧ w = w' := by
  go_enter Try.func109, Try.ntmps109
  go_wp2_with fail
  go_ret2
  exact ⟨rfl, rfl⟩
end Go.Proofs.Ytfibhgohenkfbaa
