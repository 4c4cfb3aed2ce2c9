/- What an opening goes through: bytes, the head, the end. -/
import Derived.Test.YtnckoghgplnhfaaGreatZlBase
namespace Go.Proofs.YtnckoghgplnhfaaGreat
open Go.RowKit

/-- block g is an opening that has the bytes l left -/
structure OpnIs (w : World) (g B o n c : Nat) (l : List Nat) : Prop where
  blk : w.heap[g]? = some (.cells #[.slice (some ⟨B, o, none⟩) n c] 45 (0, 0))
  sl : SlI w .u8 (some ⟨B, o, none⟩) l
  len : l.length = n
  cap : n ≤ c ∧ c ≤ maxLen
  ne : B ≠ g
theorem OpnIs.fr0 {w w' : World} {g B o n c : Nat} {l : List Nat} (h : OpnIs w g B o n c l) (f : Fr S0 w w') : OpnIs w' g B o n c l := ⟨f.row h.blk (fun h => h), h.sl.fr0 f, h.len, h.cap, h.ne⟩
theorem OpnIs.c0 {w : World} {g B o n c : Nat} {l : List Nat} (h : OpnIs w g B o n c l) : w.cell? ⟨g, 0, none⟩ = some (.slice (some ⟨B, o, none⟩) n c) := by simp [World.cell?, h.blk]
theorem OpnIs.z0 {w : World} {g B o n c : Nat} {l : List Nat} (h : OpnIs w g B o n c l) : w.frozen? ⟨g, 0, none⟩ = false := by simp [World.frozen?, h.blk]
theorem OpnIs.go {w : World} {g B o n c : Nat} {l : List Nat} (h : OpnIs w g B o n c l) (m o' : Nat) (hm : m ≤ n) (ho : m < c → o' = o + m) :
    OpnIs (w.setCell ⟨g, 0, none⟩ (.slice (some ⟨B, o', none⟩) (n - m) (c - m))) g B o' (n - m) (c - m) (l.drop m) ∧ Fr (· = g) w (w.setCell ⟨g, 0, none⟩ (.slice (some ⟨B, o', none⟩) (n - m) (c - m))) := by
  have f : Fr (· = g) w (w.setCell ⟨g, 0, none⟩ (.slice (some ⟨B, o', none⟩) (n - m) (c - m))) := Fr.setCell _ _ _ _ rfl
  have hl := h.len
  have hc := h.cap
  refine ⟨⟨by rw [heap_setCell_same w g 0 _ _ _ h.blk]; rfl, ?_, by rw [List.length_drop]; omega, by omega, h.ne⟩, f⟩
  by_cases q : m < n
  · have e := ho (by omega)
    subst e
    exact (h.sl.fr f (fun _ a e => by simp only [Option.some.injEq] at e; subst e; exact h.ne)).drop m
  · rw [List.drop_eq_nil_of_le (by omega)]
    exact SlI.nil _ _ _

set_option maxRecDepth 100000 in
set_option maxHeartbeats 1000000 in
theorem next_no (g n c m : Nat) (p : Option Addr) (w : World) (hc : w.cell? ⟨g, 0, none⟩ = some (.slice p n c)) (hm : n < m) :
    Calls Tryz.prog 39 #[.pointer (some ⟨g, 0, none⟩), .int .i64 m] w fun e w' => e = Ending.panicked (zch 20) ∧ w = w' := by
  have HD := Lib.hid (zdemand_no 20 w)
  have h1 : ¬ (m : Int) ≤ (n : Int) := by omega
  clear hm
  go_enter Tryz.func39, Tryz.ntmps39
  go_wp2_with fail
  refine HD.out.mono ?_
  rintro e w' ⟨rfl, rfl⟩
  exact ⟨rfl, rfl, rfl⟩

set_option maxRecDepth 100000 in
set_option maxHeartbeats 1000000 in
theorem next_yes {g B o n c : Nat} {l : List Nat} (m : Nat) (w : World) (h : OpnIs w g B o n c l) (hm : m ≤ n) :
    Calls Tryz.prog 39 #[.pointer (some ⟨g, 0, none⟩), .int .i64 m] w fun e w' => e = .returned (.slice (some ⟨B, o, none⟩) m c) ∧ Fr (· = g) w w' ∧ ∃ o', OpnIs w' g B o' (n - m) (c - m) (l.drop m) := by
  have HD := Lib.hid (zdemand_yes 20 w)
  have H := Lib.hid h
  have c0 := h.c0
  have z0 := h.z0
  have hcap := h.cap
  unfold maxLen at hcap
  have HM := Lib.hid hm
  have h1 : (m : Int) ≤ (n : Int) := by omega
  have h2 : (m : Int) ≤ (c : Int) := by omega
  have h3 : (n : Int) ≤ (c : Int) := by omega
  clear h
  by_cases q : c = m
  · go_enter Tryz.func39, Tryz.ntmps39
    go_wp2_with fail
    refine HD.out.mono ?_
    rintro e w' ⟨rfl, rfl⟩
    go_wp2_with fail
    go_ret
    have k := H.out.go m o HM.out (fun h => by omega)
    have e0 : c - m = 0 := by omega
    rw [e0] at k ⊢
    exact ⟨by rw [q]; rfl, k.2, o, k.1⟩
  · go_enter Tryz.func39, Tryz.ntmps39
    go_wp2_with fail
    refine HD.out.mono ?_
    rintro e w' ⟨rfl, rfl⟩
    go_wp2_with fail
    go_ret
    exact ⟨rfl, (H.out.go m (o + m) HM.out (fun _ => rfl)).2, o + m, (H.out.go m (o + m) HM.out (fun _ => rfl)).1⟩

theorem hdB_take (l : List Nat) (h : 2 ≤ l.length) : hdB (l.take 2) = hdB l := by
  match l, h with
  | x :: y :: r, _ => simp [hdB]

/-- what an opening has when it has gone through a head -/
def HeadEnds (w : World) (g B n c : Nat) (l : List Nat) (e : Ending) (w' : World) : Prop :=
  Fr (· = g) w w' ∧ if hdB l = true then e = .returned (.tuple #[]) ∧ ∃ o', OpnIs w' g B o' (n - 2) (c - 2) (l.drop 2) else e = Ending.panicked (zch 90)
set_option maxRecDepth 100000 in
set_option maxHeartbeats 1000000 in
theorem head_few (g n c : Nat) (p : Option Addr) (w : World) (hc : w.cell? ⟨g, 0, none⟩ = some (.slice p n c)) (hm : n < 2) :
    Calls Tryz.prog 22 #[.pointer (some ⟨g, 0, none⟩)] w fun e w' => e = Ending.panicked (zch 20) ∧ w = w' := by
  have HN := Lib.hid (next_no g n c 2 p w hc hm)
  clear hc hm
  go_enter Tryz.func22, Tryz.ntmps22
  go_wp2_with fail
  refine HN.out.mono ?_
  rintro e w' ⟨rfl, rfl⟩
  exact ⟨rfl, rfl, rfl⟩
set_option maxRecDepth 100000 in
set_option maxHeartbeats 1000000 in
theorem head_any {g B o n c : Nat} {l : List Nat} (w : World) (h : OpnIs w g B o n c l) (h8 : ∀ x ∈ l, x < 256) (hn : 2 ≤ n) :
    Calls Tryz.prog 22 #[.pointer (some ⟨g, 0, none⟩)] w (HeadEnds w g B n c l) := by
  have HN := Lib.hid (next_yes 2 w h hn)
  have HH : Hid (∀ w', Fr (· = g) w w' → Calls Tryz.prog 12 #[.slice (some ⟨B, o, none⟩) 2 c] w' fun e w'' => e = .returned (.bool (hdB l)) ∧ Fr S0 w' w'') := Lib.hid fun w' f => by
    have k := zhead_any (some ⟨B, o, none⟩) 2 c (l.take 2) w' (by rw [List.length_take, h.len]; omega) ((h.sl.fr f (fun _ a e => by simp only [Option.some.injEq] at e; subst e; exact h.ne)).take 2) (fun x hx => h8 x (List.mem_of_mem_take hx))
    rw [hdB_take l (by rw [h.len]; exact hn)] at k
    exact k
  clear h h8 hn
  unfold HeadEnds
  cases hb : hdB l with
  | false =>
    rw [hb] at HH
    clear hb
    go_enter Tryz.func22, Tryz.ntmps22
    go_wp2_with fail
    refine HN.out.mono ?_
    rintro e w1 ⟨rfl, f1, o', k1⟩
    have F1 := Lib.hid f1
    have K := Lib.hid (HH.out w1 f1)
    clear f1 k1 HN HH
    go_wp2_with fail
    refine K.out.mono ?_
    rintro e w2 ⟨rfl, f2⟩
    have F2 := Lib.hid (F1.out.trans0 f2)
    clear f2 K F1
    go_wp2_with fail
    refine (zdemand_no 90 w2).mono ?_
    rintro e w3 ⟨rfl, rfl⟩
    exact ⟨rfl, F2.out, rfl⟩
  | true =>
    rw [hb] at HH
    clear hb
    go_enter Tryz.func22, Tryz.ntmps22
    go_wp2_with fail
    refine HN.out.mono ?_
    rintro e w1 ⟨rfl, f1, o', k1⟩
    have F1 := Lib.hid f1
    have K1 := Lib.hid k1
    have K := Lib.hid (HH.out w1 f1)
    clear f1 k1 HN HH
    go_wp2_with fail
    refine K.out.mono ?_
    rintro e w2 ⟨rfl, f2⟩
    have F2 := Lib.hid (F1.out.trans0 f2)
    have K2 := Lib.hid (K1.out.fr0 f2)
    clear f2 K F1 K1
    go_wp2_with fail
    refine (zdemand_yes 90 w2).mono ?_
    rintro e w3 ⟨rfl, rfl⟩
    go_wp2_with fail
    go_end0
    exact ⟨F2.out, rfl, o', K2.out⟩

set_option maxRecDepth 100000 in
set_option maxHeartbeats 1000000 in
theorem end_yes (g c : Nat) (p : Option Addr) (w : World) (hc : w.cell? ⟨g, 0, none⟩ = some (.slice p 0 c)) :
    Calls Tryz.prog 25 #[.pointer (some ⟨g, 0, none⟩)] w fun e w' => e = .returned (.tuple #[]) ∧ w = w' := by
  have HD := Lib.hid (zdemand_yes 92 w)
  go_enter Tryz.func25, Tryz.ntmps25
  go_wp2_with fail
  refine HD.out.mono ?_
  rintro e w' ⟨rfl, rfl⟩
  go_wp2_with fail
  go_end0
  exact ⟨rfl, rfl⟩
set_option maxRecDepth 100000 in
set_option maxHeartbeats 1000000 in
theorem end_no (g n c : Nat) (p : Option Addr) (w : World) (hc : w.cell? ⟨g, 0, none⟩ = some (.slice p n c)) (hn : n ≠ 0) :
    Calls Tryz.prog 25 #[.pointer (some ⟨g, 0, none⟩)] w fun e w' => e = Ending.panicked (zch 92) ∧ w = w' := by
  have HD := Lib.hid (zdemand_no 92 w)
  have h0 : ((n : Int) == 0) = false := by rw [beq_eq_false_iff_ne]; omega
  clear hn
  go_enter Tryz.func25, Tryz.ntmps25
  go_wp2_with fail
  refine HD.out.mono ?_
  rintro e w' ⟨rfl, rfl⟩
  exact ⟨rfl, rfl, rfl⟩
end Go.Proofs.YtnckoghgplnhfaaGreat
