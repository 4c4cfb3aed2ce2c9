/- The document's histograms: a value is counted. -/
import Derived.Test.YthfcfmnaiopogaaGreatHrCheck
namespace Go.Proofs.YthfcfmnaiopogaaGreat
open Go.RowKit

/-- the document's histogram g was turned: it is M now -/
structure RTurn (W W' : World) (g : Nat) (p p' : Option Addr) (n c : Nat) (M : Hm) : Prop where
  is : RefIs W' g p' n c M
  fr : Fr (· = g) W W'
  row : p' = p ∨ ∀ a, p' = some a → W.heap.size ≤ a.block ∧ a.block < W'.heap.size
def rcells (M : Hm) (b : Nat) (p : Option Addr) (n c : Nat) : Array Value := #[.int .i64 (M.L : Nat), .int .i64 (M.H : Nat), .int .i64 (M.D : Nat), .int .i64 (M.u : Nat), .int .i64 (M.m : Nat), .bool M.gr, .int .i64 (b : Nat), .slice p n c]
theorem rcells7 (M : Hm) (b : Nat) (p q : Option Addr) (n c n' c' : Nat) : (rcells M b p n c).set! 7 (.slice q n' c') = rcells M b q n' c' := rfl
theorem rcells6 (M : Hm) (b b' : Nat) (p : Option Addr) (n c : Nat) : (rcells M b p n c).set! 6 (.int .i64 (b' : Nat)) = rcells M b' p n c := rfl
theorem Acc.form {w wr : World} {v : Value} {N : Nat} {L : List Pr} (h : Acc w wr v N L) (hN : N ≤ 1000000) : ∃ p n c, v = .slice p n c ∧ L.length = n ∧ PrI wr p L ∧ ∀ a, p = some a → w.heap.size ≤ a.block ∧ a.block < wr.heap.size := by
  obtain ⟨p, c, rfl⟩ := slFormN h.own
  have hl := h.len
  refine ⟨p, N, c, rfl, hl, PrI.ofOwns h.own (by unfold maxLen; omega), fun a ha => ⟨h.fresh a.block (by rw [ha]; rfl), (h.own.lt a.block (by rw [ha]; rfl)).2⟩⟩

section
variable (g : Nat) (p : Option Addr) (k c : Nat) (M : Hm) (w : World) (s : RefIs w g p k c M)
include s
set_option maxRecDepth 100000 in
set_option maxHeartbeats 1000000 in
theorem hcount_any (v n : Nat) (hv : v < 9223372036854775808) (hn : 0 < n) (ht : ltot M.l + n ≤ 4611686018427387904) (hg : M.gr = false → v ≤ top M.u M.m M.b) (hk : k ≤ 90000) :
    Calls Tryz.prog 82 #[.pointer (some ⟨g, 0, none⟩), .int .i64 (v : Nat), .int .u64 (n : Nat)] w fun e w' => e = .returned (.tuple #[]) ∧ ∃ p' n' c', RTurn w w' g p p' n' c' (M.count v n) := by
  have hd := s.good
  have hGood := hd.count hv hn ht hg
  have HI := Lib.hid (fun W => rindex_any M.u M.m v W hd.m1 hd.m5.2 hd.s hv)
  have HP := Lib.hid (fun W (f : Fr S0 w W) => rput_any p k c n (idx M.u M.m v : Nat) M.l W (s.pri.fr0 f) s.len (by omega) (by omega))
  have HB := Lib.hid (fun W => rbucket_any M.u M.m v W hd.s hv)
  have HBLK := Lib.hid (fun W (f : Fr S0 w W) => (s.fr0 f).blk)
  have HZ := Lib.hid (fun W (f : Fr S0 w W) => And.intro (s.fr0 f).c7 ((s.fr0 f).z 7))
  have hlen := len_put (idx M.u M.m v : Nat) n hd.srt hd.pos
  have hbk := bkt_most (M.u + M.m) v (by have := hd.s; omega) hv
  have hb1 := hd.b1
  have hgl := s.lt
  have hsl := s.len
  have c3 := s.c3
  have c4 := s.c4
  have c7 := s.c7
  have HGOOD := Lib.hid hGood
  clear s hd hGood hg
  go_enter Tryz.func82, Tryz.ntmps82
  go_upto_region 20 with fail
  go_cut [6] from 6 to 24 (fun x6 wx => x6 = .pointer (some ⟨g, 0, none⟩) ∧ ∃ p' n' c', wx.heap[g]? = some (.cells (rcells M M.b p' n' c') 49 (0, 0)) ∧ PrI wx p' (M.count v n).l ∧ (M.count v n).l.length = n' ∧ (∀ a, p' = some a → w.heap.size ≤ a.block ∧ a.block < wx.heap.size) ∧ Fr (· = g) w wx)
  case first =>
    go_region_law (first
      | (go_simp; go_at_call 28; (with_reducible refine (HI.out _).mono ?_); rintro _ w1 ⟨rfl, rfl⟩)
      | (go_simp; go_at_call 102; (with_reducible refine (HP.out _ (Fr.drew S0 w)).mono ?_); rintro _ w2 ⟨v2, N2, rfl, hacc⟩; have hlp := hacc.len; obtain ⟨p2, n2, c2, rfl, hl2, hp2, hf2⟩ := hacc.form (by rw [← hlp, hlen]; split <;> omega); have HA := Lib.hid (And.intro hl2 (And.intro hp2 (And.intro (show ∀ a, p2 = some a → w.heap.size ≤ a.block ∧ a.block < w2.heap.size from hf2) ((Fr.drew S0 w).trans0 hacc.fr)))); obtain ⟨d7, dz⟩ := HZ.out _ ((Fr.drew S0 w).trans0 hacc.fr); clear hacc hl2 hp2 hf2 hlp))
    all_goals
      go_wp2_with fail
      go_meet
      obtain ⟨hl2, hp2, hf2, hfr⟩ := HA.out
      have hst : Fr (· = g) w2 (w2.setCell ⟨g, 7, none⟩ (.slice p2 n2 c2)) := Fr.setCell (· = g) _ _ _ rfl
      exact ⟨rfl, p2, n2, c2, by rw [heap_setCell_same w2 g 7 _ _ _ (HBLK.out w2 hfr)]; rfl, hp2.fr hst (fun a ha e => by have h1 := (hf2 a ha).1; have h2 : a.block = g := e; omega), hl2, fun a ha => ⟨(hf2 a ha).1, Nat.lt_of_lt_of_le (hf2 a ha).2 hst.size⟩, (hfr.mono fun _ _ h => h.elim).trans hst fun _ _ h => h⟩
  case rest =>
    obtain ⟨rfl, p2, n2, c2, hblk, hp2, hl2, hf2, hfr⟩ := hcut
    have HBL := Lib.hid hblk
    have HPR := Lib.hid (And.intro hp2 (And.intro hl2 (And.intro hf2 hfr)))
    have d3 : wc.cell? ⟨g, 3, none⟩ = some (.int .i64 (M.u : Nat)) := by simp [World.cell?, hblk, rcells]
    have d4 : wc.cell? ⟨g, 4, none⟩ = some (.int .i64 (M.m : Nat)) := by simp [World.cell?, hblk, rcells]
    have d6 : wc.cell? ⟨g, 6, none⟩ = some (.int .i64 (M.b : Nat)) := by simp [World.cell?, hblk, rcells]
    have dz : wc.frozen? ⟨g, 6, none⟩ = false := by simp [World.frozen?, hblk]
    obtain ⟨b, eb⟩ : ∃ b, bkt (M.u + M.m) v = b := ⟨_, rfl⟩
    obtain ⟨F, eF⟩ : ∃ F, 1 + b = F := ⟨_, rfl⟩
    obtain ⟨B, eB⟩ : ∃ B, M.b = B := ⟨_, rfl⟩
    obtain ⟨X, eX⟩ : ∃ X, max B F = X := ⟨_, rfl⟩
    rw [eb] at HB hbk
    rw [eB] at d6 hb1
    have e1 : 1 + (b : Int) = (F : Int) := by omega
    have w1 : IntKind.i64.wrap (F : Int) = (F : Int) := by rw [IntKind.wrap_i64]; omega
    have em : max (B : Int) (F : Int) = (X : Int) := by omega
    have em2 : (if (B : Int) < (F : Int) then (F : Int) else (B : Int)) = (X : Int) := by split <;> omega
    have HX := Lib.hid (show (M.count v n).b = X by simp only [Hm.count]; rw [eb, eB, eF, eX])
    clear hblk hp2 hl2 hf2 hfr c3 c4 c7 eF hbk hlen HI HP HBLK HZ
    go_upto_region 20 with fail
    go_region_law (first
      | (go_simp; go_at_call 72; (with_reducible refine (HB.out _).mono ?_); rintro _ w1 ⟨rfl, rfl⟩))
    all_goals
      go_wp2_with fail
      go_end0
      obtain ⟨hp2, hl2, hf2, hfr⟩ := HPR.out
      have hst : Fr (· = g) wc (wc.drew.setCell ⟨g, 6, none⟩ (.int .i64 (X : Nat))) := (Fr.drew _ _).trans (Fr.setCell (· = g) _ _ _ rfl) fun _ _ h => h
      have hblk : (wc.drew.setCell ⟨g, 6, none⟩ (.int .i64 (X : Nat))).heap[g]? = some (.cells (rcells M X p2 n2 c2) 49 (0, 0)) := by rw [heap_setCell_same wc.drew g 6 _ _ _ (show wc.drew.heap[g]? = _ from HBL.out)]; rfl
      exact ⟨rfl, p2, n2, c2, ⟨by rw [HX.out]; exact hblk, hp2.fr hst (fun a ha e => by have h1 := (hf2 a ha).1; have h2 : a.block = g := e; omega), hl2, fun a ha e => by have h1 := (hf2 a ha).1; omega, HGOOD.out⟩, hfr.trans hst fun _ _ h => h, .inr fun a ha => ⟨(hf2 a ha).1, Nat.lt_of_lt_of_le (hf2 a ha).2 hst.size⟩⟩
end
end Go.Proofs.YthfcfmnaiopogaaGreat
