/- What the law does to histograms: corrects, takes another, takes itself. -/
import Derived.Test.YthfcfmnaiopogaaGreatHrActs
namespace Go.Proofs.YthfcfmnaiopogaaGreat
open Go.RowKit

theorem htake_any (g q : Nat) (p p2 : Option Addr) (k c k2 c2 : Nat) (M G : Hm) (w : World) (s : RefIs w g p k c M) (t : RefIs w q p2 k2 c2 G) (hk : k + k2 ≤ 90000) (hoff : ∀ a, p2 = some a → a.block ≠ g)
    (hb : ∀ W p' n' c' l', RMid w W g p p' n' c' M M.b l' → W.cell? ⟨q, 6, none⟩ = some (.int .i64 (G.b : Nat))) :
    Calls Tryz.prog 55 #[.pointer (some ⟨g, 0, none⟩), .pointer (some ⟨q, 0, none⟩)] w fun e w' => e = .returned (.int .i64 (M.takeE G : Nat)) ∧ ∃ p' n' c', RTurn w w' g p p' n' c' (M.take G) := by
  unfold Hm.take
  by_cases hl : M.like G
  · by_cases hc : 4611686018427387904 - ltot M.l < ltot G.l
    · have hE : M.takeE G = 6 := by unfold Hm.takeE; rw [if_neg (fun h => h hl), if_pos hc]
      rw [hE, if_neg (by decide)]
      exact (htake_cap g q p p2 k c k2 c2 M G w s t hl hc).mono fun e w' h => ⟨h.1, p, k, c, s.still h.2⟩
    · have hE : M.takeE G = 0 := by unfold Hm.takeE; rw [if_neg (fun h => h hl), if_neg hc]
      rw [hE, if_pos rfl]
      exact htake_yes g q p p2 k c k2 c2 M G w s t hl (by omega) hk hoff hb
  · have hE : M.takeE G = 3 := by unfold Hm.takeE; rw [if_pos hl]
    rw [hE, if_neg (by decide)]
    exact (htake_kind g q p p2 k c k2 c2 M G w s t hl).mono fun e w' h => ⟨h.1, p, k, c, s.still h.2⟩

section
variable {Is : World → Nat → (Nat → Prop) → Hm → Prop} (hd : HdrDoes Is) (w W : World) (gs gw a b xA xB rA rB : Nat) (MA MB : Hm) (q : Quad Is w W gs gw a b xA xB rA rB MA MB MA MB)
include hd q
set_option maxRecDepth 100000 in
set_option maxHeartbeats 2000000 in
theorem do_correct (kd : Nat) (who : Bool) (v : Int) (n : Nat) (x : Int) (hw : (who = false ∧ a = 0 ∧ b = 1) ∨ (who = true ∧ a = 1 ∧ b = 0)) (h4 : kd % 7 = 4) (hv : -9223372036854775808 ≤ v) (hv2 : v ≤ 9223372036854775807) (hx : -9223372036854775808 ≤ x) (hx2 : x ≤ 9223372036854775807) (hn : n < 18446744073709551616) (hl : MA.l.length ≤ 80000) :
    Calls Tryz.prog 15 #[.slice (some ⟨gs, 0, none⟩) 2 2, .slice (some ⟨gw, 0, none⟩) 2 2, .agg #[.int .u8 (kd : Nat), .bool who, .int .i64 v, .int .u64 (n : Nat), .int .i64 x]] W fun e w' => e = .returned (.bool true) ∧ Quad Is w w' gs gw a b xA xB rA rB (MA.correct v n x) MB (MA.correct v n x) MB := by
  have ob := hd.reads.ob
  obtain ⟨C, CB, h1, k1, hdis, hturn⟩ := q.codeA ob
  have HX := Lib.hid (fun W2 (f : Fr S0 W W2) => (hd.correct (ob.fr h1 f (fun _ _ h => h)) v x n hv hv2 hx hx2 hn hl).mono fun e w' (h : e = .returned (.int .i64 (MA.corE v n x : Nat)) ∧ HTurn Is W2 w' xA C (MA.correct v n x)) => show e = .returned (.int .i64 (MA.corE v n x : Nat)) ∧ ∃ hf : Fr C W2 w', Quad Is w w' gs gw a b xA xB rA rB (MA.correct v n x) MB MA MB from ⟨h.1, h.2.choose_spec.2.1, hturn _ _ (h.2.from f)⟩)
  have HY := Lib.hid (fun W2 (q2 : Quad Is w W2 gs gw a b xA xB rA rB (MA.correct v n x) MB MA MB) => show Calls Tryz.prog 54 #[.pointer (some ⟨rA, 0, none⟩), .int .i64 v, .int .u64 (n : Nat), .int .i64 x] W2 (fun e w' => e = .returned (.int .i64 (MA.corE v n x : Nat)) ∧ ∃ hf : Fr (· = rA) W2 w', Quad Is w w' gs gw a b xA xB rA rB (MA.correct v n x) MB (MA.correct v n x) MB) from by
    obtain ⟨p, k, c, p2, k2, c2, s, s2, hne, hoff, ht⟩ := q2.refA ob
    have hsl := s.len
    have hsl2 := s2.len
    exact (hcorrect_any rA p k c MA W2 s v x n ⟨hv, hv2⟩ ⟨hx, hx2⟩ hn (by omega)).mono fun e w' h => ⟨h.1, let ⟨_, _, _, t⟩ := h.2; ⟨t.fr, ht _ _ _ _ _ t⟩⟩)
  have HLT := Lib.hid (fun (hy : C W.heap.size) => Nat.lt_irrefl _ (ob.lt h1 _ hy))
  have HRL : Hid (rA < W.heap.size) := Lib.hid (by obtain ⟨_, _, _, _, _, _, s, -⟩ := q.refA ob; exact s.lt)
  have HOB := Lib.hid ob
  have HQ := Lib.hid q
  have HBOX := Lib.hid (box5 W (.int .u8 (kd : Nat)) (.bool who) (.int .i64 v) (.int .u64 (n : Nat)) (.int .i64 x) 34)
  obtain ⟨E, eE⟩ : ∃ E, MA.corE v n x = E := ⟨_, rfl⟩
  simp only [eE] at HX HY
  have e7 : (kd : Int) % 7 = 4 := by omega
  clear q h1 k1 hdis hturn eE h4
  rcases hw with ⟨rfl, rfl, rfl⟩ | ⟨rfl, rfl, rfl⟩
  · have HI := Lib.hid (show _ ∧ _ ∧ _ ∧ _ ∧ _ from ⟨(HQ.out.fr0 HOB.out (Fr.alloc S0 W (.cells #[.int .u8 (kd : Nat), .bool false, .int .i64 v, .int .u64 (n : Nat), .int .i64 x] 34))).cs, (HQ.out.fr0 HOB.out (Fr.alloc S0 W (.cells #[.int .u8 (kd : Nat), .bool false, .int .i64 v, .int .u64 (n : Nat), .int .i64 x] 34))).cw, HBOX.out.1, HBOX.out.2.1, HBOX.out.2.2⟩)
    go_enter Tryz.func15, Tryz.ntmps15
    go_upto_region 24 with fail
    go_region_held3 (fun w' => w'.cell? ⟨gs, 0, none⟩ = some (.pointer (some ⟨xA, 0, none⟩)) ∧ w'.cell? ⟨gw, 0, none⟩ = some (.pointer (some ⟨rA, 0, none⟩)) ∧ w'.cell? ⟨W.heap.size, 2, none⟩ = some (.int .i64 v) ∧ w'.cell? ⟨W.heap.size, 3, none⟩ = some (.int .u64 (n : Nat)) ∧ w'.cell? ⟨W.heap.size, 4, none⟩ = some (.int .i64 x))
      (first
        | (go_split_ands; exact ⟨by assumption, by assumption, by assumption, by assumption, by assumption⟩)
        | exact HI.out
        | exact HS4.out
        | exact HS3.out
        | fail)
      (first
        | (go_at_call 53; ((with_reducible refine (HX.out _ ((Fr.alloc S0 W _).trans0 (Fr.drew S0 _))).mono ?_); rintro _ w3 ⟨rfl, hf, hq3⟩; have HQ3 := Lib.hid hq3; have HS3 := Lib.hid (show _ ∧ _ ∧ _ ∧ _ ∧ _ from ⟨hq3.cs, hq3.cw, hf.cell (a := ⟨W.heap.size, 2, none⟩) HBOX.out.1 HLT.out, hf.cell (a := ⟨W.heap.size, 3, none⟩) HBOX.out.2.1 HLT.out, hf.cell (a := ⟨W.heap.size, 4, none⟩) HBOX.out.2.2 HLT.out⟩); clear hf hq3))
        | (go_at_call 54; ((with_reducible refine (HY.out _ HQ3.out).mono ?_); rintro _ w4 ⟨rfl, hf, hq4⟩; have HQ4 := Lib.hid hq4; have HS4 := Lib.hid (show _ ∧ _ ∧ _ ∧ _ ∧ _ from ⟨hq4.cs, hq4.cw, hf.cell HS3.out.2.2.1 (fun h => by have h1 := HRL.out; have h2 : W.heap.size = rA := h; omega), hf.cell HS3.out.2.2.2.1 (fun h => by have h1 := HRL.out; have h2 : W.heap.size = rA := h; omega), hf.cell HS3.out.2.2.2.2 (fun h => by have h1 := HRL.out; have h2 : W.heap.size = rA := h; omega)⟩); clear hf hq4))
        | fail)
    all_goals
      go_wp2_with fail
      go_ret
      exact ⟨rfl, HQ4.out⟩
  · have HI := Lib.hid (show _ ∧ _ ∧ _ ∧ _ ∧ _ from ⟨(HQ.out.fr0 HOB.out (Fr.alloc S0 W (.cells #[.int .u8 (kd : Nat), .bool true, .int .i64 v, .int .u64 (n : Nat), .int .i64 x] 34))).cs, (HQ.out.fr0 HOB.out (Fr.alloc S0 W (.cells #[.int .u8 (kd : Nat), .bool true, .int .i64 v, .int .u64 (n : Nat), .int .i64 x] 34))).cw, HBOX.out.1, HBOX.out.2.1, HBOX.out.2.2⟩)
    go_enter Tryz.func15, Tryz.ntmps15
    go_upto_region 24 with fail
    go_region_held3 (fun w' => w'.cell? ⟨gs, 1, none⟩ = some (.pointer (some ⟨xA, 0, none⟩)) ∧ w'.cell? ⟨gw, 1, none⟩ = some (.pointer (some ⟨rA, 0, none⟩)) ∧ w'.cell? ⟨W.heap.size, 2, none⟩ = some (.int .i64 v) ∧ w'.cell? ⟨W.heap.size, 3, none⟩ = some (.int .u64 (n : Nat)) ∧ w'.cell? ⟨W.heap.size, 4, none⟩ = some (.int .i64 x))
      (first
        | (go_split_ands; exact ⟨by assumption, by assumption, by assumption, by assumption, by assumption⟩)
        | exact HI.out
        | exact HS4.out
        | exact HS3.out
        | fail)
      (first
        | (go_at_call 53; ((with_reducible refine (HX.out _ ((Fr.alloc S0 W _).trans0 (Fr.drew S0 _))).mono ?_); rintro _ w3 ⟨rfl, hf, hq3⟩; have HQ3 := Lib.hid hq3; have HS3 := Lib.hid (show _ ∧ _ ∧ _ ∧ _ ∧ _ from ⟨hq3.cs, hq3.cw, hf.cell (a := ⟨W.heap.size, 2, none⟩) HBOX.out.1 HLT.out, hf.cell (a := ⟨W.heap.size, 3, none⟩) HBOX.out.2.1 HLT.out, hf.cell (a := ⟨W.heap.size, 4, none⟩) HBOX.out.2.2 HLT.out⟩); clear hf hq3))
        | (go_at_call 54; ((with_reducible refine (HY.out _ HQ3.out).mono ?_); rintro _ w4 ⟨rfl, hf, hq4⟩; have HQ4 := Lib.hid hq4; have HS4 := Lib.hid (show _ ∧ _ ∧ _ ∧ _ ∧ _ from ⟨hq4.cs, hq4.cw, hf.cell HS3.out.2.2.1 (fun h => by have h1 := HRL.out; have h2 : W.heap.size = rA := h; omega), hf.cell HS3.out.2.2.2.1 (fun h => by have h1 := HRL.out; have h2 : W.heap.size = rA := h; omega), hf.cell HS3.out.2.2.2.2 (fun h => by have h1 := HRL.out; have h2 : W.heap.size = rA := h; omega)⟩); clear hf hq4))
        | fail)
    all_goals
      go_wp2_with fail
      go_ret
      exact ⟨rfl, HQ4.out⟩
set_option maxRecDepth 100000 in
set_option maxHeartbeats 2000000 in
theorem do_take (kd : Nat) (who : Bool) (v : Int) (n : Nat) (x : Int) (hw : (who = false ∧ a = 0 ∧ b = 1) ∨ (who = true ∧ a = 1 ∧ b = 0)) (h4 : kd % 7 = 5) (hl : MA.l.length + MB.l.length ≤ 90000) :
    Calls Tryz.prog 15 #[.slice (some ⟨gs, 0, none⟩) 2 2, .slice (some ⟨gw, 0, none⟩) 2 2, .agg #[.int .u8 (kd : Nat), .bool who, .int .i64 v, .int .u64 (n : Nat), .int .i64 x]] W fun e w' => e = .returned (.bool true) ∧ Quad Is w w' gs gw a b xA xB rA rB (MA.take MB) MB (MA.take MB) MB := by
  have ob := hd.reads.ob
  obtain ⟨C, CB, h1, k1, hdis, hturn⟩ := q.codeA ob
  have HX := Lib.hid (fun W2 (f : Fr S0 W W2) => (hd.take (ob.fr h1 f (fun _ _ h => h)) (ob.fr k1 f (fun _ _ h => h)) hdis hl).mono fun e w' (h : e = .returned (.int .i64 (MA.takeE MB : Nat)) ∧ HTurn Is W2 w' xA C (MA.take MB)) => show e = .returned (.int .i64 (MA.takeE MB : Nat)) ∧ ∃ hf : Fr C W2 w', Quad Is w w' gs gw a b xA xB rA rB (MA.take MB) MB MA MB from ⟨h.1, h.2.choose_spec.2.1, hturn _ _ (h.2.from f)⟩)
  have HY := Lib.hid (fun W2 (q2 : Quad Is w W2 gs gw a b xA xB rA rB (MA.take MB) MB MA MB) => show Calls Tryz.prog 55 #[.pointer (some ⟨rA, 0, none⟩), .pointer (some ⟨rB, 0, none⟩)] W2 (fun e w' => e = .returned (.int .i64 (MA.takeE MB : Nat)) ∧ ∃ hf : Fr (· = rA) W2 w', Quad Is w w' gs gw a b xA xB rA rB (MA.take MB) MB (MA.take MB) MB) from by
    obtain ⟨p, k, c, p2, k2, c2, s, s2, hne, hoff, ht⟩ := q2.refA ob
    have hsl := s.len
    have hsl2 := s2.len
    exact (htake_any rA rB p p2 k c k2 c2 MA MB W2 s s2 (by omega) hoff (fun W3 p3 n3 c3 l3 h => h.fr.cell s2.c6 (fun e => hne e))).mono fun e w' h => ⟨h.1, let ⟨_, _, _, t⟩ := h.2; ⟨t.fr, ht _ _ _ _ _ t⟩⟩)
  have HLT := Lib.hid (fun (hy : C W.heap.size) => Nat.lt_irrefl _ (ob.lt h1 _ hy))
  have HRL : Hid (rA < W.heap.size) := Lib.hid (by obtain ⟨_, _, _, _, _, _, s, -⟩ := q.refA ob; exact s.lt)
  have HOB := Lib.hid ob
  have HQ := Lib.hid q
  have HBOX := Lib.hid (box5 W (.int .u8 (kd : Nat)) (.bool who) (.int .i64 v) (.int .u64 (n : Nat)) (.int .i64 x) 34)
  obtain ⟨E, eE⟩ : ∃ E, MA.takeE MB = E := ⟨_, rfl⟩
  simp only [eE] at HX HY
  have e7 : (kd : Int) % 7 = 5 := by omega
  clear q h1 k1 hdis hturn eE h4
  rcases hw with ⟨rfl, rfl, rfl⟩ | ⟨rfl, rfl, rfl⟩
  · have HI := Lib.hid (show _ ∧ _ ∧ _ ∧ _ from ⟨(HQ.out.fr0 HOB.out (Fr.alloc S0 W (.cells #[.int .u8 (kd : Nat), .bool false, .int .i64 v, .int .u64 (n : Nat), .int .i64 x] 34))).cs, (HQ.out.fr0 HOB.out (Fr.alloc S0 W (.cells #[.int .u8 (kd : Nat), .bool false, .int .i64 v, .int .u64 (n : Nat), .int .i64 x] 34))).swap.cs, (HQ.out.fr0 HOB.out (Fr.alloc S0 W (.cells #[.int .u8 (kd : Nat), .bool false, .int .i64 v, .int .u64 (n : Nat), .int .i64 x] 34))).cw, (HQ.out.fr0 HOB.out (Fr.alloc S0 W (.cells #[.int .u8 (kd : Nat), .bool false, .int .i64 v, .int .u64 (n : Nat), .int .i64 x] 34))).swap.cw⟩)
    go_enter Tryz.func15, Tryz.ntmps15
    go_upto_region 20 with fail
    go_region_held3 (fun w' => w'.cell? ⟨gs, 0, none⟩ = some (.pointer (some ⟨xA, 0, none⟩)) ∧ w'.cell? ⟨gs, 1, none⟩ = some (.pointer (some ⟨xB, 0, none⟩)) ∧ w'.cell? ⟨gw, 0, none⟩ = some (.pointer (some ⟨rA, 0, none⟩)) ∧ w'.cell? ⟨gw, 1, none⟩ = some (.pointer (some ⟨rB, 0, none⟩)))
      (first
        | (go_split_ands; exact ⟨by assumption, by assumption, by assumption, by assumption⟩)
        | exact HI.out
        | exact HS4.out
        | exact HS3.out
        | fail)
      (first
        | (go_at_call 17; ((with_reducible refine (HX.out _ ((Fr.alloc S0 W _).trans0 (Fr.drew S0 _))).mono ?_); rintro _ w3 ⟨rfl, hf, hq3⟩; have HQ3 := Lib.hid hq3; have HS3 := Lib.hid (show _ ∧ _ ∧ _ ∧ _ from ⟨hq3.cs, hq3.swap.cs, hq3.cw, hq3.swap.cw⟩); clear hf hq3))
        | (go_at_call 55; ((with_reducible refine (HY.out _ HQ3.out).mono ?_); rintro _ w4 ⟨rfl, hf, hq4⟩; have HQ4 := Lib.hid hq4; have HS4 := Lib.hid (show _ ∧ _ ∧ _ ∧ _ from ⟨hq4.cs, hq4.swap.cs, hq4.cw, hq4.swap.cw⟩); clear hf hq4))
        | fail)
    all_goals
      go_wp2_with fail
      go_ret
      exact ⟨rfl, HQ4.out⟩
  · have HI := Lib.hid (show _ ∧ _ ∧ _ ∧ _ from ⟨(HQ.out.fr0 HOB.out (Fr.alloc S0 W (.cells #[.int .u8 (kd : Nat), .bool true, .int .i64 v, .int .u64 (n : Nat), .int .i64 x] 34))).cs, (HQ.out.fr0 HOB.out (Fr.alloc S0 W (.cells #[.int .u8 (kd : Nat), .bool true, .int .i64 v, .int .u64 (n : Nat), .int .i64 x] 34))).swap.cs, (HQ.out.fr0 HOB.out (Fr.alloc S0 W (.cells #[.int .u8 (kd : Nat), .bool true, .int .i64 v, .int .u64 (n : Nat), .int .i64 x] 34))).cw, (HQ.out.fr0 HOB.out (Fr.alloc S0 W (.cells #[.int .u8 (kd : Nat), .bool true, .int .i64 v, .int .u64 (n : Nat), .int .i64 x] 34))).swap.cw⟩)
    go_enter Tryz.func15, Tryz.ntmps15
    go_upto_region 20 with fail
    go_region_held3 (fun w' => w'.cell? ⟨gs, 1, none⟩ = some (.pointer (some ⟨xA, 0, none⟩)) ∧ w'.cell? ⟨gs, 0, none⟩ = some (.pointer (some ⟨xB, 0, none⟩)) ∧ w'.cell? ⟨gw, 1, none⟩ = some (.pointer (some ⟨rA, 0, none⟩)) ∧ w'.cell? ⟨gw, 0, none⟩ = some (.pointer (some ⟨rB, 0, none⟩)))
      (first
        | (go_split_ands; exact ⟨by assumption, by assumption, by assumption, by assumption⟩)
        | exact HI.out
        | exact HS4.out
        | exact HS3.out
        | fail)
      (first
        | (go_at_call 17; ((with_reducible refine (HX.out _ ((Fr.alloc S0 W _).trans0 (Fr.drew S0 _))).mono ?_); rintro _ w3 ⟨rfl, hf, hq3⟩; have HQ3 := Lib.hid hq3; have HS3 := Lib.hid (show _ ∧ _ ∧ _ ∧ _ from ⟨hq3.cs, hq3.swap.cs, hq3.cw, hq3.swap.cw⟩); clear hf hq3))
        | (go_at_call 55; ((with_reducible refine (HY.out _ HQ3.out).mono ?_); rintro _ w4 ⟨rfl, hf, hq4⟩; have HQ4 := Lib.hid hq4; have HS4 := Lib.hid (show _ ∧ _ ∧ _ ∧ _ from ⟨hq4.cs, hq4.swap.cs, hq4.cw, hq4.swap.cw⟩); clear hf hq4))
        | fail)
    all_goals
      go_wp2_with fail
      go_ret
      exact ⟨rfl, HQ4.out⟩
set_option maxRecDepth 100000 in
set_option maxHeartbeats 2000000 in
theorem do_self (kd : Nat) (who : Bool) (v : Int) (n : Nat) (x : Int) (hw : (who = false ∧ a = 0 ∧ b = 1) ∨ (who = true ∧ a = 1 ∧ b = 0)) (h4 : kd % 7 = 6) (hl : MA.l.length ≤ 40000) :
    Calls Tryz.prog 15 #[.slice (some ⟨gs, 0, none⟩) 2 2, .slice (some ⟨gw, 0, none⟩) 2 2, .agg #[.int .u8 (kd : Nat), .bool who, .int .i64 v, .int .u64 (n : Nat), .int .i64 x]] W fun e w' => e = .returned (.bool true) ∧ Quad Is w w' gs gw a b xA xB rA rB (MA.take MA) MB (MA.take MA) MB := by
  have ob := hd.reads.ob
  obtain ⟨C, CB, h1, k1, hdis, hturn⟩ := q.codeA ob
  have HX := Lib.hid (fun W2 (f : Fr S0 W W2) => (hd.takeSelf (ob.fr h1 f (fun _ _ h => h)) hl).mono fun e w' (h : e = .returned (.int .i64 (MA.takeE MA : Nat)) ∧ HTurn Is W2 w' xA C (MA.take MA)) => show e = .returned (.int .i64 (MA.takeE MA : Nat)) ∧ ∃ hf : Fr C W2 w', Quad Is w w' gs gw a b xA xB rA rB (MA.take MA) MB MA MB from ⟨h.1, h.2.choose_spec.2.1, hturn _ _ (h.2.from f)⟩)
  have HY := Lib.hid (fun W2 (q2 : Quad Is w W2 gs gw a b xA xB rA rB (MA.take MA) MB MA MB) => show Calls Tryz.prog 55 #[.pointer (some ⟨rA, 0, none⟩), .pointer (some ⟨rA, 0, none⟩)] W2 (fun e w' => e = .returned (.int .i64 (MA.takeE MA : Nat)) ∧ ∃ hf : Fr (· = rA) W2 w', Quad Is w w' gs gw a b xA xB rA rB (MA.take MA) MB (MA.take MA) MB) from by
    obtain ⟨p, k, c, p2, k2, c2, s, s2, hne, hoff, ht⟩ := q2.refA ob
    have hsl := s.len
    have hsl2 := s2.len
    exact (htake_any rA rA p p k c k c MA MA W2 s s (by omega) s.off (fun W3 p3 n3 c3 l3 h => h.c6)).mono fun e w' h => ⟨h.1, let ⟨_, _, _, t⟩ := h.2; ⟨t.fr, ht _ _ _ _ _ t⟩⟩)
  have HLT := Lib.hid (fun (hy : C W.heap.size) => Nat.lt_irrefl _ (ob.lt h1 _ hy))
  have HRL : Hid (rA < W.heap.size) := Lib.hid (by obtain ⟨_, _, _, _, _, _, s, -⟩ := q.refA ob; exact s.lt)
  have HOB := Lib.hid ob
  have HQ := Lib.hid q
  have HBOX := Lib.hid (box5 W (.int .u8 (kd : Nat)) (.bool who) (.int .i64 v) (.int .u64 (n : Nat)) (.int .i64 x) 34)
  obtain ⟨E, eE⟩ : ∃ E, MA.takeE MA = E := ⟨_, rfl⟩
  simp only [eE] at HX HY
  have e7 : (kd : Int) % 7 = 6 := by omega
  clear q h1 k1 hdis hturn eE h4
  rcases hw with ⟨rfl, rfl, rfl⟩ | ⟨rfl, rfl, rfl⟩
  · have HI := Lib.hid (show _ ∧ _ from ⟨(HQ.out.fr0 HOB.out (Fr.alloc S0 W (.cells #[.int .u8 (kd : Nat), .bool false, .int .i64 v, .int .u64 (n : Nat), .int .i64 x] 34))).cs, (HQ.out.fr0 HOB.out (Fr.alloc S0 W (.cells #[.int .u8 (kd : Nat), .bool false, .int .i64 v, .int .u64 (n : Nat), .int .i64 x] 34))).cw⟩)
    go_enter Tryz.func15, Tryz.ntmps15
    go_upto_region 20 with fail
    go_region_held3 (fun w' => w'.cell? ⟨gs, 0, none⟩ = some (.pointer (some ⟨xA, 0, none⟩)) ∧ w'.cell? ⟨gw, 0, none⟩ = some (.pointer (some ⟨rA, 0, none⟩)))
      (first
        | (go_split_ands; exact ⟨by assumption, by assumption⟩)
        | exact HI.out
        | exact HS4.out
        | exact HS3.out
        | fail)
      (first
        | (go_at_call 17; ((with_reducible refine (HX.out _ ((Fr.alloc S0 W _).trans0 (Fr.drew S0 _))).mono ?_); rintro _ w3 ⟨rfl, hf, hq3⟩; have HQ3 := Lib.hid hq3; have HS3 := Lib.hid (show _ ∧ _ from ⟨hq3.cs, hq3.cw⟩); clear hf hq3))
        | (go_at_call 55; ((with_reducible refine (HY.out _ HQ3.out).mono ?_); rintro _ w4 ⟨rfl, hf, hq4⟩; have HQ4 := Lib.hid hq4; have HS4 := Lib.hid (show _ ∧ _ from ⟨hq4.cs, hq4.cw⟩); clear hf hq4))
        | fail)
    all_goals
      go_wp2_with fail
      go_ret
      exact ⟨rfl, HQ4.out⟩
  · have HI := Lib.hid (show _ ∧ _ from ⟨(HQ.out.fr0 HOB.out (Fr.alloc S0 W (.cells #[.int .u8 (kd : Nat), .bool true, .int .i64 v, .int .u64 (n : Nat), .int .i64 x] 34))).cs, (HQ.out.fr0 HOB.out (Fr.alloc S0 W (.cells #[.int .u8 (kd : Nat), .bool true, .int .i64 v, .int .u64 (n : Nat), .int .i64 x] 34))).cw⟩)
    go_enter Tryz.func15, Tryz.ntmps15
    go_upto_region 20 with fail
    go_region_held3 (fun w' => w'.cell? ⟨gs, 1, none⟩ = some (.pointer (some ⟨xA, 0, none⟩)) ∧ w'.cell? ⟨gw, 1, none⟩ = some (.pointer (some ⟨rA, 0, none⟩)))
      (first
        | (go_split_ands; exact ⟨by assumption, by assumption⟩)
        | exact HI.out
        | exact HS4.out
        | exact HS3.out
        | fail)
      (first
        | (go_at_call 17; ((with_reducible refine (HX.out _ ((Fr.alloc S0 W _).trans0 (Fr.drew S0 _))).mono ?_); rintro _ w3 ⟨rfl, hf, hq3⟩; have HQ3 := Lib.hid hq3; have HS3 := Lib.hid (show _ ∧ _ from ⟨hq3.cs, hq3.cw⟩); clear hf hq3))
        | (go_at_call 55; ((with_reducible refine (HY.out _ HQ3.out).mono ?_); rintro _ w4 ⟨rfl, hf, hq4⟩; have HQ4 := Lib.hid hq4; have HS4 := Lib.hid (show _ ∧ _ from ⟨hq4.cs, hq4.cw⟩); clear hf hq4))
        | fail)
    all_goals
      go_wp2_with fail
      go_ret
      exact ⟨rfl, HQ4.out⟩
end
end Go.Proofs.YthfcfmnaiopogaaGreat
