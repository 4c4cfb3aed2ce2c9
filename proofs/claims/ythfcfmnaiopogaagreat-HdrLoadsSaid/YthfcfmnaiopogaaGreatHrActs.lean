/- What the landed histograms do, whatever they look like; a value that is recorded in both. -/
import Derived.Test.YthfcfmnaiopogaaGreatHrOb
namespace Go.Proofs.YthfcfmnaiopogaaGreat
open Go.RowKit

/-- what is done to a histogram -/
structure HdrDoes (Is : World → Nat → (Nat → Prop) → Hm → Prop) : Prop where
  reads : HdrReads Is
  record : ∀ {W g C M}, Is W g C M → ∀ (v : Int) (n : Nat), -9223372036854775808 ≤ v → v ≤ 9223372036854775807 → n < 18446744073709551616 → M.l.length ≤ 90000 →
    Calls Tryz.prog 38 #[.pointer (some ⟨g, 0, none⟩), .int .i64 v, .int .u64 (n : Nat)] W fun e w' => e = .returned (.int .i64 (M.check v n : Nat)) ∧ HTurn Is W w' g C (M.record v n)
  correct : ∀ {W g C M}, Is W g C M → ∀ (v x : Int) (n : Nat), -9223372036854775808 ≤ v → v ≤ 9223372036854775807 → -9223372036854775808 ≤ x → x ≤ 9223372036854775807 → n < 18446744073709551616 → M.l.length ≤ 80000 →
    Calls Tryz.prog 53 #[.pointer (some ⟨g, 0, none⟩), .int .i64 v, .int .u64 (n : Nat), .int .i64 x] W fun e w' => e = .returned (.int .i64 (M.corE v n x : Nat)) ∧ HTurn Is W w' g C (M.correct v n x)
  takeNil : ∀ {W g C M}, Is W g C M → Calls Tryz.prog 17 #[.pointer (some ⟨g, 0, none⟩), .pointer none] W fun e w' => e = .returned (.int .i64 1) ∧ Fr S0 W w'
  takeSelf : ∀ {W g C M}, Is W g C M → M.l.length ≤ 40000 → Calls Tryz.prog 17 #[.pointer (some ⟨g, 0, none⟩), .pointer (some ⟨g, 0, none⟩)] W fun e w' => e = .returned (.int .i64 (M.takeE M : Nat)) ∧ HTurn Is W w' g C (M.take M)
  take : ∀ {W g C M g2 C2 M2}, Is W g C M → Is W g2 C2 M2 → (∀ y, C y → ¬ C2 y) → M.l.length + M2.l.length ≤ 90000 →
    Calls Tryz.prog 17 #[.pointer (some ⟨g, 0, none⟩), .pointer (some ⟨g2, 0, none⟩)] W fun e w' => e = .returned (.int .i64 (M.takeE M2 : Nat)) ∧ HTurn Is W w' g C (M.take M2)

theorem HTurn.from {Is : World → Nat → (Nat → Prop) → Hm → Prop} {w W W' : World} {g : Nat} {C : Nat → Prop} {M : Hm} (t : HTurn Is W W' g C M) (f : Fr S0 w W) : HTurn Is w W' g C M :=
  let ⟨C', h1, h2, h3⟩ := t
  ⟨C', h1, (f.mono fun _ _ h => h.elim).trans h2 fun _ _ h => h, fun b hb => (h3 b hb).imp id fun h => Nat.le_trans f.size h⟩
theorem box5 (w : World) (a b c d e : Value) (t : TypeId) : (w.alloc (.cells #[a, b, c, d, e] t)).cell? ⟨w.heap.size, 2, none⟩ = some c ∧ (w.alloc (.cells #[a, b, c, d, e] t)).cell? ⟨w.heap.size, 3, none⟩ = some d ∧ (w.alloc (.cells #[a, b, c, d, e] t)).cell? ⟨w.heap.size, 4, none⟩ = some e := by
  have hb0 := heap_alloc_new w (.cells #[a, b, c, d, e] t)
  exact ⟨by rw [World.cell?, hb0]; rfl, by rw [World.cell?, hb0]; rfl, by rw [World.cell?, hb0]; rfl⟩
def opv (kd : Nat) (who : Bool) (v : Int) (n : Nat) (x : Int) : Value := .agg #[.int .u8 (kd : Int), .bool who, .int .i64 v, .int .u64 (n : Int), .int .i64 x]

section
variable {Is : World → Nat → (Nat → Prop) → Hm → Prop} (hd : HdrDoes Is) (w W : World) (gs gw a b xA xB rA rB : Nat) (MA MB : Hm) (q : Quad Is w W gs gw a b xA xB rA rB MA MB MA MB)
include hd q
set_option maxRecDepth 100000 in
set_option maxHeartbeats 2000000 in
theorem do_record (kd : Nat) (who : Bool) (v : Int) (n : Nat) (x : Int) (hw : (who = false ∧ a = 0 ∧ b = 1) ∨ (who = true ∧ a = 1 ∧ b = 0)) (h4 : kd % 7 ≠ 4) (h5 : kd % 7 ≠ 5) (h6 : kd % 7 ≠ 6) (hv : -9223372036854775808 ≤ v) (hv2 : v ≤ 9223372036854775807) (hn : n < 18446744073709551616) (hl : MA.l.length ≤ 90000) :
    Calls Tryz.prog 15 #[.slice (some ⟨gs, 0, none⟩) 2 2, .slice (some ⟨gw, 0, none⟩) 2 2, .agg #[.int .u8 (kd : Nat), .bool who, .int .i64 v, .int .u64 (n : Nat), .int .i64 x]] W fun e w' => e = .returned (.bool true) ∧ Quad Is w w' gs gw a b xA xB rA rB (MA.record v n) MB (MA.record v n) MB := by
  have ob := hd.reads.ob
  obtain ⟨C, CB, h1, k1, hdis, hturn⟩ := q.codeA ob
  have HX := Lib.hid (fun W2 (f : Fr S0 W W2) => (hd.record (ob.fr h1 f (fun _ _ h => h)) v n hv hv2 hn hl).mono fun e w' (h : e = .returned (.int .i64 (MA.check v n : Nat)) ∧ HTurn Is W2 w' xA C (MA.record v n)) => show e = .returned (.int .i64 (MA.check v n : Nat)) ∧ ∃ hf : Fr C W2 w', Quad Is w w' gs gw a b xA xB rA rB (MA.record v n) MB MA MB from ⟨h.1, h.2.choose_spec.2.1, hturn _ _ (h.2.from f)⟩)
  have HY := Lib.hid (fun W2 (q2 : Quad Is w W2 gs gw a b xA xB rA rB (MA.record v n) MB MA MB) => show Calls Tryz.prog 39 #[.pointer (some ⟨rA, 0, none⟩), .int .i64 v, .int .u64 (n : Nat)] W2 (fun e w' => e = .returned (.int .i64 (MA.check v n : Nat)) ∧ ∃ hf : Fr (· = rA) W2 w', Quad Is w w' gs gw a b xA xB rA rB (MA.record v n) MB (MA.record v n) MB) from by
    obtain ⟨p, k, c, p2, k2, c2, s, s2, -, -, ht⟩ := q2.refA ob
    have hsl := s.len
    exact (hrecord_any rA p k c MA W2 s v n hv2 hn (by omega)).mono fun e w' h => ⟨h.1, let ⟨_, _, _, t⟩ := h.2; ⟨t.fr, ht _ _ _ _ _ t⟩⟩)
  have HLT := Lib.hid (fun (hy : C W.heap.size) => Nat.lt_irrefl _ (ob.lt h1 _ hy))
  have HRL : Hid (rA < W.heap.size) := Lib.hid (by obtain ⟨_, _, _, _, _, _, s, -⟩ := q.refA ob; exact s.lt)
  have HOB := Lib.hid ob
  have HQ := Lib.hid q
  have HBOX := Lib.hid (box5 W (.int .u8 (kd : Nat)) (.bool who) (.int .i64 v) (.int .u64 (n : Nat)) (.int .i64 x) 34)
  obtain ⟨E, eE⟩ : ∃ E, MA.check v n = E := ⟨_, rfl⟩
  simp only [eE] at HX HY
  obtain ⟨K, eK⟩ : ∃ K, kd % 7 = K := ⟨_, rfl⟩
  rw [eK] at h4 h5 h6
  have e7 : (kd : Int) % 7 = (K : Int) := by omega
  have n4 : ((K : Int) == 4) = false := by rw [beq_eq_false_iff_ne]; omega
  have n5 : ((K : Int) == 5) = false := by rw [beq_eq_false_iff_ne]; omega
  have n6 : ((K : Int) == 6) = false := by rw [beq_eq_false_iff_ne]; omega
  have hK : K ≤ 6 := by omega
  clear q h1 k1 hdis hturn eE eK h4 h5 h6 hl
  rcases hw with ⟨rfl, rfl, rfl⟩ | ⟨rfl, rfl, rfl⟩
  · have HI := Lib.hid (show _ ∧ _ ∧ _ ∧ _ from ⟨(HQ.out.fr0 HOB.out (Fr.alloc S0 W (.cells #[.int .u8 (kd : Nat), .bool false, .int .i64 v, .int .u64 (n : Nat), .int .i64 x] 34))).cs, (HQ.out.fr0 HOB.out (Fr.alloc S0 W (.cells #[.int .u8 (kd : Nat), .bool false, .int .i64 v, .int .u64 (n : Nat), .int .i64 x] 34))).cw, HBOX.out.1, HBOX.out.2.1⟩)
    go_enter Tryz.func15, Tryz.ntmps15
    go_upto_region 20 with fail
    go_region_held3 (fun w' => w'.cell? ⟨gs, 0, none⟩ = some (.pointer (some ⟨xA, 0, none⟩)) ∧ w'.cell? ⟨gw, 0, none⟩ = some (.pointer (some ⟨rA, 0, none⟩)) ∧ w'.cell? ⟨W.heap.size, 2, none⟩ = some (.int .i64 v) ∧ w'.cell? ⟨W.heap.size, 3, none⟩ = some (.int .u64 (n : Nat)))
      (first
        | (go_split_ands; exact ⟨by assumption, by assumption, by assumption, by assumption⟩)
        | exact HI.out
        | exact HS4.out
        | exact HS3.out
        | fail)
      (first
        | (go_at_call 38; ((with_reducible refine (HX.out _ ((Fr.alloc S0 W _).trans0 (Fr.drew S0 _))).mono ?_); rintro _ w3 ⟨rfl, hf, hq3⟩; have HQ3 := Lib.hid hq3; have HS3 := Lib.hid (show _ ∧ _ ∧ _ ∧ _ from ⟨hq3.cs, hq3.cw, hf.cell (a := ⟨W.heap.size, 2, none⟩) HBOX.out.1 HLT.out, hf.cell (a := ⟨W.heap.size, 3, none⟩) HBOX.out.2.1 HLT.out⟩); clear hf hq3))
        | (go_at_call 39; ((with_reducible refine (HY.out _ HQ3.out).mono ?_); rintro _ w4 ⟨rfl, hf, hq4⟩; have HQ4 := Lib.hid hq4; have HS4 := Lib.hid (show _ ∧ _ ∧ _ ∧ _ from ⟨hq4.cs, hq4.cw, hf.cell HS3.out.2.2.1 (fun h => by have h1 := HRL.out; have h2 : W.heap.size = rA := h; omega), hf.cell HS3.out.2.2.2 (fun h => by have h1 := HRL.out; have h2 : W.heap.size = rA := h; omega)⟩); clear hf hq4))
        | fail)
    all_goals
      go_wp2_with fail
      go_ret
      exact ⟨rfl, HQ4.out⟩
  · have HI := Lib.hid (show _ ∧ _ ∧ _ ∧ _ from ⟨(HQ.out.fr0 HOB.out (Fr.alloc S0 W (.cells #[.int .u8 (kd : Nat), .bool true, .int .i64 v, .int .u64 (n : Nat), .int .i64 x] 34))).cs, (HQ.out.fr0 HOB.out (Fr.alloc S0 W (.cells #[.int .u8 (kd : Nat), .bool true, .int .i64 v, .int .u64 (n : Nat), .int .i64 x] 34))).cw, HBOX.out.1, HBOX.out.2.1⟩)
    go_enter Tryz.func15, Tryz.ntmps15
    go_upto_region 20 with fail
    go_region_held3 (fun w' => w'.cell? ⟨gs, 1, none⟩ = some (.pointer (some ⟨xA, 0, none⟩)) ∧ w'.cell? ⟨gw, 1, none⟩ = some (.pointer (some ⟨rA, 0, none⟩)) ∧ w'.cell? ⟨W.heap.size, 2, none⟩ = some (.int .i64 v) ∧ w'.cell? ⟨W.heap.size, 3, none⟩ = some (.int .u64 (n : Nat)))
      (first
        | (go_split_ands; exact ⟨by assumption, by assumption, by assumption, by assumption⟩)
        | exact HI.out
        | exact HS4.out
        | exact HS3.out
        | fail)
      (first
        | (go_at_call 38; ((with_reducible refine (HX.out _ ((Fr.alloc S0 W _).trans0 (Fr.drew S0 _))).mono ?_); rintro _ w3 ⟨rfl, hf, hq3⟩; have HQ3 := Lib.hid hq3; have HS3 := Lib.hid (show _ ∧ _ ∧ _ ∧ _ from ⟨hq3.cs, hq3.cw, hf.cell (a := ⟨W.heap.size, 2, none⟩) HBOX.out.1 HLT.out, hf.cell (a := ⟨W.heap.size, 3, none⟩) HBOX.out.2.1 HLT.out⟩); clear hf hq3))
        | (go_at_call 39; ((with_reducible refine (HY.out _ HQ3.out).mono ?_); rintro _ w4 ⟨rfl, hf, hq4⟩; have HQ4 := Lib.hid hq4; have HS4 := Lib.hid (show _ ∧ _ ∧ _ ∧ _ from ⟨hq4.cs, hq4.cw, hf.cell HS3.out.2.2.1 (fun h => by have h1 := HRL.out; have h2 : W.heap.size = rA := h; omega), hf.cell HS3.out.2.2.2 (fun h => by have h1 := HRL.out; have h2 : W.heap.size = rA := h; omega)⟩); clear hf hq4))
        | fail)
    all_goals
      go_wp2_with fail
      go_ret
      exact ⟨rfl, HQ4.out⟩
end
end Go.Proofs.YthfcfmnaiopogaaGreat
