/- DgSort, DgDg, DgMay, DgPress, DgCat, DgCome, DgIn, DgTake -/
import Derived.Test.YtmieeoceckcnkaaPn1
import Derived.Test.YtmieeoceckcnkaaPn2
import Derived.Test.YtmieeoceckcnkaaPn4
import Derived.Test.YtmieeoceckcnkaaPn5
import Derived.Test.YtmieeoceckcnkaaPn6
import Derived.Test.YtmieeoceckcnkaaPn7
import Derived.Deep.RegionLaw
import Derived.Deep.RegionHeld3
import Derived.BigRegion
import Derived.Maps.AppendAt
import Derived.Laws.AppendOwnNone
import Derived.Laws.OwnMore
import Derived.Lib.AppendZerosOnto
import Derived.Lib.SliceRun
import Derived.Lib.Walk
import Derived.Laws.Externs
import Derived.Shelf.Spec.BitsCarry
import Derived.Deep.CutBlock
import Derived.Deep.CutRange
import Derived.Deep.DeepCutAuto
import Derived.Lib.BitFns
import Derived.Shelf.Small.Bits
import Derived.Shelf.Strconv.Itoa0
import Derived.Shelf.Bits.Mul64
import Derived.Test.YtmieeoceckcnkaaRows
import Derived.WalkKit
import Derived.WalkSpells
import Derived.WalkLawsBesides
import Derived.Deep.QuietTactic
import Derived.BigQuiet
import Derived.RegionTactic
import Derived.Deep.AppendLies
import Derived.Laws.ResultCell
import Derived.Laws.EntriesVeiled
import Derived.Lib.Hide
import Derived.Laws.BytesArg
import Derived.Lib.SlBytesConst
import Derived.StillTailTactics
set_option maxRecDepth 100000
set_option maxHeartbeats 8000000
namespace Go.Proofs.Ytmieeoceckcnkaa
open Go.RowKit
theorem srt_small {l : List Tm} (h : l.length < 2) : srt l = l := by
  cases l with
  | nil => rfl
  | cons x r =>
    cases r with
    | nil => rfl
    | cons y r => simp at h; omega
theorem Sl.firsts {w : World} {p : Option Addr} {n c k : Nat} {l : List Tm} (h : Sl w p n c l) (hk : k ≤ n) : Sl w p k c (l.take k) := by
  have h1 := h.len
  have h2 := h.cap
  exact ⟨h.tmi.take k, by rw [List.length_take]; omega, by omega, h.max, h.nil⟩
theorem Sl.rest {w : World} {b o n c k : Nat} {l : List Tm} (h : Sl w (some ⟨b, o, none⟩) n c l) (hk : k ≤ n) : Sl w (some ⟨b, o + k * 2, none⟩) (n - k) (c - k) (l.drop k) := by
  have h1 := h.len
  have h2 := h.cap
  have h3 := h.max
  exact ⟨h.tmi.drop k, by rw [List.length_drop]; omega, by omega, by omega, fun h => by cases h⟩
theorem sorted_any (n : Nat) : ∀ (p : Option Addr) (c : Nat) (l : List Tm) (w : World), Sl w p n c l → n ≤ 1000000000000 →
    Calls Try.prog 61 #[.slice p n c, ordF] w fun e w' => ∃ q d, e = .returned (.slice q n d) ∧ Sl w' q n d (srt l) ∧ Fr S0 w w' := by
  induction n using Nat.strongRecOn with
  | ind n ih =>
    intro p c l w h hN
    by_cases h2 : n < 2
    · have HS := Lib.hid h
      have hs := srt_small (l := l) (by rw [h.len]; exact h2)
      have d2 : decide ((n : Int) < 2) = true := decide_eq_true (by omega)
      have h2i : (n : Int) < 2 := by omega
      clear h ih
      go_enter Try.func61, Try.ntmps61
      go_wp2_with fail
      go_ret
      exact ⟨p, c, rfl, by rw [hs]; exact HS.out, Fr.refl _ _⟩
    · obtain ⟨k, hk⟩ : ∃ k, n / 2 = k := ⟨_, rfl⟩
      obtain ⟨m, hm⟩ : ∃ m, n - k = m := ⟨_, rfl⟩
      obtain ⟨b, o, rfl, -, -⟩ := h.at 0 (by rw [h.len]; omega)
      have hcap := h.cap
      have hmax := h.max
      have HA := Lib.hid (fun W (f : Fr S0 w W) => ih k (by omega) (some ⟨b, o, none⟩) c (l.take k) W ((h.fr0 f).firsts (by omega)) (by omega))
      have HB := Lib.hid (fun W (f : Fr S0 w W) => ih m (by omega) (some ⟨b, o + k * 2, none⟩) (c - k) (l.drop k) W (by rw [← hm]; exact (h.fr0 f).rest (by omega)) (by omega))
      have HM := Lib.hid (fun q d q2 d2 W (h1 : Sl W q k d (srt (l.take k))) (h2 : Sl W q2 m d2 (srt (l.drop k))) => (merged_any q q2 k m d d2 _ _ W h1 h2 (by omega)).mono fun e w' (he : ∃ v, e = .returned v ∧ Acc 68 W w' v (k + m) _) => show ∃ q3 d3, e = .returned (.slice q3 n d3) ∧ Sl w' q3 n d3 (srt l) ∧ Fr S0 W w' from by
        obtain ⟨v, rfl, ha⟩ := he
        obtain ⟨p3, c3, rfl, hs3⟩ := ha.sl
        have e3 : k + m = n := by omega
        rw [mrg_srt, List.take_append_drop, e3] at hs3
        rw [e3]
        exact ⟨p3, c3, rfl, hs3, ha.fr⟩)
      have ek : (n : Int) / 2 = (k : Int) := by omega
      have ek2 : (n : Int).tdiv 2 = (k : Int) := by rw [Int.tdiv_eq_ediv_of_nonneg (by omega)]; omega
      have em : (n : Int) - (k : Int) = (m : Int) := by omega
      have h2i : ¬ (n : Int) < 2 := by omega
      have h2n : 2 ≤ n := by omega
      have hkn : (k : Int) ≤ (n : Int) := by omega
      have hkc : (k : Int) ≤ (c : Int) := by omega
      have hnc : (n : Int) ≤ (c : Int) := by omega
      have hck : ¬ c = k := by omega
      unfold maxLen at hmax
      clear ih h h2 hk hcap
      go_enter Try.func61, Try.ntmps61
      go_wp2_with fail
      go_region_law (first
        | (go_simp; go_at_call 61; (with_reducible refine (HA.out _ (Fr.drew S0 _)).mono ?_); rintro _ w5 ⟨q5, d5, rfl, s5, f5⟩; have S5 := Lib.hid s5; have F5 := Lib.hid ((Fr.drew S0 w).trans0 f5); clear s5 f5; dsimp only)
        | (go_simp; go_at_call 61; (with_reducible refine (HB.out _ F5.out).mono ?_); rintro _ w6 ⟨q6, d6, rfl, s6, f6⟩; have S5b := Lib.hid (S5.out.fr0 f6); have S6 := Lib.hid s6; have F6 := Lib.hid (F5.out.trans0 f6); clear s6 f6; dsimp only)
        | (go_simp; go_at_call 60; (with_reducible refine (HM.out _ _ _ _ _ S5b.out S6.out).mono ?_); rintro _ w7 ⟨q7, d7, rfl, s7, f7⟩; have S7 := Lib.hid s7; have F7 := Lib.hid (F6.out.trans0 f7); clear s7 f7; dsimp only)
        | fail)
      all_goals
        go_wp2_with fail
        go_ret
        exact ⟨_, _, rfl, S7.out, F7.out⟩
end Go.Proofs.Ytmieeoceckcnkaa

namespace Go.Proofs.Ytmieeoceckcnkaa
open Go.RowKit
theorem results_row {P : Program} {fn : Func} {p : Tmp} {ty : TypeId} (h : fn.results = #[.cell p ty]) (tmps : Array Value) (w : World) {g : Nat} {t : TypeId} {cs : Array Value} {fr : Nat × Nat} {d : TypeDesc}
    (hp : tmps.getD p undef = .pointer (some ⟨g, 0, none⟩)) (hg : w.heap[g]? = some (.cells cs t fr))
    (hu : P.underlying ty = some d) (hd : (match d with | .struct _ | .array _ _ => true | _ => false) = true) (hi : (P.info? ty).map (·.size) = some cs.size) :
    (results fn tmps).run P w = .ok (.agg cs) w := by
  have hrun := run_loadVar_row w g t ty cs fr d hg hu hd hi
  rw [Array.getD_eq_getD_getElem?] at hp
  unfold results
  rw [h]
  simp [hp, asAddr, hrun]
structure Dg where
  d : Nat
  L : List Tm
  W : List Tm
  lo : Int
  hi : Int
def Dg.all (x : Dg) : List Tm := x.L ++ x.W
def Dg.tot (x : Dg) : Nat := wts x.all
structure Dg.Good (x : Dg) : Prop where
  d1 : 10 ≤ x.d
  d2 : x.d ≤ 1000
  ris : Ris x.L
  fit : ∀ t ∈ x.all, Fit x.lo x.hi t
  l1 : -9223372036854775808 ≤ x.lo
  l2 : x.lo ≤ 9223372036854775807
  h1 : -9223372036854775808 ≤ x.hi
  h2 : x.hi ≤ 9223372036854775807
  tot : x.tot ≤ 281474976710656
  emp : x.all = [] → x.lo = 0 ∧ x.hi = 0
structure DgIs (w : World) (g : Nat) (C : Nat → Prop) (p : Option Addr) (n c : Nat) (q : Option Addr) (m e : Nat) (x : Dg) : Prop where
  blk : w.heap[g]? = some (.cells #[.int .i64 (x.d : Nat), .slice p n c, .slice q m e, .int .i64 x.lo, .int .i64 x.hi, .int .u64 (x.tot : Nat)] 59 (0, 0))
  list : w.ownsRow 0 68 2 (.slice p n c) n (prs x.L)
  wait : w.ownsRow 0 68 2 (.slice q m e) m (prs x.W)
  apart : ∀ k, Value.ownBlock (.slice p n c) = some k → k ≠ g ∧ C k ∧ Value.ownBlock (.slice q m e) ≠ some k
  other : ∀ k, Value.ownBlock (.slice q m e) = some k → k ≠ g ∧ C k
  self : C g
  below : ∀ b, C b → b < w.heap.size
  good : x.Good
section
variable {S C : Nat → Prop} {w w' : World} {g n c m e : Nat} {p q : Option Addr} {x : Dg}
theorem DgIs.fr (s : DgIs w g C p n c q m e x) (f : Fr S w w') (ho : ∀ b, C b → ¬ S b) : DgIs w' g C p n c q m e x :=
  ⟨f.row s.blk (ho g s.self), f.owns s.list fun k hk => ho k (s.apart k hk).2.1, f.owns s.wait fun k hk => ho k (s.other k hk).2, s.apart, s.other, s.self, fun b hb => Nat.lt_of_lt_of_le (s.below b hb) f.size, s.good⟩
theorem DgIs.fr0 (s : DgIs w g C p n c q m e x) (f : Fr S0 w w') : DgIs w' g C p n c q m e x := s.fr f fun _ _ h => h
theorem DgIs.c0 (s : DgIs w g C p n c q m e x) : w.cell? ⟨g, 0, none⟩ = some (.int .i64 (x.d : Nat)) := by simp [World.cell?, s.blk]
theorem DgIs.c1 (s : DgIs w g C p n c q m e x) : w.cell? ⟨g, 1, none⟩ = some (.slice p n c) := by simp [World.cell?, s.blk]
theorem DgIs.c2 (s : DgIs w g C p n c q m e x) : w.cell? ⟨g, 2, none⟩ = some (.slice q m e) := by simp [World.cell?, s.blk]
theorem DgIs.c3 (s : DgIs w g C p n c q m e x) : w.cell? ⟨g, 3, none⟩ = some (.int .i64 x.lo) := by simp [World.cell?, s.blk]
theorem DgIs.c4 (s : DgIs w g C p n c q m e x) : w.cell? ⟨g, 4, none⟩ = some (.int .i64 x.hi) := by simp [World.cell?, s.blk]
theorem DgIs.c5 (s : DgIs w g C p n c q m e x) : w.cell? ⟨g, 5, none⟩ = some (.int .u64 (x.tot : Nat)) := by simp [World.cell?, s.blk]
theorem DgIs.z (s : DgIs w g C p n c q m e x) (k : Nat) : w.frozen? ⟨g, k, none⟩ = false := by simp [World.frozen?, s.blk]
theorem DgIs.slL (s : DgIs w g C p n c q m e x) : Sl w p n c x.L := Sl.ofOwns s.list
theorem DgIs.slW (s : DgIs w g C p n c q m e x) : Sl w q m e x.W := Sl.ofOwns s.wait
theorem DgIs.lt (s : DgIs w g C p n c q m e x) : g < w.heap.size := s.below g s.self
end
def DIs (w : World) (g : Nat) (C : Nat → Prop) (x : Dg) : Prop := ∃ p n c q m e, DgIs w g C p n c q m e x
theorem DIs.fr {S C : Nat → Prop} {w w' : World} {g : Nat} {x : Dg} (s : DIs w g C x) (f : Fr S w w') (ho : ∀ b, C b → ¬ S b) : DIs w' g C x := let ⟨p, n, c, q, m, e, s⟩ := s; ⟨p, n, c, q, m, e, s.fr f ho⟩
theorem DIs.fr0 {C : Nat → Prop} {w w' : World} {g : Nat} {x : Dg} (s : DIs w g C x) (f : Fr S0 w w') : DIs w' g C x := s.fr f fun _ _ h => h
def DTurn (w w' : World) (g : Nat) (C : Nat → Prop) (x : Dg) : Prop := ∃ C', DIs w' g C' x ∧ Fr C w w' ∧ ∀ b, C' b → C b ∨ w.heap.size ≤ b
theorem with_any (a b : Int) (n m : Nat) (w : World) (ha : TmOk (a, n)) (hb : TmOk (b, m)) (hs : n + m < 18446744073709551616) (h0 : 0 < n + m) :
    Calls Try.prog 63 #[.agg #[.int .i64 a, .int .u64 (n : Nat)], .agg #[.int .i64 b, .int .u64 (m : Nat)]] w fun e w' => e = .returned (.agg #[.int .i64 (avm (a, n) (b, m)), .int .u64 ((n + m : Nat) : Int)]) ∧ Fr S0 w w' := by
  have hno : ¬ MeanNo [(a, n), (b, m)] := by simp [MeanNo, wts]; omega
  have HC := Lib.hid (fun W => (avg_any a b n m W ha hb).mono fun e w' he => he.yes hno)
  unfold avm
  obtain ⟨V, eV⟩ : ∃ V : Int, ((lsm [(a, n), (b, m)] / wts [(a, n), (b, m)] : Nat) : Int) - 9223372036854775808 = V := ⟨_, rfl⟩
  rw [eV] at HC ⊢
  obtain ⟨U, eU⟩ : ∃ U, n + m = U := ⟨_, rfl⟩
  have eU2 : (n : Int) + (m : Int) = (U : Int) := by omega
  have hU : (U : Int) < 18446744073709551616 := by omega
  rw [eU]
  have HB := Lib.hid (fun W (f : Fr S0 (((w.alloc (.cells #[.int .i64 a, .int .u64 (n : Nat)] 68)).alloc (.cells #[.int .i64 b, .int .u64 (m : Nat)] 68)).alloc (.cells #[.int .i64 0, .int .u64 0] 68)) W) => show
      W.cell? ⟨w.heap.size, 1, none⟩ = some (.int .u64 (n : Nat)) ∧ W.cell? ⟨w.heap.size + 1, 1, none⟩ = some (.int .u64 (m : Nat)) ∧ W.heap[w.heap.size + 2]? = some (.cells #[.int .i64 0, .int .u64 0] 68 (0, 0)) from by
    have h1 := heap_alloc_new w (.cells #[.int .i64 a, .int .u64 (n : Nat)] 68)
    have h2 := heap_alloc_new (w.alloc (.cells #[.int .i64 a, .int .u64 (n : Nat)] 68)) (.cells #[.int .i64 b, .int .u64 (m : Nat)] 68)
    have h3 := heap_alloc_new ((w.alloc (.cells #[.int .i64 a, .int .u64 (n : Nat)] 68)).alloc (.cells #[.int .i64 b, .int .u64 (m : Nat)] 68)) (.cells #[.int .i64 0, .int .u64 0] 68)
    rw [size_alloc] at h2
    rw [size_alloc, size_alloc] at h3
    have k1 := f.row ((Fr.alloc S0 _ _).row ((Fr.alloc S0 _ _).row h1 (fun h => h)) (fun h => h)) (fun h => h)
    have k2 := f.row ((Fr.alloc S0 _ _).row h2 (fun h => h)) (fun h => h)
    have k3 := f.row h3 (fun h => h)
    exact ⟨by rw [World.cell?, k1]; rfl, by rw [World.cell?, k2]; rfl, k3⟩)
  have HF : Hid (Fr S0 w (((w.alloc (.cells #[.int .i64 a, .int .u64 (n : Nat)] 68)).alloc (.cells #[.int .i64 b, .int .u64 (m : Nat)] 68)).alloc (.cells #[.int .i64 0, .int .u64 0] 68))) := Lib.hid (((Fr.alloc S0 w _).trans0 (Fr.alloc _ _ _)).trans0 (Fr.alloc _ _ _))
  clear ha hb hs h0 hno eV eU
  go_enter Try.func63, Try.ntmps63
  go_wp2_with fail
  refine (HC.out _).mono ?_
  rintro e w1 ⟨rfl, f1⟩
  have HH := Lib.hid (HB.out w1 f1)
  obtain ⟨k1, k2, k3⟩ := HB.out w1 f1
  have HF1 := Lib.hid (HF.out.trans0 f1)
  have HSZ : Hid (w.heap.size + 2 ≥ w.heap.size) := Lib.hid (by omega)
  clear f1 HC HB HF
  obtain ⟨z0, z1, z2, z3⟩ := two_facts k3
  have HSET := Lib.hid (two_set k3 (.int .i64 V) (.int .u64 (U : Int)))
  clear k3
  go_wp2_with fail
  refine bodyPost_ret (v := .agg #[.int .i64 V, .int .u64 (U : Int)]) (results_row Try.results63 _ _ rfl HSET.out Try.underlying68 rfl (by kernel_rfl)) rfl ⟨rfl, (HF1.out.set _ _ ?_).set _ _ ?_⟩
  · exact HSZ.out
  · exact HSZ.out
end Go.Proofs.Ytmieeoceckcnkaa

namespace Go.Proofs.Ytmieeoceckcnkaa
open Go.RowKit
theorem cmpI_le (x y : Nat) : decide (cmpI x y ≤ 0) = decide (x ≤ y) := by
  unfold cmpI
  split
  · simp; omega
  · split <;> simp <;> omega
theorem cmpW_words (x y : Nat) : cmpW (x / 18446744073709551616) (x % 18446744073709551616) (y / 18446744073709551616) (y % 18446744073709551616) = cmpI x y := by
  unfold cmpW
  rw [show x / 18446744073709551616 * 18446744073709551616 + x % 18446744073709551616 = x by omega, show y / 18446744073709551616 * 18446744073709551616 + y % 18446744073709551616 = y by omega]
theorem may_any (g d n L W : Nat) (w : World) (c0 : w.cell? ⟨g, 0, none⟩ = some (.int .i64 (d : Nat))) (c5 : w.cell? ⟨g, 5, none⟩ = some (.int .u64 (n : Nat))) (hd : d ≤ 1000) (hn : n ≤ 281474976710656) (hL : L + W ≤ n) :
    Calls Try.prog 62 #[.pointer (some ⟨g, 0, none⟩), .int .u64 (L : Nat), .int .u64 (W : Nat)] w fun e w' => e = .returned (.bool (may d n L W)) ∧ Fr S0 w w' := by
  unfold may
  obtain ⟨L2, eL2⟩ : ∃ L2, 2 * L = L2 := ⟨_, rfl⟩
  obtain ⟨M, eM⟩ : ∃ M, L2 + W = M := ⟨_, rfl⟩
  obtain ⟨N2, eN2⟩ : ∃ N2, 2 * n = N2 := ⟨_, rfl⟩
  obtain ⟨R, eR⟩ : ∃ R, N2 - M = R := ⟨_, rfl⟩
  obtain ⟨WD, eWD⟩ : ∃ WD, W * d = WD := ⟨_, rfl⟩
  have hWD : WD < 18446744073709551616 := by
    have h1 : W * d ≤ 281474976710656 * 1000 := Nat.mul_le_mul (by omega) hd
    omega
  rw [eL2, eM, eN2, eR, eWD]
  have iL2 : 2 * (L : Int) = (L2 : Int) := by omega
  have iM : (L2 : Int) + (W : Int) = (M : Int) := by omega
  have iN2 : IntKind.u64.wrap (2 * (n : Int)) = (N2 : Int) := by rw [IntKind.wrap_u64]; omega
  have iR : IntKind.u64.wrap ((N2 : Int) - (M : Int)) = (R : Int) := by rw [IntKind.wrap_u64]; omega
  have iWD : IntKind.u64.wrap ((W : Int) * (d : Int)) = (WD : Int) := by rw [← Int.natCast_mul, eWD, IntKind.wrap_u64]; omega
  have id : IntKind.u64.wrap (d : Int) = (d : Int) := by rw [IntKind.wrap_u64]; omega
  have HM1 := Lib.hid (fun V => mul_any WD n V hWD (by omega))
  have HM2 := Lib.hid (fun V => mul_any M R V (by omega) (by omega))
  have HCM := Lib.hid (fun V => cmp_any (WD * n / 18446744073709551616) (WD * n % 18446744073709551616) (M * R / 18446744073709551616) (M * R % 18446744073709551616) V (Nat.mod_lt _ (by decide)) (Nat.mod_lt _ (by decide)))
  rw [cmpW_words] at HCM
  have HE := Lib.hid (cmpI_le (WD * n) (M * R))
  obtain ⟨Z, eZ⟩ : ∃ Z, cmpI (WD * n) (M * R) = Z := ⟨_, rfl⟩
  rw [eZ] at HCM HE
  simp only [nv] at HM1 HM2
  obtain ⟨A, eA⟩ : ∃ A, WD * n / 18446744073709551616 = A := ⟨_, rfl⟩
  obtain ⟨B, eB⟩ : ∃ B, WD * n % 18446744073709551616 = B := ⟨_, rfl⟩
  obtain ⟨C, eC⟩ : ∃ C, M * R / 18446744073709551616 = C := ⟨_, rfl⟩
  obtain ⟨D, eD⟩ : ∃ D, M * R % 18446744073709551616 = D := ⟨_, rfl⟩
  rw [eA, eB] at HM1 HCM
  rw [eC, eD] at HM2 HCM
  obtain ⟨Y, eY⟩ : ∃ Y, decide (WD * n ≤ M * R) = Y := ⟨_, rfl⟩
  rw [eY] at HE ⊢
  have bM : (M : Int) < 18446744073709551616 := by omega
  have bL : (L2 : Int) < 18446744073709551616 := by omega
  have HC := Lib.hid (fun V (f : Fr S0 w V) => And.intro (f.cell c0 fun h => h) (f.cell c5 fun h => h))
  clear eL2 eM eN2 eR eWD hWD eA eB eC eD eZ eY hL hn hd
  go_enter Try.func62, Try.ntmps62
  go_wp2_with fail
  go_region_held3 (fun w' => w'.cell? ⟨g, 0, none⟩ = some (.int .i64 (d : Nat)) ∧ w'.cell? ⟨g, 5, none⟩ = some (.int .u64 (n : Nat)))
    (first
      | exact HC.out _ F3.out
      | exact HC.out _ F2.out
      | exact HC.out _ F1.out
      | exact HC.out _ (Fr.drew S0 _)
      | exact HC.out _ (Fr.refl S0 _)
      | fail)
    (first
      | (go_at_call 67; ((with_reducible refine (HM1.out _).mono ?_); rintro _ w1 ⟨rfl, f⟩; have F1 := Lib.hid ((Fr.drew S0 w).trans0 f); clear f))
      | (go_at_call 67; ((with_reducible refine (HM2.out _).mono ?_); rintro _ w2 ⟨rfl, f⟩; have F2 := Lib.hid (F1.out.trans0 f); clear f))
      | (go_at_call 68; ((with_reducible refine (HCM.out _).mono ?_); rintro _ w3 ⟨rfl, f⟩; have F3 := Lib.hid (F2.out.trans0 f); clear f))
      | fail)
  all_goals
    go_wp2_with fail
    go_ret
    exact ⟨congrArg (fun z => Ending.returned (Value.bool z)) HE.out, F3.out⟩
end Go.Proofs.Ytmieeoceckcnkaa

namespace Go.Proofs.Ytmieeoceckcnkaa
open Go.RowKit
theorem prs_set2 (o : List Tm) (q : Tm) (v : Int) (n K : Nat) (hK : o.length = K) : ((prs (o ++ [q])).set (K * 2) (.int .i64 v)).set (K * 2 + 1) (.int .u64 (n : Int)) = prs (o ++ [(v, n)]) := by
  have hl : (prs o).length = K * 2 := by rw [prs_len, hK]
  rw [prs_app, prs_app, List.set_append_right _ _ (by omega), List.set_append_right _ _ (by omega)]
  rw [hl, Nat.sub_self, Nat.add_sub_cancel_left]
  rfl
theorem Acc.last {e : TypeId} {w W : World} {v : Value} {K : Nat} {o : List Tm} {q : Tm} (h : Acc e w W v (K + 1) (o ++ [q])) : ∃ r c, v = .slice (some ⟨r, 0, none⟩) (K + 1) c ∧ w.heap.size ≤ r ∧ r < W.heap.size ∧
    (∀ W', Acc e w W' v (K + 1) (o ++ [q]) → W'.cell? ⟨r, K * 2, none⟩ = some (.int .i64 q.1) ∧ W'.cell? ⟨r, K * 2 + 1, none⟩ = some (.int .u64 (q.2 : Nat)) ∧ W'.frozen? ⟨r, K * 2, none⟩ = false ∧ W'.frozen? ⟨r, K * 2 + 1, none⟩ = false) ∧
    (∀ W' (x : Int) (n : Nat), Acc e w W' v (K + 1) (o ++ [q]) → Acc e w ((W'.setCell ⟨r, K * 2, none⟩ (.int .i64 x)).setCell ⟨r, K * 2 + 1, none⟩ (.int .u64 (n : Int))) v (K + 1) (o ++ [(x, n)])) := by
  obtain ⟨r, c, rfl⟩ : ∃ r c, v = .slice (some ⟨r, 0, none⟩) (K + 1) c := by
    rcases h.own.2 with ⟨h1, h2⟩ | ⟨g, cap, cur, h1, -⟩
    · omega
    · exact ⟨g, cap, h1⟩
  have hlen := h.len
  simp only [List.length_append, List.length_cons, List.length_nil] at hlen
  have hoK : o.length = K := by omega
  refine ⟨r, c, rfl, h.fresh r rfl, (h.own.lt r rfl).2, fun W' a => ?_, fun W' x n a => ?_⟩
  · have hs := Sl.ofOwns a.own
    obtain ⟨b', o', hp, c0, c1⟩ := hs.at K (by simp; omega)
    simp only [Option.some.injEq, Addr.mk.injEq] at hp
    obtain ⟨rfl, rfl, -⟩ := hp
    have e : (o ++ [q])[K]'(by simp; omega) = q := by
      rw [List.getElem_append_right (by omega)]
      simp
    rw [e, Nat.zero_add] at c0 c1
    exact ⟨c0, c1, a.own.frozenAt _, a.own.frozenAt _⟩
  · have s1 := a.own.stored (K * 2) (.int .i64 x)
    have s2 := s1.1.stored (K * 2 + 1) (.int .u64 (n : Int))
    rw [prs_set2 o q x n K hoK] at s2
    exact ⟨s2.1, a.fresh, (a.fr.append s1.2 fun k hk => by obtain rfl := Option.some.inj hk; exact a.fresh r rfl).append s2.2 fun k hk => by obtain rfl := Option.some.inj hk; exact a.fresh r rfl⟩
theorem Fit.ok {lo hi : Int} {t : Tm} (h : Fit lo hi t) (h1 : -9223372036854775808 ≤ lo) (h2 : hi ≤ 9223372036854775807) (hn : t.2 < 18446744073709551616) : TmOk t := ⟨Int.le_trans h1 h.lo, Int.le_trans h.hi h2, hn⟩
theorem wts_mem {l : List Tm} {t : Tm} (h : t ∈ l) : t.2 ≤ wts l := by
  induction l with
  | nil => cases h
  | cons x r ih =>
    rw [wts_cons]
    rcases List.mem_cons.1 h with rfl | h
    · omega
    · have := ih h; omega
section
variable (g : Nat) (C : Nat → Prop) (p : Option Addr) (n c : Nat) (q : Option Addr) (m e : Nat) (x : Dg) (w : World)
theorem pressed_any (s : DgIs w g C p n c q m e x) (hN : x.all.length ≤ 500000000000) :
    Calls Try.prog 55 #[.pointer (some ⟨g, 0, none⟩)] w fun e w' => ∃ v k, e = .returned v ∧ Acc 68 w w' v k (press x.d x.all) := by
  have hg := s.good
  have hmrg : mrg x.L (srt x.W) = srt x.all := by
    have h := mrg_srt x.L x.W
    rw [srt_of hg.ris] at h
    exact h
  have hLl := s.slL.len
  have hWl := s.slW.len
  have hall : x.all.length = n + m := by unfold Dg.all; rw [List.length_append, hLl, hWl]
  obtain ⟨N, eN⟩ : ∃ N, n + m = N := ⟨_, rfl⟩
  have HSO := Lib.hid (fun W (f : Fr S0 w W) => sorted_any m q e x.W W (s.slW.fr0 f) (by omega))
  have HMG := Lib.hid (fun q' d' W (f : Fr S0 w W) (h : Sl W q' m d' (srt x.W)) => (merged_any p q' n m c d' _ _ W (s.slL.fr0 f) h (by omega)).mono fun e w' (he : ∃ v, e = .returned v ∧ Acc 68 W w' v (n + m) _) => show ∃ p3 c3, e = .returned (.slice p3 N c3) ∧ Sl w' p3 N c3 (srt x.all) ∧ Fr S0 W w' from by
    obtain ⟨v, rfl, ha⟩ := he
    obtain ⟨p3, c3, rfl, hs3⟩ := ha.sl
    rw [hmrg, eN] at hs3
    exact ⟨p3, c3, by rw [eN], hs3, ha.fr⟩)
  have HC := Lib.hid (fun W (f : Fr S0 w W) => And.intro (s.fr0 f).c1 (s.fr0 f).c2)
  have HMAY := Lib.hid (fun L V W (f : Fr S0 w W) (h : L + V ≤ x.tot) => may_any g x.d x.tot L V W (s.fr0 f).c0 (s.fr0 f).c5 hg.d2 hg.tot h)
  have HRUN := Lib.hid (fun i => run_inv (lo := x.lo) (hi := x.hi) x.d x.tot hg.l1 ((srt x.all).take i) (ris_take (srt_ris _) i) (fun t ht => srt_fit hg.fit t (List.mem_of_mem_take ht)))
  have HFIT := Lib.hid (srt_fit hg.fit)
  have HTOT : Hid (wts (srt x.all) = x.tot) := Lib.hid (srt_wts _)
  have HG := Lib.hid hg
  have HP : Hid (press x.d x.all = (run x.d x.tot (srt x.all)).1) := Lib.hid rfl
  obtain ⟨M, eM⟩ : ∃ M, srt x.all = M := ⟨_, rfl⟩
  rw [eM] at HMG HRUN HFIT HTOT HP
  have hNb : N ≤ 500000000000 := by omega
  obtain ⟨k1, k2⟩ := HC.out w (Fr.refl _ _)
  clear s hg hmrg hLl hWl hall eN eM hN
  go_enter Try.func55, Try.ntmps55
  go_wp2_with fail
  go_region_held3 (fun w' => w'.cell? ⟨g, 1, none⟩ = some (.slice p n c) ∧ w'.cell? ⟨g, 2, none⟩ = some (.slice q m e))
    (first
      | exact HC.out _ F2.out
      | exact HC.out _ F1.out
      | exact HC.out _ (Fr.drew S0 _)
      | exact HC.out _ (Fr.refl S0 _)
      | fail)
    (first
      | (go_at_call 61; ((with_reducible refine (HSO.out _ (Fr.drew S0 _)).mono ?_); rintro _ w1 ⟨q1, d1, rfl, s1, f⟩; have F1 := Lib.hid ((Fr.drew S0 w).trans0 f); have S1 := Lib.hid s1; clear f s1))
      | (go_at_call 60; ((with_reducible refine (HMG.out _ _ _ F1.out S1.out).mono ?_); rintro _ w2 ⟨q2, d2, rfl, s2, f⟩; have F2 := Lib.hid (F1.out.trans0 f); have S2 := Lib.hid s2; clear f s2))
      | fail)
  clear HSO HMG k1 k2
  go_wp2_with fail
  go_loopw [3, 4, 19] (fun o dn i wr => ∃ (j k : Nat), j ≤ N ∧ i = .int .i64 j ∧ k ≤ j ∧ dn = .int .u64 ((run x.d x.tot (M.take j)).2 : Nat) ∧ Hid (Acc 68 w2 wr o k (run x.d x.tot (M.take j)).1)) (fun _ _ i _ => N - (intOf i).toNat)
  case atStart => exact ⟨0, 0, by omega, rfl, by omega, rfl, Lib.hid (Acc.nil (Fr.refl _ _))⟩
  case round =>
    obtain ⟨j, k, hj, rfl, hkj, rfl, hacc⟩ := hrel
    by_cases hjN : (j : Int) < (N : Int)
    · have hjl : j < M.length := by rw [S2.out.len]; omega
      obtain ⟨b, o, rfl, c0, c1⟩ := (S2.out.fr0 hacc.out.fr).at j hjl
      have HST := Lib.hid (run_take (d := x.d) (n := x.tot) hjl)
      have hfit := HFIT.out _ (List.getElem_mem hjl)
      obtain ⟨hinv, -⟩ := HRUN.out j
      obtain ⟨ht1, -⟩ := wts_take M j hjl
      have ht2 := wts_take_le M (j + 1)
      rw [HTOT.out] at ht2
      obtain ⟨⟨tv, tn⟩, ht⟩ : ∃ t, M[j] = t := ⟨_, rfl⟩
      rw [ht] at c0 c1 HST hfit ht1
      simp only at c0 c1 ht1
      obtain ⟨⟨O, L⟩, hr⟩ : ∃ s, run x.d x.tot (M.take j) = s := ⟨_, rfl⟩
      rw [hr] at hacc HST hinv ⊢
      simp only at hacc
      have hsum : wts O + tn ≤ x.tot := by have := hinv.sum; simp only at this; omega
      have htot := HG.out.tot
      have hR1 : Hid (Room (k + 1)) := Lib.hid (Room.mk (by omega))
      obtain ⟨pv, cv, rfl⟩ := slFormN hacc.out.own
      have fb : Fr S0 wr (wr.alloc (.cells #[.int .i64 tv, .int .u64 (tn : Int)] 68)) := Fr.alloc _ _ _
      have HA2 := Lib.hid (hacc.out.fr0 fb)
      have hB := heap_alloc_new wr (.cells #[.int .i64 tv, .int .u64 (tn : Int)] 68)
      have HBX := Lib.hid (fun W (f : Fr S0 (wr.alloc (.cells #[.int .i64 tv, .int .u64 (tn : Int)] 68)) W) => two_facts (f.row hB fun h => h))
      obtain ⟨b0, b1, -, -⟩ := HBX.out _ (Fr.refl _ _)
      have hkN : k ≤ N := by omega
      rcases last_or O with rfl | ⟨I, ⟨qv, qn⟩, rfl⟩
      · obtain rfl : k = 0 := by have := hacc.out.len; simpa using this.symm
        have HE : Hid (run x.d x.tot (M.take (j + 1)) = ([(tv, tn)], L)) := Lib.hid HST.out
        clear hr HST hfit hinv ht1 ht2 ht hsum htot hacc fb hB b0 b1 hkN
        go_wp2_with (at_builtin; refine app_one elMn (.tmp 40) (.tmp 42) (size_alloc _ _) HA2.out.own rfl rfl rfl rfl rfl (one_pr tv tn) hR1.out ?_; intro g1 cap1 w3 hown hgrow hat hlt; have HA3 := Lib.hid (HA2.out.app hown hgrow (hat.imp id fun h => h.trans (by rw [size_alloc]))); clear hown hgrow hat hlt)
        go_roundw
        case rel => exact ⟨j + 1, 0 + 1, by omega, by go_num, by omega, by rw [HE.out], by rw [HE.out]; exact HA3⟩
        case measure => simp [intOf]; omega
      · obtain ⟨K, rfl⟩ : ∃ K, k = K + 1 := ⟨k - 1, by have := hacc.out.len; simp at this; omega⟩
        obtain ⟨r, c9, hpv, hr1, hr2, hcel, hset⟩ := hacc.out.last
        simp only [Value.slice.injEq, true_and] at hpv
        obtain ⟨rfl, rfl⟩ := hpv
        have HCEL := Lib.hid (fun W (f : Fr S0 (wr.alloc (.cells #[.int .i64 tv, .int .u64 (tn : Int)] 68)) W) => hcel W (HA2.out.fr0 f))
        have HSET := Lib.hid hset
        have hqf : Fit x.lo x.hi (qv, qn) := hinv.fit _ (by simp)
        have hdone := hinv.done
        simp only [List.dropLast_concat] at hdone
        have hLq : wts (I ++ [(qv, qn)]) = L + qn := by rw [wts_app, ← hdone]; simp [wts]
        rw [hLq] at hsum
        have hqn : qn < 18446744073709551616 := by omega
        have htn : tn < 18446744073709551616 := by omega
        have hq0 : 0 < qn + tn := by have h9 : 0 < qn := hqf.n; omega
        have hqt : qn + tn < 18446744073709551616 := by omega
        obtain ⟨V, eV⟩ : ∃ V, qn + tn = V := ⟨_, rfl⟩
        have iV : (qn : Int) + (tn : Int) = (V : Int) := by omega
        have wV : IntKind.u64.wrap (V : Int) = (V : Int) := by rw [IntKind.wrap_u64]; omega
        have HWI := Lib.hid (fun W => with_any qv tv qn tn W (hqf.ok HG.out.l1 HG.out.h2 hqn) (hfit.ok HG.out.l1 HG.out.h2 htn) hqt hq0)
        have HMY := Lib.hid (fun W (f : Fr S0 (wr.alloc (.cells #[.int .i64 tv, .int .u64 (tn : Int)] 68)) W) => HMAY.out L V W ((F2.out.trans0 HA2.out.fr).trans0 f) (by omega))
        obtain ⟨Z, eZ⟩ : ∃ Z, may x.d x.tot L V = Z := ⟨_, rfl⟩
        rw [eZ] at HMY
        obtain ⟨A, eA⟩ : ∃ A, avm (qv, qn) (tv, tn) = A := ⟨_, rfl⟩
        rw [eA] at HWI
        simp only [eV] at HWI
        have HE : Hid (run x.d x.tot (M.take (j + 1)) = if Z then (I ++ [(A, V)], L) else (I ++ [(qv, qn)] ++ [(tv, tn)], L + qn)) := Lib.hid (by rw [HST.out, stp_snoc]; simp only [eV, eZ, join, eA])
        have iL : (L : Int) + (qn : Int) = ((L + qn : Nat) : Int) := by omega
        obtain ⟨L2, eL2⟩ : ∃ L2, L + qn = L2 := ⟨_, rfl⟩
        rw [eL2] at HE iL
        have hL2 : (L2 : Int) ≤ 281474976710656 := by omega
        have hKi : (0 : Int) ≤ (K : Int) := by omega
        have hKN : (K : Int) < (K : Int) + 1 := by omega
        have hKb : K ≤ 500000000000 := by omega
        obtain ⟨a0, a1, a2, a3⟩ := HCEL.out _ (Fr.refl _ _)
        clear hr HST hfit hinv ht1 ht2 ht hsum htot hacc fb hB hcel hset hqf hdone hLq eV eZ eA eL2 hqn htn hq0 hqt
        cases Z with
        | true =>
          rw [if_pos rfl] at HE
          go_wp2_with fail
          go_region_held3 (fun w' => w'.cell? ⟨r, K * 2 + 1, none⟩ = some (.int .u64 (qn : Nat)) ∧ w'.cell? ⟨wr.heap.size, 1, none⟩ = some (.int .u64 (tn : Nat)))
            (first
              | exact And.intro (HCEL.out _ G1.out).2.1 (HBX.out _ G1.out).2.1
              | exact And.intro (HCEL.out _ (Fr.drew S0 _)).2.1 (HBX.out _ (Fr.drew S0 _)).2.1
              | exact And.intro (HCEL.out _ (Fr.refl S0 _)).2.1 (HBX.out _ (Fr.refl S0 _)).2.1
              | fail)
            (first
              | (go_at_call 62; ((with_reducible refine (HMY.out _ (Fr.drew S0 _)).mono ?_); rintro _ w3 ⟨rfl, f⟩; have G1 := Lib.hid ((Fr.drew S0 _).trans0 f); clear f))
              | fail)
          obtain ⟨a0, a1, a2, a3⟩ := HCEL.out _ G1.out
          obtain ⟨b0, b1, -, -⟩ := HBX.out _ G1.out
          go_wp2_with fail
          go_region_law (first
            | (go_simp; go_at_call 63; (with_reducible refine (HWI.out _).mono ?_); rintro _ w5 ⟨rfl, f5⟩; have G5 := Lib.hid ((G1.out.trans0 (Fr.drew S0 _)).trans0 f5); obtain ⟨e0, e1, e2, e3⟩ := HCEL.out _ G5.out; have HAS := Lib.hid (HSET.out w5 A V (HA2.out.fr0 G5.out)); clear f5; dsimp only))
          all_goals
            go_wp2_with fail
            go_roundw
            case rel => exact ⟨j + 1, K + 1, by omega, by go_num, by omega, by rw [HE.out], by rw [HE.out]; exact HAS⟩
            case measure => simp [intOf]; omega
        | false =>
          rw [if_neg (by decide)] at HE
          go_wp2_with fail
          go_region_held3 (fun w' => w'.cell? ⟨r, K * 2 + 1, none⟩ = some (.int .u64 (qn : Nat)) ∧ w'.cell? ⟨wr.heap.size, 1, none⟩ = some (.int .u64 (tn : Nat)))
            (first
              | exact And.intro (HCEL.out _ G1.out).2.1 (HBX.out _ G1.out).2.1
              | exact And.intro (HCEL.out _ (Fr.drew S0 _)).2.1 (HBX.out _ (Fr.drew S0 _)).2.1
              | exact And.intro (HCEL.out _ (Fr.refl S0 _)).2.1 (HBX.out _ (Fr.refl S0 _)).2.1
              | fail)
            (first
              | (go_at_call 62; ((with_reducible refine (HMY.out _ (Fr.drew S0 _)).mono ?_); rintro _ w3 ⟨rfl, f⟩; have G1 := Lib.hid ((Fr.drew S0 _).trans0 f); clear f))
              | fail)
          obtain ⟨a0, a1, a2, a3⟩ := HCEL.out _ G1.out
          obtain ⟨b0, b1, -, -⟩ := HBX.out _ G1.out
          have HA5 := Lib.hid (HA2.out.fr0 G1.out)
          go_wp2_with (at_builtin; refine app_one elMn (.tmp 33) (.tmp 35) rfl HA5.out.own rfl rfl rfl rfl rfl (one_pr tv tn) hR1.out ?_; intro g1 cap1 w3 hown hgrow hat hlt; have HA3 := Lib.hid (HA5.out.app hown hgrow hat); clear hown hgrow hat hlt)
          go_roundw
          case rel => exact ⟨j + 1, K + 1 + 1, by omega, by go_num, by omega, by rw [HE.out], by rw [HE.out]; exact HA3⟩
          case measure => simp [intOf]; omega
    · obtain rfl : j = N := by omega
      have HE : Hid (M.take j = M) := Lib.hid (by rw [← S2.out.len]; exact List.take_length)
      obtain ⟨pv, cv, rfl⟩ := slFormN hacc.out.own
      go_wp2_with fail
      go_ret
      refine ⟨_, rfl, k, ?_⟩
      have h9 := hacc.out.from F2.out
      rw [HE.out, ← HP.out] at h9
      exact h9
end
end Go.Proofs.Ytmieeoceckcnkaa

namespace Go.Proofs.Ytmieeoceckcnkaa
open Go.RowKit
abbrev z2 : Value := .agg #[.int .i64 0, .int .u64 0]
theorem grow_none (w : World) : Calls Try.prog 65 #[.slice none 0 0, .int .i64 0] w fun e w' => e = .returned (.slice none 0 0) ∧ w = w' := by
  go_enter Try.func65, Try.ntmps65
  go_wp2_with fail
  go_ret
  exact ⟨rfl, rfl⟩
theorem grow_some (n : Nat) (w : World) (h0 : 0 < n) (hn : n ≤ 1099511627776) :
    Calls Try.prog 65 #[.slice none 0 0, .int .i64 n] w fun e w' => ∃ g G, e = .returned (.slice (some ⟨g, 0, none⟩) 0 G) ∧ Fr S0 w w' ∧ w'.ownsRow 0 68 2 (.slice (some ⟨g, 0, none⟩) 0 G) 0 [] ∧ w.heap.size ≤ g := by
  obtain ⟨i0, hi0, hz0, hs0, hb0⟩ := info_parts info_mn
  have hrz : ∀ ty, (Builtin.append_ #[57, 3] ty #[.slice none 0 0, .int .i64 (n : Int)]).run Try.prog w =
      .ok (.slice (some ⟨w.heap.size, 0, none⟩) (0 + n) (grownCap w (0 + n) 0 68)) (w.drew.alloc (.cells (([] : List Value).toArray ++ Builtin.zeroCells (Value.cells z2) n ++ Builtin.zeroCells (Value.cells z2) (grownCap w (0 + n) 0 68 - (0 + n))) 68)) := fun ty =>
    Lib.run_append_grow_zeros w 57 3 ty 68 i0 z2 .i64 .i64 Try.underlying57 Try.underlying3 hi0 hz0 none 0 0 [] (run_firstCells_none w.drew i0.size 0 0 0) n (by omega) (by omega) (by omega) (by omega)
      (by rw [hb0]; omega) (by rw [hb0]; exact growslice_fits (by omega) (by omega))
  have hGn : 0 + n ≤ grownCap w (0 + n) 0 68 := grownCap_ge w _ _ _
  have hGm := grownCap_le_maxLen w (0 + n) 0 68 (by unfold maxLen; omega)
  obtain ⟨G, hG⟩ : ∃ G, grownCap w (0 + n) 0 68 = G := ⟨_, rfl⟩
  rw [hG] at hrz hGn hGm
  have hown : Hid ((w.drew.alloc (.cells (([] : List Value).toArray ++ Builtin.zeroCells (Value.cells z2) n ++ Builtin.zeroCells (Value.cells z2) (G - (0 + n))) 68)).ownsRow 0 68 2 (.slice (some ⟨w.heap.size, 0, none⟩) 0 G) 0 []) := Lib.hid (by
    refine ⟨rfl, .inr ⟨w.heap.size, G, _, rfl, Nat.zero_le _, heap_alloc_new w.drew _, Nat.zero_le _, hGm, ?_, rfl⟩⟩
    simp [Builtin.zeroCells, Value.cells]
    omega)
  have hfr : Hid (Fr S0 w (w.drew.alloc (.cells (([] : List Value).toArray ++ Builtin.zeroCells (Value.cells z2) n ++ Builtin.zeroCells (Value.cells z2) (G - (0 + n))) 68))) := Lib.hid ((Fr.drew S0 w).trans0 (Fr.alloc _ _ _))
  have h1 : ¬ (n : Int) < 0 := by omega
  have h4 : (n : Int) > 0 := by omega
  have h5 : (n : Int) ≤ 1099511627776 := by omega
  unfold maxLen at hGm
  generalize w.drew.alloc (.cells (([] : List Value).toArray ++ Builtin.zeroCells (Value.cells z2) n ++ Builtin.zeroCells (Value.cells z2) (G - (0 + n))) 68) = w' at hrz hown hfr
  clear hi0 hz0 hs0 hb0 hG h0 hn
  go_enter Try.func65, Try.ntmps65
  go_wp2_with (at_builtin; refine Lib.wpList_append_run _ rfl _ _ _ _ rfl _ _ rfl rfl _ _ (hrz _) ?_)
  go_ret
  exact ⟨w.heap.size, G, rfl, hfr.out, hown.out, Nat.le_refl _⟩
theorem grow_any (n : Nat) (w : World) (hn : n ≤ 1099511627776) :
    Calls Try.prog 65 #[.slice none 0 0, .int .i64 n] w fun e w' => ∃ v, e = .returned v ∧ Acc 68 w w' v 0 [] := by
  by_cases h0 : n = 0
  · subst h0
    exact (grow_none w).mono fun e w' he => ⟨_, he.1, he.2 ▸ Acc.nil (Fr.refl _ _)⟩
  · refine (grow_some n w (by omega) hn).mono ?_
    rintro e w' ⟨g, G, rfl, f, own, hg⟩
    exact ⟨_, rfl, own, fun k hk => by obtain rfl := Option.some.inj hk; exact hg, f⟩
theorem concat_any (g n m c e : Nat) (p q : Option Addr) (A B : List Tm) (w : World) (h0 : w.cell? ⟨g, 0, none⟩ = some (.slice p n c)) (h1 : w.cell? ⟨g, 1, none⟩ = some (.slice q m e)) (hA : Sl w p n c A) (hB : Sl w q m e B) (hn : n + m ≤ 1000000000000) :
    Calls Try.prog 58 #[.slice (some ⟨g, 0, none⟩) 2 2] w fun e w' => ∃ v, e = .returned v ∧ Acc 68 w w' v (n + m) (A ++ B) := by
  have HA := Lib.hid hA
  have HB := Lib.hid hB
  have HC := Lib.hid (fun W (f : Fr S0 w W) => And.intro (f.cell h0 fun h => h) (f.cell h1 fun h => h))
  obtain ⟨N, eN⟩ : ∃ N, n + m = N := ⟨_, rfl⟩
  have HEN := Lib.hid eN
  have iN : (n : Int) + (m : Int) = (N : Int) := by omega
  have hNb : N ≤ 1000000000000 := by omega
  have hnb : n ≤ 1000000000000 := by omega
  have HG := Lib.hid (fun W => grow_any N W (by omega))
  have HR1 : Hid (Room (0 + n)) := Lib.hid (Room.mk (by omega))
  have HR2 : Hid (Room (n + m)) := Lib.hid (Room.mk (by omega))
  rw [eN]
  clear hA hB eN hn
  go_enter Try.func58, Try.ntmps58
  go_wp2_with fail
  go_loopw [3, 11] (fun s i wr => ((i = .int .i64 0 ∧ s = .int .i64 0) ∨ (i = .int .i64 1 ∧ s = .int .i64 n) ∨ (i = .int .i64 2 ∧ s = .int .i64 N)) ∧ w = wr) (fun _ i _ => 2 - (intOf i).toNat)
  case atStart => exact ⟨.inl ⟨rfl, rfl⟩, rfl⟩
  case round =>
    obtain ⟨hcase, rfl⟩ := hrel
    rcases hcase with ⟨rfl, rfl⟩ | ⟨rfl, rfl⟩ | ⟨rfl, rfl⟩
    · go_wp2_with fail
      go_roundw
      case rel => exact ⟨.inr (.inl ⟨by go_num, by go_num⟩), trivial⟩
      case measure => decide
    · go_wp2_with fail
      go_roundw
      case rel => exact ⟨.inr (.inr ⟨by go_num, by go_num⟩), trivial⟩
      case measure => decide
    · go_wp2_with fail
      refine (HG.out _).mono ?_
      rintro e1 w1 ⟨v, rfl, acc⟩
      have HACC := Lib.hid acc
      clear acc HG
      go_wp2_with fail
      go_loopw [6, 27] (fun s i wr => (i = .int .i64 0 ∧ Hid (Acc 68 w wr s 0 [])) ∨ (i = .int .i64 1 ∧ Hid (Acc 68 w wr s n A)) ∨ (i = .int .i64 2 ∧ Hid (Acc 68 w wr s (n + m) (A ++ B)))) (fun _ i _ => 2 - (intOf i).toNat)
      case atStart => exact .inl ⟨rfl, HACC⟩
      case round =>
        rcases hrel with ⟨rfl, ha⟩ | ⟨rfl, ha⟩ | ⟨rfl, ha⟩
        · obtain ⟨pv, cv, rfl⟩ := slFormN ha.out.own
          obtain ⟨k0, k1⟩ := HC.out _ ha.out.fr
          go_wp2_with (at_builtin; refine app_two elMn (.tmp 31) (.tmp 32) ha.out (HA.out.fr0 ha.out.fr) (Nat.zero_add _) (by have := HR1.out; rwa [Nat.zero_add] at this) rfl rfl rfl rfl ?_; intro q5 d5 w5 ha5; have HA5 := Lib.hid ha5; clear ha5)
          go_roundw
          case rel => exact .inr (.inl ⟨by go_num, HA5⟩)
          case measure => decide
        · obtain ⟨pv, cv, rfl⟩ := slFormN ha.out.own
          obtain ⟨k0, k1⟩ := HC.out _ ha.out.fr
          go_wp2_with (at_builtin; refine app_two elMn (.tmp 31) (.tmp 32) ha.out (HB.out.fr0 ha.out.fr) rfl HR2.out rfl rfl rfl rfl ?_; intro q5 d5 w5 ha5; have HA5 := Lib.hid ha5; clear ha5)
          go_roundw
          case rel => exact .inr (.inr ⟨by go_num, HA5⟩)
          case measure => decide
        · obtain ⟨pv, cv, rfl⟩ := slFormN ha.out.own
          go_wp2_with fail
          go_ret
          refine ⟨_, rfl, ?_⟩
          rw [← HEN.out]
          exact ha.out
section
variable (g : Nat) (C : Nat → Prop) (p : Option Addr) (n c : Nat) (q : Option Addr) (m e : Nat) (x : Dg) (w : World)
end
end Go.Proofs.Ytmieeoceckcnkaa

namespace Go.Proofs.Ytmieeoceckcnkaa
open Go.RowKit
def Dg.press (x : Dg) : Dg := { x with L := Go.Proofs.Ytmieeoceckcnkaa.press x.d x.all, W := [] }
def Dg.come (x : Dg) (l : List Tm) (lo hi : Int) : Dg :=
  { x with W := x.W ++ l, lo := if x.all = [] then lo else if x.lo < lo then x.lo else lo, hi := if x.all = [] then hi else if hi < x.hi then x.hi else hi }
def Dg.full (x : Dg) : Dg := if x.d ≤ x.W.length then x.press else x
theorem Dg.Good.allNil {x : Dg} (h : x.Good) : x.all = [] ↔ x.tot = 0 := by
  constructor
  · intro e
    unfold Dg.tot
    rw [e]
    rfl
  · intro e
    cases ha : x.all with
    | nil => rfl
    | cons t r =>
      have h1 := (h.fit t (by rw [ha]; simp)).n
      unfold Dg.tot at e
      rw [ha, wts_cons] at e
      omega
theorem Dg.Good.press {x : Dg} (h : x.Good) : x.press.Good := by
  have hi := press_inv x.d h.l1 x.all h.fit
  have e : x.press.all = Go.Proofs.Ytmieeoceckcnkaa.press x.d x.all := by simp [Dg.all, Dg.press]
  have ew : wts (Go.Proofs.Ytmieeoceckcnkaa.press x.d x.all) = wts x.all := press_wts x.d h.l1 x.all h.fit
  exact ⟨h.d1, h.d2, hi.ris, by rw [e]; exact hi.fit, h.l1, h.l2, h.h1, h.h2, by unfold Dg.tot; rw [e, ew]; exact h.tot, fun e2 => h.emp (by
    rw [e] at e2
    have := hi.non e2
    exact List.eq_nil_of_length_eq_zero (by rw [← srt_len, this]; rfl))⟩
theorem Dg.press_tot {x : Dg} (h : x.Good) : x.press.tot = x.tot := by
  have e : x.press.all = Go.Proofs.Ytmieeoceckcnkaa.press x.d x.all := by simp [Dg.all, Dg.press]
  unfold Dg.tot
  rw [e]
  exact press_wts x.d h.l1 x.all h.fit
theorem Dg.come_all (x : Dg) (l : List Tm) (lo hi : Int) : (x.come l lo hi).all = x.all ++ l := by simp [Dg.all, Dg.come]
theorem Dg.come_tot (x : Dg) (l : List Tm) (lo hi : Int) : (x.come l lo hi).tot = x.tot + wts l := by
  unfold Dg.tot
  rw [Dg.come_all, wts_app]
theorem Dg.Good.come {x : Dg} (h : x.Good) {l : List Tm} {lo hi : Int} (hl : ∀ t ∈ l, Fit lo hi t) (hne : l ≠ []) (h1 : -9223372036854775808 ≤ lo) (h2 : lo ≤ 9223372036854775807) (h3 : -9223372036854775808 ≤ hi) (h4 : hi ≤ 9223372036854775807) (ht : x.tot + wts l ≤ 281474976710656) : (x.come l lo hi).Good := by
  have a1 := h.l1
  have a2 := h.l2
  have a3 := h.h1
  have a4 := h.h2
  refine ⟨h.d1, h.d2, h.ris, fun t ht => ?_, ?_, ?_, ?_, ?_, by rw [Dg.come_tot]; exact ht, fun e => ?_⟩
  · rw [Dg.come_all] at ht
    unfold Dg.come
    rcases List.mem_append.1 ht with ht | ht
    · obtain ⟨f1, f2, f3⟩ := h.fit t ht
      have hn : x.all ≠ [] := by intro e; rw [e] at ht; cases ht
      refine ⟨?_, ?_, f3⟩
      · simp only [if_neg hn]; split <;> omega
      · simp only [if_neg hn]; split <;> omega
    · obtain ⟨f1, f2, f3⟩ := hl t ht
      refine ⟨?_, ?_, f3⟩
      · simp only; split <;> first | omega | (split <;> omega)
      · simp only; split <;> first | omega | (split <;> omega)
  · simp only [Dg.come]; split <;> first | omega | (split <;> omega)
  · simp only [Dg.come]; split <;> first | omega | (split <;> omega)
  · simp only [Dg.come]; split <;> first | omega | (split <;> omega)
  · simp only [Dg.come]; split <;> first | omega | (split <;> omega)
  · rw [Dg.come_all] at e
    exact absurd (List.append_eq_nil_iff.1 e).2 hne
theorem Dg.Good.full {x : Dg} (h : x.Good) : x.full.Good := by
  unfold Dg.full
  split
  · exact h.press
  · exact h
theorem six_set {w : World} {g : Nat} {a b c d e f : Value} {t : TypeId} (h : w.heap[g]? = some (.cells #[a, b, c, d, e, f] t (0, 0))) (x y z : Value) :
    ((w.setCell ⟨g, 1, none⟩ x).setCell ⟨g, 2, none⟩ y).heap[g]? = some (.cells #[a, x, y, d, e, f] t (0, 0)) ∧ (w.setCell ⟨g, 2, none⟩ x).heap[g]? = some (.cells #[a, b, x, d, e, f] t (0, 0)) ∧
    (((w.setCell ⟨g, 3, none⟩ x).setCell ⟨g, 4, none⟩ y).setCell ⟨g, 5, none⟩ z).heap[g]? = some (.cells #[a, b, c, x, y, z] t (0, 0)) := by
  refine ⟨?_, ?_, ?_⟩
  · rw [heap_setCell_same _ g 2 _ _ _ (heap_setCell_same w g 1 _ _ _ h)]
    rfl
  · rw [heap_setCell_same w g 2 _ _ _ h]
    rfl
  · rw [heap_setCell_same _ g 5 _ _ _ (heap_setCell_same _ g 4 _ _ _ (heap_setCell_same w g 3 _ _ _ h))]
    rfl
theorem DTurn.after {w W w' : World} {g : Nat} {C C1 : Nat → Prop} {x : Dg} (f : Fr C w W) (hC : ∀ b, C1 b → C b ∨ w.heap.size ≤ b) (t : DTurn W w' g C1 x) : DTurn w w' g C x := by
  obtain ⟨C', s, f2, h2⟩ := t
  refine ⟨C', s, f.trans f2 fun j hj h => (hC j h).resolve_right (by omega), fun b hb => ?_⟩
  rcases h2 b hb with h | h
  · exact hC b h
  · exact .inr (Nat.le_trans f.size h)
theorem DTurn.same {w w' : World} {g : Nat} {C : Nat → Prop} {x : Dg} (s : DIs w g C x) (f : Fr S0 w w') : DTurn w w' g C x := ⟨C, s.fr0 f, f.mono fun _ _ h => h.elim, fun _ h => .inl h⟩
section
variable (g : Nat) (C : Nat → Prop) (p : Option Addr) (n c : Nat) (q : Option Addr) (m e : Nat) (x : Dg) (w : World)
theorem press_any (s : DgIs w g C p n c q m e x) (hN : x.all.length ≤ 500000000000) :
    Calls Try.prog 45 #[.pointer (some ⟨g, 0, none⟩)] w fun e w' => e = .returned (.tuple #[]) ∧ DTurn w w' g C x.press := by
  have HP := Lib.hid (pressed_any g C p n c q m e x w s hN)
  have HPT := Lib.hid (Dg.press_tot s.good)
  have HS := Lib.hid s
  clear s
  go_enter Try.func45, Try.ntmps45
  go_wp2_with fail
  refine HP.out.mono ?_
  rintro e1 w1 ⟨v, k, rfl, acc⟩
  obtain ⟨pv, cv, rfl⟩ := slFormN acc.own
  have hb := acc.fr.row HS.out.blk (fun h => h)
  have HB := Lib.hid hb
  have c1 := (HS.out.fr0 acc.fr).c1
  have c2 := (HS.out.fr0 acc.fr).c2
  have z1 := (HS.out.fr0 acc.fr).z 1
  have z2 := (HS.out.fr0 acc.fr).z 2
  have HA := Lib.hid acc
  clear acc hb HP
  go_wp2_with fail
  go_end0
  have hg := HS.out.lt
  have hne : ∀ y, Value.ownBlock (.slice pv k cv) = some y → y ≠ g := fun y hy e => by have := HA.out.fresh y hy; omega
  have f2 : Fr (· = g) w1 ((w1.setCell ⟨g, 1, none⟩ (.slice pv k cv)).setCell ⟨g, 2, none⟩ (.slice none 0 0)) := (Fr.setCell (· = g) _ _ _ rfl).trans (Fr.setCell (· = g) _ _ _ rfl) fun _ _ h => h
  refine ⟨rfl, fun b => b = g ∨ Value.ownBlock (.slice pv k cv) = some b, ⟨pv, k, cv, none, 0, 0, ?_, ?_, World.ownsRow_nil _ _ _ _, fun y hy => ⟨hne y hy, .inr hy, by simp [Value.ownBlock]⟩, fun y hy => by simp [Value.ownBlock] at hy, .inl rfl, fun b hb => ?_, HS.out.good.press⟩, ?_, fun b hb => ?_⟩
  · have h6 := (six_set HB.out (.slice pv k cv) (.slice none 0 0) (.int .u64 0)).1
    rw [HPT.out]
    exact h6
  · exact f2.owns HA.out.own fun y hy e => hne y hy e
  · rcases hb with rfl | hb
    · exact Nat.lt_of_lt_of_le hg (Nat.le_trans HA.out.fr.size f2.size)
    · exact Nat.lt_of_lt_of_le (HA.out.own.lt b hb).2 f2.size
  · exact (HA.out.fr.mono fun _ _ h => h.elim).trans f2 fun j _ e => by have e2 : j = g := e; rw [e2]; exact HS.out.self
  · rcases hb with rfl | hb
    · exact .inl HS.out.self
    · exact .inr (HA.out.fresh b hb)
theorem pressFull_any (s : DgIs w g C p n c q m e x) (hN : x.all.length ≤ 500000000000) :
    Calls Try.prog 32 #[.pointer (some ⟨g, 0, none⟩)] w fun e w' => e = .returned (.tuple #[]) ∧ DTurn w w' g C x.full := by
  have hWl := s.slW.len
  have c0 := s.c0
  have c2 := s.c2
  have hd := s.good.d2
  have hnm : m ≤ x.all.length := by unfold Dg.all; rw [List.length_append]; omega
  obtain ⟨D, eD⟩ : ∃ D, x.d = D := ⟨_, rfl⟩
  rw [eD] at c0 hd
  unfold Dg.full
  rw [hWl, eD]
  by_cases h : D ≤ m
  · rw [if_pos h]
    have HP := Lib.hid (fun W (f : Fr S0 w W) => (press_any g C p n c q m e x W (s.fr0 f) hN).mono fun e w' (he : e = .returned (.tuple #[]) ∧ DTurn W w' g C x.press) => show e = .returned (.tuple #[]) ∧ DTurn w w' g C x.press from ⟨he.1, he.2.after (f.mono fun _ _ h => h.elim) fun _ h => .inl h⟩)
    have hi : (D : Int) ≤ (m : Int) := by omega
    have hdd : decide (D ≤ m) = true := decide_eq_true h
    clear s hWl hnm eD
    go_enter Try.func32, Try.ntmps32
    go_wp2_with fail
    go_quiet (fail)
    go_wp2_with fail
    refine (HP.out _ (Fr.drewN S0 w _)).mono ?_
    rintro e1 w1 ⟨rfl, ht⟩
    have HT := Lib.hid ht
    clear ht
    go_wp2_with fail
    go_end0
    exact ⟨rfl, HT.out⟩
  · rw [if_neg h]
    have HS : Hid (∀ W, Fr S0 w W → DTurn w W g C x) := Lib.hid fun W f => DTurn.same ⟨p, n, c, q, m, e, s⟩ f
    have hi : ¬ (D : Int) ≤ (m : Int) := by omega
    have hdd : decide (D ≤ m) = false := decide_eq_false h
    clear s hWl hnm eD
    go_enter Try.func32, Try.ntmps32
    go_wp2_with fail
    go_quiet (fail)
    go_wp2_with fail
    go_end0
    exact ⟨rfl, HS.out _ (Fr.drewN S0 w _)⟩
end
end Go.Proofs.Ytmieeoceckcnkaa

namespace Go.Proofs.Ytmieeoceckcnkaa
open Go.RowKit
theorem app_own {t e : TypeId} (he : El t e) {ops : Array Oper} {rest : List Oper} {o : Oper} {a : Act} {Q : Exit → Act → World → Prop} {W : World} (s x : Operand) {v : Value} {N : Nat} {L : List Tm} (own : W.ownsRow 0 e 2 v N (prs L))
    {p : Option Addr} {m c : Nat} {l : List Tm} (hp : Sl W p m c l) {M : Nat} (hM : N + m = M) (hr : Room M)
    (hgd : o.guard = none) (ho : o.op = .call { callee := .builtin .append, args := #[s, x], argTypes := #[t, t] }) (hs : a.eval s = v) (hx : a.eval x = .slice p m c)
    (h : ∀ q d w', w'.ownsRow 0 e 2 (.slice q M d) M (prs (L ++ l)) → W.grownBy w' v.ownBlock → (Value.ownBlock (.slice q M d) = v.ownBlock ∨ Value.ownBlock (.slice q M d) = some W.heap.size) → wpList Try.prog ops Q rest (a.put o.dst (.slice q M d)) w') : wpList Try.prog ops Q (o :: rest) a W := by
  subst hM
  refine wpList_plain hgd fun K hK => ?_
  obtain ⟨q, d, w', hrun, h2, h3, h5⟩ := run_app2 (ty := o.type) he own hp hr
  unfold Oper.wp
  simp only [execOp, ho, resolve, invoke, builtin, Sem.run_bind, Sem.run_pure, Result.andThen_ok, List.map_toArray, List.map_cons, List.map_nil, hs, hx, hrun]
  exact hK _ _ (h q d w' h2 h3 h5)
section
variable (g : Nat) (C : Nat → Prop) (p : Option Addr) (n c : Nat) (q : Option Addr) (m e : Nat) (x : Dg) (w : World)
theorem come_any (F : Nat) (fin : Dg → Dg) (s : DgIs w g C p n c q m e x) (pl : Option Addr) (k cl : Nat) (l : List Tm) (lo hi : Int) (u : Nat) (hl : Sl w pl k cl l) (hoff : Off C pl) (hu : wts l = u) (hf : ∀ t ∈ l, Fit lo hi t) (hne : l ≠ []) (h1 : -9223372036854775808 ≤ lo) (h2 : lo ≤ 9223372036854775807) (h3 : -9223372036854775808 ≤ hi) (h4 : hi ≤ 9223372036854775807) (ht : x.tot + u ≤ 281474976710656)
    (hN : x.all.length + k ≤ 500000000000) (hcf : ∀ (args : Array Value) (w : World), (callFunc F args).run Try.prog w = .ok (.enter F args) w)
    (hF : ∀ W C p n c q m e x', DgIs W g C p n c q m e x' → x'.all.length ≤ 500000000000 → Calls Try.prog F #[.pointer (some ⟨g, 0, none⟩)] W fun e w' => e = .returned (.tuple #[]) ∧ DTurn W w' g C (fin x')) :
    Calls Try.prog 31 #[.pointer (some ⟨g, 0, none⟩), .slice pl k cl, .int .u64 (u : Nat), .int .i64 lo, .int .i64 hi, .func (.func F) #[.pointer (some ⟨g, 0, none⟩)] #[]] w fun e w' => e = .returned (.tuple #[]) ∧ DTurn w w' g C (fin (x.come l lo hi)) := by
  have hgood := s.good.come hf hne h1 h2 h3 h4 (by rw [hu]; exact ht)
  have htt := Dg.come_tot x l lo hi
  have hWl := s.slW.len
  have hmx : m ≤ x.all.length := by unfold Dg.all; rw [List.length_append]; omega
  have hR : Hid (Room (m + k)) := Lib.hid (Room.mk (by omega))
  have hlen2 : (x.come l lo hi).all.length ≤ 500000000000 := by rw [Dg.come_all, List.length_append, hl.len]; omega
  have HF := Lib.hid hF
  have hcf1 := fun W => hcf #[.pointer (some ⟨g, 0, none⟩)] W
  have HS := Lib.hid s
  have HL := Lib.hid (And.intro hl hoff)
  obtain ⟨LO, eLO⟩ : ∃ LO, (x.come l lo hi).lo = LO := ⟨_, rfl⟩
  obtain ⟨HI, eHI⟩ : ∃ HI, (x.come l lo hi).hi = HI := ⟨_, rfl⟩
  obtain ⟨U, eU⟩ : ∃ U, x.tot + u = U := ⟨_, rfl⟩
  have iU : (x.tot : Int) + (u : Int) = (U : Int) := by omega
  have hUb : (U : Int) ≤ 281474976710656 := by omega
  have c2 := s.c2
  have c3 := s.c3
  have c4 := s.c4
  have c5 := s.c5
  have z2 := s.z 2
  have z3 := s.z 3
  have z4 := s.z 4
  have z5 := s.z 5
  -- what stands behind all stores but the last one
  have HW4 : Hid (∀ W, Fr S0 w W → (((W.setCell ⟨g, 3, none⟩ (.int .i64 LO)).setCell ⟨g, 4, none⟩ (.int .i64 HI)).setCell ⟨g, 5, none⟩ (.int .u64 (U : Nat))).heap[g]? = some (.cells #[.int .i64 (x.d : Nat), .slice p n c, .slice q m e, .int .i64 LO, .int .i64 HI, .int .u64 (U : Nat)] 59 (0, 0))) := Lib.hid fun W f => (six_set (s.fr0 f).blk _ _ _).2.2
  have HEND : Hid (∀ W w5 q' e', Fr S0 w W → Fr (· = g) W w5 → w5.heap[g]? = some (.cells #[.int .i64 (x.d : Nat), .slice p n c, .slice q m e, .int .i64 LO, .int .i64 HI, .int .u64 (U : Nat)] 59 (0, 0)) → ∀ w6, w6.ownsRow 0 68 2 (.slice q' (m + k) e') (m + k) (prs (x.W ++ l)) → w5.grownBy w6 (Value.ownBlock (.slice q m e)) →
      (Value.ownBlock (.slice q' (m + k) e') = Value.ownBlock (.slice q m e) ∨ Value.ownBlock (.slice q' (m + k) e') = some w5.heap.size) → w6.cell? ⟨g, 2, none⟩ = some (.slice q m e) ∧ w6.frozen? ⟨g, 2, none⟩ = false ∧ (∃ C1, DgIs (w6.setCell ⟨g, 2, none⟩ (.slice q' (m + k) e')) g C1 p n c q' (m + k) e' (x.come l lo hi) ∧ Fr C w (w6.setCell ⟨g, 2, none⟩ (.slice q' (m + k) e')) ∧ ∀ b, C1 b → C b ∨ w.heap.size ≤ b)) := Lib.hid (by
    intro W w5 q' e' f0 f5 hb5 w6 hown hg hat
    have hgq : ∀ y, Value.ownBlock (.slice q m e) = some y → y ≠ g := fun y hy => (s.other y hy).1
    have hgm : g < w.heap.size := s.lt
    have hsz : w.heap.size ≤ w5.heap.size := Nat.le_trans f0.size f5.size
    have hb6 : w6.heap[g]? = some (.cells #[.int .i64 (x.d : Nat), .slice p n c, .slice q m e, .int .i64 LO, .int .i64 HI, .int .u64 (U : Nat)] 59 (0, 0)) := (Fr.grown hg).row hb5 fun e => hgq g e rfl
    have fl : Fr (fun j => j = g ∨ Value.ownBlock (.slice q m e) = some j) w w6 := ((f0.mono fun _ _ h => h.elim).trans f5 fun _ _ h => .inl h).trans (Fr.grown hg) fun _ _ h => .inr h
    have hq' : ∀ y, Value.ownBlock (.slice q' (m + k) e') = some y → y ≠ g ∧ (Value.ownBlock (.slice q m e) = some y ∨ w.heap.size ≤ y) := by
      intro y hy
      rcases hat with h | h
      · rw [hy] at h
        exact ⟨hgq y h.symm, .inl h.symm⟩
      · rw [hy] at h
        obtain rfl := Option.some.inj h
        exact ⟨by omega, .inr (by omega)⟩
    have fs : Fr (· = g) w6 (w6.setCell ⟨g, 2, none⟩ (.slice q' (m + k) e')) := Fr.setCell (· = g) _ _ _ rfl
    have hp : ∀ y, Value.ownBlock (.slice p n c) = some y → ¬ (y = g ∨ Value.ownBlock (.slice q m e) = some y) := fun y hy h => by
      rcases h with h | h
      · exact (s.apart y hy).1 h
      · exact (s.apart y hy).2.2 h
    refine ⟨by simp [World.cell?, hb6], by simp [World.frozen?, hb6], fun b => C b ∨ Value.ownBlock (.slice q' (m + k) e') = some b, ⟨?_, ?_, ?_, fun y hy => ⟨(s.apart y hy).1, .inl (s.apart y hy).2.1, fun h => ?_⟩, fun y hy => ⟨(hq' y hy).1, .inr hy⟩, .inl s.self, fun b hb => ?_, hgood⟩, ?_, fun b hb => ?_⟩
    · have h6 := (six_set hb6 (.slice q' (m + k) e') (.int .u64 0) (.int .u64 0)).2.1
      rw [eLO, eHI, htt, hu, eU]
      exact h6
    · exact fs.owns (fl.owns s.list hp) fun y hy e => (s.apart y hy).1 e
    · exact fs.owns hown fun y hy e => (hq' y hy).1 e
    · rcases (hq' y h).2 with h2 | h2
      · exact (s.apart y hy).2.2 h2
      · have := (s.list.lt y hy).2
        omega
    · rcases hb with hb | hb
      · exact Nat.lt_of_lt_of_le (s.below b hb) (Nat.le_trans fl.size fs.size)
      · exact Nat.lt_of_lt_of_le (hown.lt b hb).2 fs.size
    · refine (fl.mono fun j _ h => ?_).trans fs fun j _ h => ?_
      · rcases h with h | h
        · rw [h]; exact s.self
        · exact (s.other j h).2
      · have h2 : j = g := h
        rw [h2]; exact s.self
    · rcases hb with hb | hb
      · exact .inl hb
      · rcases (hq' b hb).2 with h2 | h2
        · exact .inl (s.other b h2).2
        · exact .inr h2)
  have HLEN := Lib.hid hlen2
  have HOW : Hid (∀ W, Fr S0 w W → ∀ w5, Fr (· = g) W w5 → w5.ownsRow 0 68 2 (.slice q m e) m (prs x.W) ∧ Sl w5 pl k cl l) := Lib.hid fun W f w5 f5 => ⟨f5.owns (s.fr0 f).wait fun y hy e => (s.other y hy).1 e, (hl.fr0 f).fr f5 fun a ha e => hoff a ha (by have e2 : a.block = g := e; rw [e2]; exact s.self)⟩
  have HW5A : Hid (∀ W, Fr (· = g) W (((W.setCell ⟨g, 3, none⟩ (.int .i64 LO)).setCell ⟨g, 4, none⟩ (.int .i64 HI)).setCell ⟨g, 5, none⟩ (.int .u64 (U : Nat)))) := Lib.hid fun W => ((Fr.setCell (· = g) _ _ _ rfl).trans (Fr.setCell (· = g) _ _ _ rfl) fun _ _ h => h).trans (Fr.setCell (· = g) _ _ _ rfl) fun _ _ h => h
  by_cases h0 : x.all = []
  · have hz : x.tot = 0 := s.good.allNil.1 h0
    have eL : LO = lo := by rw [← eLO]; simp only [Dg.come, if_pos h0]
    have eH : HI = hi := by rw [← eHI]; simp only [Dg.come, if_pos h0]
    replace c5 : w.cell? ⟨g, 5, none⟩ = some (.int .u64 0) := by rw [s.c5, hz]; rfl
    obtain rfl : u = U := by omega
    subst eL eH
    have HWR : Hid (Fr S0 w w) := Lib.hid (Fr.refl _ _)
    have HW5 := Lib.hid (HW5A.out w)
    have HB5 := Lib.hid (HW4.out w (Fr.refl _ _))
    clear s hgood htt hWl hmx hlen2 hF hcf hl hoff hu hf hne ht hN eLO eHI eU h0 hz iU HW4 HW5A
    go_enter Try.func31, Try.ntmps31
    go_wp2_with (at_builtin; refine app_own elMn (.tmp 49) (.tmp 50) (HOW.out _ HWR.out _ HW5.out).1 (HOW.out _ HWR.out _ HW5.out).2 rfl hR.out rfl rfl rfl rfl ?_; intro q6 e6 w6 hown hg hat; obtain ⟨y0, y1, y2⟩ := HEND.out _ _ q6 e6 HWR.out HW5.out HB5.out w6 hown hg hat; have Y2 := Lib.hid y2; clear hown hg hat y2)
    obtain ⟨C1, sd, fd, hd⟩ := Y2.out
    have HD := Lib.hid (And.intro fd hd)
    have HFF := Lib.hid (HF.out _ C1 _ _ _ _ _ _ _ sd HLEN.out)
    clear Y2 sd fd hd HF
    go_wp2_with fail
    refine HFF.out.mono ?_
    rintro e1 w7 ⟨rfl, ht⟩
    have HT := Lib.hid (ht.after HD.out.1 HD.out.2)
    clear ht
    go_wp2_with fail
    go_end0
    exact ⟨rfl, HT.out⟩
  · have hz : 0 < x.tot := by
      rcases Nat.eq_zero_or_pos x.tot with h | h
      · exact absurd (s.good.allNil.2 h) h0
      · exact h
    have eL : (if x.lo < lo then x.lo else lo) = LO := by rw [← eLO]; simp only [Dg.come, if_neg h0]
    have eH : (if hi < x.hi then x.hi else hi) = HI := by rw [← eHI]; simp only [Dg.come, if_neg h0]
    have eL2 : min lo x.lo = LO := by rw [← eL, Int.min_def]; split <;> split <;> omega
    have eH2 : max hi x.hi = HI := by rw [← eH, Int.max_def]; split <;> split <;> omega
    obtain ⟨T, eT⟩ : ∃ T, x.tot = T := ⟨_, rfl⟩
    rw [eT] at c5 iU hz
    have hzi : (0 : Int) < (T : Int) := by omega
    obtain ⟨X1, eX1⟩ : ∃ X1, x.lo = X1 := ⟨_, rfl⟩
    obtain ⟨X2, eX2⟩ : ∃ X2, x.hi = X2 := ⟨_, rfl⟩
    rw [eX1] at c3 eL2
    rw [eX2] at c4 eH2
    clear eL eH
    clear s hgood htt hWl hmx hlen2 hF hcf hl hoff hu hf hne ht hN eLO eHI eU h0 eT hz eX1 eX2
    go_enter Try.func31, Try.ntmps31
    go_wp2_with fail
    go_region
    have HWR : Hid (Fr S0 w w.drew) := Lib.hid (Fr.drew _ _)
    have HW5 := Lib.hid (HW5A.out w.drew)
    have HB5 := Lib.hid (HW4.out w.drew (Fr.drew _ _))
    clear HW4 HW5A
    go_wp2_with (at_builtin; refine app_own elMn (.tmp 49) (.tmp 50) (HOW.out _ HWR.out _ HW5.out).1 (HOW.out _ HWR.out _ HW5.out).2 rfl hR.out rfl rfl rfl rfl ?_; intro q6 e6 w6 hown hg hat; obtain ⟨y0, y1, y2⟩ := HEND.out _ _ q6 e6 HWR.out HW5.out HB5.out w6 hown hg hat; have Y2 := Lib.hid y2; clear hown hg hat y2)
    obtain ⟨C1, sd, fd, hd⟩ := Y2.out
    have HD := Lib.hid (And.intro fd hd)
    have HFF := Lib.hid (HF.out _ C1 _ _ _ _ _ _ _ sd HLEN.out)
    clear Y2 sd fd hd HF
    go_wp2_with fail
    refine HFF.out.mono ?_
    rintro e1 w7 ⟨rfl, ht⟩
    have HT := Lib.hid (ht.after HD.out.1 HD.out.2)
    clear ht
    go_wp2_with fail
    go_end0
    exact ⟨rfl, HT.out⟩
end
def Dg.ref (x : Dg) (u : Nat) : Nat := if u = 0 then 4 else if 281474976710656 < x.tot + u then 6 else 0
def Dg.add (x : Dg) (v : Int) (u : Nat) : Dg := if x.ref u = 0 then (x.come [(v, u)] v v).full else x
section
variable (g : Nat) (C : Nat → Prop) (p : Option Addr) (n c : Nat) (q : Option Addr) (m e : Nat) (x : Dg) (w : World)
theorem beyond_any (T u : Nat) (c5 : w.cell? ⟨g, 5, none⟩ = some (.int .u64 (T : Nat))) (hT : T ≤ 281474976710656) :
    Calls Try.prog 44 #[.pointer (some ⟨g, 0, none⟩), .int .u64 (u : Nat)] w fun e w' => e = .returned (.bool (decide (281474976710656 < T + u))) ∧ Fr S0 w w' := by
  obtain ⟨R, eR⟩ : ∃ R, 281474976710656 - T = R := ⟨_, rfl⟩
  have iR : (281474976710656 : Int) - (T : Int) = (R : Int) := by omega
  have wR : IntKind.u64.wrap (R : Int) = (R : Int) := by rw [IntKind.wrap_u64]; omega
  have hR : (R : Int) ≤ 281474976710656 := by omega
  have e1 : decide (281474976710656 < T + u) = decide (R < u) := by
    by_cases h : R < u
    · rw [decide_eq_true h, decide_eq_true (by omega)]
    · rw [decide_eq_false h, decide_eq_false (by omega)]
  rw [e1]
  clear eR e1 hT
  go_enter Try.func44, Try.ntmps44
  go_wp2_with fail
  go_ret
  exact ⟨rfl, Fr.refl _ _⟩
theorem refusal_any (T u : Nat) (c5 : w.cell? ⟨g, 5, none⟩ = some (.int .u64 (T : Nat))) (hT : T ≤ 281474976710656) :
    Calls Try.prog 30 #[.pointer (some ⟨g, 0, none⟩), .int .u64 (u : Nat)] w fun e w' => e = .returned (.int .i64 ((if u = 0 then 4 else if 281474976710656 < T + u then 6 else 0 : Nat) : Int)) ∧ Fr S0 w w' := by
  have HB := Lib.hid (fun W (f : Fr S0 w W) => beyond_any g W T u (f.cell c5 fun h => h) hT)
  by_cases h0 : u = 0
  · rw [if_pos h0]
    subst h0
    clear c5 hT HB
    go_enter Try.func30, Try.ntmps30
    go_wp2_with fail
    go_ret
    exact ⟨rfl, Fr.refl _ _⟩
  · rw [if_neg h0]
    have h0i : ((u : Int) == 0) = false := by rw [beq_eq_false_iff_ne]; omega
    by_cases h : 281474976710656 < T + u
    · rw [if_pos h]
      rw [decide_eq_true h] at HB
      clear c5 hT h h0
      go_enter Try.func30, Try.ntmps30
      go_wp2_with fail
      refine (HB.out _ (Fr.refl _ _)).mono ?_
      rintro e w1 ⟨rfl, f⟩
      go_wp2_with fail
      go_ret
      exact ⟨rfl, f⟩
    · rw [if_neg h]
      rw [decide_eq_false h] at HB
      clear c5 hT h h0
      go_enter Try.func30, Try.ntmps30
      go_wp2_with fail
      refine (HB.out _ (Fr.refl _ _)).mono ?_
      rintro e w1 ⟨rfl, f⟩
      go_wp2_with fail
      go_ret
      exact ⟨rfl, f⟩
theorem has_full : ∀ (args : Array Value) (w : World), (callFunc 32 args).run Try.prog w = .ok (.enter 32 args) w := fun _ _ => by kernel_rfl
theorem dadd_any (v : Int) (u : Nat) (s : DgIs w g C p n c q m e x) (h1 : -9223372036854775808 ≤ v) (h2 : v ≤ 9223372036854775807) (hN : x.all.length ≤ 400000000000) :
    Calls Try.prog 18 #[.pointer (some ⟨g, 0, none⟩), .int .i64 v, .int .u64 (u : Nat)] w fun e w' => e = .returned (.int .i64 (x.ref u : Nat)) ∧ DTurn w w' g C (x.add v u) := by
  have HR := Lib.hid (refusal_any g w x.tot u s.c5 s.good.tot)
  unfold Dg.add
  by_cases hr : x.ref u = 0
  · rw [if_pos hr, hr]
    have hr2 := hr
    unfold Dg.ref at hr2
    have hu0 : u ≠ 0 := by intro e; rw [if_pos e] at hr2; cases hr2
    rw [if_neg hu0] at hr2
    have hut : x.tot + u ≤ 281474976710656 := by
      rcases Nat.lt_or_ge 281474976710656 (x.tot + u) with h | h
      · rw [if_pos h] at hr2; cases hr2
      · exact h
    have HB := heap_alloc_new
    have HCO := Lib.hid (fun W (f : Fr S0 w W) => show Calls Try.prog 31 #[.pointer (some ⟨g, 0, none⟩), .slice (some ⟨W.heap.size, 0, none⟩) 1 1, .int .u64 (u : Nat), .int .i64 v, .int .i64 v, .func (.func 32) #[.pointer (some ⟨g, 0, none⟩)] #[]] (W.alloc (.cells #[.int .i64 v, .int .u64 (u : Nat)] 68)) (fun e w' => e = .returned (.tuple #[]) ∧ DTurn w w' g C (x.come [(v, u)] v v).full) from by
      have f2 := f.trans0 (Fr.alloc S0 W (.cells #[.int .i64 v, .int .u64 (u : Nat)] 68))
      have hb := heap_alloc_new W (.cells #[.int .i64 v, .int .u64 (u : Nat)] 68)
      obtain ⟨k0, k1, -, -⟩ := two_facts hb
      have hsl : Sl (W.alloc (.cells #[.int .i64 v, .int .u64 (u : Nat)] 68)) (some ⟨W.heap.size, 0, none⟩) 1 1 [(v, u)] := ⟨⟨by unfold maxLen; simp, fun _ => ⟨W.heap.size, 0, rfl, fun i hi => by
        obtain rfl : i = 0 := by simp at hi; exact hi
        exact ⟨k0, k1⟩⟩⟩, rfl, Nat.le_refl _, by unfold maxLen; omega, fun h => by cases h⟩
      refine (come_any g C p n c q m e x _ 32 Dg.full (s.fr0 f2) _ 1 1 [(v, u)] v v u hsl ?_ (by simp [wts]) (by intro t ht; rw [List.mem_singleton.1 ht]; exact ⟨Int.le_refl _, Int.le_refl _, by simp only; omega⟩) (by simp) h1 h2 h1 h2 hut (by omega) has_full fun W C p n c q m e x' s' hl => pressFull_any g C p n c q m e x' W s' hl).mono fun e w' he => ⟨he.1, he.2.after (f2.mono fun _ _ h => h.elim) fun _ h => .inl h⟩
      intro a ha hc
      obtain rfl := Option.some.inj ha
      have h8 : W.heap.size < w.heap.size := s.below _ hc
      have h9 := f.size
      omega)
    have hmf : ∀ (fn : Fn) (first cap : Array Value) (w : World), (Instr.makeFunc fn first cap).run Try.prog w = .ok (.func fn first cap) w := fun _ _ _ _ => rfl
    rw [show (if u = 0 then 4 else if 281474976710656 < x.tot + u then 6 else 0) = 0 from hr] at HR
    clear s hr hr2 hu0 hut hN HB
    go_enter Try.func18, Try.ntmps18
    go_wp2_with fail
    refine HR.out.mono ?_
    rintro e1 w1 ⟨rfl, f1⟩
    have HC1 := Lib.hid (HCO.out w1 f1)
    clear HCO HR f1
    go_wp2_with fail
    refine HC1.out.mono ?_
    rintro e2 w2 ⟨rfl, ht⟩
    have HT := Lib.hid ht
    clear ht HC1
    go_wp2_with fail
    go_ret
    exact ⟨rfl, HT.out⟩
  · rw [if_neg hr]
    have HS : Hid (∀ W, Fr S0 w W → DTurn w W g C x) := Lib.hid fun W f => DTurn.same ⟨p, n, c, q, m, e, s⟩ f
    obtain ⟨E, eE⟩ : ∃ E, x.ref u = E := ⟨_, rfl⟩
    rw [show (if u = 0 then 4 else if 281474976710656 < x.tot + u then 6 else 0) = E from eE] at HR
    rw [eE] at hr ⊢
    have hE : ((E : Int) == 0) = false := by rw [beq_eq_false_iff_ne]; omega
    clear s hr eE
    go_enter Try.func18, Try.ntmps18
    go_wp2_with fail
    refine HR.out.mono ?_
    rintro e1 w1 ⟨rfl, f1⟩
    have HT := Lib.hid (HS.out w1 f1)
    clear f1 HR
    go_wp2_with fail
    go_ret
    exact ⟨rfl, HT.out⟩
end
end Go.Proofs.Ytmieeoceckcnkaa

namespace Go.Proofs.Ytmieeoceckcnkaa
open Go.RowKit
def Dg.take (x y : Dg) : Dg := if y.d ≠ x.d ∨ y.tot = 0 ∨ 281474976710656 < x.tot + y.tot then x else (x.come y.all y.lo y.hi).press
section
variable (g : Nat) (C : Nat → Prop) (p : Option Addr) (n c : Nat) (q : Option Addr) (m e : Nat) (x : Dg) (w : World)
end
end Go.Proofs.Ytmieeoceckcnkaa
