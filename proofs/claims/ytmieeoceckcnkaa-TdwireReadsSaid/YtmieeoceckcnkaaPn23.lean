/- TwLawReads -/
import Derived.Test.YtmieeoceckcnkaaPn1
import Derived.Test.YtmieeoceckcnkaaPn2
import Derived.Test.YtmieeoceckcnkaaPn3
import Derived.Test.YtmieeoceckcnkaaPn4
import Derived.Test.YtmieeoceckcnkaaPn5
import Derived.Test.YtmieeoceckcnkaaPn6
import Derived.Test.YtmieeoceckcnkaaPn7
import Derived.Test.YtmieeoceckcnkaaPn8
import Derived.Test.YtmieeoceckcnkaaPn9
import Derived.Test.YtmieeoceckcnkaaPn10
import Derived.Test.YtmieeoceckcnkaaPn11
import Derived.Test.YtmieeoceckcnkaaPn12
import Derived.Test.YtmieeoceckcnkaaPn13
import Derived.Test.YtmieeoceckcnkaaPn14
import Derived.Test.YtmieeoceckcnkaaPn15
import Derived.Test.YtmieeoceckcnkaaPn16
import Derived.Test.YtmieeoceckcnkaaPn17
import Derived.Test.YtmieeoceckcnkaaPn18
import Derived.Test.YtmieeoceckcnkaaPn19
import Derived.Test.YtmieeoceckcnkaaPn20
import Derived.Test.YtmieeoceckcnkaaPn21
import Derived.Test.YtmieeoceckcnkaaPn22
import Derived.Defers
import Derived.Recover
import Derived.Deep.RegionHeld2
import Derived.StillTailTactics
import Derived.WalkKit
import Derived.Laws.BitsAllLaws
import Derived.Laws.BytesArg
import Derived.Lib.SlBytesConst
import Derived.Maps.AppendAt
import Derived.Laws.AppendOwnNone
import Derived.WalkSpells
import Derived.WalkLawsBesides
import Derived.Deep.QuietTactic
import Derived.BigQuiet
import Derived.RegionTactic
import Derived.Deep.AppendLies
import Derived.Deep.RegionLaw
import Derived.Laws.ResultCell
import Derived.Laws.EntriesVeiled
import Derived.Lib.Hide
import Derived.Test.YtmieeoceckcnkaaRows
import Derived.Deep.RegionHeld3
import Derived.BigRegion
import Derived.Laws.OwnMore
import Derived.Lib.AppendZerosOnto
import Derived.Lib.SliceRun
import Derived.Lib.Walk
import Derived.Laws.Externs
import Derived.Shelf.Spec.BitsCarry
import Derived.Deep.CutBlock
import Derived.Deep.CutRange
import Derived.Deep.DeepCutAuto
import Derived.Lib.BitFns
import Derived.Shelf.Small.Bits
import Derived.Shelf.Strconv.Itoa0
import Derived.Shelf.Bits.Mul64
set_option maxRecDepth 100000
set_option maxHeartbeats 8000000
namespace Go.Proofs.Ytmieeoceckcnkaa
open Go.RowKit
theorem cell_five {w : World} {g : Nat} {a b c d e : Value} {t : TypeId} (h : w.heap[g]? = some (.cells #[a, b, c, d, e] t (0, 0))) : w.cell? ⟨g, 0, none⟩ = some a ∧ w.cell? ⟨g, 1, none⟩ = some b ∧ w.cell? ⟨g, 2, none⟩ = some c := by simp [World.cell?, h]
section
variable (q : Option Addr) (n d : Nat) (l : List Nat) (w : World)
theorem law_reads (hn : l.length = n) (hl : SlI w .u8 q l) (h8 : ∀ x ∈ l, x < 256) (hq : q = none → d = 0) :
    Calls Try.prog 3 #[.slice q n d] w fun e w' => e = .returned (.bool true) ∧ Fr S0 w w' := by
  have HAL := Lib.hid (alive23_any w)
  by_cases hbig : 3000 < n
  · have hbi : (3000 : Int) < (n : Int) := by omega
    clear hn hl h8 hq
    go_enter Try.func3, Try.ntmps3
    go_wp2_with fail
    refine HAL.out.mono ?_
    rintro e w1 ⟨rfl, f1⟩
    have F1 := Lib.hid f1
    clear f1 HAL
    go_wp2_with fail
    go_ret
    exact ⟨rfl, F1.out⟩
  have hbi : (n : Int) ≤ 3000 := by omega
  have HRD := Lib.hid (fun W (f : Fr S0 w W) => tread_any q d n l W hn (hl.fr0 f) h8 hq (by omega))
  have HWT := Lib.hid (fun W (f : Fr S0 w W) => tweight_any q d n l W hn (hl.fr0 f) h8 hq (by omega))
  have HTX := Lib.hid (fun W (f : Fr S0 w W) => sl_txt (hl.fr0 f) hn (d := d))
  have HN := Lib.hid hn
  clear hn hl h8 hq hbig
  go_enter Try.func3, Try.ntmps3
  go_wp2_with fail
  refine HAL.out.mono ?_
  rintro e w1 ⟨rfl, f1⟩
  have F1 := Lib.hid f1
  clear f1 HAL
  go_wp2_with fail
  refine (HRD.out _ F1.out).mono ?_
  rintro _ w2 (⟨x, g, hok, rfl, k2⟩ | ⟨hno, rfl, f2⟩)
  · have HOK := Lib.hid hok
    have K2 := Lib.hid k2
    have F2 := Lib.hid (F1.out.trans0 k2.fr)
    clear hok k2 HRD F1
    go_wp2_with fail
    refine (HWT.out _ F2.out).mono ?_
    rintro _ w3 (⟨y, hok2, rfl, f3⟩ | ⟨hno, -⟩)
    rotate_left
    · exact absurd ⟨_, HOK.out⟩ hno
    obtain rfl := rdOk_one HOK.out hok2
    have F3 := Lib.hid f3
    clear hok2 f3 HWT
    obtain ⟨C, ⟨p0, n0, c0, q0, m0, e0, s0⟩, -⟩ := K2.out.ex
    have hlen : 2 * x.all.length ≤ 3000 := by
      have h1 := bytes_most x
      have h2 := HOK.out.eq
      have h3 := HN.out
      rw [← h2] at h1
      omega
    have hal : x.all.length = x.L.length + x.W.length := by unfold Dg.all; rw [List.length_append]
    have HEN := Lib.hid (fun W (f : Fr S0 w2 W) => ends_any g C p0 n0 c0 q0 m0 e0 x W (s0.fr0 f))
    have HFI := Lib.hid (fun W (f : Fr S0 w2 W) => fineness_any g C p0 n0 c0 q0 m0 e0 x W (s0.fr0 f))
    have HLI := Lib.hid (fun W (f : Fr S0 w2 W) => list_any g C p0 n0 c0 q0 m0 e0 x W (s0.fr0 f) (by omega))
    have HWI := Lib.hid (fun W (f : Fr S0 w2 W) => waits_any g C p0 n0 c0 q0 m0 e0 x W (s0.fr0 f) (by omega))
    have HTO : Hid (∀ W, Fr S0 w2 W → Calls Try.prog 12 #[.pointer (some ⟨g, 0, none⟩)] W fun e w' => e = .returned (.int .u64 (x.tot : Nat)) ∧ Fr S0 W w') := Lib.hid fun W f => (total_any g C p0 n0 c0 q0 m0 e0 x W (s0.fr0 f)).mono fun e w' ⟨y, z⟩ => ⟨y, z ▸ Fr.refl _ _⟩
    have hgd := HOK.out.good
    have hmay := hgd.may
    have HRP : Hid (RightP (x.d : Int) x.lo x.hi x.L x.W) := Lib.hid ⟨by have := hgd.d1; omega, by have := hgd.d2; omega, by rw [Int.toNat_natCast]; exact hgd.load HOK.out.few⟩
    have HMY := Lib.hid hmay
    have HSM : Hid (x.L.length ≤ 1500 ∧ x.W.length ≤ 1500) := Lib.hid (by omega)
    have HBY := Lib.hid HOK.out.eq
    have hdd : (x.d : Int) ≤ 1000 := by have := hgd.d2; omega
    obtain ⟨D, eD⟩ : ∃ D, x.d = D := ⟨_, rfl⟩
    obtain ⟨LO, eLO⟩ : ∃ D, x.lo = D := ⟨_, rfl⟩
    obtain ⟨HI, eHI⟩ : ∃ D, x.hi = D := ⟨_, rfl⟩
    obtain ⟨T, eT⟩ : ∃ D, x.tot = D := ⟨_, rfl⟩
    obtain ⟨L, eL⟩ : ∃ D, x.L = D := ⟨_, rfl⟩
    obtain ⟨U, eU⟩ : ∃ D, x.W = D := ⟨_, rfl⟩
    unfold Dg.bytes at HBY
    rw [eD, eLO, eHI, eL, eU] at HBY HRP HMY
    rw [eL, eU] at HSM
    rw [eLO, eHI] at HEN
    rw [eD] at HFI hdd
    rw [eL] at HLI
    rw [eU] at HWI
    rw [eT] at HTO ⊢
    clear s0 hlen hal hgd hmay eD eLO eHI eT eL eU HOK K2
    go_wp2_with fail
    refine (HEN.out _ F3.out).mono ?_
    rintro _ w4 ⟨rfl, f4⟩
    have F4 := Lib.hid (F3.out.trans0 f4)
    clear f4 HEN F3
    go_wp2_with fail
    refine (HFI.out _ F4.out).mono ?_
    rintro _ w5 ⟨rfl, rfl⟩
    go_wp2_with fail
    refine (HLI.out _ F4.out).mono ?_
    rintro _ w6 ⟨vl, rfl, al⟩
    have hlL := al.len
    obtain ⟨nL, enL⟩ : ∃ n, L.length = n := ⟨_, rfl⟩
    rw [enL] at al
    obtain ⟨pL, cL, rfl, sL⟩ := al.sl
    have F6 := Lib.hid (F4.out.trans0 al.fr)
    have HSL := Lib.hid sL
    clear al sL HLI HFI F4 hlL
    go_wp2_with fail
    refine (HWI.out _ F6.out).mono ?_
    rintro _ w7 ⟨vl, rfl, al⟩
    obtain ⟨nU, enU⟩ : ∃ n, U.length = n := ⟨_, rfl⟩
    rw [enU] at al
    obtain ⟨pU, cU, rfl, sU⟩ := al.sl
    have F7 := Lib.hid (F6.out.trans0 al.fr)
    have HRAW : Hid (∀ W, Fr S0 (w7.alloc (.cells #[.int .i64 (D : Nat), .slice pL nL cL, .slice pU nU cU, .int .i64 LO, .int .i64 HI] 38)) W → RgRaw W w7.heap.size D LO HI pL nL cL pU nU cU L U) := Lib.hid fun W f =>
      ⟨f.row (heap_alloc_new w7 _) fun h => h, ((HSL.out.fr0 al.fr).fr0 (Fr.alloc S0 _ _)).fr0 f, (sU.fr0 (Fr.alloc S0 _ _)).fr0 f⟩
    clear al sU HWI F6 HSL
    obtain ⟨w8, e8⟩ : ∃ w8, w7.alloc (.cells #[.int .i64 (D : Nat), .slice pL nL cL, .slice pU nU cU, .int .i64 LO, .int .i64 HI] 38) = w8 := ⟨_, rfl⟩
    have F8 := Lib.hid (show Fr S0 w2 w8 from by rw [← e8]; exact F7.out.trans0 (Fr.alloc _ _ _))
    rw [e8] at HRAW
    have E8 := Lib.hid e8
    clear e8
    obtain ⟨gb, egb⟩ : ∃ g, w7.heap.size = g := ⟨_, rfl⟩
    rw [egb] at HRAW
    have FW := Lib.hid (F2.out.trans0 F8.out)
    have HC := Lib.hid (fun W (f : Fr S0 w8 W) => (show W.cell? ⟨gb, 0, none⟩ = some (.int .i64 (D : Nat)) ∧ W.cell? ⟨gb, 1, none⟩ = some (.slice pL nL cL) ∧ W.cell? ⟨gb, 2, none⟩ = some (.slice pU nU cU) ∧ (convert 22 9 (.slice q n d)).run Try.prog W = .ok (.string (strB l)) W from ⟨(HRAW.out W f).c0, (HRAW.out W f).c1, (HRAW.out W f).c2, HTX.out W (FW.out.trans0 f)⟩))
    have HRW := Lib.hid (fun W (f : Fr S0 w8 W) => by
      have h := rwrite_any gb D LO HI pL nL cL pU nU cU L U W (HRAW.out W f) (by have := HMY.out.d2; omega) HMY.out.iL HMY.out.iW (by have := HSM.out.1; omega) (by have := HSM.out.2; omega)
      rw [← HBY.out] at h
      exact h)
    have HRI := Lib.hid (fun W (f : Fr S0 w8 W) => by
      have h := rright_any (D : Int) LO HI pL nL cL pU nU cU L U W (HRAW.out W f).sL (HRAW.out W f).sU (by have := HSM.out; omega) (fun t ht => by
        rcases List.mem_append.1 ht with h | h
        · exact (HMY.out.iL t h).2
        · exact (HMY.out.iW t h).2)
      rw [okB_yes HRP.out] at h
      exact h)
    have HTO8 := Lib.hid (fun W (f : Fr S0 w8 W) => HTO.out W (F8.out.trans0 f))
    clear HTO
    have HTO := HTO8
    clear HTO8 HRAW HSM HMY HRP HBY F7 F8 HTX HN F2 enL enU
    go_wp2_with fail
    simp only [E8.out]
    clear egb E8
    refine wp_region_noPanic ?_
    refine wp_region_held_drew (S := fun w' => Fr S0 w8 w' ∧ w'.cell? ⟨gb, 0, none⟩ = some (.int .i64 (D : Nat)) ∧ w'.cell? ⟨gb, 1, none⟩ = some (.slice pL nL cL) ∧ w'.cell? ⟨gb, 2, none⟩ = some (.slice pU nU cU) ∧ (convert 22 9 (.slice q n d)).run Try.prog w' = .ok (.string (strB l)) w') (by kernel_rfl) ⟨Fr.drew S0 w8, HC.out _ (Fr.drew S0 w8)⟩ (fun hHeld0 => ?_)
    refine wpAnyH_take (i := 0) (oi := Oper.mk (some 58) _ _ _ _ _) (v := ?_) rfl (by as_aux_lemma => kernel_rfl) (by as_aux_lemma => kernel_rfl) (by as_aux_lemma => kernel_rfl) (fun _ _ _ h => h) (Or.inl ⟨by rfl, ?_⟩) (by assumption) ?_
    rotate_left
    · (intro w hSw; obtain ⟨hf, h0, h1, h2, h9⟩ := hSw; go_simp <;> with_reducible rfl)
    simp only [Act.put, List.setIfInBounds_toArray, List.set_cons_zero, List.set_cons_succ]
    refine wpAnyH_take (i := 1) (oi := Oper.mk (some 59) _ _ _ _ _) (v := ?_) rfl (by as_aux_lemma => kernel_rfl) (by as_aux_lemma => kernel_rfl) (by as_aux_lemma => kernel_rfl) (fun _ _ _ h => h) (Or.inl ⟨by rfl, ?_⟩) (by assumption) ?_
    rotate_left
    · (intro w hSw; obtain ⟨hf, h0, h1, h2, h9⟩ := hSw; go_simp <;> with_reducible rfl)
    simp only [Act.put, List.setIfInBounds_toArray, List.set_cons_zero, List.set_cons_succ]
    refine wpAnyH_take (i := 2) (oi := Oper.mk (some 60) _ _ _ _ _) (v := ?_) rfl (by as_aux_lemma => kernel_rfl) (by as_aux_lemma => kernel_rfl) (by as_aux_lemma => kernel_rfl) (fun _ _ _ h => h) (Or.inl ⟨by rfl, ?_⟩) (by assumption) ?_
    rotate_left
    · (intro w hSw; obtain ⟨hf, h0, h1, h2, h9⟩ := hSw; go_simp <;> with_reducible rfl)
    simp only [Act.put, List.setIfInBounds_toArray, List.set_cons_zero, List.set_cons_succ]
    refine wpAnyH_take (i := 3) (oi := Oper.mk (some 61) _ _ _ _ _) (v := ?_) rfl (by as_aux_lemma => kernel_rfl) (by as_aux_lemma => kernel_rfl) (by as_aux_lemma => kernel_rfl) (fun _ _ _ h => h) (Or.inl ⟨by rfl, ?_⟩) (by assumption) ?_
    rotate_left
    · (intro w hSw; obtain ⟨hf, h0, h1, h2, h9⟩ := hSw; go_simp <;> with_reducible rfl)
    simp only [Act.put, List.setIfInBounds_toArray, List.set_cons_zero, List.set_cons_succ]
    refine wpAnyH_take (i := 4) (oi := Oper.mk (some 62) _ _ _ _ _) (v := ?_) rfl (by as_aux_lemma => kernel_rfl) (by as_aux_lemma => kernel_rfl) (by as_aux_lemma => kernel_rfl) (fun _ _ _ h => h) (Or.inl ⟨by rfl, ?_⟩) (by assumption) ?_
    rotate_left
    · (intro w hSw; obtain ⟨hf, h0, h1, h2, h9⟩ := hSw; go_simp <;> with_reducible rfl)
    simp only [Act.put, List.setIfInBounds_toArray, List.set_cons_zero, List.set_cons_succ]
    refine wpAnyH_ready (rs := [5]) (by kernel_rfl) (by simp) (AllReadyH.cons (o := Oper.mk (some 63) _ _ _ _ _) rfl (fun K hK => ?_) AllReadyH.nil)
    go_simp
    go_at_call 12
    refine (HTO.out _ hHeld0.1).mono ?_
    rintro _ v5 ⟨rfl, f⟩
    refine hK.out _ _ ⟨hHeld0.1.trans0 f, HC.out _ (hHeld0.1.trans0 f)⟩ (fun hHeld1 => ?_)
    clear hK K hHeld0 f
    try simp only [Act.put, List.setIfInBounds_toArray, List.set_cons_zero, List.set_cons_succ]
    refine wpAnyH_take (i := 6) (oi := Oper.mk (some 64) _ _ _ _ _) (v := ?_) rfl (by as_aux_lemma => kernel_rfl) (by as_aux_lemma => kernel_rfl) (by as_aux_lemma => kernel_rfl) (fun _ _ _ h => h) (Or.inl ⟨by rfl, ?_⟩) (by assumption) ?_
    rotate_left
    · (intro w hSw; obtain ⟨hf, h0, h1, h2, h9⟩ := hSw; go_simp <;> with_reducible rfl)
    simp only [Act.put, List.setIfInBounds_toArray, List.set_cons_zero, List.set_cons_succ]
    refine wpAnyH_take (i := 7) (oi := Oper.mk (some 65) _ _ _ _ _) (v := ?_) rfl (by as_aux_lemma => kernel_rfl) (by as_aux_lemma => kernel_rfl) (by as_aux_lemma => kernel_rfl) (fun _ _ _ h => h) (Or.inl ⟨by rfl, ?_⟩) (by assumption) ?_
    rotate_left
    · (intro w hSw; obtain ⟨hf, h0, h1, h2, h9⟩ := hSw; go_simp <;> with_reducible rfl)
    simp only [Act.put, List.setIfInBounds_toArray, List.set_cons_zero, List.set_cons_succ]
    refine wpAnyH_take (i := 8) (oi := Oper.mk (some 66) _ _ _ _ _) (v := ?_) rfl (by as_aux_lemma => kernel_rfl) (by as_aux_lemma => kernel_rfl) (by as_aux_lemma => kernel_rfl) (fun _ _ _ h => h) (Or.inl ⟨by rfl, ?_⟩) (by assumption) ?_
    rotate_left
    · (intro w hSw; obtain ⟨hf, h0, h1, h2, h9⟩ := hSw; go_simp <;> with_reducible rfl)
    simp only [Act.put, List.setIfInBounds_toArray, List.set_cons_zero, List.set_cons_succ]
    refine wpAnyH_take (i := 9) (oi := Oper.mk (some 67) _ _ _ _ _) (v := ?_) rfl (by as_aux_lemma => kernel_rfl) (by as_aux_lemma => kernel_rfl) (by as_aux_lemma => kernel_rfl) (fun _ _ _ h => h) (Or.inl ⟨by rfl, ?_⟩) (by assumption) ?_
    rotate_left
    · (intro w hSw; obtain ⟨hf, h0, h1, h2, h9⟩ := hSw; go_simp <;> with_reducible rfl)
    simp only [Act.put, List.setIfInBounds_toArray, List.set_cons_zero, List.set_cons_succ]
    refine wpAnyH_take (i := 10) (oi := Oper.mk (some 68) _ _ _ _ _) (v := ?_) rfl (by as_aux_lemma => kernel_rfl) (by as_aux_lemma => kernel_rfl) (by as_aux_lemma => kernel_rfl) (fun _ _ _ h => h) (Or.inl ⟨by rfl, ?_⟩) (by assumption) ?_
    rotate_left
    · (intro w hSw; obtain ⟨hf, h0, h1, h2, h9⟩ := hSw; go_simp <;> with_reducible rfl)
    simp only [Act.put, List.setIfInBounds_toArray, List.set_cons_zero, List.set_cons_succ]
    refine wpAnyH_take (i := 11) (oi := Oper.mk (some 69) _ _ _ _ _) (v := ?_) rfl (by as_aux_lemma => kernel_rfl) (by as_aux_lemma => kernel_rfl) (by as_aux_lemma => kernel_rfl) (fun _ _ _ h => h) (Or.inl ⟨by rfl, ?_⟩) (by assumption) ?_
    rotate_left
    · (intro w hSw; obtain ⟨hf, h0, h1, h2, h9⟩ := hSw; go_simp <;> with_reducible rfl)
    simp only [Act.put, List.setIfInBounds_toArray, List.set_cons_zero, List.set_cons_succ]
    refine wpAnyH_take (i := 12) (oi := Oper.mk (some 70) _ _ _ _ _) (v := ?_) rfl (by as_aux_lemma => kernel_rfl) (by as_aux_lemma => kernel_rfl) (by as_aux_lemma => kernel_rfl) (fun _ _ _ h => h) (Or.inl ⟨by rfl, ?_⟩) (by assumption) ?_
    rotate_left
    · (intro w hSw; obtain ⟨hf, h0, h1, h2, h9⟩ := hSw; go_simp <;> with_reducible rfl)
    simp only [Act.put, List.setIfInBounds_toArray, List.set_cons_zero, List.set_cons_succ]
    refine wpAnyH_take (i := 13) (oi := Oper.mk (some 71) _ _ _ _ _) (v := ?_) rfl (by as_aux_lemma => kernel_rfl) (by as_aux_lemma => kernel_rfl) (by as_aux_lemma => kernel_rfl) (fun _ _ _ h => h) (Or.inl ⟨by rfl, ?_⟩) (by assumption) ?_
    rotate_left
    · (intro w hSw; obtain ⟨hf, h0, h1, h2, h9⟩ := hSw; go_simp <;> with_reducible rfl)
    simp only [Act.put, List.setIfInBounds_toArray, List.set_cons_zero, List.set_cons_succ]
    refine wpAnyH_take (i := 14) (oi := Oper.mk (some 72) _ _ _ _ _) (v := ?_) rfl (by as_aux_lemma => kernel_rfl) (by as_aux_lemma => kernel_rfl) (by as_aux_lemma => kernel_rfl) (fun _ _ _ h => h) (Or.inl ⟨by rfl, ?_⟩) (by assumption) ?_
    rotate_left
    · (intro w hSw; obtain ⟨hf, h0, h1, h2, h9⟩ := hSw; go_simp <;> with_reducible rfl)
    simp only [Act.put, List.setIfInBounds_toArray, List.set_cons_zero, List.set_cons_succ]
    refine wpAnyH_take (i := 15) (oi := Oper.mk (some 73) _ _ _ _ _) (v := ?_) rfl (by as_aux_lemma => kernel_rfl) (by as_aux_lemma => kernel_rfl) (by as_aux_lemma => kernel_rfl) (fun _ _ _ h => h) (Or.inl ⟨by rfl, ?_⟩) (by assumption) ?_
    rotate_left
    · (intro w hSw; obtain ⟨hf, h0, h1, h2, h9⟩ := hSw; go_simp <;> with_reducible rfl)
    simp only [Act.put, List.setIfInBounds_toArray, List.set_cons_zero, List.set_cons_succ]
    refine wpAnyH_take (i := 16) (oi := Oper.mk (some 74) _ _ _ _ _) (v := ?_) rfl (by as_aux_lemma => kernel_rfl) (by as_aux_lemma => kernel_rfl) (by as_aux_lemma => kernel_rfl) (fun _ _ _ h => h) (Or.inl ⟨by rfl, ?_⟩) (by assumption) ?_
    rotate_left
    · (intro w hSw; obtain ⟨hf, h0, h1, h2, h9⟩ := hSw; go_simp <;> with_reducible rfl)
    simp only [Act.put, List.setIfInBounds_toArray, List.set_cons_zero, List.set_cons_succ]
    refine wpAnyH_take (i := 17) (oi := Oper.mk (some 75) _ _ _ _ _) (v := ?_) rfl (by as_aux_lemma => kernel_rfl) (by as_aux_lemma => kernel_rfl) (by as_aux_lemma => kernel_rfl) (fun _ _ _ h => h) (Or.inl ⟨by rfl, ?_⟩) (by assumption) ?_
    rotate_left
    · (intro w hSw; obtain ⟨hf, h0, h1, h2, h9⟩ := hSw; go_simp <;> with_reducible rfl)
    simp only [Act.put, List.setIfInBounds_toArray, List.set_cons_zero, List.set_cons_succ]
    refine wpAnyH_take (i := 18) (oi := Oper.mk (some 76) _ _ _ _ _) (v := ?_) rfl (by as_aux_lemma => kernel_rfl) (by as_aux_lemma => kernel_rfl) (by as_aux_lemma => kernel_rfl) (fun _ _ _ h => h) (Or.inl ⟨by rfl, ?_⟩) (by assumption) ?_
    rotate_left
    · (intro w hSw; obtain ⟨hf, h0, h1, h2, h9⟩ := hSw; go_simp <;> with_reducible rfl)
    simp only [Act.put, List.setIfInBounds_toArray, List.set_cons_zero, List.set_cons_succ]
    refine wpAnyH_take (i := 19) (oi := Oper.mk (some 77) _ _ _ _ _) (v := ?_) rfl (by as_aux_lemma => kernel_rfl) (by as_aux_lemma => kernel_rfl) (by as_aux_lemma => kernel_rfl) (fun _ _ _ h => h) (Or.inl ⟨by rfl, ?_⟩) (by assumption) ?_
    rotate_left
    · (intro w hSw; obtain ⟨hf, h0, h1, h2, h9⟩ := hSw; go_simp <;> with_reducible rfl)
    simp only [Act.put, List.setIfInBounds_toArray, List.set_cons_zero, List.set_cons_succ]
    refine wpAnyH_take (i := 20) (oi := Oper.mk (some 78) _ _ _ _ _) (v := ?_) rfl (by as_aux_lemma => kernel_rfl) (by as_aux_lemma => kernel_rfl) (by as_aux_lemma => kernel_rfl) (fun _ _ _ h => h) (Or.inl ⟨by rfl, ?_⟩) (by assumption) ?_
    rotate_left
    · (intro w hSw; obtain ⟨hf, h0, h1, h2, h9⟩ := hSw; go_simp <;> with_reducible rfl)
    simp only [Act.put, List.setIfInBounds_toArray, List.set_cons_zero, List.set_cons_succ]
    refine wpAnyH_take (i := 21) (oi := Oper.mk (some 79) _ _ _ _ _) (v := ?_) rfl (by as_aux_lemma => kernel_rfl) (by as_aux_lemma => kernel_rfl) (by as_aux_lemma => kernel_rfl) (fun _ _ _ h => h) (Or.inl ⟨by rfl, ?_⟩) (by assumption) ?_
    rotate_left
    · (intro w hSw; obtain ⟨hf, h0, h1, h2, h9⟩ := hSw; go_simp <;> with_reducible rfl)
    simp only [Act.put, List.setIfInBounds_toArray, List.set_cons_zero, List.set_cons_succ]
    refine wpAnyH_take (i := 22) (oi := Oper.mk (some 80) _ _ _ _ _) (v := ?_) rfl (by as_aux_lemma => kernel_rfl) (by as_aux_lemma => kernel_rfl) (by as_aux_lemma => kernel_rfl) (fun _ _ _ h => h) (Or.inl ⟨by rfl, ?_⟩) (by assumption) ?_
    rotate_left
    · (intro w hSw; obtain ⟨hf, h0, h1, h2, h9⟩ := hSw; go_simp <;> with_reducible rfl)
    simp only [Act.put, List.setIfInBounds_toArray, List.set_cons_zero, List.set_cons_succ]
    refine wpAnyH_ready (rs := [23]) (by kernel_rfl) (by simp) (AllReadyH.cons (o := Oper.mk (some 81) _ _ _ _ _) rfl (fun K hK => ?_) AllReadyH.nil)
    go_simp
    go_at_call 13
    refine (HRI.out _ hHeld1.1).mono ?_
    rintro _ v23 ⟨rfl, f⟩
    refine hK.out _ _ ⟨hHeld1.1.trans0 f, HC.out _ (hHeld1.1.trans0 f)⟩ (fun hHeld2 => ?_)
    clear hK K hHeld1 f
    try simp only [Act.put, List.setIfInBounds_toArray, List.set_cons_zero, List.set_cons_succ]
    refine wpAnyH_take (i := 24) (oi := Oper.mk (some 82) _ _ _ _ _) (v := ?_) rfl (by as_aux_lemma => kernel_rfl) (by as_aux_lemma => kernel_rfl) (by as_aux_lemma => kernel_rfl) (fun _ _ _ h => h) (Or.inl ⟨by rfl, ?_⟩) (by assumption) ?_
    rotate_left
    · (intro w hSw; obtain ⟨hf, h0, h1, h2, h9⟩ := hSw; go_simp <;> with_reducible rfl)
    simp only [Act.put, List.setIfInBounds_toArray, List.set_cons_zero, List.set_cons_succ]
    refine wpAnyH_take (i := 25) (oi := Oper.mk (some 83) _ _ _ _ _) (v := ?_) rfl (by as_aux_lemma => kernel_rfl) (by as_aux_lemma => kernel_rfl) (by as_aux_lemma => kernel_rfl) (fun _ _ _ h => h) (Or.inl ⟨by rfl, ?_⟩) (by assumption) ?_
    rotate_left
    · (intro w hSw; obtain ⟨hf, h0, h1, h2, h9⟩ := hSw; go_simp <;> with_reducible rfl)
    simp only [Act.put, List.setIfInBounds_toArray, List.set_cons_zero, List.set_cons_succ]
    refine wpAnyH_take (i := 26) (oi := Oper.mk (some 84) _ _ _ _ _) (v := ?_) rfl (by as_aux_lemma => kernel_rfl) (by as_aux_lemma => kernel_rfl) (by as_aux_lemma => kernel_rfl) (fun _ _ _ h => h) (Or.inl ⟨by rfl, ?_⟩) (by assumption) ?_
    rotate_left
    · (intro w hSw; obtain ⟨hf, h0, h1, h2, h9⟩ := hSw; go_simp <;> with_reducible rfl)
    simp only [Act.put, List.setIfInBounds_toArray, List.set_cons_zero, List.set_cons_succ]
    refine wpAnyH_take (i := 29) (oi := Oper.mk (some 87) _ _ _ _ _) (v := ?_) rfl (by as_aux_lemma => kernel_rfl) (by as_aux_lemma => kernel_rfl) (by as_aux_lemma => kernel_rfl) (fun _ _ _ h => h) (Or.inl ⟨by rfl, ?_⟩) (by assumption) ?_
    rotate_left
    · (intro w hSw; obtain ⟨hf, h0, h1, h2, h9⟩ := hSw; go_simp <;> with_reducible rfl)
    simp only [Act.put, List.setIfInBounds_toArray, List.set_cons_zero, List.set_cons_succ]
    refine wpAnyH_take (i := 30) (oi := Oper.mk (some 88) _ _ _ _ _) (v := ?_) rfl (by as_aux_lemma => kernel_rfl) (by as_aux_lemma => kernel_rfl) (by as_aux_lemma => kernel_rfl) (fun _ _ _ h => h) (Or.inl ⟨by rfl, ?_⟩) (by assumption) ?_
    rotate_left
    · (intro w hSw; obtain ⟨hf, h0, h1, h2, h9⟩ := hSw; go_simp <;> with_reducible rfl)
    simp only [Act.put, List.setIfInBounds_toArray, List.set_cons_zero, List.set_cons_succ]
    refine wpAnyH_ready (rs := [27]) (by kernel_rfl) (by simp) (AllReadyH.cons (o := Oper.mk (some 85) _ _ _ _ _) rfl (fun K hK => ?_) AllReadyH.nil)
    go_simp
    go_at_call 14
    refine (HRW.out _ hHeld2.1).mono ?_
    rintro _ v27 ⟨vw, rfl, acc⟩
    obtain ⟨qw, dw, rfl, sw, -⟩ := acc.sl
    have tw := sl_txt sw rfl (d := dw)
    refine hK.out _ _ ⟨hHeld2.1.trans0 acc.fr, HC.out _ (hHeld2.1.trans0 acc.fr)⟩ (fun hHeld3 => ?_)
    clear hK K hHeld2 acc sw
    try simp only [Act.put, List.setIfInBounds_toArray, List.set_cons_zero, List.set_cons_succ]
    refine wpAnyH_ready (rs := [28]) (by kernel_rfl) (by simp) (AllReadyH.cons (o := Oper.mk (some 86) _ _ _ _ _) rfl (fun K hK => ?_) AllReadyH.nil)
    go_simp
    refine hK.out _ _ hHeld3 (fun hHeld4 => ?_)
    clear hK K hHeld3 tw
    try simp only [Act.put, List.setIfInBounds_toArray, List.set_cons_zero, List.set_cons_succ]
    refine wpAnyH_take (i := 31) (oi := Oper.mk (some 89) _ _ _ _ _) (v := ?_) rfl (by as_aux_lemma => kernel_rfl) (by as_aux_lemma => kernel_rfl) (by as_aux_lemma => kernel_rfl) (fun _ _ _ h => h) (Or.inl ⟨by rfl, ?_⟩) (by assumption) ?_
    rotate_left
    · (intro w hSw; obtain ⟨hf, h0, h1, h2, h9⟩ := hSw; go_simp <;> with_reducible rfl)
    simp only [Act.put, List.setIfInBounds_toArray, List.set_cons_zero, List.set_cons_succ]
    refine wpAnyH_take (i := 32) (oi := Oper.mk (some 90) _ _ _ _ _) (v := ?_) rfl (by as_aux_lemma => kernel_rfl) (by as_aux_lemma => kernel_rfl) (by as_aux_lemma => kernel_rfl) (fun _ _ _ h => h) (Or.inl ⟨by rfl, ?_⟩) (by assumption) ?_
    rotate_left
    · (intro w hSw; obtain ⟨hf, h0, h1, h2, h9⟩ := hSw; go_simp <;> with_reducible rfl)
    simp only [Act.put, List.setIfInBounds_toArray, List.set_cons_zero, List.set_cons_succ]
    refine wpAnyH_take (i := 33) (oi := Oper.mk (some 2) _ _ _ _ _) (v := ?_) rfl (by as_aux_lemma => kernel_rfl) (by as_aux_lemma => kernel_rfl) (by as_aux_lemma => kernel_rfl) (fun _ _ _ h => h) (Or.inl ⟨by rfl, ?_⟩) (by assumption) ?_
    rotate_left
    · (intro w hSw; obtain ⟨hf, h0, h1, h2, h9⟩ := hSw; go_simp <;> with_reducible rfl)
    simp only [Act.put, List.setIfInBounds_toArray, List.set_cons_zero, List.set_cons_succ]
    have F9 := Lib.hid hHeld4.1
    clear hHeld4
    refine wpAnyH_done (by kernel_rfl) ?_ _
    refine NoPanic.normal ?_
    go_wp2_with fail
    go_ret
    exact ⟨rfl, FW.out.trans0 F9.out⟩
  · have HNO := Lib.hid hno
    have F2 := Lib.hid (F1.out.trans0 f2)
    clear hno f2 HRD F1
    go_wp2_with fail
    refine (HWT.out _ F2.out).mono ?_
    rintro _ w3 (⟨y, hok2, -⟩ | ⟨-, rfl, f3⟩)
    · exact absurd ⟨_, hok2⟩ HNO.out
    have F3 := Lib.hid (F2.out.trans0 f3)
    clear f3 HWT
    go_wp2_with fail
    go_ret
    exact ⟨rfl, F3.out⟩
end
end Go.Proofs.Ytmieeoceckcnkaa
