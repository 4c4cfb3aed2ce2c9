/- ZlBase, ZlConcat -/
import Derived.Test.YtnndgpggjlhhpaaGreatPt1
import Derived.Test.YtnndgpggjlhhpaaGreatPt2
import Derived.Test.YtnndgpggjlhhpaaGreatPt15
import Derived.Test.YtnndgpggjlhhpaaGreatPt19
import Derived.Test.YtnndgpggjlhhpaaGreatPt20
import Derived.Test.YtnndgpggjlhhpaaGreatPt21
import Derived.Test.YtnndgpggjlhhpaaGreatPt22
import Derived.Test.YtnndgpggjlhhpaaGreatPt23
import Derived.WalkKit
import Derived.StillTailTactics
import Derived.WalkSpells
import Derived.WalkLawsBesides
import Derived.Deep.QuietTactic
import Derived.BigQuiet
import Derived.RegionTactic
import Derived.Deep.AppendLies
import Derived.Deep.RegionLaw
import Derived.Laws.ResultCell
import Derived.Laws.EntriesVeiled
import Derived.Lib.Hide
import Derived.Test.YtnndgpggjlhhpaaGreatRows
import Derived.Laws.BytesArg
import Derived.Lib.SlBytesConst
import Derived.Maps.AppendAt
import Derived.Laws.AppendOwnNone
import Derived.Laws.MakeOwn
import Derived.BigRegion
import Derived.Laws.OwnMore
import Derived.IntWalk
import Derived.Lib.MakeNoZero
import Derived.Laws.CopyOwn
import Derived.Laws.Tables
import Derived.Defers
import Derived.Recover
import Derived.Deep.RegionHeld3
import Derived.Lib.AppendZerosOnto
import Derived.Lib.SliceRun
import Derived.Lib.Walk
set_option maxRecDepth 100000
set_option maxHeartbeats 8000000
namespace Go.Proofs.YtnndgpggjlhhpaaGreat
open Go.RowKit
def sum4v (l : List Nat) : Array Value := #[.int .u8 (adSum l / 16777216 : Nat), .int .u8 (adSum l / 65536 % 256 : Nat), .int .u8 (adSum l / 256 % 256 : Nat), .int .u8 (adSum l % 256 : Nat)]
theorem sum4v_list (l : List Nat) : (sum4v l).toList = u8s (sum4 l) := rfl
theorem four_facts {w : World} {g : Nat} {a b c d : Value} {t : TypeId} (h : w.heap[g]? = some (.cells #[a, b, c, d] t)) :
    w.cell? ⟨g, 0, none⟩ = some a ∧ w.cell? ⟨g, 1, none⟩ = some b ∧ w.cell? ⟨g, 2, none⟩ = some c ∧ w.cell? ⟨g, 3, none⟩ = some d ∧ w.frozen? ⟨g, 0, none⟩ = false ∧ w.frozen? ⟨g, 1, none⟩ = false ∧ w.frozen? ⟨g, 2, none⟩ = false ∧ w.frozen? ⟨g, 3, none⟩ = false :=
  ⟨by simp [World.cell?, h], by simp [World.cell?, h], by simp [World.cell?, h], by simp [World.cell?, h], by simp [World.frozen?, h], by simp [World.frozen?, h], by simp [World.frozen?, h], by simp [World.frozen?, h]⟩
theorem four_set {w : World} {g : Nat} {a b c d : Value} {t : TypeId} (h : w.heap[g]? = some (.cells #[a, b, c, d] t)) (a' b' c' d' : Value) :
    ((((w.setCell ⟨g, 0, none⟩ a').setCell ⟨g, 1, none⟩ b').setCell ⟨g, 2, none⟩ c').setCell ⟨g, 3, none⟩ d').heap[g]? = some (.cells #[a', b', c', d'] t) ∧ Fr (· = g) w ((((w.setCell ⟨g, 0, none⟩ a').setCell ⟨g, 1, none⟩ b').setCell ⟨g, 2, none⟩ c').setCell ⟨g, 3, none⟩ d') := by
  refine ⟨?_, (((Fr.setCell (· = g) w ⟨g, 0, none⟩ a' rfl).trans (Fr.setCell (· = g) _ ⟨g, 1, none⟩ b' rfl) fun _ _ e => e).trans (Fr.setCell (· = g) _ ⟨g, 2, none⟩ c' rfl) fun _ _ e => e).trans (Fr.setCell (· = g) _ ⟨g, 3, none⟩ d' rfl) fun _ _ e => e⟩
  have h1 : (w.setCell ⟨g, 0, none⟩ a').heap[g]? = some (.cells #[a', b, c, d] t) := by rw [heap_setCell_same w g 0 _ _ _ h]; rfl
  have h2 : ((w.setCell ⟨g, 0, none⟩ a').setCell ⟨g, 1, none⟩ b').heap[g]? = some (.cells #[a', b', c, d] t) := by rw [heap_setCell_same _ g 1 _ _ _ h1]; rfl
  have h3 : (((w.setCell ⟨g, 0, none⟩ a').setCell ⟨g, 1, none⟩ b').setCell ⟨g, 2, none⟩ c').heap[g]? = some (.cells #[a', b', c', d] t) := by rw [heap_setCell_same _ g 2 _ _ _ h2]; rfl
  rw [heap_setCell_same _ g 3 _ _ _ h3]; rfl
theorem results_row_one {P : Program} {fn : Func} {p : Tmp} {ty : TypeId} (h : fn.results = #[.cell p ty]) (tmps : Array Value) (w : World) {g : Nat} {t : TypeId} {cs : Array Value} {fr : Nat × Nat} {d : TypeDesc}
    (hp : tmps.getD p undef = .pointer (some ⟨g, 0, none⟩)) (hg : w.heap[g]? = some (.cells cs t fr)) (hu : P.underlying ty = some d) (hd : (match d with | .struct _ | .array _ _ => true | _ => false) = true) (hi : (P.info? ty).map (·.size) = some cs.size) :
    (results fn tmps).run P w = .ok (.agg cs) w := by
  have hp' : tmps[p]?.getD undef = .pointer (some ⟨g, 0, none⟩) := by simpa using hp
  simp only [results, h]
  simp [hp', asAddr, run_loadVar_row w g t ty cs fr d hg hu hd hi]
theorem sz4 : (Tryz.prog.info? 131).map (·.size) = some 4 := by kernel_rfl
theorem zseal_any (p : Option Addr) (n d : Nat) (l : List Nat) (w : World) (hn : l.length = n) (hl : SlI w .u8 p l) (h8 : ∀ x ∈ l, x < 256) (hd : n ≤ d) :
    Calls Tryz.prog 90 #[.slice p n d, .func (.func 91) #[] #[]] w fun e w' => e = .returned (.agg (sum4v l)) ∧ Fr S0 w w' := by
  subst hn
  have HS : Hid (∀ w', Fr S0 w w' → Calls Tryz.prog 123 #[.slice none 0 0] w' fun e w'' => e = .returned (.int .u32 1) ∧ Fr S0 w' w'') := Lib.hid fun w' _ => sum_any none 0 [] w' (SlI.nil _ _ _) (by simp) (Nat.le_refl _)
  have HM : Hid (∀ w', Fr S0 w w' → Calls Tryz.prog 91 #[.int .u32 1, .slice p l.length d] w' fun e w'' => U32Post w' e w'' (adSum l)) := Lib.hid fun w' f => admore_any 1 p d l w' (by decide) (hl.fr0 f) h8 hd
  have hlt := adSum_lt l
  unfold sum4v
  obtain ⟨S, hS⟩ : ∃ S, adSum l = S := ⟨_, rfl⟩
  rw [hS] at HM hlt ⊢
  obtain ⟨n, hn⟩ : ∃ n, l.length = n := ⟨_, rfl⟩
  rw [hn] at HM ⊢
  clear hl h8 hS hd hn
  go_enter Tryz.func90, Tryz.ntmps90
  go_wp2_with fail
  refine (HS.out _ (Fr.alloc _ _ _)).mono ?_
  rintro e w1 ⟨rfl, f1⟩
  have b1 := f1.row (heap_alloc_new w _) (fun h => h)
  have F1 : Fr S0 w w1 := (Fr.alloc S0 w _).trans0 f1
  have K := Lib.hid (HM.out w1 F1)
  obtain ⟨g, hg⟩ : ∃ g, w.heap.size = g := ⟨_, rfl⟩
  have hg1 := Lib.hid hg
  rw [hg] at b1
  rw [hg]
  have B1 := Lib.hid b1
  have F := Lib.hid F1
  clear b1 F1 f1 HM HS hg
  go_wp2_with fail
  refine K.out.mono ?_
  rintro e w2 ⟨rfl, f2⟩
  have b2 := f2.row B1.out (fun h => h)
  have F2 := Lib.hid (F.out.trans0 f2)
  clear f2 K B1 F
  obtain ⟨c0, c1, c2, c3, z0, z1, z2, z3⟩ := four_facts b2
  have B2 := Lib.hid b2
  clear b2
  go_wp2_with fail
  have k := four_set B2.out (.int .u8 ((S : Int) / 16777216)) (.int .u8 ((S : Int) / 65536 % 256)) (.int .u8 ((S : Int) / 256 % 256)) (.int .u8 ((S : Int) % 256))
  refine bodyPost_ret (results_row_one Tryz.results90 _ _ rfl k.1 Tryz.underlying131 rfl sz4) rfl ⟨rfl, F2.out.trans k.2 fun j hj e => ?_⟩
  have := hg1.out
  omega
def zch (n : Nat) : List PanicEntry := [{ v := .iface 144 (.agg #[.int .i64 (n : Nat)]), recovered := false }]
theorem zdemand_yes (n : Nat) (w : World) :
    Calls Tryz.prog 104 #[.bool true, .int .i64 (n : Nat)] w fun e w' => e = .returned (.tuple #[]) ∧ w = w' := by
  go_enter Tryz.func104, Tryz.ntmps104
  go_wp2
  go_end0
  exact ⟨rfl, rfl⟩
theorem zdemand_no (n : Nat) (w : World) :
    Calls Tryz.prog 104 #[.bool false, .int .i64 (n : Nat)] w fun e w' => e = Ending.panicked (zch n) ∧ w = w' := by
  go_enter Tryz.func104, Tryz.ntmps104
  go_wp2
  exact ⟨rfl, rfl, rfl⟩
end Go.Proofs.YtnndgpggjlhhpaaGreat

namespace Go.Proofs.YtnndgpggjlhhpaaGreat
open Go.RowKit
theorem grow_any (n : Nat) (w : World) (h0 : 0 < n) (hn : n ≤ 1099511627776) :
    Calls Tryz.prog 89 #[.slice none 0 0, .int .i64 n] w fun e w' => ∃ g G, e = .returned (.slice (some ⟨g, 0, none⟩) 0 G) ∧ Fr S0 w w' ∧ w'.ownsRow 0 5 1 (.slice (some ⟨g, 0, none⟩) 0 G) 0 [] ∧ w.heap.size ≤ g := by
  obtain ⟨i0, hi0, hz0, hs0, hb0⟩ := info_parts info_u8
  have hrz : ∀ ty, (Builtin.append_ #[31, 3] ty #[.slice none 0 0, .int .i64 (n : Int)]).run Tryz.prog w =
      .ok (.slice (some ⟨w.heap.size, 0, none⟩) (0 + n) (grownCap w (0 + n) 0 5)) (w.drew.alloc (.cells (([] : List Value).toArray ++ Builtin.zeroCells (Value.cells (.int .u8 0)) n ++ Builtin.zeroCells (Value.cells (.int .u8 0)) (grownCap w (0 + n) 0 5 - (0 + n))) 5)) := fun ty =>
    Lib.run_append_grow_zeros w 31 3 ty 5 i0 (.int .u8 0) .i64 .i64 Tryz.underlying31 Tryz.underlying3 hi0 hz0 none 0 0 [] (run_firstCells_none w.drew i0.size 0 0 0) n (by omega) (by omega) (by omega) (by omega)
      (by rw [hb0]; omega) (by rw [hb0]; exact growslice_fits (by omega) (by omega))
  have hGn : 0 + n ≤ grownCap w (0 + n) 0 5 := grownCap_ge w _ _ _
  have hGm := grownCap_le_maxLen w (0 + n) 0 5 (by unfold maxLen; omega)
  obtain ⟨G, hG⟩ : ∃ G, grownCap w (0 + n) 0 5 = G := ⟨_, rfl⟩
  rw [hG] at hrz hGn hGm
  have hown : Hid ((w.drew.alloc (.cells (([] : List Value).toArray ++ Builtin.zeroCells (Value.cells (.int .u8 0)) n ++ Builtin.zeroCells (Value.cells (.int .u8 0)) (G - (0 + n))) 5)).ownsRow 0 5 1 (.slice (some ⟨w.heap.size, 0, none⟩) 0 G) 0 []) := Lib.hid (by
    refine ⟨rfl, .inr ⟨w.heap.size, G, _, rfl, Nat.zero_le _, heap_alloc_new w.drew _, Nat.zero_le _, hGm, ?_, rfl⟩⟩
    simp [Builtin.zeroCells, Value.cells]
    omega)
  have hfr : Hid (Fr S0 w (w.drew.alloc (.cells (([] : List Value).toArray ++ Builtin.zeroCells (Value.cells (.int .u8 0)) n ++ Builtin.zeroCells (Value.cells (.int .u8 0)) (G - (0 + n))) 5))) := Lib.hid ((Fr.drew S0 w).trans0 (Fr.alloc _ _ _))
  have h1 : ¬ (n : Int) < 0 := by omega
  have h4 : (n : Int) > 0 := by omega
  have h5 : (n : Int) ≤ 1099511627776 := by omega
  unfold maxLen at hGm
  generalize w.drew.alloc (.cells (([] : List Value).toArray ++ Builtin.zeroCells (Value.cells (.int .u8 0)) n ++ Builtin.zeroCells (Value.cells (.int .u8 0)) (G - (0 + n))) 5) = w' at hrz hown hfr
  clear hi0 hz0 hs0 hb0 hG h0 hn
  go_enter Tryz.func89, Tryz.ntmps89
  go_wp2_with (at_builtin; refine Lib.wpList_append_run _ rfl _ _ _ _ rfl _ _ rfl rfl _ _ (hrz _) ?_)
  go_ret
  exact ⟨w.heap.size, G, rfl, hfr.out, hown.out, Nat.le_refl _⟩
def cat (L : Nat → List Nat) : Nat → List Nat
  | 0 => []
  | j + 1 => cat L j ++ L j
def Pcs (w : World) (g n : Nat) (V : Nat → Option Addr × Nat × Nat) (L : Nat → List Nat) : Prop :=
  ∀ j, j < n → w.cell? ⟨g, j, none⟩ = some (.slice (V j).1 (V j).2.1 (V j).2.2) ∧ SrcIs w (.slice (V j).1 (V j).2.1 (V j).2.2) (V j).2.1 (u8s (L j)) ∧ (L j).length = (V j).2.1
theorem cat_le (L : Nat → List Nat) (j : Nat) : ∀ n, j ≤ n → (cat L j).length ≤ (cat L n).length
  | 0, h => by obtain rfl : j = 0 := by omega
               exact Nat.le_refl _
  | n + 1, h => by
    by_cases q : j = n + 1
    · rw [q]; exact Nat.le_refl _
    · have := cat_le L j n (by omega)
      rw [cat, List.length_append]
      omega
theorem concat_any (g n : Nat) (V : Nat → Option Addr × Nat × Nat) (L : Nat → List Nat) (w : World) (h : Pcs w g n V L) (hn : n ≤ 1000) (h0 : 0 < (cat L n).length) (hL : (cat L n).length ≤ 1099511627776) :
    Calls Tryz.prog 55 #[.slice (some ⟨g, 0, none⟩) n n] w fun e w' => ∃ v, e = .returned v ∧ Fr S0 w w' ∧ RowNew w w' v (cat L n) := by
  have H := Lib.hid h
  have HCL := Lib.hid (cat_le L)
  have HL := Lib.hid hL
  have HG := Lib.hid (fun w' => grow_any (cat L n).length w' h0 hL)
  clear h h0 hL
  go_enter Tryz.func55, Tryz.ntmps55
  go_wp2_with fail
  go_loopw [3, 11] (fun s i wr => ∃ j N : Nat, j ≤ n ∧ i = .int .i64 j ∧ (cat L j).length = N ∧ s = .int .i64 N ∧ w = wr) (fun _ i _ => n - (intOf i).toNat)
  case atStart => exact ⟨0, 0, by omega, rfl, rfl, rfl, rfl⟩
  case round =>
    obtain ⟨j, N, hj, rfl, hN, rfl, rfl⟩ := hrel
    by_cases h1 : (j : Int) < (n : Int)
    · obtain ⟨hc, hs, hl⟩ := H.out j (by omega)
      obtain ⟨⟨qj, nj, cj⟩, hv⟩ : ∃ x, V j = x := ⟨_, rfl⟩
      rw [hv] at hc hs hl
      dsimp only at hc hs hl
      have hN2 : (cat L (j + 1)).length = N + nj := by rw [cat, List.length_append, hN, hl]
      have hle := HCL.out (j + 1) n (by omega)
      have hb := HL.out
      have hN3 : N + nj ≤ 1099511627776 := by omega
      have HN2 := Lib.hid hN2
      clear hs hl hN hN2 hle hb hv
      go_wp2_with fail
      go_roundw
      case rel => exact ⟨j + 1, N + nj, by omega, by go_num, HN2.out, by go_num, by trivial⟩
      case measure => simp [intOf]; omega
    · obtain rfl : j = n := by omega
      have KG := Lib.hid (HG.out w)
      rw [hN] at KG
      have HNN := Lib.hid hN
      clear hN HG
      go_wp2_with fail
      refine KG.out.mono ?_
      rintro _ w1 ⟨G, C, rfl, f1, o1, hG⟩
      have F1 := Lib.hid f1
      have O1 := Lib.hid o1
      have V1 : Hid (Fresh w (.slice (some ⟨G, 0, none⟩) 0 C)) := Lib.hid fun k hk => by simp only [Value.ownBlock, Option.some.injEq] at hk; omega
      clear f1 o1 hG KG
      go_wp2_with fail
      go_loopw [6, 27] (fun s i wr => ∃ i' M : Nat, i' ≤ j ∧ i = .int .i64 i' ∧ (cat L i').length = M ∧ Fr S0 w wr ∧ wr.ownsRow 0 5 1 s M (u8s (cat L i')) ∧ Fresh w s) (fun _ i _ => j - (intOf i).toNat)
      case atStart => exact ⟨0, 0, by omega, rfl, rfl, F1.out, O1.out, V1.out⟩
      case round =>
        obtain ⟨i, M, hi, rfl, hM, hfr, own, hfv⟩ := hrel
        obtain ⟨pv, cv, rfl, -, -, -⟩ := slForm own
        have OWN := Lib.hid own
        have HFR := Lib.hid hfr
        have HFV := Lib.hid hfv
        have HM := Lib.hid hM
        by_cases h2 : (i : Int) < (j : Int)
        · obtain ⟨hc, hs, hl⟩ := H.out i (by omega)
          obtain ⟨⟨qj, nj, cj⟩, hv⟩ : ∃ x, V i = x := ⟨_, rfl⟩
          rw [hv] at hc hs hl
          dsimp only at hc hs hl
          have hcr := hfr.cell hc (fun h => h)
          have HSR := Lib.hid (hs.fr hfr (fun _ _ h => h))
          have hN2 : (cat L (i + 1)).length = M + nj := by rw [cat, List.length_append, hM, hl]
          have hle := HCL.out (i + 1) j (by omega)
          have hb := HL.out
          have HRM : Hid (Room (M + nj)) := Lib.hid (Room.mk (by omega))
          have HN2 := Lib.hid hN2
          have HE : Hid (u8s (cat L i) ++ u8s (L i) = u8s (cat L (i + 1))) := Lib.hid (u8s_append _ _)
          clear hc hs hl hN2 hle hb hv own hfr hfv hM
          go_wp2_with (first
            | ((with_reducible show wpList _ _ _ (Oper.mk (some 33) _ _ _ _ _ :: _) _ _); refine app_many el8 (.tmp 31) (.tmp 32) OWN.out HSR.out rfl rfl rfl rfl rfl (one8s _) HRM.out ?_; intro p3 c3 w3 own3 g3 at3; rw [HE.out] at own3; have O3 := Lib.hid own3; have F3 := Lib.hid (HFR.out.append g3 HFV.out); have V3 := Lib.hid (fresh_many HFV.out HFR.out.size at3); clear own3 g3 at3)
            | fail)
          go_roundw
          case rel => exact ⟨i + 1, M + nj, by omega, by go_num, HN2.out, F3.out, O3.out, V3.out⟩
          case measure => simp [intOf]; omega
        · obtain rfl : i = j := by omega
          clear own hfr hfv hM
          go_wp2_with fail
          go_ret
          exact ⟨_, rfl, HFR.out, by rw [HM.out]; exact OWN.out, HFV.out⟩
end Go.Proofs.YtnndgpggjlhhpaaGreat
