/- ZlPack -/
import Derived.Test.YtnndgpggjlhhpaaGreatPr1
import Derived.Test.YtnndgpggjlhhpaaGreatPr2
import Derived.Test.YtnndgpggjlhhpaaGreatPr15
import Derived.Test.YtnndgpggjlhhpaaGreatPr19
import Derived.Test.YtnndgpggjlhhpaaGreatPr20
import Derived.Test.YtnndgpggjlhhpaaGreatPr21
import Derived.Test.YtnndgpggjlhhpaaGreatPr22
import Derived.Test.YtnndgpggjlhhpaaGreatPr23
import Derived.Test.YtnndgpggjlhhpaaGreatPr24
import Derived.Test.YtnndgpggjlhhpaaGreatPr25
import Derived.Test.YtnndgpggjlhhpaaGreatPr26
import Derived.Test.YtnndgpggjlhhpaaGreatPr27
import Derived.Test.YtnndgpggjlhhpaaGreatPr28
import Derived.Test.YtnndgpggjlhhpaaGreatPr29
import Derived.Test.YtnndgpggjlhhpaaGreatPr30
import Derived.Test.YtnndgpggjlhhpaaGreatPr31
import Derived.Lib.AppendZerosOnto
import Derived.Lib.SliceRun
import Derived.Lib.Walk
import Derived.WalkKit
import Derived.StillTailTactics
import Derived.WalkSpells
import Derived.WalkLawsBesides
import Derived.Deep.QuietTactic
import Derived.BigQuiet
import Derived.RegionTactic
import Derived.Deep.AppendLies
import Derived.Deep.RegionLaw
import Derived.Laws.ResultCell
import Derived.Laws.EntriesVeiled
import Derived.Lib.Hide
import Derived.Test.YtnndgpggjlhhpaaGreatRows
import Derived.Laws.BytesArg
import Derived.Lib.SlBytesConst
import Derived.Maps.AppendAt
import Derived.Laws.AppendOwnNone
import Derived.Laws.MakeOwn
import Derived.BigRegion
import Derived.Laws.OwnMore
import Derived.IntWalk
import Derived.Lib.MakeNoZero
import Derived.Laws.CopyOwn
import Derived.Laws.Tables
import Derived.Defers
import Derived.Recover
import Derived.Deep.RegionHeld3
import Derived.DeepKeys4
import Derived.WideKeyPair
import Derived.MapKept
import Derived.ChangeMaps
import Derived.Laws.Cover3
set_option maxRecDepth 100000
set_option maxHeartbeats 8000000
namespace Go.Proofs.YtnndgpggjlhhpaaGreat
open Go.RowKit
theorem frozen_fr (w : World) (a : Addr) (n : Nat) : Fr (· = a.block) w (w.freeze a n) := by
  unfold World.freeze
  split
  · exact Fr.refl _ _
  · refine ⟨rfl, rfl, rfl, by simp, fun k hk hne => ?_⟩
    show (w.heap.modify a.block _)[k]? = _
    rw [Array.getElem?_modify]
    rw [if_neg (fun e => hne e.symm)]
theorem const_any {w : World} {g : Nat} {C : Array Value} (h : w.heap[g]? = some (.cells C 5 (0, 0))) (n c : Nat) :
    ∃ w', (convert 31 31 (.slice (some ⟨g, 0, none⟩) n c)).run Tryz.prog w = .ok (.slice (some ⟨g, 0, none⟩) n c) w' ∧ Fr (· = g) w w' ∧ ∃ fz, w'.heap[g]? = some (.cells C 5 fz) := by
  have hsh : w.shape? g = some (5, C.size) := by unfold World.shape?; rw [h]
  refine ⟨w.freeze ⟨g, C.size, none⟩ 1, ?_, frozen_fr w ⟨g, C.size, none⟩ 1, ?_⟩
  · simp [convert, run_underlying Tryz.underlying31, run_underlying Tryz.underlying5, markStringish, hsh]
  · unfold World.freeze
    rw [if_neg (by decide)]
    show ∃ fz, (w.heap.modify g _)[g]? = _
    rw [Array.getElem?_modify, if_pos rfl, h]
    exact ⟨_, rfl⟩
def V3 (a b c : Option Addr × Nat × Nat) : Nat → Option Addr × Nat × Nat
  | 0 => a
  | 1 => b
  | _ => c
def L3 (a b c : List Nat) : Nat → List Nat
  | 0 => a
  | 1 => b
  | _ => c
theorem concat3 {w W : World} {G h z N c : Nat} {q : Option Addr} {t : TypeId} {S b : List Nat} (F : Fr S0 w W) (hG : W.heap[G]? = some (.cells #[.slice (some ⟨h, 0, none⟩) 2 2, .slice q N c, .slice (some ⟨z, 0, none⟩) 4 4] t (0, 0)))
    (s0 : SlI W .u8 (some ⟨h, 0, none⟩) [120, 1]) (s1 : SlI W .u8 q S) (hN : S.length = N) (hq : q = none → c = 0) (s2 : SlI W .u8 (some ⟨z, 0, none⟩) (sum4 b)) (hle : N ≤ 100000000) :
    Calls Tryz.prog 55 #[.slice (some ⟨G, 0, none⟩) 3 3] W fun e w' => ∃ v, e = .returned v ∧ Fr S0 w w' ∧ RowNew w w' v (wrap9 S b) := by
  have hc : cat (L3 [120, 1] S (sum4 b)) 3 = wrap9 S b := by
    show (([] ++ [120, 1]) ++ S) ++ sum4 b = _
    rw [List.nil_append, List.append_assoc]
    rfl
  have hl := wrap9_length S b
  have k := concat_any G 3 (V3 (some ⟨h, 0, none⟩, 2, 2) (q, N, c) (some ⟨z, 0, none⟩, 4, 4)) (L3 [120, 1] S (sum4 b)) W (fun j hj => by
    have hcell : ∀ v, (#[Value.slice (some ⟨h, 0, none⟩) 2 2, .slice q N c, .slice (some ⟨z, 0, none⟩) 4 4])[j]? = some v → W.cell? ⟨G, j, none⟩ = some v := fun v hv => by simp only [World.cell?, hG]; exact hv
    match j, hj, hcell with
    | 0, _, hcell => exact ⟨hcell _ rfl, SrcIs.ofSl s0 (fun h => by cases h), rfl⟩
    | 1, _, hcell => exact ⟨hcell _ rfl, by have := SrcIs.ofSl s1 hq; rw [hN] at this; exact this, hN⟩
    | 2, _, hcell => exact ⟨hcell _ rfl, SrcIs.ofSl s2 (fun h => by cases h), rfl⟩) (by decide) (by rw [hc]; omega) (by rw [hc]; omega)
  rw [hc] at k
  exact k.mono fun e w' ⟨v, he, f, r⟩ => ⟨v, he, F.trans0 f, r.own, fresh_fr F r.fresh⟩
theorem pack_any (p : Option Addr) (n d : Nat) (b : List Nat) (w : World) (hn : b.length = n) (hb : SlI w .u8 p b) (h8 : ∀ x ∈ b, x < 256) (hp : p = none → d = 0) (hd : n ≤ d) (hL : n ≤ 1048576) :
    Calls Tryz.prog 56 #[.slice p n d] w fun e w' => ∃ v, e = .returned v ∧ Fr S0 w w' ∧ RowNew w w' v (wrap9 (zbst b) b) := by
  have hbl := bst_length b h8
  have HS := Lib.hid (zseal_any p n d b w hn hb h8 hd)
  obtain ⟨S, hS⟩ : ∃ S, zbst b = S := ⟨_, rfl⟩
  obtain ⟨N, hN⟩ : ∃ N, S.length = N := ⟨_, rfl⟩
  have HB : Hid (∀ w', Fr S0 w w' → Calls Tryz.prog 92 #[.slice p n d] w' fun e w'' => ∃ q c, e = .returned (.slice q N c) ∧ Fr S0 w' w'' ∧ SlI w'' .u8 q S ∧ (q = none → c = 0) ∧ ∀ a, q = some a → w'.heap.size ≤ a.block) := Lib.hid fun w' f => by
    have k := best_any p d b w' (hb.fr0 f) h8 hp (by omega) (by omega)
    rw [hn] at k
    refine k.mono ?_
    rintro e w'' ⟨v, rfl, f, hv⟩
    obtain ⟨q, c, rfl, hq, -, -⟩ := slForm hv.own
    have o := SlI.ofOwns hv.own
    rw [hS] at o
    exact ⟨q, c, by rw [hS, hN], f, o, hq, fun a e => hv.fresh a.block (by subst e; rfl)⟩
  rw [hS] at hbl ⊢
  have HN := Lib.hid hN
  have HLE : Hid (N ≤ 100000000) := Lib.hid (by omega)
  clear hbl hS hN hn hb h8 hp hd hL
  go_enter Tryz.func56, Tryz.ntmps56
  go_wp2_with fail
  refine HS.out.mono ?_
  rintro _ w1 ⟨rfl, f1⟩
  have F1 := Lib.hid f1
  clear f1 HS
  go_wp2_with (first
    | ((with_reducible show wpList _ _ _ (Oper.mk none (Op.store _ _ _) _ _ _ _ :: _) _ _); refine store_new 131 (.tmp 3) (.tmp 5) rfl rfl rfl rfl (show _ = some 4 from sz4) (show 4 = 4 from rfl) (by rw [Array.all_eq_true']; exact fun v hv => one8s (sum4 b) v (by rw [← sum4v_list]; exact Array.mem_toList_iff.2 hv)) ?_)
    | fail)
  have f2 : Fr S0 w (w1.alloc (.cells (sum4v b) 131)) := F1.out.trans0 (Fr.alloc _ _ _)
  have HZ : Hid (∀ W, Fr S0 (w1.alloc (.cells (sum4v b) 131)) W → SlI W .u8 (some ⟨w1.heap.size, 0, none⟩) (sum4 b)) := Lib.hid fun W f => (SlI.ofBlock (heap_alloc_new w1 _) (sum4v_list b) (by rw [sum4_length]; decide)).fr0 f
  obtain ⟨z, hz⟩ : ∃ z, w1.heap.size = z := ⟨_, rfl⟩
  rw [hz] at HZ ⊢
  generalize w1.alloc (.cells (sum4v b) 131) = W at f2 HZ ⊢
  have kb := constB
  have kb2 : (convert 31 31 (.slice (some ⟨W.heap.size, 0, none⟩) 2 2)).run Tryz.prog (W.alloc (.cells #[.int .u8 120, .int .u8 1] 5)).drew = .ok (.slice (some ⟨W.heap.size, 0, none⟩) 2 2) (W.alloc (.cells #[.int .u8 120, .int .u8 1] 5 (2, 3))).drew := constB W.drew #[.int .u8 120, .int .u8 1] 2 2
  have H0 : ∀ (W0 : World) fz, SlI (W0.alloc (.cells #[.int .u8 120, .int .u8 1] 5 fz)) .u8 (some ⟨W0.heap.size, 0, none⟩) [120, 1] := fun W0 fz => SlI.new W0 _ _ _ _ _ rfl (by decide)
  have HA : Hid (Calls Tryz.prog 92 #[.slice p n d] W.drew fun e w3 => ∃ q c, e = .returned (.slice q N c) ∧
      Calls Tryz.prog 55 #[.slice (some ⟨w3.heap.size + 1, 0, none⟩) 3 3] ((w3.alloc (.cells #[.int .u8 120, .int .u8 1] 5 (2, 3))).alloc (.cells #[.slice (some ⟨w3.heap.size, 0, none⟩) 2 2, .slice q N c, .slice (some ⟨z, 0, none⟩) 4 4] 31)) fun e w' => ∃ v, e = .returned v ∧ Fr S0 w w' ∧ RowNew w w' v (wrap9 S b)) := Lib.hid (by
    refine (HB.out _ (f2.trans0 (Fr.drew _ _))).mono ?_
    rintro _ w3 ⟨q, c, rfl, f3, s3, hq, -⟩
    have fa : Fr S0 w3 (w3.alloc (.cells #[.int .u8 120, .int .u8 1] 5 (2, 3))) := Fr.alloc _ _ _
    have fb : Fr S0 _ ((w3.alloc (.cells #[.int .u8 120, .int .u8 1] 5 (2, 3))).alloc (.cells #[.slice (some ⟨w3.heap.size, 0, none⟩) 2 2, .slice q N c, .slice (some ⟨z, 0, none⟩) 4 4] 31)) := Fr.alloc _ _ _
    have hG := heap_alloc_new (w3.alloc (.cells #[.int .u8 120, .int .u8 1] 5 (2, 3))) (.cells #[.slice (some ⟨w3.heap.size, 0, none⟩) 2 2, .slice q N c, .slice (some ⟨z, 0, none⟩) 4 4] 31)
    rw [size_alloc] at hG
    have ft : Fr S0 W w3 := (Fr.drew S0 W).trans0 f3
    exact ⟨q, c, rfl, concat3 ((f2.trans0 ft).trans0 (fa.trans0 fb)) hG ((H0 w3 _).fr0 fb) (s3.fr0 (fa.trans0 fb)) HN.out hq (HZ.out _ (ft.trans0 (fa.trans0 fb))) HLE.out⟩)
  have HBB : Hid (Calls Tryz.prog 92 #[.slice p n d] (W.alloc (.cells #[.int .u8 120, .int .u8 1] 5)).drew fun e w3 => ∃ q c w4, e = .returned (.slice q N c) ∧
      (convert 31 31 (.slice (some ⟨W.heap.size, 0, none⟩) 2 2)).run Tryz.prog w3 = .ok (.slice (some ⟨W.heap.size, 0, none⟩) 2 2) w4 ∧
      Calls Tryz.prog 55 #[.slice (some ⟨w4.heap.size, 0, none⟩) 3 3] (w4.alloc (.cells #[.slice (some ⟨W.heap.size, 0, none⟩) 2 2, .slice q N c, .slice (some ⟨z, 0, none⟩) 4 4] 31)) fun e w' => ∃ v, e = .returned v ∧ Fr S0 w w' ∧ RowNew w w' v (wrap9 S b)) := Lib.hid (by
    have fa : Fr S0 W (W.alloc (.cells #[.int .u8 120, .int .u8 1] 5)).drew := (Fr.alloc _ _ _).trans0 (Fr.drew _ _)
    refine (HB.out _ (f2.trans0 fa)).mono ?_
    rintro _ w3 ⟨q, c, rfl, f3, s3, hq, hfq⟩
    have b3 := f3.row (show (W.alloc (.cells #[.int .u8 120, .int .u8 1] 5)).drew.heap[W.heap.size]? = _ from heap_alloc_new W _) (fun h => h)
    obtain ⟨w4, k, f4, fz, b4⟩ := const_any b3 2 2
    have hWs := f2.size
    have f34 : Fr S0 W w4 := (fa.trans0 f3).trans f4 (fun j hj e => by omega)
    have s4 : SlI w4 .u8 q S := s3.fr f4 (fun _ a e h => by have := hfq a e; rw [h] at this; simp at this; omega)
    have fb : Fr S0 w4 (w4.alloc (.cells #[.slice (some ⟨W.heap.size, 0, none⟩) 2 2, .slice q N c, .slice (some ⟨z, 0, none⟩) 4 4] 31)) := Fr.alloc _ _ _
    exact ⟨q, c, w4, rfl, k, concat3 ((f2.trans0 f34).trans0 fb) (heap_alloc_new w4 _) ((SlI.ofBlock b4 rfl (by decide)).fr0 fb) (s4.fr0 fb) HN.out hq (HZ.out _ (f34.trans0 fb)) HLE.out⟩)
  have HCC : Hid (Calls Tryz.prog 92 #[.slice p n d] (W.alloc (.cells #[.int .u8 120, .int .u8 1] 5 (2, 3))).drew fun e w3 => ∃ q c, e = .returned (.slice q N c) ∧
      Calls Tryz.prog 55 #[.slice (some ⟨w3.heap.size, 0, none⟩) 3 3] (w3.alloc (.cells #[.slice (some ⟨W.heap.size, 0, none⟩) 2 2, .slice q N c, .slice (some ⟨z, 0, none⟩) 4 4] 31)) fun e w' => ∃ v, e = .returned v ∧ Fr S0 w w' ∧ RowNew w w' v (wrap9 S b)) := Lib.hid (by
    have fa : Fr S0 W (W.alloc (.cells #[.int .u8 120, .int .u8 1] 5 (2, 3))).drew := (Fr.alloc _ _ _).trans0 (Fr.drew _ _)
    refine (HB.out _ (f2.trans0 fa)).mono ?_
    rintro _ w3 ⟨q, c, rfl, f3, s3, hq, -⟩
    have fb : Fr S0 w3 (w3.alloc (.cells #[.slice (some ⟨W.heap.size, 0, none⟩) 2 2, .slice q N c, .slice (some ⟨z, 0, none⟩) 4 4] 31)) := Fr.alloc _ _ _
    have s0 : SlI (W.alloc (.cells #[.int .u8 120, .int .u8 1] 5 (2, 3))).drew .u8 (some ⟨W.heap.size, 0, none⟩) [120, 1] := (H0 W _).fr0 (Fr.drew _ _)
    exact ⟨q, c, rfl, concat3 ((f2.trans0 (fa.trans0 f3)).trans0 fb) (heap_alloc_new w3 _) (s0.fr0 (f3.trans0 fb)) (s3.fr0 fb) HN.out hq (HZ.out _ ((fa.trans0 f3).trans0 fb)) HLE.out⟩)
  clear HB HZ HN HLE F1 f2 hz H0
  go_region_law (first
    | (go_simp; go_at_call 92; (with_reducible refine HA.out.mono ?_); rintro _ w3 ⟨q, c, rfl, kc⟩; have KC := Lib.hid kc; clear kc)
    | (go_simp; go_at_call 92; (with_reducible refine HBB.out.mono ?_); rintro _ w3 ⟨q, c, w4, rfl, kcv, kc⟩; have KC := Lib.hid kc; clear kc)
    | (go_simp; go_at_call 92; (with_reducible refine HCC.out.mono ?_); rintro _ w3 ⟨q, c, rfl, kc⟩; have KC := Lib.hid kc; clear kc)
    | (go_simp; go_at_call 55; (with_reducible refine KC.out.mono ?_); rintro _ w5 ⟨v, rfl, f5, r5⟩))
  all_goals
    go_wp2_with fail
    go_ret
    exact ⟨_, rfl, f5, r5⟩
end Go.Proofs.YtnndgpggjlhhpaaGreat
