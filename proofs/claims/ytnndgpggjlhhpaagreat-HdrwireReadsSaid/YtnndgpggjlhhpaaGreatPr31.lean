/- ZlRefPack -/
import Derived.Test.YtnndgpggjlhhpaaGreatPr1
import Derived.Test.YtnndgpggjlhhpaaGreatPr2
import Derived.Test.YtnndgpggjlhhpaaGreatPr15
import Derived.Test.YtnndgpggjlhhpaaGreatPr19
import Derived.Test.YtnndgpggjlhhpaaGreatPr20
import Derived.Test.YtnndgpggjlhhpaaGreatPr21
import Derived.Test.YtnndgpggjlhhpaaGreatPr22
import Derived.Test.YtnndgpggjlhhpaaGreatPr23
import Derived.Test.YtnndgpggjlhhpaaGreatPr24
import Derived.Test.YtnndgpggjlhhpaaGreatPr25
import Derived.Test.YtnndgpggjlhhpaaGreatPr26
import Derived.Test.YtnndgpggjlhhpaaGreatPr27
import Derived.Test.YtnndgpggjlhhpaaGreatPr28
import Derived.Test.YtnndgpggjlhhpaaGreatPr29
import Derived.Test.YtnndgpggjlhhpaaGreatPr30
import Derived.WalkKit
import Derived.StillTailTactics
import Derived.WalkSpells
import Derived.WalkLawsBesides
import Derived.Deep.QuietTactic
import Derived.BigQuiet
import Derived.RegionTactic
import Derived.Deep.AppendLies
import Derived.Deep.RegionLaw
import Derived.Laws.ResultCell
import Derived.Laws.EntriesVeiled
import Derived.Lib.Hide
import Derived.Test.YtnndgpggjlhhpaaGreatRows
import Derived.Laws.BytesArg
import Derived.Lib.SlBytesConst
import Derived.Maps.AppendAt
import Derived.Laws.AppendOwnNone
import Derived.Laws.MakeOwn
import Derived.BigRegion
import Derived.Laws.OwnMore
import Derived.IntWalk
import Derived.Lib.MakeNoZero
import Derived.Laws.CopyOwn
import Derived.Laws.Tables
import Derived.Defers
import Derived.Recover
import Derived.Deep.RegionHeld3
import Derived.DeepKeys4
import Derived.WideKeyPair
import Derived.MapKept
import Derived.ChangeMaps
import Derived.Laws.Cover3
set_option maxRecDepth 100000
set_option maxHeartbeats 8000000
namespace Go.Proofs.YtnndgpggjlhhpaaGreat
open Go.RowKit
theorem wrap9_length (s b : List Nat) : (wrap9 s b).length = s.length + 6 := by
  simp only [wrap9, List.length_append, List.length_cons, List.length_nil, sum4_length]
  omega
theorem own_row2 (w : World) (x y : Value) (t : TypeId) : (w.alloc (.cells #[x, y] t)).ownsRow 0 t 1 (.slice (some ⟨w.heap.size, 0, none⟩) 2 2) 2 [x, y] :=
  ⟨rfl, .inr ⟨w.heap.size, 2, #[x, y], rfl, Nat.zero_le _, heap_alloc_new w _, Nat.le_refl _, by decide, rfl, rfl⟩⟩
theorem rpack_any (p : Option Addr) (n d : Nat) (b : List Nat) (w : World) (hn : b.length = n) (hb : SlI w .u8 p b) (h8 : ∀ x ∈ b, x < 256) (hp : p = none → d = 0) (hd : n ≤ d) (hL : n ≤ 1048576) :
    Calls Tryz.prog 37 #[.slice p n d] w fun e w' => ∃ v, e = .returned v ∧ Fr S0 w w' ∧ RowNew w w' v (wrap9 (zbst b) b) := by
  have hbl := bst_length b h8
  obtain ⟨N, hN⟩ : ∃ N, (zbst b).length = N := ⟨_, rfl⟩
  have HB : Hid (∀ w', Fr S0 w w' → Calls Tryz.prog 57 #[.slice p n d] w' fun e w'' => ∃ q c, e = .returned (.slice q N c) ∧ Fr S0 w' w'' ∧ w''.ownsRow 0 5 1 (.slice q N c) N (u8s (zbst b))) := Lib.hid fun w' f => by
    have k := rbest_any p d b w' (hb.fr0 f) h8 hp (by omega) (by omega)
    rw [hn] at k
    refine k.mono ?_
    rintro e w'' ⟨v, rfl, f, hv⟩
    obtain ⟨q, c, rfl, -, -, -⟩ := slForm hv.own
    have o := hv.own
    rw [hN] at o
    exact ⟨q, c, by rw [hN], f, o⟩
  have HS : Hid (∀ w', Fr S0 w w' → Calls Tryz.prog 58 #[.slice p n d] w' fun e w'' => ∃ q c, e = .returned (.slice q 4 c) ∧ Fr S0 w' w'' ∧ RowNew w' w'' (.slice q 4 c) (sum4 b)) := Lib.hid fun w' f => rsum4_any p n d b w' hn (hb.fr0 f) h8
  have HL : Hid ((wrap9 (zbst b) b).length = 2 + N + 4) := Lib.hid (by rw [wrap9_length, hN]; omega)
  have HR : Hid (Room (2 + N) ∧ Room (2 + N + 4)) := Lib.hid ⟨Room.mk (by omega), Room.mk (by omega)⟩
  have HW : Hid ([120, 1] ++ zbst b ++ sum4 b = wrap9 (zbst b) b) := Lib.hid (by unfold wrap9; rw [List.append_assoc])
  have G0 : Hid (RowG w (w.alloc (.cells #[.int .u8 120, .int .u8 1] 5)) (.slice (some ⟨w.heap.size, 0, none⟩) 2 2) 2 [120, 1]) := Lib.hid ⟨own_row2 w _ _ _, Fr.alloc _ _ _, fresh_made (Fr.refl _ _)⟩
  clear hbl hN hn hb h8 hp hd hL
  go_enter Tryz.func37, Tryz.ntmps37
  go_wp2_with fail
  refine (HB.out _ G0.out.fr).mono ?_
  rintro _ w2 ⟨q2, c2, rfl, f2, o2⟩
  have G2 := Lib.hid (G0.out.fr0 f2)
  have O2 := Lib.hid o2
  clear f2 o2 HB G0
  go_wp2_with (first
    | ((with_reducible show wpList _ _ _ (Oper.mk (some 8) _ _ _ _ _ :: _) _ _); refine app_many el8 (.tmp 5) (.tmp 7) G2.out.own (SrcIs.ofOwns O2.out) rfl rfl rfl rfl rfl (one8s _) HR.out.1 ?_; intro p3 c3 w3 own3 g3 at3; have G3 := Lib.hid (G2.out.app own3 g3 at3); clear own3 g3 at3)
    | fail)
  refine (HS.out _ G3.out.fr).mono ?_
  rintro _ w4 ⟨q4, c4, rfl, f4, o4⟩
  have G4 := Lib.hid (G3.out.fr0 f4)
  have O4 := Lib.hid o4.own
  clear f4 o4 HS G3 G2 O2
  go_wp2_with (first
    | ((with_reducible show wpList _ _ _ (Oper.mk (some 12) _ _ _ _ _ :: _) _ _); refine app_many el8 (.tmp 9) (.tmp 11) G4.out.own (SrcIs.ofOwns O4.out) rfl rfl rfl rfl rfl (one8s _) HR.out.2 ?_; intro p5 c5 w5 own5 g5 at5; have G5 := Lib.hid (G4.out.app own5 g5 at5); clear own5 g5 at5)
    | fail)
  rw [HW.out] at G5
  go_ret
  exact ⟨_, rfl, G5.out.fr, by rw [HL.out]; exact G5.out.own, G5.out.fresh⟩
end Go.Proofs.YtnndgpggjlhhpaaGreat
