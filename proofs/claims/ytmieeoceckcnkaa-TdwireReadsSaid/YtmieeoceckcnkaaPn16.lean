/- RgRow -/
import Derived.Test.YtmieeoceckcnkaaPn1
import Derived.Test.YtmieeoceckcnkaaPn2
import Derived.Test.YtmieeoceckcnkaaPn4
import Derived.Test.YtmieeoceckcnkaaPn5
import Derived.Test.YtmieeoceckcnkaaPn6
import Derived.Test.YtmieeoceckcnkaaPn7
import Derived.Test.YtmieeoceckcnkaaPn8
import Derived.Test.YtmieeoceckcnkaaPn15
import Derived.Deep.RegionHeld3
import Derived.BigQuiet
import Derived.Lib.AppendZerosOnto
import Derived.Lib.SliceRun
import Derived.Lib.Walk
import Derived.StillTailTactics
import Derived.Deep.RegionLaw
import Derived.BigRegion
import Derived.Maps.AppendAt
import Derived.Laws.AppendOwnNone
import Derived.Laws.OwnMore
import Derived.Laws.Externs
import Derived.Shelf.Spec.BitsCarry
import Derived.Deep.CutBlock
import Derived.Deep.CutRange
import Derived.Deep.DeepCutAuto
import Derived.Lib.BitFns
import Derived.Shelf.Small.Bits
import Derived.Shelf.Strconv.Itoa0
import Derived.Shelf.Bits.Mul64
import Derived.Test.YtmieeoceckcnkaaRows
import Derived.WalkKit
import Derived.WalkSpells
import Derived.WalkLawsBesides
import Derived.Deep.QuietTactic
import Derived.RegionTactic
import Derived.Deep.AppendLies
import Derived.Laws.ResultCell
import Derived.Laws.EntriesVeiled
import Derived.Lib.Hide
import Derived.Laws.BytesArg
import Derived.Lib.SlBytesConst
set_option maxRecDepth 100000
set_option maxHeartbeats 8000000
namespace Go.Proofs.Ytmieeoceckcnkaa
open Go.RowKit
theorem rtotal_any (p : Option Addr) (n c : Nat) (l : List Tm) (w : World) (h : Sl w p n c l) (ht : wts l < 18446744073709551616) :
    Calls Try.prog 24 #[.slice p n c] w fun e w' => e = .returned (.int .u64 (wts l : Nat)) ∧ w = w' := by
  have H := Lib.hid h
  have HT := Lib.hid ht
  have hcap := h.cap
  have hmx := h.max
  unfold maxLen at hmx
  clear h ht
  go_enter Try.func24, Try.ntmps24
  go_wp2_with fail
  go_loopw [3, 4] (fun s i wr => ∃ j T : Nat, j ≤ n ∧ i = .int .i64 j ∧ s = .int .u64 T ∧ Hid (wts (l.take j) = T) ∧ w = wr) (fun _ i _ => n - (intOf i).toNat)
  case atStart => exact ⟨0, 0, by omega, rfl, rfl, (by first | exact Lib.hid rfl | exact Lib.hid trivial), rfl⟩
  case round =>
    obtain ⟨j, T, hj, rfl, rfl, hT, hw⟩ := hrel
    obtain rfl := hw
    by_cases hjn : (j : Int) < (n : Int)
    · have hjl : j < l.length := by rw [H.out.len]; omega
      obtain ⟨b, o, rfl, c0, c1⟩ := H.out.at j hjl
      have HD := Lib.hid (wts_take l j hjl).1
      have hle := wts_take_le l (j + 1)
      rw [HD.out, hT.out] at hle
      obtain ⟨⟨tk, tn⟩, ht⟩ : ∃ t, l[j] = t := ⟨_, rfl⟩
      rw [ht] at c0 c1 HD hle
      have hlt : T + tn < 18446744073709551616 := by have := HT.out; simp only at hle; omega
      clear ht hle
      simp only at c0 c1 hlt HD
      have HDD : Hid (wts (l.take (j + 1)) = T + tn) := Lib.hid (by rw [HD.out, hT.out])
      clear HD hT
      go_wp2_with fail
      go_roundw
      case rel => exact ⟨j + 1, T + tn, by omega, by go_num, by go_num, HDD, trivial⟩
      case measure => simp [intOf]; omega
    · obtain rfl : j = n := by omega
      have HV : Hid (wts l = T) := Lib.hid (by rw [← hT.out, ← H.out.len, List.take_length])
      clear hT
      go_wp2_with fail
      go_ret
      exact ⟨by first | (rw [HV.out]; done) | (rw [HV.out]; rfl), rfl⟩
end Go.Proofs.Ytmieeoceckcnkaa
