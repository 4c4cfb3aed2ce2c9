/- TwWrite, TwPut -/
import Derived.Test.YtmieeoceckcnkaaPn1
import Derived.Test.YtmieeoceckcnkaaPn2
import Derived.Test.YtmieeoceckcnkaaPn3
import Derived.Test.YtmieeoceckcnkaaPn4
import Derived.Test.YtmieeoceckcnkaaPn5
import Derived.Test.YtmieeoceckcnkaaPn6
import Derived.Test.YtmieeoceckcnkaaPn7
import Derived.Test.YtmieeoceckcnkaaPn8
import Derived.Test.YtmieeoceckcnkaaPn9
import Derived.Test.YtmieeoceckcnkaaPn10
import Derived.Test.YtmieeoceckcnkaaPn11
import Derived.Test.YtmieeoceckcnkaaPn12
import Derived.Test.YtmieeoceckcnkaaPn13
import Derived.Defers
import Derived.Recover
import Derived.Deep.RegionHeld2
import Derived.StillTailTactics
import Derived.WalkKit
import Derived.Laws.BitsAllLaws
import Derived.Laws.BytesArg
import Derived.Lib.SlBytesConst
import Derived.Maps.AppendAt
import Derived.Laws.AppendOwnNone
import Derived.WalkSpells
import Derived.WalkLawsBesides
import Derived.Deep.QuietTactic
import Derived.BigQuiet
import Derived.RegionTactic
import Derived.Deep.AppendLies
import Derived.Deep.RegionLaw
import Derived.Laws.ResultCell
import Derived.Laws.EntriesVeiled
import Derived.Lib.Hide
import Derived.Test.YtmieeoceckcnkaaRows
import Derived.Deep.RegionHeld3
import Derived.BigRegion
import Derived.Laws.OwnMore
import Derived.Lib.AppendZerosOnto
import Derived.Lib.SliceRun
import Derived.Lib.Walk
import Derived.Laws.Externs
import Derived.Shelf.Spec.BitsCarry
import Derived.Deep.CutBlock
import Derived.Deep.CutRange
import Derived.Deep.DeepCutAuto
import Derived.Lib.BitFns
import Derived.Shelf.Small.Bits
import Derived.Shelf.Strconv.Itoa0
import Derived.Shelf.Bits.Mul64
set_option maxRecDepth 100000
set_option maxHeartbeats 8000000
namespace Go.Proofs.Ytmieeoceckcnkaa
open Go.RowKit
theorem sl_lits {w : World} (t : TypeId) (xs : List Nat) (hn : xs.length ≤ 1000) : SlI (w.alloc (.cells (xs.map fun (x : Nat) => Value.int .u64 (x : Int)).toArray t)) .u64 (some ⟨w.heap.size, 0, none⟩) xs := by
  refine ⟨by unfold maxLen; omega, fun _ => ⟨w.heap.size, 0, rfl, fun i hi => ?_⟩⟩
  have hb := heap_alloc_new w (.cells (xs.map fun (x : Nat) => Value.int .u64 (x : Int)).toArray t)
  generalize w.alloc (.cells (xs.map fun (x : Nat) => Value.int .u64 (x : Int)).toArray t) = W at hb
  simp [World.cell?, hb, hi]
theorem forms_zv : formsS (pat ⟨#[122, 118]⟩) = some [8, 7] := by kernel_rfl
theorem forms_vv : formsS (pat ⟨#[118, 118]⟩) = some [7, 7] := by kernel_rfl
theorem fits_v {n : Nat} (h : n < 18446744073709551616) : fits 7 n = true := fits_big h (by decide)
theorem fits_z {n : Nat} (h : n < 18446744073709551616) : fits 8 n = true := fits_big h (by decide)
theorem forms_v : formsS (pat ⟨#[118]⟩) = some [7] := by kernel_rfl
theorem forms_vzz : formsS (pat ⟨#[118, 122, 122]⟩) = some [7, 8, 8] := by kernel_rfl
theorem put_v (a : Nat) (ha : a < 18446744073709551616) : putS (pat ⟨#[118]⟩) [a] = .ok (enc 7 a) := by
  unfold putS
  rw [forms_v]
  simp only [List.length_cons, List.length_nil, if_true]
  rw [putRows_cons, fits_v ha, putRows_nil]
  simp [wpre]
theorem put_vzz (a b c : Nat) (ha : a < 18446744073709551616) (hb : b < 18446744073709551616) (hc : c < 18446744073709551616) : putS (pat ⟨#[118, 122, 122]⟩) [a, b, c] = .ok (enc 7 a ++ (enc 8 b ++ enc 8 c)) := by
  unfold putS
  rw [forms_vzz]
  simp only [List.length_cons, List.length_nil, if_true]
  rw [putRows_cons, fits_v ha, putRows_cons, fits_z hb, putRows_cons, fits_z hc, putRows_nil]
  simp [wpre]
theorem put_zv (a b : Nat) (ha : a < 18446744073709551616) (hb : b < 18446744073709551616) : putS (pat ⟨#[122, 118]⟩) [a, b] = .ok (enc 8 a ++ enc 7 b) := by
  unfold putS
  rw [forms_zv]
  simp only [List.length_cons, List.length_nil, if_true]
  rw [putRows_cons, fits_z ha, putRows_cons, fits_v hb, putRows_nil]
  simp [wpre]
theorem put_vv (a b : Nat) (ha : a < 18446744073709551616) (hb : b < 18446744073709551616) : putS (pat ⟨#[118, 118]⟩) [a, b] = .ok (enc 7 a ++ enc 7 b) := by
  unfold putS
  rw [forms_vv]
  simp only [List.length_cons, List.length_nil, if_true]
  rw [putRows_cons, fits_v ha, putRows_cons, fits_v hb, putRows_nil]
  simp [wpre]
theorem dput_any (s : ByteArray) (p : Option Addr) (c n : Nat) (l bs : List Nat) (w : World) (hn : l.length = n) (hs : s.size ≤ maxLen) (hl : SlI w .u64 p l) (hb : ∀ x ∈ l, x < 18446744073709551616) (h : putS (pat s) l = .ok bs) :
    Calls Try.prog 27 #[.string s, .slice p n c] w fun e w' => ∃ v, e = .returned v ∧ RowNew w w' v bs ∧ Fr S0 w w' := by
  subst hn
  have H := Lib.hid (wput_any s p c l w hs hl hb)
  rw [h] at H
  clear hs hl hb h
  go_enter Try.func27, Try.ntmps27
  go_wp2_with fail
  refine H.out.mono ?_
  rintro e w1 ⟨f1, v, rfl, own, hf⟩
  have HK := Lib.hid (And.intro (RowNew.mk own hf) f1)
  clear f1 own hf H
  go_wp2_with fail
  go_ret
  exact ⟨v, rfl, HK.out⟩
structure AccB (w wr : World) (v : Value) (N : Nat) (L : List Nat) : Prop where
  own : wr.ownsRow 0 5 1 v N (u8s L)
  fresh : Fresh w v
  fr : Fr S0 w wr
theorem AccB.len {w wr : World} {v : Value} {N : Nat} {L : List Nat} (h : AccB w wr v N L) : L.length = N := by
  have := h.own.1
  simp [u8s] at this
  exact this
theorem AccB.fr0 {w wr w2 : World} {v : Value} {N : Nat} {L : List Nat} (h : AccB w wr v N L) (f : Fr S0 wr w2) : AccB w w2 v N L := ⟨f.owns h.own fun _ _ h => h, h.fresh, h.fr.trans0 f⟩
theorem AccB.app {w wr w3 : World} {v : Value} {N M c : Nat} {q : Option Addr} {L K : List Nat} (h : AccB w wr v N L) (own : w3.ownsRow 0 5 1 (.slice q M c) M (u8s L ++ u8s K)) (hg : wr.grownBy w3 v.ownBlock) (hat : Value.ownBlock (.slice q M c) = v.ownBlock ∨ Value.ownBlock (.slice q M c) = some wr.heap.size) : AccB w w3 (.slice q M c) M (L ++ K) :=
  ⟨by rw [← u8s_append]; exact own, fresh_many h.fresh h.fr.size hat, h.fr.append hg h.fresh⟩
def letS : Bool → ByteArray
  | true => ⟨#[122]⟩
  | false => ⟨#[118]⟩
theorem szMe : (Try.prog.info? 44).map (·.size) = some 2 := by kernel_rfl
theorem oneMe (a : Int) (b : Nat) : (#[Value.int .i64 a, .int .u64 (b : Int)]).all (·.oneCell') = true := by simp [Value.oneCell']
theorem ones8 (l : List Nat) : ∀ y ∈ u8s l, y.oneCell' = true := ones l
theorem cell_pair {w : World} {g : Nat} {a b : Value} {t : TypeId} (h : w.heap[g]? = some (.cells #[a, b] t (0, 0))) : w.cell? ⟨g, 0, none⟩ = some a ∧ w.cell? ⟨g, 1, none⟩ = some b := by simp [World.cell?, h]
theorem put_one (n : Nat) (hn : n < 18446744073709551616) (W : World) : Calls Try.prog 27 #[.string ⟨#[118]⟩, .slice (some ⟨W.heap.size, 0, none⟩) 1 1] (W.alloc (.cells #[.int .u64 (n : Int)] 28)) fun e w' => ∃ v, e = .returned v ∧ RowNew W w' v (enc 7 n) ∧ Fr S0 W w' :=
  (dput_any ⟨#[118]⟩ _ 1 1 [n] _ _ rfl (by decide) (sl_lits 28 [n] (by simp)) (fun x hx => by rw [List.mem_singleton.1 hx]; exact hn) (put_v _ hn)).mono fun e w' ⟨v, he, hr, fr⟩ => ⟨v, he, ⟨hr.own, fun k hk => Nat.le_trans (by simp) (hr.fresh k hk)⟩, (Fr.alloc S0 W _).trans0 fr⟩
theorem put_two (first : Bool) (x n : Nat) (W : World) (hx : x < 18446744073709551616) (hn : n < 18446744073709551616) : Calls Try.prog 27 #[.string (if first then ⟨#[122, 118]⟩ else ⟨#[118, 118]⟩), .slice (some ⟨W.heap.size, 0, none⟩) 2 2] (W.alloc (.cells #[.int .u64 (x : Int), .int .u64 (n : Int)] 28)) fun e w' => ∃ v, e = .returned v ∧ RowNew W w' v (enc (letr first) x ++ enc 7 n) ∧ Fr S0 W w' := by
  have hb : ∀ y ∈ [x, n], y < 18446744073709551616 := by
    intro y hy
    simp only [List.mem_cons, List.not_mem_nil, or_false] at hy
    rcases hy with rfl | rfl <;> assumption
  cases first with
  | true => exact (dput_any ⟨#[122, 118]⟩ _ 2 2 [x, n] _ _ rfl (by decide) (sl_lits 28 [x, n] (by simp)) hb (put_zv _ _ hx hn)).mono fun e w' ⟨v, he, hr, fr⟩ => ⟨v, he, ⟨hr.own, fun k hk => Nat.le_trans (by simp) (hr.fresh k hk)⟩, (Fr.alloc S0 W _).trans0 fr⟩
  | false => exact (dput_any ⟨#[118, 118]⟩ _ 2 2 [x, n] _ _ rfl (by decide) (sl_lits 28 [x, n] (by simp)) hb (put_vv _ _ hx hn)).mono fun e w' ⟨v, he, hr, fr⟩ => ⟨v, he, ⟨hr.own, fun k hk => Nat.le_trans (by simp) (hr.fresh k hk)⟩, (Fr.alloc S0 W _).trans0 fr⟩
theorem tlisted_any (p : Option Addr) (n c : Nat) (L : List Tm) (w : World) (hs : Sl w p n c L) (hi : In64 L) (hn : n ≤ 1000000) :
    Calls Try.prog 28 #[.slice p n c] w fun e w' => ∃ v, e = .returned v ∧ AccB w w' v (enc 7 L.length ++ wrM true true 0 L).length (enc 7 L.length ++ wrM true true 0 L) := by
  have HL := Lib.hid hs
  have HI := Lib.hid hi
  have hnl := hs.len
  have HNL := Lib.hid hnl
  have HPUT := Lib.hid (fun W => put_one n (by omega) W)
  have HKV := Lib.hid (fun first x n W => put_two first x n W)
  have HDD : Hid (enc 7 L.length ++ wrM true true 0 L = enc 7 n ++ wrM true true 0 L) := Lib.hid (by rw [hnl])
  have HD0 : Hid ((enc 7 n).length ≤ 10) := Lib.hid (enc_length 7 n (by decide))
  have hnb : (n : Int) ≤ 1000000 := by omega
  obtain ⟨ALL, eALL⟩ : ∃ x, enc 7 L.length ++ wrM true true 0 L = x := ⟨_, rfl⟩
  rw [eALL] at HDD ⊢
  clear hs hi hnl hn eALL
  go_enter Try.func28, Try.ntmps28
  go_wp2_with fail
  refine (HPUT.out _).mono ?_
  rintro e w4 ⟨v, rfl, hr, f4⟩
  obtain ⟨pv, cv, rfl⟩ := slFormN hr.own
  have HAC : Hid (AccB w w4 (.slice pv (enc 7 n).length cv) (enc 7 n).length (enc 7 n)) := Lib.hid ⟨hr.own, hr.fresh, f4⟩
  obtain ⟨H0, eH0⟩ : ∃ x, enc 7 n = x := ⟨_, rfl⟩
  rw [eH0] at HAC HD0 HDD
  obtain ⟨N0, eN0⟩ : ∃ x, H0.length = x := ⟨_, rfl⟩
  rw [eH0, eN0]
  rw [eN0] at HAC HD0
  clear hr f4 HPUT eH0 eN0
  go_wp2_with fail
  go_loopw [3, 4, 5, 15] (fun bv st fm i wr => ∃ (j N : Nat) (first : Bool) (from_ : Int) (C : List Nat) (pv : Option Addr) (cv : Nat), j ≤ n ∧ N ≤ 10 + 20 * j ∧ i = .int .i64 j ∧ bv = .slice pv N cv ∧ (∃ SS, st = .string SS ∧ Hid (SS = letS first)) ∧ fm = .int .i64 from_ ∧ -9223372036854775808 ≤ from_ ∧ from_ ≤ 9223372036854775807 ∧ Hid (AccB w wr (.slice pv N cv) N C) ∧ Hid (ALL = C ++ wrM true first from_ (L.drop j)) ∧ Hid (first = true → from_ = 0)) (fun _ _ _ i _ => n - (intOf i).toNat)
  case atStart => exact ⟨0, N0, true, 0, H0, pv, cv, by omega, by have := HD0.out; omega, rfl, rfl, ⟨_, rfl, Lib.hid rfl⟩, rfl, by omega, by omega, HAC, HDD, Lib.hid fun _ => rfl⟩
  case round =>
    clear HAC HDD HD0
    obtain ⟨j, N, first, from_, C, pv, cv, hj, hN, rfl, rfl, ⟨SS, rfl, hSS⟩, rfl, hf1, hf2, hacc, heq, hfst⟩ := hrel
    by_cases hjn : (j : Int) < (n : Int)
    · have hjl : j < L.length := by rw [HNL.out]; omega
      obtain ⟨b, o, hpe, d0, d1⟩ := (HL.out.fr0 hacc.out.fr).at j hjl
      have hin := HI.out _ (List.getElem_mem hjl)
      have hdr := List.drop_eq_getElem_cons hjl
      obtain ⟨⟨tk, tn⟩, hx⟩ : ∃ x, L[j] = x := ⟨_, rfl⟩
      rw [hx] at d0 d1 hin hdr
      simp only at d0 d1 hin
      obtain ⟨⟨hk1, hk2⟩, hn64⟩ := hin
      obtain ⟨X, hX⟩ : ∃ X, numb (tk - from_) = X := ⟨_, rfl⟩
      have hX64 : X < 18446744073709551616 := by rw [← hX]; exact numb_lt _
      obtain ⟨Y, hY⟩ : ∃ Y, IntKind.i64.wrap (tk - from_) = Y := ⟨_, rfl⟩
      have hYb : -9223372036854775808 ≤ Y ∧ Y ≤ 9223372036854775807 := by rw [← hY, IntKind.wrap_i64]; omega
      obtain ⟨hY1, hY2⟩ := hYb
      have eX : Y % 18446744073709551616 = (X : Int) := by rw [← hX, numb, ← hY, IntKind.wrap_i64]; omega
      have eX2 : IntKind.u64.wrap Y = (X : Int) := by rw [← eX]; simp [IntKind.wrap, IntKind.bits, IntKind.signed]
      have hmn : mnum true first from_ tk = X := by
        rw [← hX, mnum]
        cases first with
        | true => rw [if_pos (show alone true true = true from rfl), hfst.out rfl, Int.sub_zero]
        | false => rw [if_neg (show ¬ alone true false = true by decide)]
      have hal : alone true first = first := by cases first <;> rfl
      obtain ⟨ST, hST⟩ : ∃ ST, enc (letr first) X ++ enc 7 tn = ST := ⟨_, rfl⟩
      have hSTl : ST.length ≤ 20 := by
        have h1 := enc_length (letr first) X (by unfold letr; split <;> decide)
        have h2 := enc_length 7 tn (by decide)
        rw [← hST, List.length_append]
        omega
      have HNX : Hid (ALL = (C ++ ST) ++ wrM true false tk (L.drop (j + 1))) := Lib.hid (by
        rw [heq.out, hdr, wrM]
        simp only
        rw [hmn, hal, ← hST]
        simp [List.append_assoc])
      have htn : (tn : Int) < 18446744073709551616 := by omega
      subst hpe
      clear heq hdr hx hX hfst hmn hal
      cases first with
      | true =>
        have HKW : Hid (∀ W B, W.heap.size = B → Calls Try.prog 27 #[.string ⟨#[122, 118]⟩, .slice (some ⟨B, 0, none⟩) 2 2] (W.alloc (.cells #[.int .u64 (X : Int), .int .u64 (tn : Int)] 28)) fun e w' => ∃ v, e = .returned v ∧ RowNew W w' v ST ∧ Fr S0 W w') := Lib.hid fun W B hB => by
          subst hB
          have := HKV.out true X tn W hX64 hn64
          rw [hST] at this
          exact this
        obtain rfl : SS = ⟨#[122]⟩ := hSS.out
        have hadd : ∀ W, (binOp .add 9 (.string ⟨#[122]⟩) (.string ⟨#[118]⟩)).run Try.prog W = .ok (.string ⟨#[122, 118]⟩) W := fun W => by kernel_rfl
        clear hX64 hST
        obtain ⟨q0, q1⟩ := cell_pair (heap_alloc_new wr (.cells #[.int .i64 tk, .int .u64 (tn : Int)] 44))
        go_wp2_with (first
          | ((with_reducible show wpList _ _ _ (Oper.mk none (.store _ _ _) _ _ _ _ :: _) _ _); refine store_new 44 (.tmp 7) (.tmp 18) rfl rfl rfl rfl szMe rfl (oneMe _ _) ?_)
          | fail)
        refine (HKW.out _ _ (size_alloc _ _)).mono ?_
        rintro e w5 ⟨u, rfl, hr, f5⟩
        obtain ⟨pu, cu, rfl⟩ := slFormN hr.own
        have HS5 := Lib.hid (SrcIs.ofOwns hr.own)
        have HAW := Lib.hid ((hacc.out.fr0 (Fr.alloc S0 wr _)).fr0 f5)
        have hbx := f5.row (heap_alloc_new wr (.cells #[.int .i64 tk, .int .u64 (tn : Int)] 44)) fun h => h
        have HBX := Lib.hid hbx
        have HRO : Hid (∀ k, (Value.slice pv N cv).ownBlock = some k → k ≠ wr.heap.size) := Lib.hid fun k hk => by have := (hacc.out.own.lt k hk).2; omega
        clear hr f5 HKW hbx
        go_wp2_with (first
          | ((with_reducible show wpList _ _ _ (Oper.mk (some 31) _ _ _ _ _ :: _) _ _); refine app_many el8 (.tmp 19) (.tmp 30) HAW.out.own HS5.out rfl rfl rfl rfl rfl (ones8 _) (Room.mk (by omega)) ?_; intro p6 c6 w6 own6 g6 at6; have HA6 := Lib.hid (HAW.out.app own6 g6 at6); have c0 := ((Fr.grown g6).cell (cell_pair HBX.out).1 (fun e => HRO.out _ e rfl)); clear own6 g6 at6)
          | fail)
        go_quiet (fail)
        go_wp2_with fail
        go_roundw
        case rel => exact ⟨j + 1, N + ST.length, false, tk, C ++ ST, p6, c6, by omega, by omega, by go_num, rfl, ⟨_, rfl, Lib.hid rfl⟩, rfl, hk1, hk2, Lib.hid (HA6.out.fr0 (Fr.drewN S0 _ _)), HNX, Lib.hid fun h => (by cases h)⟩
        case measure => simp [intOf]; omega
      | false =>
        have HKW : Hid (∀ W B, W.heap.size = B → Calls Try.prog 27 #[.string ⟨#[118, 118]⟩, .slice (some ⟨B, 0, none⟩) 2 2] (W.alloc (.cells #[.int .u64 (X : Int), .int .u64 (tn : Int)] 28)) fun e w' => ∃ v, e = .returned v ∧ RowNew W w' v ST ∧ Fr S0 W w') := Lib.hid fun W B hB => by
          subst hB
          have := HKV.out false X tn W hX64 hn64
          rw [hST] at this
          exact this
        obtain rfl : SS = ⟨#[118]⟩ := hSS.out
        have hadd : ∀ W, (binOp .add 9 (.string ⟨#[118]⟩) (.string ⟨#[118]⟩)).run Try.prog W = .ok (.string ⟨#[118, 118]⟩) W := fun W => by kernel_rfl
        clear hX64 hST
        obtain ⟨q0, q1⟩ := cell_pair (heap_alloc_new wr (.cells #[.int .i64 tk, .int .u64 (tn : Int)] 44))
        go_wp2_with (first
          | ((with_reducible show wpList _ _ _ (Oper.mk none (.store _ _ _) _ _ _ _ :: _) _ _); refine store_new 44 (.tmp 7) (.tmp 18) rfl rfl rfl rfl szMe rfl (oneMe _ _) ?_)
          | fail)
        refine (HKW.out _ _ (size_alloc _ _)).mono ?_
        rintro e w5 ⟨u, rfl, hr, f5⟩
        obtain ⟨pu, cu, rfl⟩ := slFormN hr.own
        have HS5 := Lib.hid (SrcIs.ofOwns hr.own)
        have HAW := Lib.hid ((hacc.out.fr0 (Fr.alloc S0 wr _)).fr0 f5)
        have hbx := f5.row (heap_alloc_new wr (.cells #[.int .i64 tk, .int .u64 (tn : Int)] 44)) fun h => h
        have HBX := Lib.hid hbx
        have HRO : Hid (∀ k, (Value.slice pv N cv).ownBlock = some k → k ≠ wr.heap.size) := Lib.hid fun k hk => by have := (hacc.out.own.lt k hk).2; omega
        clear hr f5 HKW hbx
        go_wp2_with (first
          | ((with_reducible show wpList _ _ _ (Oper.mk (some 31) _ _ _ _ _ :: _) _ _); refine app_many el8 (.tmp 19) (.tmp 30) HAW.out.own HS5.out rfl rfl rfl rfl rfl (ones8 _) (Room.mk (by omega)) ?_; intro p6 c6 w6 own6 g6 at6; have HA6 := Lib.hid (HAW.out.app own6 g6 at6); have c0 := ((Fr.grown g6).cell (cell_pair HBX.out).1 (fun e => HRO.out _ e rfl)); clear own6 g6 at6)
          | fail)
        go_quiet (fail)
        go_wp2_with fail
        go_roundw
        case rel => exact ⟨j + 1, N + ST.length, false, tk, C ++ ST, p6, c6, by omega, by omega, by go_num, rfl, ⟨_, rfl, Lib.hid rfl⟩, rfl, hk1, hk2, Lib.hid (HA6.out.fr0 (Fr.drewN S0 _ _)), HNX, Lib.hid fun h => (by cases h)⟩
        case measure => simp [intOf]; omega
    · obtain rfl : j = n := by omega
      have HE : Hid (ALL = C) := Lib.hid (by rw [heq.out, ← HNL.out, List.drop_length]; cases first <;> simp [wrM])
      clear heq hfst
      go_wp2_with fail
      go_ret
      rw [HE.out, hacc.out.len]
      exact ⟨_, rfl, hacc.out⟩
theorem twaiting_any (p : Option Addr) (n c : Nat) (L : List Tm) (w : World) (hs : Sl w p n c L) (hi : In64 L) (hn : n ≤ 1000000) :
    Calls Try.prog 29 #[.slice p n c] w fun e w' => ∃ v, e = .returned v ∧ AccB w w' v (enc 7 L.length ++ wrM false true 0 L).length (enc 7 L.length ++ wrM false true 0 L) := by
  have HL := Lib.hid hs
  have HI := Lib.hid hi
  have hnl := hs.len
  have HNL := Lib.hid hnl
  have HPUT := Lib.hid (fun W => put_one n (by omega) W)
  have HKV := Lib.hid (fun first x n W => put_two first x n W)
  have HDD : Hid (enc 7 L.length ++ wrM false true 0 L = enc 7 n ++ wrM false true 0 L) := Lib.hid (by rw [hnl])
  have HD0 : Hid ((enc 7 n).length ≤ 10) := Lib.hid (enc_length 7 n (by decide))
  have hnb : (n : Int) ≤ 1000000 := by omega
  obtain ⟨ALL, eALL⟩ : ∃ x, enc 7 L.length ++ wrM false true 0 L = x := ⟨_, rfl⟩
  rw [eALL] at HDD ⊢
  clear hs hi hnl hn eALL
  go_enter Try.func29, Try.ntmps29
  go_wp2_with fail
  refine (HPUT.out _).mono ?_
  rintro e w4 ⟨v, rfl, hr, f4⟩
  obtain ⟨pv, cv, rfl⟩ := slFormN hr.own
  have HAC : Hid (AccB w w4 (.slice pv (enc 7 n).length cv) (enc 7 n).length (enc 7 n)) := Lib.hid ⟨hr.own, hr.fresh, f4⟩
  obtain ⟨H0, eH0⟩ : ∃ x, enc 7 n = x := ⟨_, rfl⟩
  rw [eH0] at HAC HD0 HDD
  obtain ⟨N0, eN0⟩ : ∃ x, H0.length = x := ⟨_, rfl⟩
  rw [eH0, eN0]
  rw [eN0] at HAC HD0
  clear hr f4 HPUT eH0 eN0
  go_wp2_with fail
  go_loopw [3, 13] (fun bv i wr => ∃ (j N : Nat) (first : Bool) (from_ : Int) (C : List Nat) (pv : Option Addr) (cv : Nat), j ≤ n ∧ N ≤ 10 + 20 * j ∧ i = .int .i64 j ∧ bv = .slice pv N cv ∧ Hid (AccB w wr (.slice pv N cv) N C) ∧ Hid (ALL = C ++ wrM false first from_ (L.drop j))) (fun _ i _ => n - (intOf i).toNat)
  case atStart => exact ⟨0, N0, true, 0, H0, pv, cv, by omega, by have := HD0.out; omega, rfl, rfl, HAC, HDD⟩
  case round =>
    clear HAC HDD HD0
    obtain ⟨j, N, first, from_, C, pv, cv, hj, hN, rfl, rfl, hacc, heq⟩ := hrel
    by_cases hjn : (j : Int) < (n : Int)
    · have hjl : j < L.length := by rw [HNL.out]; omega
      obtain ⟨b, o, hpe, d0, d1⟩ := (HL.out.fr0 hacc.out.fr).at j hjl
      have hin := HI.out _ (List.getElem_mem hjl)
      have hdr := List.drop_eq_getElem_cons hjl
      obtain ⟨⟨tk, tn⟩, hx⟩ : ∃ x, L[j] = x := ⟨_, rfl⟩
      rw [hx] at d0 d1 hin hdr
      simp only at d0 d1 hin
      obtain ⟨⟨hk1, hk2⟩, hn64⟩ := hin
      obtain ⟨X, hX⟩ : ∃ X, numb tk = X := ⟨_, rfl⟩
      have hX64 : X < 18446744073709551616 := by rw [← hX]; exact numb_lt _
      have eX : tk % 18446744073709551616 = (X : Int) := by rw [← hX, numb]; omega
      have eX2 : IntKind.u64.wrap tk = (X : Int) := by rw [← eX]; simp [IntKind.wrap, IntKind.bits, IntKind.signed]
      have hal : alone false first = true := by cases first <;> rfl
      have hmn : mnum false first from_ tk = X := by rw [← hX, mnum, if_pos hal]
      obtain ⟨ST, hST⟩ : ∃ ST, enc (letr true) X ++ enc 7 tn = ST := ⟨_, rfl⟩
      have hSTl : ST.length ≤ 20 := by
        have h1 := enc_length (letr true) X (by unfold letr; split <;> decide)
        have h2 := enc_length 7 tn (by decide)
        rw [← hST, List.length_append]
        omega
      have HNX : Hid (ALL = (C ++ ST) ++ wrM false false tk (L.drop (j + 1))) := Lib.hid (by
        rw [heq.out, hdr, wrM]
        simp only
        rw [hmn, hal, ← hST]
        simp [List.append_assoc])
      have htn : (tn : Int) < 18446744073709551616 := by omega
      subst hpe
      have HKW : Hid (∀ W B, W.heap.size = B → Calls Try.prog 27 #[.string ⟨#[122, 118]⟩, .slice (some ⟨B, 0, none⟩) 2 2] (W.alloc (.cells #[.int .u64 (X : Int), .int .u64 (tn : Int)] 28)) fun e w' => ∃ v, e = .returned v ∧ RowNew W w' v ST ∧ Fr S0 W w') := Lib.hid fun W B hB => by
        subst hB
        have := HKV.out true X tn W hX64 hn64
        rw [hST] at this
        exact this
      clear heq hdr hx hX hmn hal hX64 hST
      obtain ⟨q0, q1⟩ := cell_pair (heap_alloc_new wr (.cells #[.int .i64 tk, .int .u64 (tn : Int)] 44))
      go_wp2_with (first
        | ((with_reducible show wpList _ _ _ (Oper.mk none (.store _ _ _) _ _ _ _ :: _) _ _); refine store_new 44 (.tmp 5) (.tmp 16) rfl rfl rfl rfl szMe rfl (oneMe _ _) ?_)
        | fail)
      refine (HKW.out _ _ (size_alloc _ _)).mono ?_
      rintro e w5 ⟨u, rfl, hr, f5⟩
      obtain ⟨pu, cu, rfl⟩ := slFormN hr.own
      have HS5 := Lib.hid (SrcIs.ofOwns hr.own)
      have HAW := Lib.hid ((hacc.out.fr0 (Fr.alloc S0 wr _)).fr0 f5)
      clear hr f5 HKW
      go_wp2_with (first
        | ((with_reducible show wpList _ _ _ (Oper.mk (some 25) _ _ _ _ _ :: _) _ _); refine app_many el8 (.tmp 17) (.tmp 24) HAW.out.own HS5.out rfl rfl rfl rfl rfl (ones8 _) (Room.mk (by omega)) ?_; intro p6 c6 w6 own6 g6 at6; have HA6 := Lib.hid (HAW.out.app own6 g6 at6); clear own6 g6 at6)
        | fail)
      go_roundw
      case rel => exact ⟨j + 1, N + ST.length, false, tk, C ++ ST, p6, c6, by omega, by omega, by go_num, rfl, HA6, HNX⟩
      case measure => simp [intOf]; omega
    · obtain rfl : j = n := by omega
      have HE : Hid (ALL = C) := Lib.hid (by rw [heq.out, ← HNL.out, List.drop_length]; cases first <;> simp [wrM])
      clear heq
      go_wp2_with fail
      go_ret
      rw [HE.out, hacc.out.len]
      exact ⟨_, rfl, hacc.out⟩
end Go.Proofs.Ytmieeoceckcnkaa

namespace Go.Proofs.Ytmieeoceckcnkaa
open Go.RowKit
theorem put_three (d lo hi : Nat) (h1 : d < 18446744073709551616) (h2 : lo < 18446744073709551616) (h3 : hi < 18446744073709551616) (W : World) : Calls Try.prog 27 #[.string ⟨#[118, 122, 122]⟩, .slice (some ⟨W.heap.size, 0, none⟩) 3 3] (W.alloc (.cells #[.int .u64 (d : Int), .int .u64 (lo : Int), .int .u64 (hi : Int)] 28)) fun e w' => ∃ v, e = .returned v ∧ RowNew W w' v (enc 7 d ++ (enc 8 lo ++ enc 8 hi)) ∧ Fr S0 W w' := by
  have hb : ∀ y ∈ [d, lo, hi], y < 18446744073709551616 := by
    intro y hy
    simp only [List.mem_cons, List.not_mem_nil, or_false] at hy
    rcases hy with rfl | rfl | rfl <;> assumption
  exact (dput_any ⟨#[118, 122, 122]⟩ _ 3 3 [d, lo, hi] _ _ rfl (by decide) (sl_lits 28 [d, lo, hi] (by simp)) hb (put_vzz _ _ _ h1 h2 h3)).mono fun e w' ⟨v, he, hr, fr⟩ => ⟨v, he, ⟨hr.own, fun k hk => Nat.le_trans (by simp) (hr.fresh k hk)⟩, (Fr.alloc S0 W _).trans0 fr⟩
theorem twrite_any (g : Nat) (C : Nat → Prop) (x : Dg) (w : World) (s : DIs w g C x) (hN : x.all.length ≤ 1000000) :
    Calls Try.prog 17 #[.pointer (some ⟨g, 0, none⟩)] w fun e w' => ∃ v, e = .returned (.tuple #[v, .int .i64 0]) ∧ AccB w w' v x.bytes.length x.bytes := by
  obtain ⟨p, n, c, q, m, e, s⟩ := s
  have hg := s.good
  have hmay := hg.may
  have hal : x.all.length = x.L.length + x.W.length := by unfold Dg.all; rw [List.length_append]
  have HE := Lib.hid (ends_any g C p n c q m e x w s)
  have HFI := Lib.hid (fun W (f : Fr S0 w W) => fineness_any g C p n c q m e x W (s.fr0 f))
  have HLI := Lib.hid (fun W (f : Fr S0 w W) => list_any g C p n c q m e x W (s.fr0 f) (by omega))
  have HWA := Lib.hid (fun W (f : Fr S0 w W) => waits_any g C p n c q m e x W (s.fr0 f) (by omega))
  obtain ⟨d, eD⟩ : ∃ d, x.d = d := ⟨_, rfl⟩
  obtain ⟨lo, elo⟩ : ∃ d, x.lo = d := ⟨_, rfl⟩
  obtain ⟨hi, ehi⟩ : ∃ d, x.hi = d := ⟨_, rfl⟩
  obtain ⟨L, eL⟩ : ∃ d, x.L = d := ⟨_, rfl⟩
  obtain ⟨U, eU⟩ : ∃ d, x.W = d := ⟨_, rfl⟩
  obtain ⟨E, eE⟩ : ∃ d, x.endE = d := ⟨_, rfl⟩
  have HB : Hid (x.bytes = (enc 7 d ++ (enc 8 (numb lo) ++ enc 8 (numb hi))) ++ (enc 7 L.length ++ wrM true true 0 L) ++ (enc 7 U.length ++ wrM false true 0 U)) := Lib.hid (by
    rw [Dg.bytes, tdB, eD, elo, ehi, eL, eU]
    simp only [List.append_assoc])
  obtain ⟨BS, eBS⟩ : ∃ b, x.bytes = b := ⟨_, rfl⟩
  rw [eBS] at HB ⊢
  rw [eD, elo, ehi, eL, eU] at hmay
  rw [elo, ehi, eE] at HE
  rw [eD] at HFI
  rw [eL] at HLI hal
  rw [eU] at HWA hal
  have hd2 : (d : Int) ≤ 1000 := by have := hmay.d2; omega
  obtain ⟨X, hX⟩ : ∃ X, numb lo = X := ⟨_, rfl⟩
  obtain ⟨Y, hY⟩ : ∃ X, numb hi = X := ⟨_, rfl⟩
  have eX : lo % 18446744073709551616 = (X : Int) := by rw [← hX, numb]; omega
  have eX2 : IntKind.u64.wrap lo = (X : Int) := by rw [← eX]; simp [IntKind.wrap, IntKind.bits, IntKind.signed]
  have eY : hi % 18446744073709551616 = (Y : Int) := by rw [← hY, numb]; omega
  have eY2 : IntKind.u64.wrap hi = (Y : Int) := by rw [← eY]; simp [IntKind.wrap, IntKind.bits, IntKind.signed]
  have HP := Lib.hid (fun W => put_three d X Y (by omega) (by rw [← hX]; exact numb_lt _) (by rw [← hY]; exact numb_lt _) W)
  rw [hX, hY] at HB
  have HTL := Lib.hid (fun p n c W (h : Sl W p n c L) (hn : n ≤ 1000000) => tlisted_any p n c L W h hmay.iL hn)
  have HTW := Lib.hid (fun p n c W (h : Sl W p n c U) (hn : n ≤ 1000000) => twaiting_any p n c U W h hmay.iW hn)
  have HLB := Lib.hid (wrM_len true L true 0)
  have HWB := Lib.hid (wrM_len false U true 0)
  obtain ⟨B1, eB1⟩ : ∃ b, enc 7 L.length ++ wrM true true 0 L = b := ⟨_, rfl⟩
  obtain ⟨B2, eB2⟩ : ∃ b, enc 7 U.length ++ wrM false true 0 U = b := ⟨_, rfl⟩
  obtain ⟨B0, eB0⟩ : ∃ b, enc 7 d ++ (enc 8 X ++ enc 8 Y) = b := ⟨_, rfl⟩
  have hb0 : B0.length ≤ 30 := by
    have h1 := enc_length 7 d (by decide)
    have h2 := enc_length 8 X (by decide)
    have h3 := enc_length 8 Y (by decide)
    rw [← eB0]
    simp only [List.length_append]
    omega
  have hb1 : B1.length ≤ 10 + 20 * 1000000 := by
    have h1 := enc_length 7 L.length (by decide)
    have h2 := HLB.out
    rw [← eB1, List.length_append]
    omega
  have hb2 : B2.length ≤ 10 + 20 * 1000000 := by
    have h1 := enc_length 7 U.length (by decide)
    have h2 := HWB.out
    rw [← eB2, List.length_append]
    omega
  rw [eB1] at HTL
  rw [eB2] at HTW
  rw [eB0] at HP
  rw [eB0, eB1, eB2] at HB
  have HLN : Hid (L.length ≤ 1000000 ∧ U.length ≤ 1000000) := Lib.hid (by omega)
  have l1 := hmay.l1
  have l2 := hmay.l2
  have h1 := hmay.h1
  have h2 := hmay.h2
  clear s hg hmay hal hN eD elo ehi eL eU eE eBS hX hY eB0 eB1 eB2 HLB HWB
  go_enter Try.func17, Try.ntmps17
  go_wp2_with fail
  refine HE.out.mono ?_
  rintro e1 w1 ⟨rfl, f1⟩
  have F1 := Lib.hid f1
  clear f1 HE
  go_wp2_with fail
  refine (HFI.out _ F1.out).mono ?_
  rintro e2 w2 ⟨rfl, rfl⟩
  go_wp2_with fail
  refine (HP.out _).mono ?_
  rintro e3 w3 ⟨v, rfl, r3, f3⟩
  obtain ⟨pv, cv, rfl⟩ := slFormN r3.own
  have HA3 : Hid (AccB w w3 (.slice pv B0.length cv) B0.length B0) := Lib.hid ⟨r3.own, fun k hk => Nat.le_trans F1.out.size (r3.fresh k hk), F1.out.trans0 f3⟩
  obtain ⟨N0, eN0⟩ : ∃ x, B0.length = x := ⟨_, rfl⟩
  rw [eN0] at HA3 hb0 ⊢
  clear r3 f3 HP HFI eN0
  go_wp2_with fail
  refine (HLI.out _ HA3.out.fr).mono ?_
  rintro e4 w4 ⟨v, rfl, a4⟩
  obtain ⟨pl, cl, rfl, sl4⟩ := a4.sl
  have HA4 := Lib.hid (HA3.out.fr0 a4.fr)
  have HTL4 := Lib.hid (HTL.out _ _ _ _ sl4 HLN.out.1)
  clear a4 sl4 HA3 HLI HTL
  go_wp2_with fail
  refine HTL4.out.mono ?_
  rintro e5 w5 ⟨v, rfl, a5⟩
  obtain ⟨pb, cb, rfl⟩ := slFormN a5.own
  have HS5 := Lib.hid (SrcIs.ofOwns a5.own)
  have HA5 := Lib.hid (HA4.out.fr0 a5.fr)
  clear a5 HA4 HTL4
  go_wp2_with (first
    | ((with_reducible show wpList _ _ _ (Oper.mk (some 29) _ _ _ _ _ :: _) _ _); refine app_many el8 (.tmp 25) (.tmp 28) HA5.out.own HS5.out rfl rfl rfl rfl rfl (ones8 _) (Room.mk (by omega)) ?_; intro p6 c6 w6 own6 g6 at6; have HA6 := Lib.hid (HA5.out.app own6 g6 at6); clear own6 g6 at6)
    | fail)
  refine (HWA.out _ HA6.out.fr).mono ?_
  rintro e7 w7 ⟨v, rfl, a7⟩
  obtain ⟨pw, cw, rfl, sl7⟩ := a7.sl
  have HA7 := Lib.hid (HA6.out.fr0 a7.fr)
  have HTW7 := Lib.hid (HTW.out _ _ _ _ sl7 HLN.out.2)
  clear a7 sl7 HA6 HWA HTW HA5 HS5
  go_wp2_with fail
  refine HTW7.out.mono ?_
  rintro e8 w8 ⟨v, rfl, a8⟩
  obtain ⟨pc, cc, rfl⟩ := slFormN a8.own
  have HS8 := Lib.hid (SrcIs.ofOwns a8.own)
  have HA8 := Lib.hid (HA7.out.fr0 a8.fr)
  clear a8 HA7 HTW7
  go_wp2_with (first
    | ((with_reducible show wpList _ _ _ (Oper.mk (some 34) _ _ _ _ _ :: _) _ _); refine app_many el8 (.tmp 30) (.tmp 33) HA8.out.own HS8.out rfl rfl rfl rfl rfl (ones8 _) (Room.mk (by omega)) ?_; intro p9 c9 w9 own9 g9 at9; have HA9 := Lib.hid (HA8.out.app own9 g9 at9); clear own9 g9 at9)
    | fail)
  go_ret2
  have hl := HA9.out.len
  rw [HB.out, hl]
  exact ⟨_, rfl, HA9.out⟩
end Go.Proofs.Ytmieeoceckcnkaa
