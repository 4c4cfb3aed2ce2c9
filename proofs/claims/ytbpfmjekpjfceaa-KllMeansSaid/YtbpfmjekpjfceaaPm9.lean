/- KcStk, KcPut, KcRooms, KcCrowd -/
import Derived.Test.YtbpfmjekpjfceaaPm1
import Derived.Test.YtbpfmjekpjfceaaPm2
import Derived.Test.YtbpfmjekpjfceaaPm3
import Derived.Test.YtbpfmjekpjfceaaPm4
import Derived.Test.YtbpfmjekpjfceaaPm6
import Derived.Test.YtbpfmjekpjfceaaPm7
import Derived.Test.YtbpfmjekpjfceaaPm8
import Derived.Deep.RegionLaw
import Derived.Deep.RegionHeld3
import Derived.BigRegion
import Derived.WalkKit
import Derived.Maps.AppendAt
import Derived.Laws.AppendOwnNone
import Derived.Laws.OwnMore
import Derived.Lib.AppendZerosOnto
import Derived.Lib.SliceRun
import Derived.Lib.Walk
import Derived.Laws.BytesArg
import Derived.Lib.SlBytesConst
import Derived.WalkSpells
import Derived.WalkLawsBesides
import Derived.Deep.QuietTactic
import Derived.BigQuiet
import Derived.RegionTactic
import Derived.Deep.AppendLies
import Derived.Laws.ResultCell
import Derived.Laws.EntriesVeiled
import Derived.Lib.Hide
import Derived.Test.YtbpfmjekpjfceaaRows
import Derived.RangeFuncNested
import Derived.RangeFuncBound
import Derived.RangeFuncCalls
import Derived.RangeFuncLeaves
import Derived.Shelf.Abstract
import Derived.Shelf.RegionOpen
import Derived.OwnWalkIn
import Derived.TacticsInMore
import Derived.LoopNIn
import Derived.LoopIn
set_option maxRecDepth 100000
set_option maxHeartbeats 8000000
namespace Go.Proofs.Ytbpfmjekpjfceaa
open Go.RowKit
structure KsIs (w : World) (g : Nat) (C D : Nat → Prop) (p : Option Addr) (n c : Nat) (rs : List Sv) (k : Nat) (L : Lv) (T E : Nat) : Prop where
  blk : w.heap[g]? = some (.cells #[.int .i64 (k : Nat), .slice p n c, .int .u64 (T : Nat), .int .u64 (E : Nat)] 83 (0, 0))
  out : w.ownsRow 0 53 1 (.slice p n c) n (svs rs)
  lvs : Lvs w D rs L
  own : ∀ b, Value.ownBlock (.slice p n c) = some b → b ≠ g ∧ C b
  self : C g
  cd : ∀ b, C b → ¬ D b
  below : ∀ b, C b ∨ D b → b < w.heap.size
section
variable {S C D : Nat → Prop} {w w' : World} {g n c k T E : Nat} {p : Option Addr} {rs : List Sv} {L : Lv}
theorem KsIs.fr (s : KsIs w g C D p n c rs k L T E) (f : Fr S w w') (ho : ∀ b, C b ∨ D b → ¬ S b) : KsIs w' g C D p n c rs k L T E :=
  ⟨f.row s.blk (ho g (.inl s.self)), f.owns s.out fun b hb => ho b (.inl (s.own b hb).2), s.lvs.fr f fun b hb => ho b (.inr hb), s.own, s.self, s.cd, fun b hb => Nat.lt_of_lt_of_le (s.below b hb) f.size⟩
theorem KsIs.fr0 (s : KsIs w g C D p n c rs k L T E) (f : Fr S0 w w') : KsIs w' g C D p n c rs k L T E := s.fr f fun _ _ h => h
theorem KsIs.c0 (s : KsIs w g C D p n c rs k L T E) : w.cell? ⟨g, 0, none⟩ = some (.int .i64 (k : Nat)) := by simp [World.cell?, s.blk]
theorem KsIs.c1 (s : KsIs w g C D p n c rs k L T E) : w.cell? ⟨g, 1, none⟩ = some (.slice p n c) := by simp [World.cell?, s.blk]
theorem KsIs.c2 (s : KsIs w g C D p n c rs k L T E) : w.cell? ⟨g, 2, none⟩ = some (.int .u64 (T : Nat)) := by simp [World.cell?, s.blk]
theorem KsIs.c3 (s : KsIs w g C D p n c rs k L T E) : w.cell? ⟨g, 3, none⟩ = some (.int .u64 (E : Nat)) := by simp [World.cell?, s.blk]
theorem KsIs.z (s : KsIs w g C D p n c rs k L T E) (i : Nat) : w.frozen? ⟨g, i, none⟩ = false := by simp [World.frozen?, s.blk]
theorem KsIs.rlen (s : KsIs w g C D p n c rs k L T E) : rs.length = n := by
  have := s.out.1
  rw [svs_len] at this
  omega
theorem KsIs.len (s : KsIs w g C D p n c rs k L T E) : L.length = n := by rw [← s.lvs.len, s.rlen]
theorem KsIs.lev (s : KsIs w g C D p n c rs k L T E) (h : Nat) (hh : h < L.length) : ∃ b, p = some ⟨b, 0, none⟩ ∧ b ≠ g ∧ C b ∧ ∃ q m d, w.cell? ⟨b, h, none⟩ = some (.slice q m d) ∧ Sz w q m d L[h] ∧ w.frozen? ⟨b, h, none⟩ = false ∧ ∀ a, q = some a → D a.block := by
  have hr : h < rs.length := by rw [s.lvs.len]; exact hh
  obtain ⟨b, rfl⟩ := rows_some s.out (by omega)
  obtain ⟨h1, h2⟩ := s.own b rfl
  refine ⟨b, rfl, h1, h2, rs[h].1, rs[h].2.1, rs[h].2.2, rows_at s.out h hr, s.lvs.sz h hr hh, ?_, s.lvs.dd h hr⟩
  rcases s.out.2 with ⟨hv, -⟩ | ⟨b2, cap, cur, hv, -, hb, -⟩
  · cases hv
  · simp only [Value.slice.injEq, Option.some.injEq, Addr.mk.injEq] at hv
    obtain ⟨⟨rfl, -⟩, -⟩ := hv
    simp [World.frozen?, hb]
end
def KsS (w : World) (g : Nat) (C D : Nat → Prop) (k : Nat) (L : Lv) (T E : Nat) : Prop := ∃ p n c rs, KsIs w g C D p n c rs k L T E
def KsTurn (w w' : World) (g : Nat) (C D : Nat → Prop) (k : Nat) (L : Lv) (T E : Nat) : Prop :=
  ∃ C' D', KsS w' g C' D' k L T E ∧ Fr C w w' ∧ (∀ b, C' b → C b ∨ w.heap.size ≤ b) ∧ ∀ b, D' b → D b ∨ w.heap.size ≤ b
section
variable {C D C1 D1 : Nat → Prop} {w W w' : World} {g k T E : Nat} {L : Lv}
theorem KsTurn.after (f : Fr C w W) (hC : ∀ b, C1 b → C b ∨ w.heap.size ≤ b) (hD : ∀ b, D1 b → D b ∨ w.heap.size ≤ b) (t : KsTurn W w' g C1 D1 k L T E) : KsTurn w w' g C D k L T E := by
  obtain ⟨C', D', s, f2, h1, h2⟩ := t
  refine ⟨C', D', s, f.trans f2 fun j hj h => (hC j h).resolve_right (by omega), fun b hb => ?_, fun b hb => ?_⟩
  · rcases h1 b hb with h | h
    · exact hC b h
    · exact .inr (Nat.le_trans f.size h)
  · rcases h2 b hb with h | h
    · exact hD b h
    · exact .inr (Nat.le_trans f.size h)
theorem KsTurn.same (s : KsS w g C D k L T E) (f : Fr S0 w w') : KsTurn w w' g C D k L T E := by
  obtain ⟨p, n, c, rs, s⟩ := s
  exact ⟨C, D, ⟨p, n, c, rs, s.fr0 f⟩, f.mono fun _ _ h => h.elim, fun _ h => .inl h, fun _ h => .inl h⟩
end
theorem four_set {w : World} {g : Nat} {a b c d : Value} {t : TypeId} (h : w.heap[g]? = some (.cells #[a, b, c, d] t (0, 0))) (x : Value) : (w.setCell ⟨g, 1, none⟩ x).heap[g]? = some (.cells #[a, x, c, d] t (0, 0)) ∧ (w.setCell ⟨g, 2, none⟩ x).heap[g]? = some (.cells #[a, b, x, d] t (0, 0)) ∧ (w.setCell ⟨g, 3, none⟩ x).heap[g]? = some (.cells #[a, b, c, x] t (0, 0)) := by
  refine ⟨?_, ?_, ?_⟩ <;> (rw [heap_setCell_same w g _ _ _ _ h]; rfl)
theorem KsIs.grow {C D : Nat → Prop} {w w3 : World} {g n c k T E g1 cap : Nat} {p : Option Addr} {rs : List Sv} {L : Lv} {o : Obj} (s : KsIs w g C D p n c rs k L T E)
    (own : w3.ownsRow 0 53 1 (.slice (some ⟨g1, 0, none⟩) (n + 1) cap) (n + 1) (svs rs ++ #[Value.slice none 0 0].toList))
    (hg : (w.alloc o).grownBy w3 (Value.ownBlock (.slice p n c))) (hat : Value.ownBlock (.slice p n c) = some g1 ∨ g1 = w.heap.size + 1) :
    KsTurn w (w3.setCell ⟨g, 1, none⟩ (.slice (some ⟨g1, 0, none⟩) (n + 1) cap)) g C D k (L ++ [[]]) T E := by
  have f1 : Fr C w w3 := ((Fr.alloc S0 w o).mono fun _ _ h => h.elim).trans (Fr.grown hg) fun j _ h => (s.own j h).2
  have f1' : Fr (fun x => Value.ownBlock (.slice p n c) = some x) w w3 := ((Fr.alloc S0 w o).mono fun _ _ h => h.elim).trans (Fr.grown hg) fun _ _ h => h
  have f2 : Fr (· = g) w3 (w3.setCell ⟨g, 1, none⟩ (.slice (some ⟨g1, 0, none⟩) (n + 1) cap)) := Fr.setCell _ _ _ _ rfl
  have hg1 : g1 ≠ g ∧ ¬ D g1 := by
    have hgl := s.below g (.inl s.self)
    rcases hat with h | h
    · exact ⟨(s.own g1 h).1, s.cd g1 (s.own g1 h).2⟩
    · refine ⟨by omega, fun hd => ?_⟩
      have := s.below g1 (.inr hd)
      omega
  have b3 := f1'.row s.blk fun h => (s.own g h).1 rfl
  have hlt := (own.lt g1 rfl).2
  have sz := f2.size
  refine ⟨fun b => C b ∨ b = g1, D, ⟨some ⟨g1, 0, none⟩, n + 1, cap, rs ++ [(none, 0, 0)], (four_set b3 _).1, ?_, ?_, fun b hb => ?_, .inl s.self, fun b hb => ?_, fun b hb => ?_⟩, f1.trans f2 fun j _ h => by rw [show j = g from h]; exact s.self, fun b hb => ?_, fun b hb => .inl hb⟩
  · refine f2.owns (by rw [show svs (rs ++ [(none, 0, 0)]) = svs rs ++ #[Value.slice none 0 0].toList by simp [svs]]; exact own) fun b hb h => ?_
    obtain rfl : g1 = b := Option.some.inj hb
    exact hg1.1 h
  · exact ((s.lvs.fr f1 fun b hd hc => s.cd b hc hd).fr f2 fun b hd h => by rw [show b = g from h] at hd; exact s.cd g s.self hd).snoc (Sz.emp _) fun a ha => by cases ha
  · obtain rfl : g1 = b := Option.some.inj hb
    exact ⟨hg1.1, .inr rfl⟩
  · rcases hb with h | rfl
    · exact s.cd b h
    · exact hg1.2
  · rcases hb with (h | rfl) | h
    · exact Nat.lt_of_lt_of_le (s.below b (.inl h)) (Nat.le_trans f1.size sz)
    · omega
    · exact Nat.lt_of_lt_of_le (s.below b (.inr h)) (Nat.le_trans f1.size sz)
  · rcases hb with h | rfl
    · exact .inl h
    · rcases hat with h | h
      · exact .inl (s.own b h).2
      · exact .inr (by omega)
theorem KsIs.lay1 {C D : Nat → Prop} {w w3 : World} {g n c k T E b h m d : Nat} {q : Option Addr} {rs : List Sv} {L : Lv} {l : List Int} (s : KsIs w g C D (some ⟨b, 0, none⟩) n c rs k L T E) (f : Fr S0 w w3)
    (z : Sz w3 q m d l) (hq : ∀ a, q = some a → w.heap.size ≤ a.block ∧ a.block < w3.heap.size) : ∃ D', KsIs (w3.setCell ⟨b, h, none⟩ (.slice q m d)) g C D' (some ⟨b, 0, none⟩) n c (rs.set h (q, m, d)) k (L.set h l) T E ∧
      Fr C w (w3.setCell ⟨b, h, none⟩ (.slice q m d)) ∧ ∀ x, D' x → D x ∨ w.heap.size ≤ x := by
  have s3 := s.fr0 f
  obtain ⟨hbg, hb⟩ := s.own b rfl
  obtain ⟨o4, f4⟩ := rows_set s3.out h q m d
  have hlb := s.below b (.inl hb)
  refine ⟨fun x => D x ∨ (w.heap.size ≤ x ∧ x < w3.heap.size), ⟨f4.row s3.blk fun e => hbg (show g = b from e).symm, o4, ?_, s.own, s.self, fun x hx => ?_, fun x hx => ?_⟩, f.mono (fun _ _ h => h.elim) |>.trans f4 fun j _ e => by rw [show j = b from e]; exact hb, fun x hx => ?_⟩
  · exact ((s3.lvs.mono fun x hx => .inl hx).fr f4 fun x hx e => by
      rw [show x = b from e] at hx
      rcases hx with hx | hx
      · exact s.cd b hb hx
      · omega).set (z.fr f4 fun _ a ha e => by have := (hq a ha).1; have e2 : a.block = b := e; omega) (fun a ha => .inr (hq a ha)) h
  · rintro (h1 | h1)
    · exact s.cd x hx h1
    · have := s.below x (.inl hx); omega
  · have hz := f4.size
    have hz2 := f.size
    rcases hx with h1 | h1 | h1
    · have := s.below x (.inl h1); omega
    · have := s.below x (.inr h1); omega
    · omega
  · rcases hx with h1 | h1
    · exact .inl h1
    · exact .inr h1.1
theorem KsIs.lay {C D : Nat → Prop} {w w3 : World} {g n c k T E b h m d : Nat} {q : Option Addr} {rs : List Sv} {L : Lv} {l : List Int} (s : KsIs w g C D (some ⟨b, 0, none⟩) n c rs k L T E) (f : Fr S0 w w3)
    (z : Sz w3 q m d l) (hq : ∀ a, q = some a → w.heap.size ≤ a.block ∧ a.block < w3.heap.size) : KsTurn w (w3.setCell ⟨b, h, none⟩ (.slice q m d)) g C D k (L.set h l) T E := by
  obtain ⟨D', s', f', hD⟩ := s.lay1 (h := h) f z hq
  exact ⟨C, D', ⟨_, _, _, _, s'⟩, f', fun x hx => .inl hx, hD⟩
theorem KsIs.led {C D : Nat → Prop} {w : World} {g n c k T E : Nat} {p : Option Addr} {rs : List Sv} {L : Lv} (s : KsIs w g C D p n c rs k L T E) (F : Nat) : KsIs (w.setCell ⟨g, 3, none⟩ (.int .u64 (F : Nat))) g C D p n c rs k L T F ∧ Fr (· = g) w (w.setCell ⟨g, 3, none⟩ (.int .u64 (F : Nat))) := by
  have f : Fr (· = g) w (w.setCell ⟨g, 3, none⟩ (.int .u64 (F : Nat))) := Fr.setCell _ _ _ _ rfl
  exact ⟨⟨(four_set s.blk _).2.2, f.owns s.out fun b hb e => (s.own b hb).1 e, s.lvs.fr f fun b hb e => by rw [show b = g from e] at hb; exact s.cd g s.self hb, s.own, s.self, s.cd, fun b hb => Nat.lt_of_lt_of_le (s.below b hb) f.size⟩, f⟩
theorem KsIs.tot {C D : Nat → Prop} {w : World} {g n c k T E : Nat} {p : Option Addr} {rs : List Sv} {L : Lv} (s : KsIs w g C D p n c rs k L T E) (F : Nat) : KsIs (w.setCell ⟨g, 2, none⟩ (.int .u64 (F : Nat))) g C D p n c rs k L F E ∧ Fr (· = g) w (w.setCell ⟨g, 2, none⟩ (.int .u64 (F : Nat))) := by
  have f : Fr (· = g) w (w.setCell ⟨g, 2, none⟩ (.int .u64 (F : Nat))) := Fr.setCell _ _ _ _ rfl
  exact ⟨⟨(four_set s.blk _).2.1, f.owns s.out fun b hb e => (s.own b hb).1 e, s.lvs.fr f fun b hb e => by rw [show b = g from e] at hb; exact s.cd g s.self hb, s.own, s.self, s.cd, fun b hb => Nat.lt_of_lt_of_le (s.below b hb) f.size⟩, f⟩
end Go.Proofs.Ytbpfmjekpjfceaa

namespace Go.Proofs.Ytbpfmjekpjfceaa
open Go.RowKit
theorem KsIs.kept {C D : Nat → Prop} {w w3 : World} {g n c k T E : Nat} {p : Option Addr} {rs : List Sv} {L : Lv} {o : Obj} (s : KsIs w g C D p n c rs k L T E)
    (hg : (w.alloc o).grownBy w3 (Value.ownBlock (.slice p n c))) : w3.cell? ⟨g, 1, none⟩ = some (.slice p n c) ∧ w3.frozen? ⟨g, 1, none⟩ = false ∧ ∀ q m d, lenAt (w3.setCell ⟨g, 1, none⟩ (.slice q m d)) ⟨g, 1, none⟩ = m := by
  have f1 : Fr (fun x => Value.ownBlock (.slice p n c) = some x) w w3 := ((Fr.alloc S0 w o).mono fun _ _ h => h.elim).trans (Fr.grown hg) fun _ _ h => h
  have b3 := f1.row s.blk fun h => (s.own g h).1 rfl
  exact ⟨by simp [World.cell?, b3], by simp [World.frozen?, b3], fun q m d => by simp [lenAt, World.cell?, (four_set b3 (.slice q m d)).1]⟩
theorem AscL.at {L : Lv} (h : AscL L) (i : Nat) (hi : i < L.length) : Asc L[i] := h _ (List.getElem_mem hi)
section
variable (g k T E h m0 d0 : Nat) (C D : Nat → Prop) (L : Lv) (q0 : Option Addr) (xs : List Int) (w : World)
theorem xput_any (s : KsS w g C D k L T E) (z0 : Sz w q0 m0 d0 xs) (hq : xs ≠ [] → ∀ a, q0 = some a → ¬ C a.block) (hx : Asc xs) (hA : AscL L) (hh : h ≤ 1000000) (hl : ∀ l ∈ L, l.length ≤ 1000000000) (hm0 : m0 ≤ 1000000000) :
    Calls Try.prog 48 #[.pointer (some ⟨g, 0, none⟩), .int .i64 (h : Nat), .slice q0 m0 d0] w fun e w' => e = .returned (.tuple #[]) ∧ KsTurn w w' g C D k (putC L h xs) T E := by
  have HS := Lib.hid s
  have HLL := Lib.hid hl
  have HZ0 := Lib.hid z0
  have HQ := Lib.hid hq
  have HX := Lib.hid hx
  have HAL := Lib.hid hA
  have HM0 := Lib.hid hm0
  clear s hl z0 hq hx hA hm0
  go_enter Try.func48, Try.ntmps48
  go_wp2_with fail
  go_loopw [] (fun wr => ∃ M : Lv, Hid (KsTurn w wr g C D k M T E) ∧ Hid (putC M h xs = putC L h xs) ∧ Hid (AscL M) ∧ Hid (∀ l ∈ M, l.length ≤ 1000000000)) (fun wr => h + 1 - lenAt wr ⟨g, 1, none⟩)
  case atStart => exact ⟨L, Lib.hid (KsTurn.same HS.out (Fr.refl _ _)), Lib.hid rfl, HAL, HLL⟩
  case round =>
    obtain ⟨M, ht, hp, has, hM⟩ := hrel
    obtain ⟨C1, D1, ⟨p, n, c, rs, s⟩, f1, hC, hD⟩ := ht.out
    have c1 := s.c1
    have hlen := s.len
    have HSS := Lib.hid s
    have HF1 := Lib.hid f1
    have HC := Lib.hid hC
    have HD := Lib.hid hD
    have HM1 : Hid (lenAt wr ⟨g, 1, none⟩ = n) := Lib.hid (by unfold lenAt; rw [c1])
    have z1 := s.z 1
    clear s f1 hC hD ht
    by_cases hn : (n : Int) ≤ (h : Int)
    · have HR : Hid (Room (n + 1)) := Lib.hid (Room.mk (by omega))
      go_wp2_with (first
        | ((with_reducible show wpList _ _ _ (Oper.mk (some 19) _ _ _ _ _ :: _) _ _); refine app_one elR (.tmp 17) (.tmp 18) rfl HSS.out.out rfl rfl rfl rfl rfl (one_sv _ _ _) HR.out ?_; intro g1 cap1 w3 hown hgrow hat hlt; have HT := Lib.hid (KsTurn.after HF1.out HC.out HD.out (HSS.out.grow hown hgrow hat)); have d1 := (HSS.out.kept hgrow).1; have y1 := (HSS.out.kept hgrow).2.1; have HM2 := Lib.hid ((HSS.out.kept hgrow).2.2 (some ⟨g1, 0, none⟩) (n + 1) cap1); clear hown hgrow hat hlt)
        | fail)
      go_roundw
      case rel => exact ⟨M ++ [[]], HT, Lib.hid (by rw [putC_pad xs M h (by omega), hp.out]), Lib.hid (fun l hl => (List.mem_append.1 hl).elim (has.out l) fun e => by rw [List.mem_singleton.1 e]; exact List.Pairwise.nil), Lib.hid fun l hl => (List.mem_append.1 hl).elim (hM.out l) fun e => by rw [List.mem_singleton.1 e]; exact Nat.zero_le _⟩
      case measure => rw [HM2.out, HM1.out]; omega
    · have hhM : h < M.length := by omega
      obtain ⟨b, rfl, -, -, q, m, d, ch, z, zh, -⟩ := HSS.out.lev h hhM
      have hm : m ≤ 1000000000 := by rw [← z.len]; exact hM.out _ (List.getElem_mem hhM)
      have HLV : Hid (∀ W, Fr S0 wr W → W.cell? ⟨g, 1, none⟩ = some (.slice (some ⟨b, 0, none⟩) n c) ∧ W.cell? ⟨b, h, none⟩ = some (.slice q m d) ∧ W.frozen? ⟨b, h, none⟩ = false) := Lib.hid fun W f => by
        refine ⟨f.cell c1 (fun h => h), f.cell ch (fun h => h), ?_⟩
        obtain ⟨b', hb', -, -, -, -, -, -, -, hz, -⟩ := (HSS.out.fr0 f).lev h hhM
        simp only [Option.some.injEq, Addr.mk.injEq, and_true] at hb'
        subst hb'
        exact hz
      have z1r : Sz wr q0 m0 d0 xs := HZ0.out.fr HF1.out HQ.out
      have HI := Lib.hid (fun W (f : Fr S0 wr W) => merged_any q q0 m m0 d d0 M[h] xs W (z.fr0 f) (z1r.fr0 f) (has.out.at h hhM) (by have := HM0.out; omega))
      rw [mrgC_eq (has.out.at h hhM) HX.out] at HI
      have HP : Hid (putC L h xs = M.set h (puts1 M[h] xs)) := Lib.hid (by rw [← hp.out, putC_set])
      have hh0 : (0 : Int) ≤ (h : Int) := by omega
      replace hn : (h : Int) < (n : Int) := by omega
      clear z hM hm z1r
      go_wp2_with fail
      go_region_law (first
        | (go_simp; go_at_call 71; (with_reducible refine (HI.out _ (Fr.drew S0 _)).mono ?_); rintro _ w3 ⟨u, rfl, acc⟩; obtain ⟨pu, cu, rfl⟩ := slFormN acc.own; have A3 := Lib.hid acc; obtain ⟨e1, e2, e3⟩ := HLV.out _ ((Fr.drew S0 _).trans0 acc.fr); clear acc; dsimp only))
      all_goals
        have HT := Lib.hid (KsTurn.after HF1.out HC.out HD.out (HSS.out.lay (h := h) ((Fr.drew S0 _).trans0 A3.out.fr) (Sz.ofOwns A3.out.own) (fun a ha => ⟨Nat.le_trans (Fr.drew S0 wr).size (A3.out.fresh a.block (by subst ha; rfl)), (A3.out.own.lt a.block (by subst ha; rfl)).2⟩)))
        rw [← HP.out] at HT
        clear e1 e2 e3 A3
        go_wp2_with fail
        go_end0
        exact ⟨rfl, HT.out⟩
theorem xowe_any (s : KsS w g C D k L T E) (x : Nat) (hx : x ≤ 4611686018427387904) (hE : E ≤ 4611686018427387904) :
    Calls Try.prog 49 #[.pointer (some ⟨g, 0, none⟩), .int .u64 (x : Nat)] w fun e w' => e = .returned (.tuple #[]) ∧ KsTurn w w' g C D k L T (ledg E x) := by
  obtain ⟨p, n, c, rs, s⟩ := s
  have c3 := s.c3
  have z3 := s.z 3
  have HT : Hid (∀ F, KsTurn w (w.setCell ⟨g, 3, none⟩ (.int .u64 (F : Nat))) g C D k L T F) := Lib.hid fun F =>
    ⟨C, D, ⟨p, n, c, rs, (s.led F).1⟩, (s.led F).2.mono fun j _ e => by rw [show j = g from e]; exact s.self, fun _ h => .inl h, fun _ h => .inl h⟩
  obtain ⟨Y, hY⟩ : ∃ Y, ledg E x = Y := ⟨_, rfl⟩
  rw [hY]
  have em : Hid (min ((E : Int) + (x : Int)) 4611686018427387904 = (Y : Int)) := Lib.hid (by rw [← hY]; unfold ledg; omega)
  have hs : (E : Int) + (x : Int) < 18446744073709551616 := by omega
  clear s hY
  go_enter Try.func49, Try.ntmps49
  go_wp2_with fail
  go_end0
  refine ⟨rfl, ?_⟩
  rw [em.out]
  exact HT.out Y
end
end Go.Proofs.Ytbpfmjekpjfceaa

namespace Go.Proofs.Ytbpfmjekpjfceaa
open Go.RowKit Go.Shelf
attribute [local go_sem] Oper.semAt_some
theorem backward_any (p : Option Addr) (n c : Nat) (w : World) :
    Calls Try.prog 79 #[.slice p n c] w fun e w' => e = .returned (.func (.func 105) #[] #[.pointer (some ⟨w.heap.size, 0, none⟩)]) ∧ w' = w.alloc (.cells #[.slice p n c] 113) := by
  go_enter Try.func79, Try.ntmps79
  go_wp2_with fail
  go_ret
  exact ⟨rfl, rfl⟩
def Kb (n0 b Bs : Nat) (W W' : World) : Prop := Below n0 W W' ∧ (∀ v, W.cell? ⟨Bs, 0, none⟩ = some v → W'.cell? ⟨Bs, 0, none⟩ = some v) ∧ ∀ i, (∃ v, W.cell? ⟨b, i, none⟩ = some (.int .i64 v)) → ∃ v, W'.cell? ⟨b, i, none⟩ = some (.int .i64 v)
theorem Kb.refl (n0 b Bs : Nat) (W : World) : Kb n0 b Bs W W := ⟨Below.refl _ _, fun _ h => h, fun _ h => h⟩
theorem Kb.trans {n0 b Bs : Nat} {X Y Z : World} (h : Kb n0 b Bs X Y) (k : Kb n0 b Bs Y Z) : Kb n0 b Bs X Z := ⟨h.1.trans k.1, fun v hv => k.2.1 v (h.2.1 v hv), fun i hi => k.2.2 i (h.2.2 i hi)⟩
def downs (n : Nat) : Nat → List Nat
  | 0 => []
  | j + 1 => downs n j ++ [n - 1 - j]
theorem downs_len (n : Nat) : ∀ j, (downs n j).length = j
  | 0 => rfl
  | j + 1 => by rw [downs, List.length_append, downs_len n j]; rfl
abbrev Dn (n : Nat) := { i : Nat // i < n } × Int
theorem back1_in (F : Fence) (N : Nat) (hF : F.fn 105) (hro : F.round = none) (hN : 1 ≤ N) (lp Bs n0 b n : Nat) (hn : n ≤ 100000) (J Jx : List (Dn n) → World → Prop) (W : World)
    (hB : W.cell? ⟨Bs, 0, none⟩ = some (.slice (some ⟨b, 0, none⟩) n n)) (hb : ∀ i, i < n → ∃ v, W.cell? ⟨b, i, none⟩ = some (.int .i64 v))
    (hY : ∀ pre (x : Dn n) W1, J pre W1 → pre.length < n → YieldAt F (N - 1) Try.prog lp #[.int .i64 (x.1.1 : Nat), .int .i64 x.2] W1 fun e W' =>
      (e = .returned (.bool true) ∧ J (pre ++ [x]) W' ∧ Kb n0 b Bs W1 W') ∨ (e = .returned (.bool false) ∧ Jx (pre ++ [x]) W'))
    (h0 : J [] W) :
    CallsIn F N Try.prog 105 #[.func (.yield lp) #[] #[], .pointer (some ⟨Bs, 0, none⟩)] W fun e W' => (∃ v, e = .returned v) ∧
      ((∃ ys : List (Dn n), ys.map (fun x => x.1.1) = downs n n ∧ J ys W') ∨ (∃ pre, (∃ j, pre.map (fun x => x.1.1) = downs n j) ∧ Jx pre W')) := by
  have hni : (n : Int) ≤ 100000 := by omega
  refine callsIn_of_wp Try.func105 rfl hF ?_ hro
  simp only [Try.ntmps105, List.size_toArray, List.length_cons, List.length_nil, Nat.reduceAdd, Nat.reduceSub, Array.replicate_succ, Array.replicate_zero, List.push_toArray, List.append_toArray, List.nil_append, List.cons_append]
  gi_wp2
  gi_loopw [3] (fun i wr => ∃ (j : Nat) (ys : List (Dn n)), j ≤ n ∧ i = .int .i64 ((n : Int) - 1 - (j : Nat)) ∧ ys.map (fun x => x.1.1) = downs n j ∧ J ys wr ∧ Hid (Kb n0 b Bs W wr)) (fun i _ => (intOf i + 1).toNat)
  case atStart => exact ⟨0, [], Nat.zero_le _, by simp, rfl, h0, Lib.hid (Kb.refl _ _ _ _)⟩
  case round =>
    obtain ⟨j, ys, hj, rfl, hys, hJ, hk⟩ := hrel
    by_cases hlt : j < n
    · obtain ⟨i, hi⟩ : ∃ i, n - 1 - j = i := ⟨_, rfl⟩
      have ei : (n : Int) - 1 - (j : Int) = (i : Int) := by omega
      have hin : i < n := by omega
      have b1 := hk.out.2.1 _ hB
      obtain ⟨v, b2⟩ := hk.out.2.2 i (hb i hin)
      have hi0 : (0 : Int) ≤ (i : Int) := by omega
      have hini : (i : Int) < (n : Int) := by omega
      obtain ⟨fn, tmps, assign, body, hy, hR⟩ := hY ys (⟨i, hin⟩, v) wr hJ (by have := congrArg List.length hys; rw [List.length_map, downs_len] at this; omega)
      dsimp only at hy
      have HYS : Hid ((ys ++ [((⟨i, hin⟩, v) : Dn n)]).map (fun x => x.1.1) = downs n (j + 1)) := Lib.hid (by rw [List.map_append, hys, downs, hi]; rfl)
      have HJI : Hid (n - 1 - j = i ∧ j < n) := Lib.hid ⟨hi, hlt⟩
      rw [ei]
      clear hys hi hJ ei hlt
      gi_wp2
      refine hR.mono ?_
      rintro e W3 (⟨rfl, hJ3, hk3⟩ | ⟨rfl, hJx3⟩)
      · gi_wp2
        go_roundw
        case rel => exact ⟨j + 1, _, by have := HJI.out; omega, by have := HJI.out; congr 1; omega, HYS.out, hJ3, Lib.hid (hk.out.trans hk3)⟩
        case measure => simp [intOf]
      · gi_wp2
        refine bodyPost_ret (results_none rfl _ _ _) rfl ?_
        exact ⟨⟨_, rfl⟩, .inr ⟨_, ⟨j + 1, HYS.out⟩, hJx3⟩⟩
    · obtain rfl : j = n := by omega
      have e1 : (j : Int) - 1 - (j : Int) = -1 := by omega
      rw [e1]
      clear hlt e1
      gi_wp2
      go_end0
      exact ⟨⟨_, rfl⟩, .inl ⟨ys, hys, hJ⟩⟩
theorem back_stops (F : Fence) (N : Nat) (hF : F.fn 105) (hro : F.round = none) (hN : 1 ≤ N) (Bs n0 b n : Nat) (hn : n ≤ 100000) (w : World) (hBt : Bs < w.heap.size) (hbt : b < w.heap.size)
    (hB : w.cell? ⟨Bs, 0, none⟩ = some (.slice (some ⟨b, 0, none⟩) n n)) (hb : ∀ i, i < n → ∃ v, w.cell? ⟨b, i, none⟩ = some (.int .i64 v)) :
    SeqStopsK F N Try.prog 105 #[.pointer (some ⟨Bs, 0, none⟩)] (fun x : Dn n => #[.int .i64 (x.1.1 : Nat), .int .i64 x.2]) (Kb n0 b Bs) (fun ys => ys.map (fun x => x.1.1) = downs n n) (fun pre => ∃ j, pre.map (fun x => x.1.1) = downs n j) n w := fun lp J Jx W hW _ _ hY h0 =>
  back1_in F N hF hro hN lp Bs n0 b n hn J Jx W ((hW.cell (p := ⟨Bs, 0, none⟩) hBt).trans hB) (fun i hi => let ⟨v, hv⟩ := hb i hi; ⟨v, (hW.cell (p := ⟨b, i, none⟩) hbt).trans hv⟩) hY h0
def rst (k n : Nat) (l : List Nat) : List Nat × Nat := l.foldl (fun s i => (s.1.set i (max s.2 2), cut23 s.2)) (List.replicate n 0, k)
theorem rst_snoc (k n : Nat) (l : List Nat) (i : Nat) : rst k n (l ++ [i]) = ((rst k n l).1.set i (max (rst k n l).2 2), cut23 (rst k n l).2) := by simp [rst]
theorem rst_len (k n : Nat) : ∀ (m : Nat) (l : List Nat), l.length = m → (rst k n l).1.length = n ∧ (rst k n l).2 = cr k m
  | 0, l, h => by
    obtain rfl := List.eq_nil_of_length_eq_zero h
    exact ⟨by simp [rst], rfl⟩
  | m + 1, l, h => by
    obtain ⟨l0, x, rfl⟩ : ∃ l0 x, l = l0 ++ [x] := ⟨l.dropLast, l.getLast (by intro e; subst e; simp at h), (List.dropLast_concat_getLast _).symm⟩
    have h0 : l0.length = m := by simpa using h
    obtain ⟨h1, h2⟩ := rst_len k n m l0 h0
    rw [rst_snoc, h2]
    exact ⟨by simp [h1], rfl⟩
theorem rst_downs (k n : Nat) : ∀ j, j ≤ n → ∀ i, i < n → (rst k n (downs n j)).1[i]? = some (if n - j ≤ i then max (cr k (n - 1 - i)) 2 else 0)
  | 0, _, i, hi => by
    rw [if_neg (by omega)]
    simp [rst, downs, hi]
  | j + 1, hj, i, hi => by
    have ih := rst_downs k n j (by omega) i hi
    obtain ⟨h1, h2⟩ := rst_len k n j (downs n j) (downs_len n j)
    rw [downs, rst_snoc, h2]
    simp only [List.getElem?_set]
    by_cases e : n - 1 - j = i
    · subst e
      rw [if_pos rfl, if_pos (by omega), if_pos (by omega), show n - 1 - (n - 1 - j) = j by omega]
    · rw [if_neg e, ih]
      congr 1
      by_cases e2 : n - j ≤ i
      · rw [if_pos e2, if_pos (by omega)]
      · rw [if_neg e2, if_neg (by omega)]
def rooms (k n : Nat) : List Nat := (List.range n).map (room k n)
theorem rst_all (k n : Nat) : (rst k n (downs n n)).1 = rooms k n := by
  obtain ⟨h1, -⟩ := rst_len k n n (downs n n) (downs_len n n)
  refine List.ext_getElem? fun i => ?_
  by_cases hi : i < n
  · rw [rst_downs k n n (Nat.le_refl _) i hi, if_pos (by omega)]
    simp [rooms, hi, room]
  · rw [List.getElem?_eq_none (by omega), List.getElem?_eq_none (by simp [rooms]; omega)]
theorem info_int : (Try.prog.info? 3).map (fun i => (i.zero, i.size, i.bytes)) = some (some (.int .i64 0), 1, 8) := by kernel_rfl
def i64s (l : List Nat) : List Value := l.map fun (x : Nat) => Value.int .i64 (x : Int)
theorem make_int (w : World) (n : Nat) (hn : n ≤ 100000) : (Instr.makeSlice 113 (.int .i64 (n : Nat)) (.int .i64 (n : Nat))).run Try.prog w = .ok (.slice (some ⟨w.heap.size, 0, none⟩) n n) (w.alloc (.cells (i64s (List.replicate n 0)).toArray 3)) := by
  obtain ⟨i, hi, hz, hs, hb⟩ := info_parts info_int
  have := run_make w 113 3 i _ Try.underlying113 hi hz .i64 .i64 (n : Int) (n : Int) (by omega) (by omega) (by rw [hb]; omega) (by omega)
  rw [this, hs, Nat.mul_one, Int.toNat_natCast]
  have e : madeCells #[Value.int .i64 0] n = (i64s (List.replicate n 0)).toArray := by
    apply Array.toList_inj.1
    rw [toList_madeCells_one]
    simp [i64s]
  show Result.ok _ (w.alloc (.cells (madeCells #[Value.int .i64 0] n) _)) = _
  rw [e]
theorem row_own {β : Type} (B : Nat) (t : TypeId) (f : β → Array Value) : Own (fun s W => W.heap[B]? = some (.cells (f s) t (0, 0))) := fun s X Y row hs hg hrow =>
  (hg.block B (Array.getElem?_eq_some_iff.1 hs).1 (fun e => by obtain ⟨o, ho, hc⟩ := hrow B e.symm; rw [hs] at ho; cases ho; cases hc)).trans hs
theorem row_cell {W : World} {b : Nat} {l : List Nat} {t : TypeId} (h : W.heap[b]? = some (.cells (i64s l).toArray t (0, 0))) (i : Nat) (hi : i < l.length) : W.cell? ⟨b, i, none⟩ = some (.int .i64 (l[i] : Nat)) := by
  simp [World.cell?, h, i64s, hi]
theorem row_lt {W : World} {b : Nat} {l : List Nat} {t : TypeId} (h : W.heap[b]? = some (.cells (i64s l).toArray t (0, 0))) (i : Nat) (v : Value) (hv : W.cell? ⟨b, i, none⟩ = some v) : i < l.length := by
  simp only [World.cell?, h] at hv
  by_cases hi : i < l.length
  · exact hi
  · simp [i64s, hi] at hv
theorem three_new (w : World) (o1 o2 o3 : Obj) : (((w.alloc o1).alloc o2).alloc o3).drew.heap[w.heap.size]? = some o1 ∧ (((w.alloc o1).alloc o2).alloc o3).drew.heap[w.heap.size + 1]? = some o2 ∧ (((w.alloc o1).alloc o2).alloc o3).drew.heap[w.heap.size + 1 + 1]? = some o3 ∧
    (((w.alloc o1).alloc o2).alloc o3).drew.heap.size = w.heap.size + 1 + 1 + 1 ∧ Fr S0 w (((w.alloc o1).alloc o2).alloc o3).drew := by
  have z1 : (w.alloc o1).heap.size = w.heap.size + 1 := World.size_alloc _ _
  have z2 : ((w.alloc o1).alloc o2).heap.size = w.heap.size + 1 + 1 := by rw [World.size_alloc, z1]
  have z3 : (((w.alloc o1).alloc o2).alloc o3).heap.size = w.heap.size + 1 + 1 + 1 := by rw [World.size_alloc, z2]
  have h1 := World.alloc_heap_new w o1
  have h2 := World.alloc_heap_new (w.alloc o1) o2
  have h3 := World.alloc_heap_new ((w.alloc o1).alloc o2) o3
  rw [z1] at h2
  rw [z2] at h3
  have f2 := Fr.alloc S0 (w.alloc o1) o2
  have f3 := (Fr.alloc S0 ((w.alloc o1).alloc o2) o3).trans0 (Fr.drew S0 _)
  exact ⟨f3.row (f2.row h1 fun h => h) fun h => h, f3.row h2 fun h => h, h3, z3, ((Fr.alloc S0 w o1).trans0 f2).trans0 f3⟩
structure Rs (w W : World) (b bl bc n k : Nat) : Prop where
  row : W.heap[b]? = some (.cells (i64s (List.replicate n 0)).toArray 3 (0, 0))
  hl : W.heap[bl]? = some (.cells #[.slice (some ⟨b, 0, none⟩) n n] 113 (0, 0))
  hc : W.heap[bc]? = some (.cells #[.int .i64 (k : Nat)] 3 (0, 0))
  ne : b ≠ bl ∧ b ≠ bc ∧ bl ≠ bc
  ge : w.heap.size ≤ b ∧ w.heap.size ≤ bl ∧ w.heap.size ≤ bc ∧ b < W.heap.size ∧ bl < W.heap.size ∧ bc < W.heap.size
  fr : Fr S0 w W
structure Rb (w W : World) (b bl bc Bs n : Nat) (l : List Nat) (c : Nat) : Prop where
  row : W.heap[b]? = some (.cells (i64s l).toArray 3 (0, 0))
  len : l.length = n
  hl : Boxed W bl 113 (.slice (some ⟨b, 0, none⟩) n n)
  hc : Boxed W bc 3 (.int .i64 (c : Nat))
  hs : Boxed W Bs 113 (.slice (some ⟨b, 0, none⟩) n n)
  ne : b ≠ bl ∧ b ≠ bc ∧ b ≠ Bs ∧ bl ≠ bc ∧ bl ≠ Bs ∧ bc ≠ Bs
  ge : w.heap.size ≤ b ∧ w.heap.size ≤ bc
  below : Below w.heap.size w W
theorem Rb.step {w W : World} {b bl bc Bs n c : Nat} {l : List Nat} (h : Rb w W b bl bc Bs n l c) (i M c' : Nat) :
    Rb w ((W.setCell ⟨b, i, none⟩ (.int .i64 (M : Nat))).setCell ⟨bc, 0, none⟩ (.int .i64 (c' : Nat))) b bl bc Bs n (l.set i M) c' ∧
    Kb w.heap.size b Bs W ((W.setCell ⟨b, i, none⟩ (.int .i64 (M : Nat))).setCell ⟨bc, 0, none⟩ (.int .i64 (c' : Nat))) ∧ ∀ N, KeepsFrom N W ((W.setCell ⟨b, i, none⟩ (.int .i64 (M : Nat))).setCell ⟨bc, 0, none⟩ (.int .i64 (c' : Nat))) := by
  obtain ⟨n1, n2, n3, n4, n5, n6⟩ := h.ne
  obtain ⟨g1, g2⟩ := h.ge
  have f1 : Fr (· = b) W (W.setCell ⟨b, i, none⟩ (.int .i64 (M : Nat))) := Fr.setCell _ _ _ _ rfl
  have f2 : Fr (· = bc) (W.setCell ⟨b, i, none⟩ (.int .i64 (M : Nat))) ((W.setCell ⟨b, i, none⟩ (.int .i64 (M : Nat))).setCell ⟨bc, 0, none⟩ (.int .i64 (c' : Nat))) := Fr.setCell _ _ _ _ rfl
  have r1 : (W.setCell ⟨b, i, none⟩ (.int .i64 (M : Nat))).heap[b]? = some (.cells (i64s (l.set i M)).toArray 3 (0, 0)) := by
    rw [heap_setCell_same W b i _ _ _ h.row]
    simp [i64s, List.map_set]
  have r2 := f2.row r1 fun e => n2 e
  have b1 : Below w.heap.size W ((W.setCell ⟨b, i, none⟩ (.int .i64 (M : Nat))).setCell ⟨bc, 0, none⟩ (.int .i64 (c' : Nat))) :=
    ((Below.refl w.heap.size W).setCell (p := ⟨b, i, none⟩) g1 _).setCell (p := ⟨bc, 0, none⟩) g2 _
  have bs2 : Boxed ((W.setCell ⟨b, i, none⟩ (.int .i64 (M : Nat))).setCell ⟨bc, 0, none⟩ (.int .i64 (c' : Nat))) Bs 113 (.slice (some ⟨b, 0, none⟩) n n) := f2.row (f1.row h.hs fun e => n3 e.symm) fun e => n6 e.symm
  refine ⟨⟨r2, by simp [h.len], f2.row (f1.row h.hl fun e => n1 e.symm) fun e => n4 e, Boxed.set _ (f1.row h.hc fun e => n2 e.symm), bs2, h.ne, h.ge, h.below.trans b1⟩, ⟨b1, fun v hv => ?_, fun j hj => ?_⟩, fun N => ((KeepsOthers.setCell _ _ _).trans (KeepsOthers.setCell _ _ _)).from _⟩
  · rw [h.hs.cell] at hv
    rw [← hv]
    exact bs2.cell
  · obtain ⟨v, hv⟩ := hj
    have := row_lt h.row j _ hv
    exact ⟨_, row_cell r2 j (by simpa using this)⟩
def ixs {n : Nat} (pre : List (Dn n)) : List Nat := pre.map fun x => x.1.1
theorem Rb.own (w : World) (b bl bc Bs n k N : Nat) (hN : w.heap.size ≤ N) : OwnFrom N (fun (pre : List (Dn n)) W => Rb w W b bl bc Bs n (rst k n (ixs pre)).1 (rst k n (ixs pre)).2) := fun s X Y row hs hg hr => by
  have h1 := row_own (β := Unit) b 3 (fun _ => (i64s (rst k n (ixs s)).1).toArray) () X Y row hs.row hg fun r e => (hr r e).2
  have h2 := boxed_own (β := Unit) bl 113 (fun _ => .slice (some ⟨b, 0, none⟩) n n) () X Y row hs.hl hg fun r e => (hr r e).2
  have h3 := boxed_own (β := Unit) bc 3 (fun _ => .int .i64 ((rst k n (ixs s)).2 : Nat)) () X Y row hs.hc hg fun r e => (hr r e).2
  have h4 := boxed_own (β := Unit) Bs 113 (fun _ => .slice (some ⟨b, 0, none⟩) n n) () X Y row hs.hs hg fun r e => (hr r e).2
  exact ⟨h1, hs.len, h2, h3, h4, hs.ne, hs.ge, hs.below.trans ⟨hg.os, hg.tape, hg.output, hg.size, fun j hj => by
    by_cases e : some j = row
    · have := (hr j e.symm).1
      omega
    · by_cases hjx : j < X.heap.size
      · exact hg.block j hjx e
      · exact absurd (Nat.lt_of_lt_of_le hj hs.below.size) hjx⟩⟩
theorem rooms_in (g n c k T E : Nat) (C D : Nat → Prop) (p : Option Addr) (rs : List Sv) (L : Lv) (w : World) (s : KsIs w g C D p n c rs k L T E) (hn : n ≤ 100000) (hk : k ≤ 100000) (hk2 : 2 ≤ k) :
    CallsIn Fence.wide 3 Try.prog 60 #[.pointer (some ⟨g, 0, none⟩)] w fun e W' => ∃ b, e = .returned (.slice (some ⟨b, 0, none⟩) n n) ∧ w.heap.size ≤ b ∧ W'.heap[b]? = some (.cells (i64s (rooms k n)).toArray 3 (0, 0)) ∧ Below w.heap.size w W' := by
  have c0 := s.c0
  have c1 := s.c1
  have hMI : ∀ W : World, (Instr.makeSlice 113 (.int .i64 (n : Nat)) (.int .i64 (n : Nat))).run Try.prog W = .ok (.slice (some ⟨W.heap.size, 0, none⟩) n n) (W.alloc (.cells (i64s (List.replicate n 0)).toArray 3)) := fun W => make_int W n hn
  have cc : ∀ (i : Nat) (v : Value), w.cell? ⟨g, i, none⟩ = some v → (∀ a, (w.alloc a).cell? ⟨g, i, none⟩ = some v) ∧ (∀ a b, ((w.alloc a).alloc b).cell? ⟨g, i, none⟩ = some v) ∧ ∀ a b c, (((w.alloc a).alloc b).alloc c).cell? ⟨g, i, none⟩ = some v := fun i v h =>
    ⟨fun a => (Fr.alloc S0 w a).cell h (fun h => h), fun a b => ((Fr.alloc S0 w a).trans0 (Fr.alloc S0 _ b)).cell h (fun h => h), fun a b c => (((Fr.alloc S0 w a).trans0 (Fr.alloc S0 _ b)).trans0 (Fr.alloc S0 _ c)).cell h (fun h => h)⟩
  obtain ⟨c0a, c0b, c0c⟩ := cc 0 _ c0
  obtain ⟨c1a, c1b, c1c⟩ := cc 1 _ c1
  clear s cc
  have HC : Hid (∀ j, 2 ≤ cr k j ∧ cr k j ≤ 100000) := Lib.hid fun j => ⟨cr_two hk2 j, Nat.le_trans (cr_le k hk2 j) hk⟩
  have HN := Lib.hid hn
  refine callsIn_of_wp_marks Try.func60 rfl trivial ?_ rfl
  simp only [Try.ntmps60, List.size_toArray, List.length_cons, List.length_nil, Nat.reduceAdd, Nat.reduceSub, Array.replicate_succ, Array.replicate_zero, List.push_toArray, List.append_toArray, List.nil_append, List.cons_append]
  gi_wp2
  refine wpIn_mono (Q := fun e a' w' => e = .normal ∧ ∃ b bl bc : Nat, Rs w w' b bl bc n k ∧ a' = { tmps := #[.pointer (some ⟨g, 0, none⟩), undef, .slice none 0 0, .pointer (some ⟨bl, 0, none⟩), .pointer (some ⟨bc, 0, none⟩), undef, .pointer (some ⟨g, 0, none⟩), .pointer (some ⟨g, 0, none⟩), .pointer (some ⟨g, 1, none⟩), .slice p n c, .int .i64 (n : Nat), .slice (some ⟨b, 0, none⟩) n n,
        .pointer (some ⟨g, 0, none⟩), .pointer (some ⟨g, 0, none⟩), .pointer (some ⟨g, 0, none⟩), .int .i64 (k : Nat), undef, undef, undef, undef, undef, undef, undef, undef, undef, undef, undef, undef, undef, undef], defers := [] }) ?first ?rest
  case first =>
    gi_region
    · have h := (three_new w (.cells (i64s (List.replicate n 0)).toArray 3) (.cells #[.slice (some ⟨w.heap.size, 0, none⟩) n n] 113) (.cells #[.int .i64 (k : Nat)] 3))
      exact ⟨rfl, _, _, _, ⟨h.1, h.2.1, h.2.2.1, by refine ⟨?_, ?_, ?_⟩ <;> omega, by have h4 := h.2.2.2.1; refine ⟨?_, ?_, ?_, ?_, ?_, ?_⟩ <;> omega, h.2.2.2.2⟩, rfl⟩
    · have h := (three_new w (.cells (i64s (List.replicate n 0)).toArray 3) (.cells #[.int .i64 (k : Nat)] 3) (.cells #[.slice (some ⟨w.heap.size, 0, none⟩) n n] 113))
      exact ⟨rfl, _, _, _, ⟨h.1, h.2.2.1, h.2.1, by refine ⟨?_, ?_, ?_⟩ <;> omega, by have h4 := h.2.2.2.1; refine ⟨?_, ?_, ?_, ?_, ?_, ?_⟩ <;> omega, h.2.2.2.2⟩, rfl⟩
    · have h := (three_new w (.cells #[.slice (some ⟨w.heap.size + 1, 0, none⟩) n n] 113) (.cells (i64s (List.replicate n 0)).toArray 3) (.cells #[.int .i64 (k : Nat)] 3))
      exact ⟨rfl, _, _, _, ⟨h.2.1, h.1, h.2.2.1, by refine ⟨?_, ?_, ?_⟩ <;> omega, by have h4 := h.2.2.2.1; refine ⟨?_, ?_, ?_, ?_, ?_, ?_⟩ <;> omega, h.2.2.2.2⟩, rfl⟩
    · have h := (three_new w (.cells #[.slice (some ⟨w.heap.size + 1 + 1, 0, none⟩) n n] 113) (.cells #[.int .i64 (k : Nat)] 3) (.cells (i64s (List.replicate n 0)).toArray 3))
      exact ⟨rfl, _, _, _, ⟨h.2.2.1, h.1, h.2.1, by refine ⟨?_, ?_, ?_⟩ <;> omega, by have h4 := h.2.2.2.1; refine ⟨?_, ?_, ?_, ?_, ?_, ?_⟩ <;> omega, h.2.2.2.2⟩, rfl⟩
    · have h := (three_new w (.cells #[.int .i64 (k : Nat)] 3) (.cells (i64s (List.replicate n 0)).toArray 3) (.cells #[.slice (some ⟨w.heap.size + 1, 0, none⟩) n n] 113))
      exact ⟨rfl, _, _, _, ⟨h.2.1, h.2.2.1, h.1, by refine ⟨?_, ?_, ?_⟩ <;> omega, by have h4 := h.2.2.2.1; refine ⟨?_, ?_, ?_, ?_, ?_, ?_⟩ <;> omega, h.2.2.2.2⟩, rfl⟩
    · have h := (three_new w (.cells #[.int .i64 (k : Nat)] 3) (.cells #[.slice (some ⟨w.heap.size + 1 + 1, 0, none⟩) n n] 113) (.cells (i64s (List.replicate n 0)).toArray 3))
      exact ⟨rfl, _, _, _, ⟨h.2.2.1, h.2.1, h.1, by refine ⟨?_, ?_, ?_⟩ <;> omega, by have h4 := h.2.2.2.1; refine ⟨?_, ?_, ?_, ?_, ?_, ?_⟩ <;> omega, h.2.2.2.2⟩, rfl⟩
  case rest =>
    rintro e a' W1 ⟨rfl, b, bl, bc, hS1, rfl⟩
    have HS1 := Lib.hid hS1
    have k0 : W1.cell? ⟨bl, 0, none⟩ = some (.slice (some ⟨b, 0, none⟩) n n) := by simp [World.cell?, hS1.hl]
    clear c0a c0b c0c c1a c1b c1c hMI c0 c1 hS1
    gi_wp2
    refine ⟨trivial, ?_⟩
    refine (callsIn_wide.2 (backward_any _ _ _ _)).mono ?_
    rintro e w' ⟨rfl, rfl⟩
    obtain ⟨Bs, hBs⟩ : ∃ Bs, W1.heap.size = Bs := ⟨_, rfl⟩
    obtain ⟨h1, h2, h3, ⟨n1, n2, n3⟩, ⟨g1, g2, g3, l1, l2, l3⟩, hf⟩ := HS1.out
    have R0 : Rb w (W1.alloc (.cells #[.slice (some ⟨b, 0, none⟩) n n] 113)) b bl bc Bs n (rst k n (ixs ([] : List (Dn n)))).1 (rst k n (ixs ([] : List (Dn n)))).2 := by
      have fa := Fr.alloc S0 W1 (.cells #[.slice (some ⟨b, 0, none⟩) n n] 113)
      have hn4 := World.alloc_heap_new W1 (.cells #[.slice (some ⟨b, 0, none⟩) n n] 113)
      rw [hBs] at hn4
      exact ⟨fa.row h1 fun h => h, by simp [ixs, rst], fa.row h2 fun h => h, fa.row h3 fun h => h, hn4, by refine ⟨?_, ?_, ?_, ?_, ?_, ?_⟩ <;> omega, by refine ⟨?_, ?_⟩ <;> omega, (hf.trans0 fa).below⟩
    have hsz : (W1.alloc (.cells #[.slice (some ⟨b, 0, none⟩) n n] 113)).heap.size = Bs + 1 := by rw [World.size_alloc, hBs]
    have hws : w.heap.size ≤ Bs := by omega
    rw [hBs] at *
    generalize (W1.alloc (.cells #[.slice (some ⟨b, 0, none⟩) n n] 113)) = W0 at R0 hsz ⊢
    have HR0 := Lib.hid R0
    clear h1 h2 h3 hf HS1 k0 hBs
    gi_wp2
    refine wpIn_rangeFunc_ownG (F := Fence.wide) rfl (by decide) (gf := 105) (lb := #[.pointer (some ⟨Bs, 0, none⟩)]) rfl trivial (enters_of Try.func105 (by kernel_rfl) rfl)
      (back_stops Fence.wide 2 trivial rfl (by omega) Bs w.heap.size b n HN.out W0 (by omega) (by omega) R0.hs.cell (fun i hi => ⟨_, row_cell R0.row i (by rw [R0.len]; exact hi)⟩)) (fun h k => h.trans k) ?keep (Below.refl _ _) (fun _ => rfl)
      (fun pre W => Rb w W b bl bc Bs n (rst k n (ixs pre)).1 (rst k n (ixs pre)).2)
      (fun _ _ _ => False)
      (Rb.own w _ _ _ _ n k _ (by omega))
      (fun _ _ _ _ _ hs _ _ => hs)
      R0
      (fun x => { tmps := #[.pointer (some ⟨g, 0, none⟩), undef, .slice none 0 0, .pointer (some ⟨bl, 0, none⟩), .pointer (some ⟨bc, 0, none⟩), .int .i64 (x.1.1 : Nat), .pointer (some ⟨g, 0, none⟩), .pointer (some ⟨g, 0, none⟩), .pointer (some ⟨g, 1, none⟩), .slice p n c, .int .i64 (n : Nat), .slice (some ⟨b, 0, none⟩) n n,
        .pointer (some ⟨g, 0, none⟩), .pointer (some ⟨g, 0, none⟩), .pointer (some ⟨g, 0, none⟩), .int .i64 (k : Nat), .slice (some ⟨b, 0, none⟩) n n, .func (.func 105) #[] #[.pointer (some ⟨Bs, 0, none⟩)], .int .i64 (x.1.1 : Nat), .int .i64 x.2, undef, undef, undef, undef, undef, undef, undef, undef, undef, undef], defers := [] }) ?assign ?body ?done ?stop
    case keep =>
      intro W l o o' hl ho hc _
      have hkeep : ∀ j, j < W0.heap.size → (W.putObj l o').heap[j]? = W.heap[j]? := fun j hj => World.putObj_heap_other (by omega)
      have hcell : ∀ j i, j < W0.heap.size → (W.putObj l o').cell? ⟨j, i, none⟩ = W.cell? ⟨j, i, none⟩ := fun j i hj => by simp only [World.cell?, hkeep j hj]
      exact ⟨belowK_b (w := W0) (by omega) W l o o' hl ho hc ‹_›, fun v hv => by rw [hcell _ _ (by omega)]; exact hv, fun i hi => by rw [hcell _ _ (by omega)]; exact hi⟩
    case assign =>
      intro lp x W K hK
      gi_wp2
      exact hK
    case body =>
      rintro lp pre ⟨⟨i, hi⟩, v⟩ W hR _
      obtain ⟨h1, h2⟩ := rst_len k n pre.length (ixs pre) (by simp [ixs])
      have hsn := rst_snoc k n (ixs pre) i
      obtain ⟨⟨l, c⟩, hS⟩ : ∃ S, rst k n (ixs pre) = S := ⟨_, rfl⟩
      rw [hS] at hR hsn h1 h2
      simp only at hR hsn h1 h2
      have hc2 := HC.out pre.length
      rw [← h2] at hc2
      obtain ⟨M, hM⟩ : ∃ M, max c 2 = M := ⟨_, rfl⟩
      obtain ⟨c', hc'⟩ : ∃ c', cut23 c = c' := ⟨_, rfl⟩
      rw [hM, hc'] at hsn
      have HX : Hid (rst k n (ixs (pre ++ [((⟨i, hi⟩, v) : Dn n)])) = (l.set i M, c')) := Lib.hid (by unfold ixs at hsn ⊢; rw [List.map_append]; exact hsn)
      have HST := Lib.hid (hR.step i M c')
      have em : max (c : Int) 2 = (M : Int) := by omega
      have ec : (2 * (c : Int) + 2) / 3 = (c' : Int) := by unfold cut23 at hc'; omega
      have ec2 : (2 * (c : Int) + 2).tdiv 3 = (c' : Int) := by rw [Int.tdiv_eq_ediv_of_nonneg (by omega)]; exact ec
      have k1 := hR.hl.cell
      have k2 := hR.hc.cell
      have k3 := row_cell hR.row i (by rw [hR.len]; exact hi)
      have z2 := hR.hc.frozen
      have z3 : W.frozen? ⟨b, i, none⟩ = false := by simp [World.frozen?, hR.row]
      obtain ⟨u, hu⟩ : ∃ u, l[i]'(by rw [hR.len]; exact hi) = u := ⟨_, rfl⟩
      rw [hu] at k3
      have f1 : Fr (· = (b)) W (W.setCell ⟨b, i, none⟩ (.int .i64 (M : Nat))) := Fr.setCell _ _ _ _ rfl
      have hne := hR.ne
      have q2 := f1.cell k2 fun e => hne.2.1 e.symm
      have y2 : (W.setCell ⟨b, i, none⟩ (.int .i64 (M : Nat))).frozen? ⟨bc, 0, none⟩ = false := by simp [World.frozen?, show _ from f1.row hR.hc fun e => hne.2.1 e.symm]
      have hi0 : (0 : Int) ≤ (i : Int) := by omega
      have hin : (i : Int) < (n : Int) := by omega
      have hci : (c : Int) ≤ 100000 := by omega
      have hni : (n : Int) ≤ 100000 := by have := HN.out; omega
      clear hsn hS h1 h2 hc2 hM hc' hR f1 hne hu R0 hn
      gi_wp2
      simp only [ownPostG, HX.out]
      exact ⟨HST.out.2.2 _, HST.out.2.1, HST.out.1⟩
    case done =>
      rintro D ys W hD hys hR hK
      have hE : rst k n (ixs ys) = (rooms k n, (rst k n (ixs ys)).2) := by
        have h := rst_all k n
        rw [← hys] at h
        rw [← h]
        rfl
      rw [hE] at hR
      have k1 := hR.hl.cell
      have HR := Lib.hid hR
      clear hR hE hys R0
      gi_wp2
      refine ⟨by simp, .inl ⟨_, _, rfl, run_takeDeferred hK, ?_⟩⟩
      refine ⟨.slice (some ⟨b, 0, none⟩) n n, ?_, ?_⟩
      · simp [results, Try.f60, go_sem]
      · refine ⟨_, rfl, by omega, ?_, ?_⟩
        · exact (World.putObj_heap_other (by omega)).trans HR.out.row
        · exact HR.out.below.trans (belowK_b (w := w) (Nat.le_refl _) W D _ (.deferred none) (by omega) hK rfl rfl)
    case stop =>
      rintro D c pre W _ _ h _
      exact h.elim
end Go.Proofs.Ytbpfmjekpjfceaa

namespace Go.Proofs.Ytbpfmjekpjfceaa
open Go.RowKit
theorem xrooms_any (g n c k T E : Nat) (C D : Nat → Prop) (p : Option Addr) (rs : List Sv) (L : Lv) (w : World) (s : KsIs w g C D p n c rs k L T E) (hn : n ≤ 100000) (hk : k ≤ 100000) (hk2 : 2 ≤ k) :
    Calls Try.prog 60 #[.pointer (some ⟨g, 0, none⟩)] w fun e W' => ∃ b, e = .returned (.slice (some ⟨b, 0, none⟩) n n) ∧ (∀ i, i < n → W'.cell? ⟨b, i, none⟩ = some (.int .i64 (room k n i : Nat))) ∧ Fr S0 w W' :=
  (callsIn_wide.1 (rooms_in g n c k T E C D p rs L w s hn hk hk2)).mono fun e W' h => by
    obtain ⟨b, h1, -, h3, h4⟩ := h
    refine ⟨b, h1, fun i hi => ?_, Fr.ofBelow h4⟩
    have := row_cell h3 i (by simp [rooms, hi])
    simpa [rooms] using this
def ovI (k : Nat) (L : Lv) : Int := match over k L with
  | some h => (h : Int)
  | none => -1
section
variable (g k T E : Nat) (C D : Nat → Prop) (L : Lv) (w : World)
theorem xcrowded_any (s : KsS w g C D k L T E) (hn : L.length ≤ 100000) (hk : k ≤ 100000) (hk2 : 2 ≤ k) :
    Calls Try.prog 62 #[.pointer (some ⟨g, 0, none⟩)] w fun e w' => e = .returned (.int .i64 (ovI k L)) ∧ Fr S0 w w' := by
  obtain ⟨p, n, c, rs, s⟩ := s
  have hlen := s.len
  rw [hlen] at hn
  have HRM := Lib.hid (xrooms_any g n c k T E C D p rs L w s hn hk hk2)
  have HS := Lib.hid s
  have HL := Lib.hid hlen
  have hni : (n : Int) ≤ 100000 := by omega
  clear s hlen hk hk2
  go_enter Try.func62, Try.ntmps62
  go_wp2_with fail
  refine HRM.out.mono ?_
  rintro e w1 ⟨b, rfl, hrow, f1⟩
  have HROW := Lib.hid hrow
  have S1 := Lib.hid (HS.out.fr0 f1)
  have F1 := Lib.hid f1
  have c1 := S1.out.c1
  clear hrow f1 HRM
  go_wp2_with fail
  go_loopw [3, 4, 8] (fun _ _ z wr => ∃ i : Nat, z = .int .i64 i ∧ i ≤ n ∧ Hid (∀ j, (hj : j < L.length) → j < i → L[j].length ≤ room k L.length j) ∧ wr = w1) (fun _ _ z _ => n - (intOf z).toNat)
  case atStart => exact ⟨0, rfl, Nat.zero_le _, Lib.hid fun j _ h => absurd h (Nat.not_lt_zero _), rfl⟩
  case round =>
    obtain ⟨i, rfl, hi, hle, rfl⟩ := hrel
    by_cases hlt : (i : Int) < (n : Int)
    · have hil : i < L.length := by rw [HL.out]; omega
      obtain ⟨b1, rfl, -, -, q, m, d, ch, z, -, -⟩ := S1.out.lev i hil
      have k1 := HROW.out i (by omega)
      have hi0 : (0 : Int) ≤ (i : Int) := by omega
      have hm := z.len
      have HM := Lib.hid hm
      obtain ⟨R, hR⟩ : ∃ R, room k n i = R := ⟨_, rfl⟩
      rw [hR] at k1
      have HR : Hid (room k L.length i = R) := Lib.hid (by rw [HL.out]; exact hR)
      clear hR hm z
      by_cases hov : R < m
      · have kov : decide (R < m) = true := decide_eq_true hov
        have hovi : (R : Int) < (m : Int) := by omega
        have HO : Hid (ovI k L = (i : Int)) := Lib.hid (by
          unfold ovI
          rw [over_is hil (by rw [HR.out, HM.out]; exact hov) fun j hj => hle.out j (by omega) hj])
        clear hle hov
        go_wp2_with fail
        go_ret
        exact ⟨by rw [HO.out]; rfl, F1.out⟩
      · have kov : decide (R < m) = false := decide_eq_false hov
        have HLE : Hid (∀ j, (hj : j < L.length) → j < i + 1 → L[j].length ≤ room k L.length j) := Lib.hid fun j hj hj2 => by
          rcases (by omega : j < i ∨ j = i) with h | rfl
          · exact hle.out j hj h
          · rw [HR.out, HM.out]; omega
        clear hle hov
        go_wp2_with fail
        go_roundw
        case rel => exact ⟨i + 1, by go_num, by omega, HLE, trivial⟩
        case measure => simp [intOf]; omega
    · obtain rfl : i = n := by omega
      have HO : Hid (ovI k L = -1) := Lib.hid (by
        unfold ovI
        rw [over_no fun j hj => hle.out j hj (by rw [HL.out] at hj; exact hj)])
      clear hle
      go_wp2_with fail
      go_ret
      exact ⟨by rw [HO.out]; rfl, F1.out⟩
end
end Go.Proofs.Ytbpfmjekpjfceaa
