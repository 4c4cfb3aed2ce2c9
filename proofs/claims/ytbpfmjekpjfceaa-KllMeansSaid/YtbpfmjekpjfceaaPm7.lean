/- KrStack, KrPut, KrTotal, KrTurns, KrPack -/
import Derived.Test.YtbpfmjekpjfceaaPm1
import Derived.Test.YtbpfmjekpjfceaaPm2
import Derived.Test.YtbpfmjekpjfceaaPm3
import Derived.Test.YtbpfmjekpjfceaaPm4
import Derived.Test.YtbpfmjekpjfceaaPm6
import Derived.Maps.AppendAt
import Derived.Laws.AppendOwnNone
import Derived.Laws.OwnMore
import Derived.Lib.AppendZerosOnto
import Derived.Lib.SliceRun
import Derived.Lib.Walk
import Derived.WalkKit
import Derived.Laws.BytesArg
import Derived.Lib.SlBytesConst
import Derived.WalkSpells
import Derived.WalkLawsBesides
import Derived.Deep.QuietTactic
import Derived.BigQuiet
import Derived.RegionTactic
import Derived.Deep.AppendLies
import Derived.Deep.RegionLaw
import Derived.Laws.ResultCell
import Derived.Laws.EntriesVeiled
import Derived.Lib.Hide
import Derived.Test.YtbpfmjekpjfceaaRows
import Derived.Deep.LoopGhost
import Derived.Deep.CutRange
set_option maxRecDepth 100000
set_option maxHeartbeats 8000000
namespace Go.Proofs.Ytbpfmjekpjfceaa
open Go.RowKit
structure RkIs (w : World) (g : Nat) (C D : Nat → Prop) (p : Option Addr) (n c : Nat) (rs : List Sv) (k : Nat) (L : Lv) (E : Nat) : Prop where
  blk : w.heap[g]? = some (.cells #[.int .i64 (k : Nat), .slice p n c, .int .u64 (E : Nat)] 36 (0, 0))
  out : w.ownsRow 0 53 1 (.slice p n c) n (svs rs)
  lvs : Lvs w D rs L
  own : ∀ b, Value.ownBlock (.slice p n c) = some b → b ≠ g ∧ C b
  self : C g
  cd : ∀ b, C b → ¬ D b
  below : ∀ b, C b ∨ D b → b < w.heap.size
section
variable {S C D : Nat → Prop} {w w' : World} {g n c k E : Nat} {p : Option Addr} {rs : List Sv} {L : Lv}
theorem RkIs.fr (s : RkIs w g C D p n c rs k L E) (f : Fr S w w') (ho : ∀ b, C b ∨ D b → ¬ S b) : RkIs w' g C D p n c rs k L E :=
  ⟨f.row s.blk (ho g (.inl s.self)), f.owns s.out fun b hb => ho b (.inl (s.own b hb).2), s.lvs.fr f fun b hb => ho b (.inr hb), s.own, s.self, s.cd, fun b hb => Nat.lt_of_lt_of_le (s.below b hb) f.size⟩
theorem RkIs.fr0 (s : RkIs w g C D p n c rs k L E) (f : Fr S0 w w') : RkIs w' g C D p n c rs k L E := s.fr f fun _ _ h => h
theorem RkIs.c0 (s : RkIs w g C D p n c rs k L E) : w.cell? ⟨g, 0, none⟩ = some (.int .i64 (k : Nat)) := by simp [World.cell?, s.blk]
theorem RkIs.c1 (s : RkIs w g C D p n c rs k L E) : w.cell? ⟨g, 1, none⟩ = some (.slice p n c) := by simp [World.cell?, s.blk]
theorem RkIs.c2 (s : RkIs w g C D p n c rs k L E) : w.cell? ⟨g, 2, none⟩ = some (.int .u64 (E : Nat)) := by simp [World.cell?, s.blk]
theorem RkIs.z (s : RkIs w g C D p n c rs k L E) (i : Nat) : w.frozen? ⟨g, i, none⟩ = false := by simp [World.frozen?, s.blk]
theorem RkIs.rlen (s : RkIs w g C D p n c rs k L E) : rs.length = n := by
  have := s.out.1
  rw [svs_len] at this
  omega
theorem RkIs.len (s : RkIs w g C D p n c rs k L E) : L.length = n := by rw [← s.lvs.len, s.rlen]
theorem RkIs.lev (s : RkIs w g C D p n c rs k L E) (h : Nat) (hh : h < L.length) : ∃ b, p = some ⟨b, 0, none⟩ ∧ b ≠ g ∧ C b ∧ ∃ q m d, w.cell? ⟨b, h, none⟩ = some (.slice q m d) ∧ Sz w q m d L[h] ∧ w.frozen? ⟨b, h, none⟩ = false ∧ ∀ a, q = some a → D a.block := by
  have hr : h < rs.length := by rw [s.lvs.len]; exact hh
  obtain ⟨b, rfl⟩ := rows_some s.out (by omega)
  obtain ⟨h1, h2⟩ := s.own b rfl
  refine ⟨b, rfl, h1, h2, rs[h].1, rs[h].2.1, rs[h].2.2, rows_at s.out h hr, s.lvs.sz h hr hh, ?_, s.lvs.dd h hr⟩
  rcases s.out.2 with ⟨hv, -⟩ | ⟨b2, cap, cur, hv, -, hb, -⟩
  · cases hv
  · simp only [Value.slice.injEq, Option.some.injEq, Addr.mk.injEq] at hv
    obtain ⟨⟨rfl, -⟩, -⟩ := hv
    simp [World.frozen?, hb]
end
def RkS (w : World) (g : Nat) (C D : Nat → Prop) (k : Nat) (L : Lv) (E : Nat) : Prop := ∃ p n c rs, RkIs w g C D p n c rs k L E
def RkTurn (w w' : World) (g : Nat) (C D : Nat → Prop) (k : Nat) (L : Lv) (E : Nat) : Prop :=
  ∃ C' D', RkS w' g C' D' k L E ∧ Fr C w w' ∧ (∀ b, C' b → C b ∨ w.heap.size ≤ b) ∧ ∀ b, D' b → D b ∨ w.heap.size ≤ b
section
variable {C D C1 D1 : Nat → Prop} {w W w' : World} {g k E : Nat} {L : Lv}
theorem RkTurn.after (f : Fr C w W) (hC : ∀ b, C1 b → C b ∨ w.heap.size ≤ b) (hD : ∀ b, D1 b → D b ∨ w.heap.size ≤ b) (t : RkTurn W w' g C1 D1 k L E) : RkTurn w w' g C D k L E := by
  obtain ⟨C', D', s, f2, h1, h2⟩ := t
  refine ⟨C', D', s, f.trans f2 fun j hj h => (hC j h).resolve_right (by omega), fun b hb => ?_, fun b hb => ?_⟩
  · rcases h1 b hb with h | h
    · exact hC b h
    · exact .inr (Nat.le_trans f.size h)
  · rcases h2 b hb with h | h
    · exact hD b h
    · exact .inr (Nat.le_trans f.size h)
theorem RkTurn.same (s : RkS w g C D k L E) (f : Fr S0 w w') : RkTurn w w' g C D k L E := by
  obtain ⟨p, n, c, rs, s⟩ := s
  exact ⟨C, D, ⟨p, n, c, rs, s.fr0 f⟩, f.mono fun _ _ h => h.elim, fun _ h => .inl h, fun _ h => .inl h⟩
end
theorem three_set {w : World} {g : Nat} {a b c : Value} {t : TypeId} (h : w.heap[g]? = some (.cells #[a, b, c] t (0, 0))) (x : Value) : (w.setCell ⟨g, 1, none⟩ x).heap[g]? = some (.cells #[a, x, c] t (0, 0)) ∧ (w.setCell ⟨g, 2, none⟩ x).heap[g]? = some (.cells #[a, b, x] t (0, 0)) := by
  refine ⟨?_, ?_⟩ <;> (rw [heap_setCell_same w g _ _ _ _ h]; rfl)
theorem RkIs.grow {C D : Nat → Prop} {w w3 : World} {g n c k E g1 cap : Nat} {p : Option Addr} {rs : List Sv} {L : Lv} {o : Obj} (s : RkIs w g C D p n c rs k L E)
    (own : w3.ownsRow 0 53 1 (.slice (some ⟨g1, 0, none⟩) (n + 1) cap) (n + 1) (svs rs ++ #[Value.slice none 0 0].toList))
    (hg : (w.alloc o).grownBy w3 (Value.ownBlock (.slice p n c))) (hat : Value.ownBlock (.slice p n c) = some g1 ∨ g1 = w.heap.size + 1) :
    RkTurn w (w3.setCell ⟨g, 1, none⟩ (.slice (some ⟨g1, 0, none⟩) (n + 1) cap)) g C D k (L ++ [[]]) E := by
  have f1 : Fr C w w3 := ((Fr.alloc S0 w o).mono fun _ _ h => h.elim).trans (Fr.grown hg) fun j _ h => (s.own j h).2
  have f1' : Fr (fun x => Value.ownBlock (.slice p n c) = some x) w w3 := ((Fr.alloc S0 w o).mono fun _ _ h => h.elim).trans (Fr.grown hg) fun _ _ h => h
  have f2 : Fr (· = g) w3 (w3.setCell ⟨g, 1, none⟩ (.slice (some ⟨g1, 0, none⟩) (n + 1) cap)) := Fr.setCell _ _ _ _ rfl
  have hg1 : g1 ≠ g ∧ ¬ D g1 := by
    have hgl := s.below g (.inl s.self)
    rcases hat with h | h
    · exact ⟨(s.own g1 h).1, s.cd g1 (s.own g1 h).2⟩
    · refine ⟨by omega, fun hd => ?_⟩
      have := s.below g1 (.inr hd)
      omega
  have b3 := f1'.row s.blk fun h => (s.own g h).1 rfl
  have hlt := (own.lt g1 rfl).2
  have sz := f2.size
  refine ⟨fun b => C b ∨ b = g1, D, ⟨some ⟨g1, 0, none⟩, n + 1, cap, rs ++ [(none, 0, 0)], (three_set b3 _).1, ?_, ?_, fun b hb => ?_, .inl s.self, fun b hb => ?_, fun b hb => ?_⟩, f1.trans f2 fun j _ h => by rw [show j = g from h]; exact s.self, fun b hb => ?_, fun b hb => .inl hb⟩
  · refine f2.owns (by rw [show svs (rs ++ [(none, 0, 0)]) = svs rs ++ #[Value.slice none 0 0].toList by simp [svs]]; exact own) fun b hb h => ?_
    obtain rfl : g1 = b := Option.some.inj hb
    exact hg1.1 h
  · exact ((s.lvs.fr f1 fun b hd hc => s.cd b hc hd).fr f2 fun b hd h => by rw [show b = g from h] at hd; exact s.cd g s.self hd).snoc (Sz.emp _) fun a ha => by cases ha
  · obtain rfl : g1 = b := Option.some.inj hb
    exact ⟨hg1.1, .inr rfl⟩
  · rcases hb with h | rfl
    · exact s.cd b h
    · exact hg1.2
  · rcases hb with (h | rfl) | h
    · exact Nat.lt_of_lt_of_le (s.below b (.inl h)) (Nat.le_trans f1.size sz)
    · omega
    · exact Nat.lt_of_lt_of_le (s.below b (.inr h)) (Nat.le_trans f1.size sz)
  · rcases hb with h | rfl
    · exact .inl h
    · rcases hat with h | h
      · exact .inl (s.own b h).2
      · exact .inr (by omega)
theorem RkIs.lay1 {C D : Nat → Prop} {w w3 : World} {g n c k E b h m d : Nat} {q : Option Addr} {rs : List Sv} {L : Lv} {l : List Int} (s : RkIs w g C D (some ⟨b, 0, none⟩) n c rs k L E) (f : Fr S0 w w3)
    (z : Sz w3 q m d l) (hq : ∀ a, q = some a → w.heap.size ≤ a.block ∧ a.block < w3.heap.size) : ∃ D', RkIs (w3.setCell ⟨b, h, none⟩ (.slice q m d)) g C D' (some ⟨b, 0, none⟩) n c (rs.set h (q, m, d)) k (L.set h l) E ∧
      Fr C w (w3.setCell ⟨b, h, none⟩ (.slice q m d)) ∧ ∀ x, D' x → D x ∨ w.heap.size ≤ x := by
  have s3 := s.fr0 f
  obtain ⟨hbg, hb⟩ := s.own b rfl
  obtain ⟨o4, f4⟩ := rows_set s3.out h q m d
  have hlb := s.below b (.inl hb)
  refine ⟨fun x => D x ∨ (w.heap.size ≤ x ∧ x < w3.heap.size), ⟨f4.row s3.blk fun e => hbg (show g = b from e).symm, o4, ?_, s.own, s.self, fun x hx => ?_, fun x hx => ?_⟩, f.mono (fun _ _ h => h.elim) |>.trans f4 fun j _ e => by rw [show j = b from e]; exact hb, fun x hx => ?_⟩
  · exact ((s3.lvs.mono fun x hx => .inl hx).fr f4 fun x hx e => by
      rw [show x = b from e] at hx
      rcases hx with hx | hx
      · exact s.cd b hb hx
      · omega).set (z.fr f4 fun _ a ha e => by have := (hq a ha).1; have e2 : a.block = b := e; omega) (fun a ha => .inr (hq a ha)) h
  · rintro (h1 | h1)
    · exact s.cd x hx h1
    · have := s.below x (.inl hx); omega
  · have hz := f4.size
    have hz2 := f.size
    rcases hx with h1 | h1 | h1
    · have := s.below x (.inl h1); omega
    · have := s.below x (.inr h1); omega
    · omega
  · rcases hx with h1 | h1
    · exact .inl h1
    · exact .inr h1.1
theorem RkIs.lay {C D : Nat → Prop} {w w3 : World} {g n c k E b h m d : Nat} {q : Option Addr} {rs : List Sv} {L : Lv} {l : List Int} (s : RkIs w g C D (some ⟨b, 0, none⟩) n c rs k L E) (f : Fr S0 w w3)
    (z : Sz w3 q m d l) (hq : ∀ a, q = some a → w.heap.size ≤ a.block ∧ a.block < w3.heap.size) : RkTurn w (w3.setCell ⟨b, h, none⟩ (.slice q m d)) g C D k (L.set h l) E := by
  obtain ⟨D', s', f', hD⟩ := s.lay1 (h := h) f z hq
  exact ⟨C, D', ⟨_, _, _, _, s'⟩, f', fun x hx => .inl hx, hD⟩
theorem RkIs.led {C D : Nat → Prop} {w : World} {g n c k E : Nat} {p : Option Addr} {rs : List Sv} {L : Lv} (s : RkIs w g C D p n c rs k L E) (F : Nat) : RkIs (w.setCell ⟨g, 2, none⟩ (.int .u64 (F : Nat))) g C D p n c rs k L F ∧ Fr (· = g) w (w.setCell ⟨g, 2, none⟩ (.int .u64 (F : Nat))) := by
  have f : Fr (· = g) w (w.setCell ⟨g, 2, none⟩ (.int .u64 (F : Nat))) := Fr.setCell _ _ _ _ rfl
  exact ⟨⟨(three_set s.blk _).2, f.owns s.out fun b hb e => (s.own b hb).1 e, s.lvs.fr f fun b hb e => by rw [show b = g from e] at hb; exact s.cd g s.self hb, s.own, s.self, s.cd, fun b hb => Nat.lt_of_lt_of_le (s.below b hb) f.size⟩, f⟩
theorem putL_set (v : Int) : ∀ (L : Lv) (h : Nat) (hh : h < L.length), putL L h v = L.set h (insZ v L[h])
  | [], h, hh => absurd hh (Nat.not_lt_zero _)
  | l :: r, 0, _ => rfl
  | l :: r, h + 1, hh => by
    rw [putL, putL_set v r h (by simpa using hh)]
    rfl
theorem putL_pad (v : Int) : ∀ (L : Lv) (h : Nat), L.length ≤ h → putL (L ++ [[]]) h v = putL L h v
  | [], 0, _ => rfl
  | [], h + 1, _ => by
    rw [List.nil_append, putL, putL]
  | l :: r, 0, hh => absurd hh (Nat.not_succ_le_zero _)
  | l :: r, h + 1, hh => by
    rw [List.cons_append, putL, putL, putL_pad v r h (by simpa using hh)]
end Go.Proofs.Ytbpfmjekpjfceaa

namespace Go.Proofs.Ytbpfmjekpjfceaa
open Go.RowKit
def lenAt (w : World) (a : Addr) : Nat := match w.cell? a with
  | some (.slice _ n _) => n
  | _ => 0
theorem RkIs.kept {C D : Nat → Prop} {w w3 : World} {g n c k E : Nat} {p : Option Addr} {rs : List Sv} {L : Lv} {o : Obj} (s : RkIs w g C D p n c rs k L E)
    (hg : (w.alloc o).grownBy w3 (Value.ownBlock (.slice p n c))) : w3.cell? ⟨g, 1, none⟩ = some (.slice p n c) ∧ w3.frozen? ⟨g, 1, none⟩ = false ∧ ∀ q m d, lenAt (w3.setCell ⟨g, 1, none⟩ (.slice q m d)) ⟨g, 1, none⟩ = m := by
  have f1 : Fr (fun x => Value.ownBlock (.slice p n c) = some x) w w3 := ((Fr.alloc S0 w o).mono fun _ _ h => h.elim).trans (Fr.grown hg) fun _ _ h => h
  have b3 := f1.row s.blk fun h => (s.own g h).1 rfl
  exact ⟨by simp [World.cell?, b3], by simp [World.frozen?, b3], fun q m d => by simp [lenAt, World.cell?, (three_set b3 (.slice q m d)).1]⟩
section
variable (g k E h : Nat) (C D : Nat → Prop) (L : Lv) (v : Int) (w : World)
theorem rput_any (s : RkS w g C D k L E) (hh : h ≤ 1000000) (hl : ∀ l ∈ L, l.length ≤ 1000000000) :
    Calls Try.prog 63 #[.pointer (some ⟨g, 0, none⟩), .int .i64 (h : Nat), .int .i64 v] w fun e w' => e = .returned (.tuple #[]) ∧ RkTurn w w' g C D k (putL L h v) E := by
  have HS := Lib.hid s
  have HLL := Lib.hid hl
  have hN0 : Hid (∃ p n c rs, RkIs w g C D p n c rs k L E) := Lib.hid s
  clear s hl
  go_enter Try.func63, Try.ntmps63
  go_wp2_with fail
  go_loopw [] (fun wr => ∃ M : Lv, Hid (RkTurn w wr g C D k M E) ∧ Hid (putL M h v = putL L h v) ∧ Hid (∀ l ∈ M, l.length ≤ 1000000000)) (fun wr => h + 1 - lenAt wr ⟨g, 1, none⟩)
  case atStart => exact ⟨L, Lib.hid (RkTurn.same HS.out (Fr.refl _ _)), Lib.hid rfl, HLL⟩
  case round =>
    obtain ⟨M, ht, hp, hM⟩ := hrel
    obtain ⟨C1, D1, ⟨p, n, c, rs, s⟩, f1, hC, hD⟩ := ht.out
    have c1 := s.c1
    have hlen := s.len
    have HSS := Lib.hid s
    have HF1 := Lib.hid f1
    have HC := Lib.hid hC
    have HD := Lib.hid hD
    have HM1 : Hid (lenAt wr ⟨g, 1, none⟩ = n) := Lib.hid (by unfold lenAt; rw [c1])
    have z1 := s.z 1
    clear s f1 hC hD ht
    by_cases hn : (n : Int) ≤ (h : Int)
    · have HR : Hid (Room (n + 1)) := Lib.hid (Room.mk (by omega))
      go_wp2_with (first
        | ((with_reducible show wpList _ _ _ (Oper.mk (some 19) _ _ _ _ _ :: _) _ _); refine app_one elR (.tmp 17) (.tmp 18) rfl HSS.out.out rfl rfl rfl rfl rfl (one_sv _ _ _) HR.out ?_; intro g1 cap1 w3 hown hgrow hat hlt; have HT := Lib.hid (RkTurn.after HF1.out HC.out HD.out (HSS.out.grow hown hgrow hat)); have d1 := (HSS.out.kept hgrow).1; have y1 := (HSS.out.kept hgrow).2.1; have HM2 := Lib.hid ((HSS.out.kept hgrow).2.2 (some ⟨g1, 0, none⟩) (n + 1) cap1); clear hown hgrow hat hlt)
        | fail)
      go_roundw
      case rel => exact ⟨M ++ [[]], HT, Lib.hid (by rw [putL_pad v M h (by omega), hp.out]), Lib.hid fun l hl => (List.mem_append.1 hl).elim (hM.out l) fun e => by rw [List.mem_singleton.1 e]; exact Nat.zero_le _⟩
      case measure => rw [HM2.out, HM1.out]; omega
    · have hhM : h < M.length := by omega
      obtain ⟨b, rfl, -, -, q, m, d, ch, z, zh, -⟩ := HSS.out.lev h hhM
      have hm : m ≤ 1000000000 := by rw [← z.len]; exact hM.out _ (List.getElem_mem hhM)
      have HLV : Hid (∀ W, Fr S0 wr W → W.cell? ⟨g, 1, none⟩ = some (.slice (some ⟨b, 0, none⟩) n c) ∧ W.cell? ⟨b, h, none⟩ = some (.slice q m d) ∧ W.frozen? ⟨b, h, none⟩ = false) := Lib.hid fun W f => by
        refine ⟨f.cell c1 (fun h => h), f.cell ch (fun h => h), ?_⟩
        obtain ⟨b', hb', -, -, -, -, -, -, -, hz, -⟩ := (HSS.out.fr0 f).lev h hhM
        simp only [Option.some.injEq, Addr.mk.injEq, and_true] at hb'
        subst hb'
        exact hz
      have HI := Lib.hid (fun W (f : Fr S0 wr W) => rinto_any q m d M[h] v W (z.fr0 f) hm)
      have HP : Hid (putL L h v = M.set h (insZ v M[h])) := Lib.hid (by rw [← hp.out, putL_set])
      have hh0 : (0 : Int) ≤ (h : Int) := by omega
      replace hn : (h : Int) < (n : Int) := by omega
      clear z hM hm
      go_wp2_with fail
      go_region_law (first
        | (go_simp; go_at_call 81; (with_reducible refine (HI.out _ (Fr.drew S0 _)).mono ?_); rintro _ w3 ⟨u, rfl, acc⟩; obtain ⟨pu, cu, rfl⟩ := slFormN acc.own; have A3 := Lib.hid acc; obtain ⟨e1, e2, e3⟩ := HLV.out _ ((Fr.drew S0 _).trans0 acc.fr); clear acc; dsimp only))
      all_goals
        have HT := Lib.hid (RkTurn.after HF1.out HC.out HD.out (HSS.out.lay (h := h) ((Fr.drew S0 _).trans0 A3.out.fr) (Sz.ofOwns A3.out.own) (fun a ha => ⟨Nat.le_trans (Fr.drew S0 wr).size (A3.out.fresh a.block (by subst ha; rfl)), (A3.out.own.lt a.block (by subst ha; rfl)).2⟩)))
        rw [← HP.out] at HT
        clear e1 e2 e3 A3
        go_wp2_with fail
        go_end0
        exact ⟨rfl, HT.out⟩
end
end Go.Proofs.Ytbpfmjekpjfceaa

namespace Go.Proofs.Ytbpfmjekpjfceaa
open Go.RowKit
theorem wtL_take : ∀ (L : Lv) (h : Nat) (hh : h < L.length), wtL (L.take (h + 1)) = wtL (L.take h) + L[h].length * 2 ^ h ∧ wtL (L.take (h + 1)) ≤ wtL L
  | [], h, hh => absurd hh (Nat.not_lt_zero _)
  | l :: r, 0, _ => by
    refine ⟨?_, ?_⟩
    · simp [wtL_cons, show wtL [] = 0 from rfl]
    · rw [show (l :: r).take (0 + 1) = [l] from by simp, wtL_cons, wtL_cons, show wtL [] = 0 from rfl]
      omega
  | l :: r, h + 1, hh => by
    obtain ⟨i1, i2⟩ := wtL_take r h (by simpa using hh)
    rw [List.take_succ_cons, List.take_succ_cons, wtL_cons, wtL_cons, wtL_cons, i1, List.getElem_cons_succ, Nat.pow_succ]
    rw [i1] at i2
    refine ⟨?_, by omega⟩
    rw [Nat.mul_add, Nat.add_assoc, Nat.mul_comm 2 (_ * _), Nat.mul_assoc]
section
variable (g k E : Nat) (C D : Nat → Prop) (L : Lv) (w : World)
theorem rstotal_any (s : RkS w g C D k L E) (hH : L.length ≤ 60) (hw : wtL L ≤ 4611686018427387904) :
    Calls Try.prog 29 #[.pointer (some ⟨g, 0, none⟩)] w fun e w' => e = .returned (.int .u64 (wtL L : Nat)) ∧ w' = w := by
  obtain ⟨p, n, c, rs, s⟩ := s
  have c1 := s.c1
  have hlen := s.len
  have HS := Lib.hid s
  have HW := Lib.hid hw
  clear s hw
  go_enter Try.func29, Try.ntmps29
  go_wp2_with fail
  go_loopw [3, 4, 5] (fun t x i wr => ∃ j T X : Nat, j ≤ n ∧ i = .int .i64 j ∧ t = .int .u64 (T : Nat) ∧ x = .int .u64 (X : Nat) ∧ Hid (T = wtL (L.take j)) ∧ Hid (X = 2 ^ j) ∧ wr = w) (fun _ _ i _ => n - (intOf i).toNat)
  case atStart => exact ⟨0, 0, 1, by omega, rfl, rfl, rfl, Lib.hid rfl, Lib.hid rfl, rfl⟩
  case round =>
    obtain ⟨j, T, X, hj, rfl, rfl, rfl, hT, hX, rfl⟩ := hrel
    by_cases hjn : (j : Int) < (n : Int)
    · have hjM : j < L.length := by omega
      obtain ⟨b, rfl, -, -, q, m, d, ch, z, -, -⟩ := HS.out.lev j hjM
      obtain ⟨h1, h2⟩ := wtL_take L j hjM
      rw [z.len, ← hT.out, ← hX.out] at h1
      have hw := HW.out
      have hX2 : X ≤ 1152921504606846976 := by rw [hX.out]; exact Nat.pow_le_pow_right (by decide) (by omega : j ≤ 60)
      obtain ⟨Q, hQ⟩ : ∃ Q, m * X = Q := ⟨_, rfl⟩
      rw [hQ] at h1
      have iQ : (m : Int) * (X : Int) = (Q : Int) := by rw [← hQ, Int.natCast_mul]
      have wQ : IntKind.u64.wrap (Q : Int) = (Q : Int) := by rw [IntKind.wrap_u64]; omega
      have HN : Hid (T + Q = wtL (L.take (j + 1))) := Lib.hid h1.symm
      have HX : Hid (X * 2 = 2 ^ (j + 1)) := Lib.hid (by rw [hX.out, Nat.pow_succ])
      have hj0 : (0 : Int) ≤ (j : Int) := by omega
      have hm : (m : Int) ≤ 9223372036854775807 := by have := z.max; have := z.cap; simp only [maxLen] at *; omega
      have hTQ : T + Q ≤ 4611686018427387904 := by omega
      clear z h1 h2 hQ hw hT hX
      go_wp2_with fail
      go_roundw
      case rel => exact ⟨j + 1, T + Q, X * 2, by omega, by go_num, by go_num, by go_num, HN, HX, trivial⟩
      case measure => simp [intOf]; omega
    · obtain rfl : j = n := by omega
      have HN : Hid (T = wtL L) := Lib.hid (by rw [hT.out, ← hlen, List.take_length])
      clear hT
      go_wp2_with fail
      go_ret
      exact ⟨by rw [HN.out]; rfl, rfl⟩
end
end Go.Proofs.Ytbpfmjekpjfceaa

namespace Go.Proofs.Ytbpfmjekpjfceaa
open Go.RowKit
theorem stay_even : ∀ l : List Int, l.length % 2 = 0 → stay l = []
  | [], _ => rfl
  | [_], h => by simp at h
  | _ :: _ :: r, h => stay_even r (by simp only [List.length_cons] at h; omega)
theorem stay_odd : ∀ (l : List Int) (h : l.length % 2 = 1), stay l = [l[l.length - 1]'(by omega)]
  | [], h => by simp at h
  | [x], _ => rfl
  | a :: b :: r, h => by
    have h2 : r.length % 2 = 1 := by simp only [List.length_cons] at h; omega
    rw [stay, stay_odd r h2]
    obtain ⟨n, hn⟩ : ∃ n, r.length = n + 1 := ⟨r.length - 1, by omega⟩
    simp only [List.length_cons, hn, Nat.add_sub_cancel, List.getElem_cons_succ]
theorem twos_len2 (c : Nat) (l : List Int) : (twos c l).length = l.length / 2 := by
  have h1 := two_len c l
  have h2 := stay_len l
  omega
theorem twos_at (c : Nat) (hc : c < 2) : ∀ (l : List Int) (j : Nat) (hj : 2 * j + 1 < l.length), (twos c l)[j]'(by rw [twos_len2]; omega) = l[2 * j + c]'(by omega)
  | [], j, hj => absurd hj (Nat.not_lt_zero _)
  | [_], j, hj => by simp at hj
  | a :: b :: r, 0, _ => by
    rcases (by omega : c = 0 ∨ c = 1) with rfl | rfl <;> rfl
  | a :: b :: r, j + 1, hj => by
    have hj2 : 2 * j + 1 < r.length := by simp only [List.length_cons] at hj; omega
    have e : 2 * (j + 1) + c = 2 * j + c + 1 + 1 := by omega
    simp only [twos, e, List.getElem_cons_succ]
    exact twos_at c hc r j hj2
theorem len_kept : ∀ (L : Lv) (l : List Int), l ∈ L → l.length ≤ kept L
  | [], _, h => nomatch h
  | x :: r, l, h => by
    rcases List.mem_cons.1 h with rfl | h
    · rw [kept]; omega
    · have := len_kept r l h
      rw [kept]; omega
theorem putsL_take (L : Lv) (h : Nat) (xs : List Int) (j : Nat) (hj : j < xs.length) : putsL L h (xs.take (j + 1)) = putL (putsL L h (xs.take j)) h xs[j] := by
  unfold putsL
  rw [List.take_succ_eq_append_getElem hj, List.foldl_append]
  rfl
def PkTurn (w w' : World) (g r : Nat) (C D : Nat → Prop) (k : Nat) (M : Lv) (E : Nat) (q : Option Addr) (n c : Nat) (bs : List Nat) (a : Nat) : Prop :=
  ∃ C' D', RkS w' g C' D' k M E ∧ RcIs w' r q n c bs a ∧ Fr (fun b => C b ∨ b = r) w w' ∧ (∀ b, C' b → C b ∨ w.heap.size ≤ b) ∧ ∀ b, D' b → D b ∨ w.heap.size ≤ b
structure Aparts (w : World) (r : Nat) (q : Option Addr) (bs : List Nat) (C D : Nat → Prop) : Prop where
  rc : ¬ C r
  rd : ¬ D r
  lt : r < w.heap.size
  off : bs ≠ [] → ∀ a, q = some a → ¬ C a.block ∧ a.block < w.heap.size
section
variable {w W w' : World} {g r k E E2 n c a a2 : Nat} {C D : Nat → Prop} {M M2 : Lv} {q : Option Addr} {bs : List Nat}
theorem PkTurn.start (s : RkS w g C D k M E) (t : RcIs w r q n c bs a) : PkTurn w w g r C D k M E q n c bs a :=
  ⟨C, D, s, t, Fr.refl _ _, fun _ h => .inl h, fun _ h => .inl h⟩
theorem PkTurn.on {C1 D1 : Nat → Prop} (ap : Aparts w r q bs C D) (x : RcIs W r q n c bs a) (f : Fr (fun b => C b ∨ b = r) w W) (hC : ∀ b, C1 b → C b ∨ w.heap.size ≤ b) (hD : ∀ b, D1 b → D b ∨ w.heap.size ≤ b)
    (h : RkTurn W w' g C1 D1 k M2 E2) : PkTurn w w' g r C D k M2 E2 q n c bs a := by
  obtain ⟨C2, D2, s2, f2, hC2, hD2⟩ := h
  have hr : ¬ C1 r := fun h => (hC r h).elim ap.rc fun h => by have := ap.lt; omega
  refine ⟨C2, D2, s2, x.fr f2 hr fun hb a ha h => ?_, f.trans f2 fun j hj h => ?_, fun b hb => ?_, fun b hb => ?_⟩
  · obtain ⟨h1, h2⟩ := ap.off hb a ha
    rcases hC _ h with h | h
    · exact h1 h
    · omega
  · rcases hC j h with h | h
    · exact .inl h
    · omega
  · rcases hC2 b hb with h | h
    · exact hC b h
    · exact .inr (Nat.le_trans f.size h)
  · rcases hD2 b hb with h | h
    · exact hD b h
    · exact .inr (Nat.le_trans f.size h)
theorem PkTurn.step (ap : Aparts w r q bs C D) (t : PkTurn w W g r C D k M E q n c bs a) (h : ∀ C1 D1, RkS W g C1 D1 k M E → RkTurn W w' g C1 D1 k M2 E2) : PkTurn w w' g r C D k M2 E2 q n c bs a := by
  obtain ⟨C1, D1, s, x, f, hC, hD⟩ := t
  exact PkTurn.on ap x f hC hD (h C1 D1 s)
theorem PkTurn.coin (ap : Aparts w r q bs C D) (t : PkTurn w W g r C D k M E q n c bs a) (x : RcIs w' r q n c bs a2) (f2 : Fr (· = r) W w') : PkTurn w w' g r C D k M E q n c bs a2 := by
  obtain ⟨C1, D1, ⟨p, m, d, rs, s⟩, -, f, hC, hD⟩ := t
  have hr : ¬ C1 r := fun h => (hC r h).elim ap.rc fun h => by have := ap.lt; omega
  have hr2 : ¬ D1 r := fun h => (hD r h).elim ap.rd fun h => by have := ap.lt; omega
  refine ⟨C1, D1, ⟨p, m, d, rs, s.fr f2 fun b hb e => ?_⟩, x, f.trans f2 fun j _ h => .inr h, hC, hD⟩
  obtain rfl : b = r := e
  exact hb.elim hr hr2
theorem PkTurn.fr0 (t : PkTurn w W g r C D k M E q n c bs a) (f2 : Fr S0 W w') : PkTurn w w' g r C D k M E q n c bs a := by
  obtain ⟨C1, D1, ⟨p, m, d, rs, s⟩, x, f, hC, hD⟩ := t
  exact ⟨C1, D1, ⟨p, m, d, rs, s.fr0 f2⟩, x.fr0 f2, f.trans f2 fun _ _ h => h.elim, hC, hD⟩
end
theorem Sz.one (W : World) (v : Int) (t : TypeId) : Sz (W.alloc (.cells #[.int .i64 v] t)) (some ⟨W.heap.size, 0, none⟩) 1 1 [v] := by
  refine ⟨rfl, fun _ => ⟨W.heap.size, 0, rfl, fun i hi => ?_⟩, Nat.le_refl _, by decide, fun h => (by cases h), fun _ => ⟨_, _, rfl⟩⟩
  obtain rfl : i = 0 := by simpa using hi
  have h := heap_alloc_new W (.cells #[.int .i64 v] t)
  unfold World.cell?
  rw [h]
  rfl
theorem RkIs.one {C D : Nat → Prop} {W : World} {g b m d k E h : Nat} {rs : List Sv} {M : Lv} (s : RkIs W g C D (some ⟨b, 0, none⟩) m d rs k (M.set h []) E) (v : Int) (t : TypeId) :
    ∃ D' rs', RkIs (((W.alloc (.cells #[.int .i64 v] t)).setCell ⟨b, h, none⟩ (.slice (some ⟨W.heap.size, 0, none⟩) 1 1)).drew) g C D' (some ⟨b, 0, none⟩) m d rs' k (M.set h [v]) E ∧
      Fr C W (((W.alloc (.cells #[.int .i64 v] t)).setCell ⟨b, h, none⟩ (.slice (some ⟨W.heap.size, 0, none⟩) 1 1)).drew) ∧ ∀ x, D' x → D x ∨ W.heap.size ≤ x := by
  obtain ⟨D', s', f', hD⟩ := s.lay1 (h := h) (Fr.alloc S0 W (.cells #[.int .i64 v] t)) (Sz.one W v t) (fun a ha => by obtain rfl := Option.some.inj ha; simp)
  rw [List.set_set] at s'
  exact ⟨D', _, s'.fr0 (Fr.drew S0 _), f'.trans (Fr.drew S0 _) fun _ _ h => h.elim, hD⟩
end Go.Proofs.Ytbpfmjekpjfceaa

namespace Go.Proofs.Ytbpfmjekpjfceaa
open Go.RowKit
theorem half_le {m j : Nat} (h : ¬ 2 * j + 1 < m) : m / 2 ≤ j := by omega
theorem kept_set : ∀ (L : Lv) (h : Nat) (hh : h < L.length) (x : List Int), kept (L.set h x) + L[h].length = kept L + x.length
  | [], h, hh, _ => absurd hh (Nat.not_lt_zero _)
  | l :: r, 0, _, x => by
    rw [List.set_cons_zero, kept, kept, List.getElem_cons_zero]
    omega
  | l :: r, h + 1, hh, x => by
    have := kept_set r h (by simpa using hh) x
    rw [List.set_cons_succ, kept, kept, List.getElem_cons_succ]
    omega
theorem RkTurn.led {C D : Nat → Prop} {w W : World} {g k E : Nat} {L : Lv} (t : RkTurn w W g C D k L E) (F : Nat) : RkTurn w (W.setCell ⟨g, 2, none⟩ (.int .u64 (F : Nat))) g C D k L F := by
  obtain ⟨C', D', ⟨p, n, c, rs, s⟩, f, hC, hD⟩ := t
  obtain ⟨s2, f2⟩ := s.led F
  refine ⟨C', D', ⟨p, n, c, rs, s2⟩, f.trans f2 fun j hj e => ?_, hC, hD⟩
  rw [show j = g from e] at hj ⊢
  exact (hC g s.self).resolve_right (by omega)
section
variable (g r k E a n c : Nat) (C D : Nat → Prop) (L : Lv) (q : Option Addr) (bs : List Nat) (w : World)
theorem rpack_any (s : RkS w g C D k L E) (x : RcIs w r q n c bs a) (ap : Aparts w r q bs C D) (hk : 8 ≤ k) (hk2 : k ≤ 4096) (hT : Top L) (hw : wtL L ≤ 281474976710656) (hkp : kept L ≤ 1000000)
    (hn : n ≤ 100000) (ha : a ≤ 8 * n) (hE : E ≤ 4611686018427387904) :
    Calls Try.prog 64 #[.pointer (some ⟨g, 0, none⟩), .pointer (some ⟨r, 0, none⟩)] w fun e w' => e = .returned (.tuple #[]) ∧ PkTurn w w' g r C D k (pack k bs L E a).1 (pack k bs L E a).2.1 q n c bs (pack k bs L E a).2.2 := by
  have HT0 := Lib.hid (PkTurn.start s x)
  have HAP := Lib.hid ap
  have HL0 : Hid (Top L ∧ wtL L ≤ 281474976710656 ∧ kept L ≤ 1000000) := Lib.hid ⟨hT, hw, hkp⟩
  have HK := Lib.hid (And.intro hk hk2)
  have HN := Lib.hid hn
  clear s x ap hT hw hkp hk hk2 hn
  obtain ⟨PK, hPK⟩ : ∃ X, pack k bs L E a = X := ⟨_, rfl⟩
  have HP0 := Lib.hid hPK
  rw [hPK]
  clear hPK
  go_enter Try.func64, Try.ntmps64
  go_wp2_with fail
  go_loopg [4] (kept L * 64 + 64) (fun G hv wr => ∃ (M : Lv) (F b h : Nat), hv = .int .i64 (h : Nat) ∧ h ≤ M.length ∧ G = kept M * 64 + (64 - h) ∧ b ≤ 8 * n ∧ F ≤ 4611686018427387904 ∧ Hid (PkTurn w wr g r C D k M F q n c bs b) ∧ Hid (pack k bs M F b = PK)
    ∧ Hid (Top M ∧ wtL M ≤ 281474976710656 ∧ kept M ≤ 1000000) ∧ Hid (∀ j, (hj : j < M.length) → j < h → M[j].length ≤ room k M.length j))
  case atStart => exact ⟨L, E, a, 0, rfl, Nat.zero_le _, rfl, ha, hE, HT0, HP0, HL0, Lib.hid fun j _ h => absurd h (Nat.not_lt_zero _)⟩
  case round =>
    obtain ⟨M, F, b, h, rfl, hhM, rfl, hb, hF, ht, hp, hm, hle⟩ := hrel
    obtain ⟨C1, D1, ⟨p, m, d, rs, s⟩, x, f1, hC, hD⟩ := ht.out
    have c0 := s.c0
    have c1 := s.c1
    have hlen := s.len
    have h49 := top_len hm.out.1 hm.out.2.1
    have HS := Lib.hid s
    have hm49 : (m : Int) ≤ 49 := by omega
    by_cases hhm : (h : Int) < (m : Int)
    · have hh : h < M.length := by omega
      have hh0 : (0 : Int) ≤ (h : Int) := by omega
      obtain ⟨b1, rfl, hb1g, hb1C, q1, m1, d1, ch, z, zh, hdd⟩ := s.lev h hh
      have HB1 := Lib.hid (And.intro hb1g hb1C)
      have HDD := Lib.hid hdd
      clear hb1g hb1C hdd
      have HR := Lib.hid (fun W => rroom_any k m h W (by have := HK.out.1; omega) (by have := HK.out.2; omega) (by omega))
      obtain ⟨R, hR⟩ : ∃ R, room k m h = R := ⟨_, rfl⟩
      rw [hR] at HR
      by_cases hfit : (m1 : Int) ≤ (R : Int)
      · have HLE : Hid (∀ j, (hj : j < M.length) → j < h + 1 → M[j].length ≤ room k M.length j) := Lib.hid fun j hj hj2 => by
          rcases (by omega : j < h ∨ j = h) with h1 | rfl
          · exact hle.out j hj h1
          · rw [z.len, hlen, hR]; omega
        clear s x f1 hC hD z hR hle
        go_wp2_with fail
        go_quiet ((first
          | (go_at_call 45; exact Calls.quiet_of_same ((HR.out _).mono fun _ _ h => ⟨h.1, h.2.symm⟩))))
        go_wp2_with fail
        go_roundg (kept M * 64 + (64 - (h + 1)))
        case measure => omega
        case rel => exact ⟨M, F, b, h + 1, by go_num, by omega, rfl, hb, hF, Lib.hid (ht.out.fr0 (Fr.drewN S0 wr nq)), hp, hm, HLE⟩
      · have HOV : Hid (over k M = some h) := Lib.hid (over_is hh (by rw [z.len, hlen, hR]; omega) fun j hj => hle.out j (by omega) hj)
        obtain ⟨l, hl⟩ : ∃ l, M[h] = l := ⟨_, rfl⟩
        have kfit : decide (m1 ≤ R) = false := decide_eq_false (by omega)
        have HCO := Lib.hid (fun W (y : RcIs W r q n c bs b) => rcoin_any r q n c bs b W y HN.out hb)
        have HZ := Lib.hid z
        rw [hl] at HZ
        have HX := Lib.hid x
        have HML := Lib.hid hl
        have hzl := z.len
        rw [hl] at hzl
        have HC := Lib.hid hC
        have HD := Lib.hid hD
        have HF1 := Lib.hid f1
        have HRO : Hid (∀ j, C1 j ∨ D1 j → j ≠ r) := Lib.hid fun j hj e => by
          subst e
          have := HAP.out.lt
          rcases hj with h1 | h1
          · exact (hC _ h1).elim HAP.out.rc fun h => by omega
          · exact (hD _ h1).elim HAP.out.rd fun h => by omega
        clear s x f1 hC hD z hR hle hl
        go_wp2_with fail
        go_quiet ((first
          | (go_at_call 45; exact Calls.quiet_of_same ((HR.out _).mono fun _ _ h => ⟨h.1, h.2.symm⟩))))
        go_wp2_with fail
        refine (HCO.out _ (HX.out.fr0 (Fr.drewN S0 wr nq))).mono ?_
        rintro e w3 ⟨rfl, x3, f3⟩
        have s3 := (HS.out.fr0 (Fr.drewN S0 wr nq)).fr f3 fun j hj e => HRO.out j hj e
        have F3 : Hid (Fr (fun j => C j ∨ j = r) w w3) := Lib.hid ((HF1.out.trans (Fr.drewN S0 wr nq) fun _ _ h => h.elim).trans f3 fun _ _ h => .inr h)
        have X3 := Lib.hid x3
        have S3 := Lib.hid s3
        have hcc := coin_two bs b
        obtain ⟨cc, hcoin⟩ : ∃ cc, coin bs b = cc := ⟨_, rfl⟩
        rw [hcoin] at hcc ⊢
        have HCC := Lib.hid hcoin
        have HC3 : Hid (∀ j, C1 j → C j ∨ w.heap.size ≤ j) := HC
        have Z3 : Hid (Sz w3 q1 m1 d1 l) := Lib.hid ((HZ.out.fr0 (Fr.drewN S0 wr nq)).fr f3 fun hne a ha e => HRO.out a.block (.inr (HDD.out a ha)) e)
        obtain ⟨b1', hb1', -, -, q1', m1', d1', ch3, -, zh3, -⟩ := s3.lev h hh
        simp only [Option.some.injEq, Addr.mk.injEq, and_true] at hb1'
        subst hb1'
        have c13 := s3.c1
        obtain ⟨D6, s6, f6, hD6⟩ := s3.lay1 (h := h) (Fr.refl S0 w3) (Sz.emp w3) (fun a e => by cases e)
        have Z6 : Hid (Sz (w3.setCell ⟨b1, h, none⟩ (.slice none 0 0)) q1 m1 d1 l) := Lib.hid (Z3.out.fr f6 fun _ a ha e => HS.out.cd a.block e (HDD.out a ha))
        obtain ⟨b6, hb6, -, -, q6, m6, d6, ch6, -, zh6, -⟩ := s6.lev h (by simp [hh])
        simp only [Option.some.injEq, Addr.mk.injEq, and_true] at hb6
        subst hb6
        clear s3 x3 f3 hcoin c0 c1 ch zh
        dsimp only
        go_upto_region 7 with fail
        have HR6 := Lib.hid (And.intro s6 (And.intro f6 hD6))
        clear s6 f6 hD6 c13 ch3 zh3
        go_cut [57] from 54 to 57 (fun x57 wx => ∃ β : Bool, x57 = .bool β ∧ Hid (β = decide (m1 % 2 = 1)) ∧ wx = w3.setCell ⟨b1, h, none⟩ (.slice none 0 0))
        case first =>
          rcases (by omega : m1 % 2 = 0 ∨ m1 % 2 = 1) with hev | hod
          · have i1 : (m1 : Int).tmod 2 = 0 := by rw [Int.tmod_eq_emod_of_nonneg (by omega)]; omega
            have HEV := Lib.hid hev
            clear hev
            go_wp2_with fail
            go_meet
            exact ⟨false, rfl, Lib.hid (by rw [HEV.out]; rfl), rfl⟩
          · have i1 : (m1 : Int).tmod 2 = 1 := by rw [Int.tmod_eq_emod_of_nonneg (by omega)]; omega
            have HEV := Lib.hid hod
            clear hod
            go_wp2_with fail
            go_meet
            exact ⟨true, rfl, Lib.hid (by rw [HEV.out]; rfl), rfl⟩
        case rest =>
          obtain ⟨β, rfl, hβ, rfl⟩ := hcut
          go_upto_if 57 with fail
          go_cut [] from 58 to 70 (fun wx => ∃ D8 rs8, RkIs wx g C1 D8 (some ⟨b1, 0, none⟩) m d rs8 k (M.set h (stay l)) F ∧ Fr C1 w3 wx ∧ ∀ x, D8 x → D1 x ∨ w3.heap.size ≤ x)
          case first =>
            cases β with
            | false =>
              have HST : Hid (stay l = []) := Lib.hid (stay_even l (by have := hβ.out; rw [hzl]; simp only [Bool.false_eq, decide_eq_false_iff_not] at this; omega))
              go_wp2_with fail
              go_meet
              rw [HST.out]
              exact ⟨_, _, HR6.out.1, HR6.out.2.1, HR6.out.2.2⟩
            | true =>
              have hod : m1 % 2 = 1 := by have := hβ.out; simp only [Bool.true_eq, decide_eq_true_eq] at this; exact this
              obtain ⟨m2, hm2⟩ : ∃ m2, m1 = m2 + 1 := ⟨m1 - 1, by omega⟩
              have im : (m1 : Int) - 1 = (m2 : Int) := by omega
              have hml : m2 < l.length := by omega
              obtain ⟨b2, o2, rfl, dv⟩ := Z6.out.at m2 hml
              have HST : Hid (stay l = [l[m2]]) := Lib.hid (by rw [stay_odd l (by omega)]; simp only [hzl, hm2, Nat.add_sub_cancel])
              obtain ⟨v, hv⟩ : ∃ v, l[m2] = v := ⟨_, rfl⟩
              rw [hv] at dv HST
              have hm2i : (m2 : Int) < (m1 : Int) := by omega
              have hm20 : (0 : Int) ≤ (m2 : Int) := by omega
              have c16 := HR6.out.1.c1
              have hm2b : (m2 : Int) ≤ 1000000 := by
                have h1 := len_kept M l (by rw [← HML.out]; exact List.getElem_mem hh)
                have h2 := hm.out.2.2
                omega
              have HAL : Hid (∀ W, Fr S0 (w3.setCell ⟨b1, h, none⟩ (.slice none 0 0)) W → W.cell? ⟨b1, h, none⟩ = some (.slice q6 m6 d6) ∧ W.frozen? ⟨b1, h, none⟩ = false ∧ W.cell? ⟨g, 1, none⟩ = some (.slice (some ⟨b1, 0, none⟩) m d)) := Lib.hid fun W f => by
                refine ⟨f.cell ch6 (fun h => h), ?_, (HR6.out.1.fr0 f).c1⟩
                obtain ⟨b', hb', -, -, -, -, -, -, -, hz, -⟩ := (HR6.out.1.fr0 f).lev h (by simp [hh])
                simp only [Option.some.injEq, Addr.mk.injEq, and_true] at hb'
                subst hb'
                exact hz
              have al1 := fun o => (HAL.out _ (Fr.alloc S0 (w3.setCell ⟨b1, h, none⟩ (.slice none 0 0)) o)).1
              have al2 := fun o => (HAL.out _ (Fr.alloc S0 (w3.setCell ⟨b1, h, none⟩ (.slice none 0 0)) o)).2.1
              have al3 := fun o => (HAL.out _ (Fr.alloc S0 (w3.setCell ⟨b1, h, none⟩ (.slice none 0 0)) o)).2.2
              have wk2 : IntKind.i64.wrap (m2 : Int) = (m2 : Int) := by rw [IntKind.wrap_i64]; omega
              clear hod hm2 hml hv
              go_wp2_with fail
              go_region_law (fail)
              all_goals
                go_wp2_with fail
                go_meet
                obtain ⟨D8, rs8, a1, a2, a3⟩ := HR6.out.1.one v 2
                rw [show (w3.setCell ⟨b1, h, none⟩ (.slice none 0 0)).heap.size = w3.heap.size from by simp] at a1 a2 a3
                rw [HST.out]
                exact ⟨D8, rs8, a1, HR6.out.2.1.trans a2 fun _ _ h => h, fun x hx => (a3 x hx).elim (HR6.out.2.2 x) .inr⟩
          case rest =>
            obtain ⟨D8, rs8, s8, f8, hD8⟩ := hcut
            have Z8 : Hid (Sz wc q1 m1 d1 l) := Lib.hid (Z3.out.fr f8 fun _ a ha e => HS.out.cd a.block e (HDD.out a ha))
            have HQ : Hid (∀ a, q1 = some a → l ≠ [] → ¬ C1 a.block ∧ a.block < wc.heap.size) := Lib.hid fun a ha hne => ⟨fun e => HS.out.cd a.block e (HDD.out a ha), Z8.out.lt hne a ha⟩
            have S8 := Lib.hid (And.intro s8 (And.intro f8 hD8))
            have hkl : m1 ≤ 1000000 := by
              have h1 := len_kept M l (by rw [← HML.out]; exact List.getElem_mem hh)
              have h2 := hm.out.2.2
              omega
            have hkli : (m1 : Int) ≤ 1000000 := by omega
            have HKP : Hid (∀ j, kept (putsL (M.set h (stay l)) (h + 1) ((twos cc l).take j)) ≤ 1000000) := Lib.hid fun j => by
              rw [putsL_kept]
              have h1 := kept_set M h hh (stay l)
              rw [HML.out] at h1
              have h2 := two_len cc l
              have h3 : ((twos cc l).take j).length ≤ (twos cc l).length := by rw [List.length_take]; omega
              have h4 := hm.out.2.2
              omega
            clear s8 f8 hD8 HR6 Z6 hβ
            go_wp2_with fail
            go_loopg [7] (m1 + 2) (fun G iv wz => ∃ j : Nat, iv = .int .i64 (2 * (j : Nat) : Nat) ∧ 2 * j ≤ m1 + 1 ∧ G = m1 + 2 - 2 * j ∧ Hid (RkTurn wc wz g C1 D8 k (putsL (M.set h (stay l)) (h + 1) ((twos cc l).take j)) F))
            case atStart => exact ⟨0, rfl, by omega, rfl, Lib.hid (RkTurn.same ⟨_, _, _, _, S8.out.1⟩ (Fr.refl _ _))⟩
            case round =>
              obtain ⟨j, rfl, hj, rfl, hturn⟩ := hrel
              by_cases hgo : 2 * j + 1 < m1
              · obtain ⟨C9, D9, s9, f9, hC9, hD9⟩ := hturn.out
                have htl : j < (twos cc l).length := by rw [twos_len2]; omega
                have hil : 2 * j + cc < l.length := by omega
                have hv0 : (twos cc l)[j] = l[2 * j + cc] := twos_at cc hcc l j (by omega)
                obtain ⟨b2, o2, rfl, dv⟩ := (Z8.out.fr f9 fun hne a ha => (HQ.out a ha hne).1).at (2 * j + cc) hil
                obtain ⟨v, hv⟩ : ∃ v, l[2 * j + cc] = v := ⟨_, rfl⟩
                have hnx := putsL_take (M.set h (stay l)) (h + 1) (twos cc l) j htl
                rw [hv0, hv] at hnx
                rw [hv] at dv
                have HP := rput_any g k F (h + 1) C9 D9 (putsL (M.set h (stay l)) (h + 1) ((twos cc l).take j)) v wr s9 (by omega) fun x hx => by
                  have h1 := len_kept _ x hx
                  have h2 := HKP.out j
                  omega
                rw [← hnx] at HP
                have HPT := Lib.hid (HP.mono fun e w' hq => And.intro hq.1 (RkTurn.after f9 hC9 hD9 hq.2))
                obtain ⟨I, hI⟩ : ∃ I, 2 * j = I := ⟨_, rfl⟩
                obtain ⟨X, hX⟩ : ∃ X, I + cc = X := ⟨_, rfl⟩
                rw [hI] at dv hgo ⊢
                rw [hX] at dv
                have e1 : (I : Int) + (cc : Int) = (X : Int) := by omega
                have e2 : (I : Int) + 1 < (m1 : Int) := by omega
                have e3 : ((h + 1 : Nat) : Int) = (h : Int) + 1 := by omega
                have e4 : (X : Int) < (m1 : Int) := by omega
                have e5 : (0 : Int) ≤ (X : Int) := by omega
                have HI := Lib.hid hI
                rw [e3] at HPT
                clear s9 f9 hC9 hD9 hturn hnx HP hil hv hv0 htl hX hI e3 hgo
                go_wp2_with fail
                refine HPT.out.mono ?_
                rintro e w5 ⟨rfl, t5⟩
                have T5 := Lib.hid t5
                clear t5
                go_wp2_with fail
                go_roundg (m1 + 2 - 2 * (j + 1))
                case measure => have := HI.out; omega
                case rel => exact ⟨j + 1, by have := HI.out; go_num, by have := HI.out; omega, rfl, T5.out⟩
              · have hall : (twos cc l).take j = twos cc l := List.take_of_length_le (by rw [twos_len2, hzl]; exact half_le hgo)
                have HTL : Hid (RkTurn w3 wr g C1 D1 k (comp M h cc) F) := Lib.hid (by
                  have h1 := comp_is cc M h hh
                  rw [HML.out] at h1
                  rw [h1, ← hall]
                  exact RkTurn.after S8.out.2.1 (fun _ h => .inl h) S8.out.2.2 hturn.out)
                obtain ⟨C9, D9, ⟨p9, n9, d9, rs9, s9⟩, f9, hC9, hD9⟩ := hturn.out
                have c2 := s9.c2
                have z2 := s9.z 2
                have hh49 : h ≤ 49 := by omega
                clear hturn s9 f9 hC9 hD9 hall
                go_wp2_with fail
                go_loopw [8, 9] (fun x i wy => ∃ u X : Nat, u ≤ h ∧ i = .int .i64 (u : Nat) ∧ x = .int .u64 (X : Nat) ∧ Hid (X = 2 ^ u) ∧ wy = wr) (fun _ i _ => h - (intOf i).toNat)
                case atStart => exact ⟨0, 1, Nat.zero_le _, rfl, rfl, Lib.hid rfl, rfl⟩
                case round =>
                  obtain ⟨u, X, hu, rfl, rfl, hX, rfl⟩ := hrel
                  have hXb : X ≤ 562949953421312 := by rw [hX.out]; exact Nat.pow_le_pow_right (by decide) (by omega : u ≤ 49)
                  have hXbi : (X : Int) ≤ 562949953421312 := by omega
                  have hX0 : (0 : Int) ≤ (X : Int) := by omega
                  by_cases huh : (u : Int) < (h : Int)
                  · have HX2 : Hid (2 * X = 2 ^ (u + 1)) := Lib.hid (by rw [hX.out, Nat.pow_succ]; omega)
                    clear hX
                    go_wp2_with fail
                    go_roundw
                    case rel => exact ⟨u + 1, 2 * X, by omega, by go_num, by go_num, HX2, trivial⟩
                    case measure => simp [intOf]; omega
                  · obtain rfl : u = h := by omega
                    obtain ⟨Y, hY⟩ : ∃ Y, ledg F X = Y := ⟨_, rfl⟩
                    have em : Hid (min ((F : Int) + (X : Int)) 4611686018427387904 = (Y : Int)) := Lib.hid (by rw [← hY]; unfold ledg; omega)
                    have HY : Hid (ledg F (2 ^ u) = Y) := Lib.hid (by rw [← hX.out]; exact hY)
                    have hsum : (F : Int) + (X : Int) < 18446744073709551616 := by omega
                    have HEND : Hid (∀ W, W = wr.setCell ⟨g, 2, none⟩ (.int .u64 (Y : Nat)) → PkTurn w W g r C D k (comp M u cc) Y q n c bs (nxt bs b)) := Lib.hid fun W e => by
                      subst e
                      exact PkTurn.on HAP.out X3.out F3.out HC3.out HD.out (HTL.out.led Y)
                    clear hX hY hsum
                    go_wp2_with fail
                    go_roundg (kept (comp M u cc) * 64 + 64)
                    case measure => have := over_kept HOV.out cc; omega
                    case rel =>
                      refine ⟨comp M u cc, Y, nxt bs b, 0, rfl, Nat.zero_le _, by simp, ?_, ?_, ?_, ?_, ?_, Lib.hid fun j _ h => absurd h (Nat.not_lt_zero _)⟩
                      · have := X3.out.len
                        unfold nxt
                        split <;> omega
                      · rw [← HY.out]
                        exact (ledg_le F _ hF).2
                      · exact Lib.hid (HEND.out _ (by rw [em.out]))
                      · exact Lib.hid (by rw [← hp.out, pack_some HOV.out, HCC.out, HY.out])
                      · refine Lib.hid ?_
                        obtain ⟨q1, q2, -⟩ := over_some HOV.out
                        have q3 := room_two k M.length u q1
                        have q4 := over_kept HOV.out cc
                        exact ⟨comp_top cc M u q1 (by omega) hm.out.1, by rw [comp_wt]; exact hm.out.2.1, by have := hm.out.2.2; omega⟩
    · obtain rfl : h = m := by omega
      have HE : Hid (PK = (M, F, b)) := Lib.hid (by rw [← hp.out, pack_none (over_no fun j hj => hle.out j hj (by omega))])
      clear s x f1 hC hD hle c0
      go_wp2_with fail
      go_end0
      exact ⟨rfl, by rw [HE.out]; exact ht.out⟩
end
end Go.Proofs.Ytbpfmjekpjfceaa
