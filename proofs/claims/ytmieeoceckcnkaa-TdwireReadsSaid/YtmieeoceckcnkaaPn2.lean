/- Many, Bytes, WrOne -/
import Derived.Test.YtmieeoceckcnkaaPn1
import Derived.Maps.AppendAt
import Derived.Laws.AppendOwnNone
import Derived.WalkKit
import Derived.WalkSpells
import Derived.WalkLawsBesides
import Derived.Deep.QuietTactic
import Derived.BigQuiet
import Derived.RegionTactic
import Derived.Deep.AppendLies
import Derived.Deep.RegionLaw
import Derived.Laws.ResultCell
import Derived.Laws.EntriesVeiled
import Derived.Lib.Hide
import Derived.Test.YtmieeoceckcnkaaRows
import Derived.Laws.BytesArg
import Derived.Lib.SlBytesConst
import Derived.Laws.BitsAllLaws
set_option maxRecDepth 100000
set_option maxHeartbeats 8000000
namespace Go.Proofs.Ytmieeoceckcnkaa
open Go.RowKit
def SrcIs (w : World) (u : Value) (m : Nat) (ys : List Value) : Prop :=
  ys.length = m ∧ ((u = .slice none 0 0 ∧ m = 0) ∨ ∃ ad c, u = .slice (some ad) m c ∧ ∀ j v, ys[j]? = some v → w.cell? (ad.add j) = some v)
theorem SrcIs.ofOwns {w : World} {e : TypeId} {u : Value} {m : Nat} {ys : List Value} (h : w.ownsRow 0 e 1 u m ys) : SrcIs w u m ys := by
  refine ⟨by simpa using h.1, ?_⟩
  rcases h.2 with hn | ⟨g, cap, cur, rfl, _⟩
  · exact .inl hn
  · exact .inr ⟨_, cap, rfl, h.cells rfl⟩
theorem SrcIs.ofSl {w : World} {k : IntKind} {p : Option Addr} {l : List Nat} {c : Nat} (h : SlI w k p l) (hc : p = none → c = 0) : SrcIs w (.slice p l.length c) l.length (l.map fun (x : Nat) => Value.int k (x : Int)) := by
  refine ⟨by simp, ?_⟩
  cases p with
  | none =>
    have : l = [] := by
      by_cases hl : l = []
      · exact hl
      · obtain ⟨b, off, hp, _⟩ := h.2 hl
        cases hp
    subst this
    exact .inl ⟨by rw [hc rfl]; rfl, rfl⟩
  | some ad =>
    refine .inr ⟨ad, c, rfl, fun j v hj => ?_⟩
    have hjl : j < l.length := by
      have := (List.getElem?_eq_some_iff.1 hj).1
      simpa using this
    obtain ⟨b, off, hp, hcell⟩ := h.at j hjl
    obtain rfl := Option.some.inj hp
    have hplain : (⟨b, off, none⟩ : Addr).add j = ⟨b, off + j, none⟩ := by unfold Addr.add; split <;> simp_all
    rw [hplain, hcell, ← hj]
    simp [hjl]
theorem SrcIs.fr {S : Nat → Prop} {w w' : World} {u : Value} {m : Nat} {ys : List Value} (h : SrcIs w u m ys) (hf : Fr S w w') (hs : ∀ k, u.ownBlock = some k → ¬ S k) : SrcIs w' u m ys := by
  refine ⟨h.1, ?_⟩
  rcases h.2 with hn | ⟨ad, c, rfl, hc⟩
  · exact .inl hn
  · refine .inr ⟨ad, c, rfl, fun j v hj => hf.cell (hc j v hj) ?_⟩
    have : (ad.add j).block = ad.block := by unfold Addr.add; split <;> rfl
    rw [this]
    exact hs _ rfl
theorem run_many_big {P : Program} {t e ty : TypeId} {z : Value} {bytes : Nat} (he : ElemOk P t e z 1 bytes) {w : World} {v : Value} {n : Nat} {xs : List Value} (own : w.ownsRow 0 e 1 v n xs)
    {u : Value} {m : Nat} {ys : List Value} (hsrc : SrcIs w u m ys) (h1 : ∀ y ∈ ys, y.oneCell' = true) (hbb : (n + m) * bytes ≤ 140737488355328) (hmm : n + m ≤ maxLen) :
    ∃ p c w', (Builtin.append_ #[t, t] ty #[v, u]).run P w = .ok (.slice p (n + m) c) w' ∧ w'.ownsRow 0 e 1 (.slice p (n + m) c) (n + m) (xs ++ ys) ∧ w.grownBy w' v.ownBlock ∧
      (Value.ownBlock (.slice p (n + m) c) = v.ownBlock ∨ Value.ownBlock (.slice p (n + m) c) = some w.heap.size) := by
  obtain ⟨i, hi, hz, hsz, hb⟩ := info_parts he.info
  obtain ⟨hl, hs⟩ := hsrc
  rcases hs with ⟨rfl, rfl⟩ | ⟨ad, c, rfl, hc⟩
  · have hrun := run_append_owned_none (P := P) (w := w) 0 t ty e i 1 he.und hi v n xs own
    have hys : ys = [] := List.eq_nil_of_length_eq_zero hl
    subst hys
    obtain ⟨p, c, hv⟩ : ∃ p c, v = .slice p (n + 0) c := by
      rcases own.2 with ⟨h, h0⟩ | ⟨g, cap, cur, h, _⟩
      · exact ⟨none, 0, by rw [h, h0]⟩
      · exact ⟨_, _, h⟩
    subst hv
    exact ⟨p, c, w, hrun, by simpa using own, World.grownBy.refl _ _, .inl rfl⟩
  · obtain ⟨v', w', hrun, h2, h3, -, h5⟩ := run_append_own_at (P := P) w 0 t ty e i z 1 bytes he.und hi hz hsz hb he.zsize he.pos v n xs own ad m c ys (by omega) hc h1 hmm hbb (Nat.zero_le _)
    obtain ⟨p, c', hv⟩ : ∃ p c', v' = .slice p (n + m) c' := by
      rcases h2.2 with ⟨h, h0⟩ | ⟨g, cap, cur, h, _⟩
      · exact ⟨none, 0, by rw [h, h0]⟩
      · exact ⟨_, _, h⟩
    subst hv
    exact ⟨p, c', w', hrun, h2, h3, h5⟩
theorem run_many {P : Program} {t e ty : TypeId} {z : Value} {bytes : Nat} (he : ElemOk P t e z 1 bytes) {w : World} {v : Value} {n : Nat} {xs : List Value} (own : w.ownsRow 0 e 1 v n xs)
    {u : Value} {m : Nat} {ys : List Value} (hsrc : SrcIs w u m ys) (h1 : ∀ y ∈ ys, y.oneCell' = true) (hr : Room (n + m)) :
    ∃ p c w', (Builtin.append_ #[t, t] ty #[v, u]).run P w = .ok (.slice p (n + m) c) w' ∧ w'.ownsRow 0 e 1 (.slice p (n + m) c) (n + m) (xs ++ ys) ∧ w.grownBy w' v.ownBlock ∧
      (Value.ownBlock (.slice p (n + m) c) = v.ownBlock ∨ Value.ownBlock (.slice p (n + m) c) = some w.heap.size) := by
  have hr' : n + m ≤ 1099511627776 := hr
  exact run_many_big he own hsrc h1 (by have := Nat.mul_le_mul hr' he.small; omega) (by unfold maxLen; omega)
theorem app_many {P : Program} {t e : TypeId} {z : Value} {bytes : Nat} (he : ElemOk P t e z 1 bytes) {ops : Array Oper} {rest : List Oper} {o : Oper} {a : Act} {Q : Exit → Act → World → Prop} {w : World} (s x : Operand)
    {v : Value} {n : Nat} {xs : List Value} (own : w.ownsRow 0 e 1 v n xs) {u : Value} {m : Nat} {ys : List Value} (hsrc : SrcIs w u m ys) {N : Nat} (hN : n + m = N)
    (hgd : o.guard = none) (ho : o.op = .call { callee := .builtin .append, args := #[s, x], argTypes := #[t, t] }) (hs : a.eval s = v) (hx : a.eval x = u) (h1 : ∀ y ∈ ys, y.oneCell' = true) (hr : Room N)
    (h : ∀ p c w', w'.ownsRow 0 e 1 (.slice p N c) N (xs ++ ys) → w.grownBy w' v.ownBlock → (Value.ownBlock (.slice p N c) = v.ownBlock ∨ Value.ownBlock (.slice p N c) = some w.heap.size) →
      wpList P ops Q rest (a.put o.dst (.slice p N c)) w') : wpList P ops Q (o :: rest) a w := by
  subst hN
  refine wpList_plain hgd fun K hK => ?_
  obtain ⟨p, c, w', hrun, h2, h3, h4⟩ := run_many (ty := o.type) he own hsrc h1 hr
  unfold Oper.wp
  simp only [execOp, ho, resolve, invoke, builtin, Sem.run_bind, Sem.run_pure, Result.andThen_ok, List.map_toArray, List.map_cons, List.map_nil, hs, hx, hrun]
  exact hK _ _ (h p c w' h2 h3 h4)
theorem app_many_big {P : Program} {t e : TypeId} {z : Value} {bytes : Nat} (he : ElemOk P t e z 1 bytes) {ops : Array Oper} {rest : List Oper} {o : Oper} {a : Act} {Q : Exit → Act → World → Prop} {w : World} (s x : Operand)
    {v : Value} {n : Nat} {xs : List Value} (own : w.ownsRow 0 e 1 v n xs) {u : Value} {m : Nat} {ys : List Value} (hsrc : SrcIs w u m ys) {N : Nat} (hN : n + m = N)
    (hgd : o.guard = none) (ho : o.op = .call { callee := .builtin .append, args := #[s, x], argTypes := #[t, t] }) (hs : a.eval s = v) (hx : a.eval x = u) (h1 : ∀ y ∈ ys, y.oneCell' = true) (hbb : N * bytes ≤ 140737488355328) (hmm : N ≤ maxLen)
    (h : ∀ p c w', w'.ownsRow 0 e 1 (.slice p N c) N (xs ++ ys) → w.grownBy w' v.ownBlock → (Value.ownBlock (.slice p N c) = v.ownBlock ∨ Value.ownBlock (.slice p N c) = some w.heap.size) →
      wpList P ops Q rest (a.put o.dst (.slice p N c)) w') : wpList P ops Q (o :: rest) a w := by
  subst hN
  refine wpList_plain hgd fun K hK => ?_
  obtain ⟨p, c, w', hrun, h2, h3, h4⟩ := run_many_big (ty := o.type) he own hsrc h1 hbb hmm
  unfold Oper.wp
  simp only [execOp, ho, resolve, invoke, builtin, Sem.run_bind, Sem.run_pure, Result.andThen_ok, List.map_toArray, List.map_cons, List.map_nil, hs, hx, hrun]
  exact hK _ _ (h p c w' h2 h3 h4)
end Go.Proofs.Ytmieeoceckcnkaa

namespace Go.Proofs.Ytmieeoceckcnkaa
open Go.RowKit
theorem info_u8 : (Try.prog.info? 5).map (fun i => (i.zero, i.size, i.bytes)) = some (some (.int .u8 0), 1, 1) := by kernel_rfl
theorem el8 : ElemOk Try.prog 22 5 (.int .u8 0) 1 1 := ⟨Try.underlying22, info_u8, rfl, by decide, by decide⟩
def u8s (bs : List Nat) : List Value := bs.map fun (x : Nat) => Value.int .u8 (x : Int)
theorem u8s_append (a b : List Nat) : u8s a ++ u8s b = u8s (a ++ b) := by simp [u8s]
theorem one8 {k : IntKind} {x : Int} : ∀ u ∈ (#[Value.int k x]).toList, u.oneCell' = true := by intro u hu; simp at hu; subst hu; rfl
theorem ones {k : IntKind} (l : List Nat) : ∀ y ∈ (l.map fun (x : Nat) => Value.int k (x : Int)), y.oneCell' = true := by
  intro y hy; simp only [List.mem_map] at hy; obtain ⟨x, -, rfl⟩ := hy; rfl
theorem one8s (l : List Nat) : ∀ y ∈ u8s l, y.oneCell' = true := ones l
theorem own_none (w : World) (t : TypeId) : (w.alloc (.cells #[] t)).ownsRow 0 t 1 (.slice (some ⟨w.heap.size, 0, none⟩) 0 0) 0 [] :=
  World.ownsRow_made w #[] 0 (Nat.zero_le _) (by decide) rfl
theorem slForm {w : World} {e : TypeId} {v : Value} {n : Nat} {xs : List Value} (h : w.ownsRow 0 e 1 v n xs) : ∃ p c, v = .slice p n c ∧ (p = none → c = 0) ∧ n ≤ c ∧ c ≤ maxLen := by
  rcases h.2 with ⟨h, h0⟩ | ⟨g, cap, cur, h, _, _, h1, h2, _⟩
  · exact ⟨none, 0, by rw [h, h0], fun _ => rfl, by omega, by decide⟩
  · exact ⟨_, _, h, (fun h => by cases h), h1, h2⟩
def Fresh (w : World) (v : Value) : Prop := ∀ g, v.ownBlock = some g → w.heap.size ≤ g
theorem fresh_nil (w : World) (c : Nat) : Fresh w (.slice none 0 c) := fun g h => by simp [Value.ownBlock] at h
theorem fresh_made {w w2 : World} {n c : Nat} (h : Fr S0 w w2) : Fresh w (.slice (some ⟨w2.heap.size, 0, none⟩) n c) :=
  fun k hk => by simp only [Value.ownBlock, Option.some.injEq] at hk; have := h.size; omega
theorem fresh_many {w : World} {v v' : Value} {B : Nat} (h : Fresh w v) (hB : w.heap.size ≤ B) (ha : v'.ownBlock = v.ownBlock ∨ v'.ownBlock = some B) : Fresh w v' := by
  intro k hk
  rcases ha with ha | ha
  · exact h k (ha ▸ hk)
  · rw [ha] at hk; simp only [Option.some.injEq] at hk; omega
theorem fresh_app {w wr : World} {v : Value} {g n c : Nat} (h : Fr S0 w wr) (hv : Fresh w v) (hat : v.ownBlock = some g ∨ g = wr.heap.size + 1) : Fresh w (.slice (some ⟨g, 0, none⟩) n c) := by
  intro k hk
  simp only [Value.ownBlock, Option.some.injEq] at hk
  subst hk
  rcases hat with h1 | h1
  · exact hv _ h1
  · have := h.size; omega
theorem fr_made {w w2 w3 : World} {o : Obj} {n c : Nat} (h : Fr S0 w w2) (g : (w2.alloc o).grownBy w3 (Value.ownBlock (.slice (some ⟨w2.heap.size, 0, none⟩) n c))) : Fr S0 w w3 :=
  (h.trans0 (Fr.alloc S0 w2 o)).append g fun k hk => by simp only [Value.ownBlock, Option.some.injEq] at hk; have := h.size; omega
theorem size_le {w w2 : World} {o : Obj} (h : Fr S0 w w2) : w.heap.size ≤ (w2.alloc o).heap.size := by have := h.size; simp; omega
theorem SlI.take {w : World} {k : IntKind} {p : Option Addr} {l : List Nat} (h : SlI w k p l) (n : Nat) : SlI w k p (l.take n) := by
  refine ⟨by have := h.1; rw [List.length_take]; omega, fun hl => ?_⟩
  obtain ⟨b, off, hp, hc⟩ := h.2 (by intro e; subst e; simp at hl)
  refine ⟨b, off, hp, fun i hi => ?_⟩
  rw [List.length_take] at hi
  rw [hc i (by omega), List.getElem_take]
theorem SlI.ofBlock {w : World} {g : Nat} {t : TypeId} {fr : Nat × Nat} {k : IntKind} {l : List Nat} {cs : Array Value} (hb : w.heap[g]? = some (.cells cs t fr)) (hc : cs.toList = l.map fun (x : Nat) => Value.int k (x : Int)) (hl : l.length ≤ maxLen) :
    SlI w k (some ⟨g, 0, none⟩) l := by
  refine ⟨hl, fun _ => ⟨g, 0, rfl, fun i hi => ?_⟩⟩
  rw [cell_of_row w g (0 + i) cs t fr hb, ← Array.getElem?_toList, hc]
  simp [hi]
def strB (bs : List Nat) : ByteArray := strOfNums (bs.map fun (x : Nat) => (x : Int))
theorem conv_sl {w : World} {p : Option Addr} {l : List Nat} (h : SlI w .u8 p l) (n c : Nat) (hn : n ≤ l.length) : (convert 22 9 (.slice p n c)).run Try.prog w = .ok (.string (strB (l.take n))) w := by
  cases p with
  | none =>
    have : l = [] := by
      by_cases hl : l = []
      · exact hl
      · obtain ⟨b, off, hp, _⟩ := h.2 hl
        cases hp
    subst this
    rw [List.take_nil]
    exact run_convert_bytes_nil w 22 5 Try.underlying22 Try.underlying5 n c 9 Try.underlying9
  | some ad =>
    by_cases hl : l = []
    · subst hl
      obtain rfl : n = 0 := by simpa using hn
      obtain ⟨b, off, sp⟩ := ad
      rw [run_convert_bytes_string w 22 9 5 (some ⟨b, off, sp⟩) 0 c Try.underlying22 Try.underlying5 Try.underlying9]
      simp [Conv.bytesToString, loadCells, loadCellsFrom, strB]
      rfl
    · obtain ⟨b, off, hp, hcell⟩ := h.2 hl
      obtain rfl := Option.some.inj hp
      refine run_convert_bytes_arg w 22 5 Try.underlying22 Try.underlying5 b off n c _ (by simp; omega) ?_ 9 Try.underlying9
      intro i hi
      rw [hcell i (by omega)]
      simp [List.getD, show i < n from hi, show i < l.length by omega]
theorem SlI.new (w : World) (C : Array Value) (t : TypeId) (fr : Nat × Nat) (k : IntKind) (l : List Nat) (hc : C.toList = l.map fun (x : Nat) => Value.int k (x : Int)) (hl : l.length ≤ maxLen) : SlI (w.alloc (.cells C t fr)) k (some ⟨w.heap.size, 0, none⟩) l :=
  SlI.ofBlock (heap_alloc_new w _) hc hl
end Go.Proofs.Ytmieeoceckcnkaa

namespace Go.Proofs.Ytmieeoceckcnkaa
open Go.RowKit
theorem and_split (i a r c s : Nat) (ha : a < 2 ^ i) (hc : c < 2 ^ i) : (2 ^ i * r + a) &&& (2 ^ i * s + c) = 2 ^ i * (r &&& s) + (a &&& c) := by
  have hac : a &&& c < 2 ^ i := Nat.and_lt_two_pow _ hc
  apply Nat.eq_of_testBit_eq
  intro j
  rw [Nat.testBit_and, Nat.testBit_two_pow_mul_add _ ha, Nat.testBit_two_pow_mul_add _ hc, Nat.testBit_two_pow_mul_add _ hac]
  split <;> simp [Nat.testBit_and]
theorem or_split (i a r c s : Nat) (ha : a < 2 ^ i) (hc : c < 2 ^ i) : (2 ^ i * r + a) ||| (2 ^ i * s + c) = 2 ^ i * (r ||| s) + (a ||| c) := by
  have hac : a ||| c < 2 ^ i := Nat.or_lt_two_pow ha hc
  apply Nat.eq_of_testBit_eq
  intro j
  rw [Nat.testBit_or, Nat.testBit_two_pow_mul_add _ ha, Nat.testBit_two_pow_mul_add _ hc, Nat.testBit_two_pow_mul_add _ hac]
  split <;> simp [Nat.testBit_or]
theorem and255 (a b : Nat) (ha : a < 256) : (256 * b + a) &&& 255 = a := by
  have := Nat.and_two_pow_sub_one_eq_mod (256 * b + a) 8
  rw [show (2 ^ 8 - 1 : Nat) = 255 from rfl] at this
  rw [this]; omega
theorem and65535 (a b : Nat) (ha : a < 65536) : (65536 * b + a) &&& 65535 = a := by
  have := Nat.and_two_pow_sub_one_eq_mod (65536 * b + a) 16
  rw [show (2 ^ 16 - 1 : Nat) = 65535 from rfl] at this
  rw [this]; omega
def by8 (b0 b1 b2 b3 b4 b5 b6 b7 : Nat) : Nat := 65536 * (65536 * (65536 * (256 * b7 + b6) + (256 * b5 + b4)) + (256 * b3 + b2)) + (256 * b1 + b0)
section
variable {b0 b1 b2 b3 b4 b5 b6 b7 : Nat} (h0 : b0 < 256) (h1 : b1 < 256) (h2 : b2 < 256) (h3 : b3 < 256) (h4 : b4 < 256) (h5 : b5 < 256) (h6 : b6 < 256) (h7 : b7 < 256)
include h0 h1 h2 h3 h4 h5 h6 h7
theorem wm1 : by8 b0 b1 b2 b3 b4 b5 b6 b7 &&& 71777214294589695 = by8 b0 0 b2 0 b4 0 b6 0 := by
  have _ := h7
  have e : (71777214294589695 : Nat) = 2 ^ 16 * (2 ^ 16 * (2 ^ 16 * 255 + 255) + 255) + 255 := by decide
  unfold by8
  rw [e]
  rw [show (65536 : Nat) = 2 ^ 16 from rfl]
  rw [and_split 16 _ _ 255 _ (by omega) (by omega), and_split 16 _ _ 255 _ (by omega) (by omega), and_split 16 _ _ 255 _ (by omega) (by omega)]
  rw [and255 _ _ h0, and255 _ _ h2, and255 _ _ h4, and255 _ _ h6]
  simp
theorem m1s : by8 b0 b1 b2 b3 b4 b5 b6 b7 / 256 &&& 71777214294589695 = by8 b1 0 b3 0 b5 0 b7 0 := by
  have e : by8 b0 b1 b2 b3 b4 b5 b6 b7 / 256 = by8 b1 b2 b3 b4 b5 b6 b7 0 := by unfold by8; omega
  rw [e, wm1 h1 h2 h3 h4 h5 h6 h7 (by omega)]
theorem j1 : by8 b1 0 b3 0 b5 0 b7 0 ||| by8 b0 0 b2 0 b4 0 b6 0 * 256 = by8 b1 b0 b3 b2 b5 b4 b7 b6 := by
  have _ := h6
  have e : by8 b0 0 b2 0 b4 0 b6 0 * 256 = by8 0 b0 0 b2 0 b4 0 b6 := by unfold by8; omega
  have k : ∀ a b : Nat, a < 256 → (256 * 0 + a) ||| (256 * b + 0) = 256 * b + a := by
    intro a b ha
    rw [Nat.or_comm, show (256 * 0 + a : Nat) = a by omega, nat_join 8 _ _ (by omega) ha, Nat.add_zero]
  rw [e]
  unfold by8
  rw [show (65536 : Nat) = 2 ^ 16 from rfl]
  rw [or_split 16 _ _ _ _ (by omega) (by omega), or_split 16 _ _ _ _ (by omega) (by omega), or_split 16 _ _ _ _ (by omega) (by omega)]
  rw [k _ _ h1, k _ _ h3, k _ _ h5, k _ _ h7]
theorem m2 : by8 b0 b1 b2 b3 b4 b5 b6 b7 &&& 281470681808895 = by8 b0 b1 0 0 b4 b5 0 0 := by
  have _ := h6
  have _ := h7
  have e : (281470681808895 : Nat) = 2 ^ 32 * 65535 + 65535 := by decide
  have f : by8 b0 b1 b2 b3 b4 b5 b6 b7 = 2 ^ 32 * (65536 * (256 * b7 + b6) + (256 * b5 + b4)) + (65536 * (256 * b3 + b2) + (256 * b1 + b0)) := by unfold by8; omega
  rw [e, f, and_split 32 _ _ _ _ (by omega) (by omega), and65535 _ _ (by omega), and65535 _ _ (by omega)]
  unfold by8; omega
theorem m2s : by8 b0 b1 b2 b3 b4 b5 b6 b7 / 65536 &&& 281470681808895 = by8 b2 b3 0 0 b6 b7 0 0 := by
  have e : by8 b0 b1 b2 b3 b4 b5 b6 b7 / 65536 = by8 b2 b3 b4 b5 b6 b7 0 0 := by unfold by8; omega
  rw [e, m2 h2 h3 h4 h5 h6 h7 (by omega) (by omega)]
theorem j2 : by8 b2 b3 0 0 b6 b7 0 0 ||| by8 b0 b1 0 0 b4 b5 0 0 * 65536 = by8 b2 b3 b0 b1 b6 b7 b4 b5 := by
  have _ := h4
  have _ := h5
  have e : by8 b0 b1 0 0 b4 b5 0 0 * 65536 = 2 ^ 32 * (65536 * (256 * b5 + b4)) + 65536 * (256 * b1 + b0) := by unfold by8; omega
  have e' : by8 b2 b3 0 0 b6 b7 0 0 = 2 ^ 32 * (256 * b7 + b6) + (256 * b3 + b2) := by unfold by8; omega
  rw [e, e', or_split 32 _ _ _ _ (by omega) (by omega)]
  rw [Nat.or_comm (256 * b7 + b6), nat_join 16 _ _ (by omega) (by omega), Nat.or_comm (256 * b3 + b2), nat_join 16 _ _ (by omega) (by omega)]
  unfold by8; omega
theorem j3 : by8 b0 b1 b2 b3 b4 b5 b6 b7 / 4294967296 ||| by8 b0 b1 b2 b3 b4 b5 b6 b7 * 4294967296 % 18446744073709551616 = by8 b4 b5 b6 b7 b0 b1 b2 b3 := by
  have e : by8 b0 b1 b2 b3 b4 b5 b6 b7 / 4294967296 = 65536 * (256 * b7 + b6) + (256 * b5 + b4) := by unfold by8; omega
  have e' : by8 b0 b1 b2 b3 b4 b5 b6 b7 * 4294967296 % 18446744073709551616 = 4294967296 * (65536 * (256 * b3 + b2) + (256 * b1 + b0)) := by unfold by8; omega
  rw [e, e', Nat.or_comm, nat_join 32 _ _ (by omega) (by omega)]
  unfold by8; omega
theorem by8_lt : by8 b0 b1 b2 b3 b4 b5 b6 b7 < 18446744073709551616 := by unfold by8; omega
end
theorem by8_of (n : Nat) (h : n < 18446744073709551616) : ∃ b0 b1 b2 b3 b4 b5 b6 b7, n = by8 b0 b1 b2 b3 b4 b5 b6 b7 ∧ b0 < 256 ∧ b1 < 256 ∧ b2 < 256 ∧ b3 < 256 ∧ b4 < 256 ∧ b5 < 256 ∧ b6 < 256 ∧ b7 < 256 := by
  refine ⟨n % 256, n / 256 % 256, n / 65536 % 256, n / 16777216 % 256, n / 4294967296 % 256, n / 1099511627776 % 256, n / 281474976710656 % 256, n / 72057594037927936, ?_, ?_, ?_, ?_, ?_, ?_, ?_, ?_, ?_⟩
  · unfold by8; omega
  all_goals omega
def rev1 (n : Int) : Int := bits .or .u64 (bits .and .u64 (n / 256) 71777214294589695) (IntKind.u64.wrap (bits .and .u64 n 71777214294589695 * 256))
def rev2 (n : Int) : Int := bits .or .u64 (bits .and .u64 (n / 65536) 281470681808895) (IntKind.u64.wrap (bits .and .u64 n 281470681808895 * 65536))
def rev3 (n : Int) : Int := bits .or .u64 (n / 4294967296) (IntKind.u64.wrap (n * 4294967296))
section
variable {b0 b1 b2 b3 b4 b5 b6 b7 : Nat} (h0 : b0 < 256) (h1 : b1 < 256) (h2 : b2 < 256) (h3 : b3 < 256) (h4 : b4 < 256) (h5 : b5 < 256) (h6 : b6 < 256) (h7 : b7 < 256)
include h0 h1 h2 h3 h4 h5 h6 h7
theorem rev1_by : rev1 (by8 b0 b1 b2 b3 b4 b5 b6 b7 : Nat) = (by8 b1 b0 b3 b2 b5 b4 b7 b6 : Nat) := by
  have L := by8_lt h0 h1 h2 h3 h4 h5 h6 h7
  have L1 := by8_lt h0 (b1 := 0) (by omega) h2 (b3 := 0) (by omega) h4 (b5 := 0) (by omega) h6 (b7 := 0) (by omega)
  have L2 := by8_lt h1 (b1 := 0) (by omega) h3 (b3 := 0) (by omega) h5 (b5 := 0) (by omega) h7 (b7 := 0) (by omega)
  have L3 : by8 b0 0 b2 0 b4 0 b6 0 * 256 < 18446744073709551616 := by unfold by8; omega
  unfold rev1
  rw [show ((by8 b0 b1 b2 b3 b4 b5 b6 b7 : Nat) : Int) / 256 = ((by8 b0 b1 b2 b3 b4 b5 b6 b7 / 256 : Nat) : Int) from rfl,
    show (71777214294589695 : Int) = ((71777214294589695 : Nat) : Int) from rfl, u64_and_nat _ _ (by omega) (by omega), u64_and_nat _ _ (by omega) (by omega),
    wm1 h0 h1 h2 h3 h4 h5 h6 h7, m1s h0 h1 h2 h3 h4 h5 h6 h7, IntKind.wrap_u64,
    show ((by8 b0 0 b2 0 b4 0 b6 0 : Nat) : Int) * 256 % 18446744073709551616 = ((by8 b0 0 b2 0 b4 0 b6 0 * 256 : Nat) : Int) by omega, u64_or_nat _ _ (by omega) (by omega), j1 h0 h1 h2 h3 h4 h5 h6 h7]
theorem rev2_by : rev2 (by8 b0 b1 b2 b3 b4 b5 b6 b7 : Nat) = (by8 b2 b3 b0 b1 b6 b7 b4 b5 : Nat) := by
  have L := by8_lt h0 h1 h2 h3 h4 h5 h6 h7
  have L2 := by8_lt h2 h3 (b2 := 0) (by omega) (b3 := 0) (by omega) h6 h7 (b6 := 0) (by omega) (b7 := 0) (by omega)
  have L3 : by8 b0 b1 0 0 b4 b5 0 0 * 65536 < 18446744073709551616 := by unfold by8; omega
  unfold rev2
  rw [show ((by8 b0 b1 b2 b3 b4 b5 b6 b7 : Nat) : Int) / 65536 = ((by8 b0 b1 b2 b3 b4 b5 b6 b7 / 65536 : Nat) : Int) from rfl,
    show (281470681808895 : Int) = ((281470681808895 : Nat) : Int) from rfl, u64_and_nat _ _ (by omega) (by omega), u64_and_nat _ _ (by omega) (by omega),
    m2 h0 h1 h2 h3 h4 h5 h6 h7, m2s h0 h1 h2 h3 h4 h5 h6 h7, IntKind.wrap_u64,
    show ((by8 b0 b1 0 0 b4 b5 0 0 : Nat) : Int) * 65536 % 18446744073709551616 = ((by8 b0 b1 0 0 b4 b5 0 0 * 65536 : Nat) : Int) by omega, u64_or_nat _ _ (by omega) (by omega), j2 h0 h1 h2 h3 h4 h5 h6 h7]
theorem rev3_by : rev3 (by8 b0 b1 b2 b3 b4 b5 b6 b7 : Nat) = (by8 b4 b5 b6 b7 b0 b1 b2 b3 : Nat) := by
  have L := by8_lt h0 h1 h2 h3 h4 h5 h6 h7
  have j := j3 h0 h1 h2 h3 h4 h5 h6 h7
  unfold rev3
  generalize by8 b0 b1 b2 b3 b4 b5 b6 b7 = n at *
  rw [IntKind.wrap_u64, show (n : Int) / 4294967296 = ((n / 4294967296 : Nat) : Int) from rfl, show (n : Int) * 4294967296 % 18446744073709551616 = ((n * 4294967296 % 18446744073709551616 : Nat) : Int) from rfl,
    u64_or_nat _ _ (by omega) (by omega), j]
theorem rev_by : rev3 (rev2 (rev1 (by8 b0 b1 b2 b3 b4 b5 b6 b7 : Nat))) = (by8 b7 b6 b5 b4 b3 b2 b1 b0 : Nat) := by
  rw [rev1_by h0 h1 h2 h3 h4 h5 h6 h7, rev2_by h1 h0 h3 h2 h5 h4 h7 h6, rev3_by h3 h2 h1 h0 h7 h6 h5 h4]
end
end Go.Proofs.Ytmieeoceckcnkaa
namespace Go.Proofs.Ytmieeoceckcnkaa
open Go.RowKit
theorem xor_ones64 (x : Int) : BitVec.ofInt 64 x ^^^ BitVec.ofInt 64 (-1) = ~~~ (BitVec.ofInt 64 x) := by
  have : BitVec.ofInt 64 (-1) = BitVec.allOnes 64 := by decide
  rw [this, BitVec.xor_allOnes]
theorem ofInt_toNat64 (x : Int) : (BitVec.ofInt 64 x).toNat = (x % 18446744073709551616).toNat := by
  rw [BitVec.toNat_ofInt]; rfl
theorem bits_xor_ones_u64 (x : Int) (h0 : 0 ≤ x) (h1 : x < 18446744073709551616) : bits .xor .u64 x 18446744073709551615 = 18446744073709551615 - x := by
  have e : BitVec.ofInt 64 18446744073709551615 = BitVec.ofInt 64 (-1) := by decide
  show IntKind.u64.wrap ((BitVec.ofInt 64 x ^^^ BitVec.ofInt 64 18446744073709551615).toNat : Int) = _
  rw [e, xor_ones64, BitVec.toNat_not, ofInt_toNat64, IntKind.wrap_u64]
  omega
theorem bits_xor_ones_i64 (x : Int) (h0 : 0 ≤ x) (h1 : x < 9223372036854775808) : bits .xor .i64 x (-1) = - x - 1 := by
  show IntKind.i64.wrap ((BitVec.ofInt 64 x ^^^ BitVec.ofInt 64 (-1)).toNat : Int) = _
  rw [xor_ones64, BitVec.toNat_not, ofInt_toNat64, IntKind.wrap_i64]
  omega
theorem bits_xor_zero_u64 (x : Int) (h0 : 0 ≤ x) (h1 : x < 18446744073709551616) : bits .xor .u64 x 0 = x := by
  show IntKind.u64.wrap ((BitVec.ofInt 64 x ^^^ BitVec.ofInt 64 0).toNat : Int) = _
  rw [show BitVec.ofInt 64 0 = 0#64 from by decide, BitVec.xor_zero, ofInt_toNat64, IntKind.wrap_u64]
  omega
theorem bits_xor_zero_i64 (x : Int) (h0 : 0 ≤ x) (h1 : x < 9223372036854775808) : bits .xor .i64 x 0 = x := by
  show IntKind.i64.wrap ((BitVec.ofInt 64 x ^^^ BitVec.ofInt 64 0).toNat : Int) = _
  rw [show BitVec.ofInt 64 0 = 0#64 from by decide, BitVec.xor_zero, ofInt_toNat64, IntKind.wrap_i64]
  omega
def sgn (a : Int) : Int := if 0 ≤ a then 2 * a else -2 * a - 1
def uns (n : Int) : Int := if n % 2 = 0 then n / 2 else - (n / 2) - 1
theorem sgn_go (a : Int) (h0 : -9223372036854775808 ≤ a) (h1 : a < 9223372036854775808) :
    bits .xor .u64 (IntKind.u64.wrap (IntKind.u64.wrap a * 2)) (IntKind.u64.wrap (a / 9223372036854775808)) = sgn a := by
  simp only [IntKind.wrap_u64]
  unfold sgn
  by_cases h : 0 ≤ a
  · rw [if_pos h, show a / 9223372036854775808 % 18446744073709551616 = 0 by omega, bits_xor_zero_u64 _ (by omega) (by omega)]
    omega
  · rw [if_neg h, show a / 9223372036854775808 % 18446744073709551616 = 18446744073709551615 by omega, bits_xor_ones_u64 _ (by omega) (by omega)]
    omega
theorem sign_any (a : Int) (w : World) (h0 : -9223372036854775808 ≤ a) (h1 : a < 9223372036854775808) :
    Calls Try.prog 84 #[.int .i64 a] w fun e w' => e = .returned (.int .u64 (sgn a)) ∧ w = w' := by
  have H := Lib.hid (sgn_go a h0 h1)
  clear h0 h1
  go_enter Try.func84, Try.ntmps84
  go_wp2
  go_ret
  exact ⟨by rw [← H.out]; rfl, rfl⟩
theorem refsgn (a : Int) (h0 : 0 ≤ a) : 2 * a = sgn a := by
  unfold sgn; rw [if_pos h0]
theorem refsgn2 (a : Int) (h1 : a < 18446744073709551616) : 2 * (18446744073709551615 - a) + 1 = sgn (a - 18446744073709551616) := by
  unfold sgn; rw [if_neg (by omega)]; omega
def meant (a : Int) : Int := if a < 9223372036854775808 then a else a - 18446744073709551616
theorem refsign_any (a : Int) (w : World) (h0 : 0 ≤ a) (h1 : a < 18446744073709551616) :
    Calls Try.prog 53 #[.int .u64 a] w fun e w' => e = .returned (.int .u64 (sgn (meant a))) ∧ w = w' := by
  by_cases h : a < 9223372036854775808
  · have H := Lib.hid (refsgn a h0)
    have H2 : Hid (meant a = a) := Lib.hid (if_pos h)
    go_enter Try.func53, Try.ntmps53
    go_wp2
    go_ret
    exact ⟨by rw [H2.out, ← H.out]; rfl, rfl⟩
  · have H := Lib.hid (refsgn2 a h1)
    have H2 : Hid (meant a = a - 18446744073709551616) := Lib.hid (if_neg h)
    go_enter Try.func53, Try.ntmps53
    go_wp2
    go_ret
    exact ⟨by rw [H2.out, ← H.out]; rfl, rfl⟩
theorem uns_go (n : Int) (h0 : 0 ≤ n) (h1 : n < 18446744073709551616) :
    bits .xor .i64 (n / 2) (wrap64 (-wrap64 (bits .and .u64 n 1))) = uns n := by
  have e : bits .and .u64 n 1 = n % 2 := by
    have := u64_and n 1 h0 h1 (by omega) (by omega)
    rw [this, show (1 : Int).toNat = 1 from rfl, Nat.and_one_is_mod]
    omega
  rw [e]
  have e1 : wrap64 (n % 2) = n % 2 := IntWalk.wrap64_in _ (by constructor <;> omega)
  have e2 : wrap64 (-(n % 2)) = -(n % 2) := IntWalk.wrap64_in _ (by constructor <;> omega)
  rw [e1, e2]
  unfold uns
  by_cases h : n % 2 = 0
  · rw [if_pos h, h, show (-0 : Int) = 0 from rfl, bits_xor_zero_i64 _ (by omega) (by omega)]
  · rw [if_neg h, show n % 2 = 1 by omega, bits_xor_ones_i64 _ (by omega) (by omega)]
theorem unsign_any (n : Int) (w : World) (h0 : 0 ≤ n) (h1 : n < 18446744073709551616) :
    Calls Try.prog 85 #[.int .u64 n] w fun e w' => e = .returned (.int .i64 (uns n)) ∧ w = w' := by
  have H := Lib.hid (uns_go n h0 h1)
  go_enter Try.func85, Try.ntmps85
  go_wp2
  go_ret
  exact ⟨by rw [← H.out]; rfl, rfl⟩
theorem wrev_any (n : Int) (w : World) :
    Calls Try.prog 92 #[.int .u64 n] w fun e w' => e = .returned (.int .u64 (rev3 (rev2 (rev1 n)))) ∧ w = w' := by
  go_enter Try.func92, Try.ntmps92
  go_wp2
  go_ret
  exact ⟨rfl, rfl⟩
def wturn (n m : Nat) : Nat := (rev3 (rev2 (rev1 n))).toNat / 2 ^ (64 - 8 * m)
theorem rev_nat (n : Nat) (h : n < 18446744073709551616) : ∃ r : Nat, rev3 (rev2 (rev1 n)) = (r : Int) ∧ r < 18446744073709551616 := by
  obtain ⟨b0, b1, b2, b3, b4, b5, b6, b7, rfl, h0, h1, h2, h3, h4, h5, h6, h7⟩ := by8_of n h
  exact ⟨_, rev_by h0 h1 h2 h3 h4 h5 h6 h7, by8_lt h7 h6 h5 h4 h3 h2 h1 h0⟩
theorem turned_any (n m : Nat) (w : World) (hn : n < 18446744073709551616) (h1 : m ≤ 8) :
    Calls Try.prog 82 #[.int .u64 n, .int .i64 m] w fun e w' => e = .returned (.int .u64 (wturn n m : Nat)) ∧ w = w' := by
  obtain ⟨r, hr, hlt⟩ := rev_nat n hn
  have H : Hid ((r : Int) / 2 ^ (64 - 8 * m) = (wturn n m : Nat)) := Lib.hid (by
    unfold wturn
    rw [hr, Int.toNat_natCast, Int.natCast_ediv, Int.natCast_pow]
    rfl)
  have HR := Lib.hid hr
  have h8 : 0 ≤ 64 - 8 * (m : Int) := by omega
  clear hn hr hlt
  go_enter Try.func82, Try.ntmps82
  go_wp2_with (go_at_call 92; refine (wrev_any _ _).mono ?_; rintro e w' ⟨rfl, rfl⟩; rw [HR.out])
  go_ret
  exact ⟨by rw [← H.out]; rfl, rfl⟩
theorem sgn_lt (a : Int) (h0 : -9223372036854775808 ≤ a) (h1 : a < 9223372036854775808) : 0 ≤ sgn a ∧ sgn a < 18446744073709551616 := by unfold sgn; split <;> omega
theorem meant_bd (a : Int) (h0 : 0 ≤ a) (h1 : a < 18446744073709551616) : -9223372036854775808 ≤ meant a ∧ meant a < 9223372036854775808 := by unfold meant; split <;> omega
theorem meant_wrap (a : Int) (h0 : 0 ≤ a) (h1 : a < 18446744073709551616) : wrap64 a = meant a := by
  unfold wrap64 meant; split <;> omega
def zz (n : Nat) : Nat := (sgn (meant n)).toNat
theorem zz_eq (n : Nat) (h1 : n < 18446744073709551616) : sgn (meant n) = (zz n : Nat) := by
  have := meant_bd n (by omega) (by omega)
  have := sgn_lt _ this.1 this.2
  unfold zz; omega
theorem zz_lt (n : Nat) (h1 : n < 18446744073709551616) : zz n < 18446744073709551616 := by
  have := meant_bd n (by omega) (by omega)
  have := sgn_lt _ this.1 this.2
  unfold zz; omega
def unzz (n : Nat) : Nat := (uns n % 18446744073709551616).toNat
theorem unzz_eq (n : Nat) : uns n % 18446744073709551616 = (unzz n : Nat) := by unfold unzz; omega
theorem unzz_zz (n : Nat) (h1 : n < 18446744073709551616) : unzz (zz n) = n := by
  have e := zz_eq n h1
  unfold unzz
  rw [← e]
  unfold uns sgn meant
  split <;> split <;> split <;> omega
theorem zz_unzz (n : Nat) (h1 : n < 18446744073709551616) : zz (unzz n) = n := by
  have e := unzz_eq n
  unfold zz
  rw [← e]
  unfold uns sgn meant
  split <;> split <;> split <;> omega
theorem unzz_lt (n : Nat) : unzz n < 18446744073709551616 := by unfold unzz; omega
def lEnc : Nat → Nat → List Nat
  | 0, _ => []
  | k + 1, n => n % 256 :: lEnc k (n / 256)
theorem lEnc_step (k b q : Nat) (hb : b < 256) : lEnc (k + 1) (256 * q + b) = b :: lEnc k q := by
  rw [lEnc, show (256 * q + b) % 256 = b by omega, show (256 * q + b) / 256 = q by omega]
section
variable {b0 b1 b2 b3 b4 b5 b6 b7 : Nat}
theorem by8_horner (b0 b1 b2 b3 b4 b5 b6 b7 : Nat) : by8 b0 b1 b2 b3 b4 b5 b6 b7 = 256 * (256 * (256 * (256 * (256 * (256 * (256 * (256 * 0 + b7) + b6) + b5) + b4) + b3) + b2) + b1) + b0 := by unfold by8; omega
theorem enc2 (q : Nat) (h0 : b0 < 256) (h1 : b1 < 256) : lEnc 2 (256 * (256 * q + b1) + b0) = [b0, b1] := by rw [lEnc_step _ _ _ h0, lEnc_step _ _ _ h1]; rfl
theorem enc4 (q : Nat) (h0 : b0 < 256) (h1 : b1 < 256) (h2 : b2 < 256) (h3 : b3 < 256) : lEnc 4 (256 * (256 * (256 * (256 * q + b3) + b2) + b1) + b0) = [b0, b1, b2, b3] := by rw [lEnc_step _ _ _ h0, lEnc_step _ _ _ h1, lEnc_step _ _ _ h2, lEnc_step _ _ _ h3]; rfl
theorem enc8 (q : Nat) (h0 : b0 < 256) (h1 : b1 < 256) (h2 : b2 < 256) (h3 : b3 < 256) (h4 : b4 < 256) (h5 : b5 < 256) (h6 : b6 < 256) (h7 : b7 < 256) : lEnc 8 (256 * (256 * (256 * (256 * (256 * (256 * (256 * (256 * q + b7) + b6) + b5) + b4) + b3) + b2) + b1) + b0) = [b0, b1, b2, b3, b4, b5, b6, b7] := by rw [lEnc_step _ _ _ h0, lEnc_step _ _ _ h1, lEnc_step _ _ _ h2, lEnc_step _ _ _ h3, lEnc_step _ _ _ h4, lEnc_step _ _ _ h5, lEnc_step _ _ _ h6, lEnc_step _ _ _ h7]; rfl
theorem top2 (h2 : b2 < 256) (h3 : b3 < 256) (h4 : b4 < 256) (h5 : b5 < 256) (h6 : b6 < 256) (h7 : b7 < 256) : by8 b7 b6 b5 b4 b3 b2 b1 b0 / 281474976710656 = 256 * (256 * 0 + b0) + b1 := by
  unfold by8; omega
theorem top4 (h4 : b4 < 256) (h5 : b5 < 256) (h6 : b6 < 256) (h7 : b7 < 256) : by8 b7 b6 b5 b4 b3 b2 b1 b0 / 4294967296 = 256 * (256 * (256 * (256 * 0 + b0) + b1) + b2) + b3 := by
  unfold by8; omega
theorem top8  : by8 b7 b6 b5 b4 b3 b2 b1 b0 / 1 = 256 * (256 * (256 * (256 * (256 * (256 * (256 * (256 * 0 + b0) + b1) + b2) + b3) + b4) + b5) + b6) + b7 := by
  unfold by8; omega
end
theorem turn_enc (n m : Nat) (hn : n < 18446744073709551616) (hm : m = 2 ∨ m = 4 ∨ m = 8) : lEnc m (wturn n m) = (lEnc m n).reverse ∧ wturn n m < 18446744073709551616 := by
  obtain ⟨b0, b1, b2, b3, b4, b5, b6, b7, rfl, h0, h1, h2, h3, h4, h5, h6, h7⟩ := by8_of n hn
  unfold wturn
  rw [rev_by h0 h1 h2 h3 h4 h5 h6 h7, Int.toNat_natCast]
  rcases hm with rfl | rfl | rfl
  · refine ⟨?_, ?_⟩
    · rw [show (2 ^ (64 - 8 * 2) : Nat) = 281474976710656 from rfl, top2 h2 h3 h4 h5 h6 h7, enc2 0 h1 h0, by8_horner]
      rw [enc2 _ h0 h1]
      rfl
    · rw [show (2 ^ (64 - 8 * 2) : Nat) = 281474976710656 from rfl, top2 h2 h3 h4 h5 h6 h7]; omega
  · refine ⟨?_, ?_⟩
    · rw [show (2 ^ (64 - 8 * 4) : Nat) = 4294967296 from rfl, top4 h4 h5 h6 h7, enc4 0 h3 h2 h1 h0, by8_horner]
      rw [enc4 _ h0 h1 h2 h3]
      rfl
    · rw [show (2 ^ (64 - 8 * 4) : Nat) = 4294967296 from rfl, top4 h4 h5 h6 h7]; omega
  · refine ⟨?_, ?_⟩
    · rw [show (2 ^ (64 - 8 * 8) : Nat) = 1 from rfl, top8 , enc8 0 h7 h6 h5 h4 h3 h2 h1 h0, by8_horner]
      rw [enc8 _ h0 h1 h2 h3 h4 h5 h6 h7]
      rfl
    · rw [show (2 ^ (64 - 8 * 8) : Nat) = 1 from rfl, top8 ]; omega
end Go.Proofs.Ytmieeoceckcnkaa
namespace Go.Proofs.Ytmieeoceckcnkaa
open Go.RowKit
theorem info5 : (Try.prog.info? 5).map (fun i => (i.zero, i.size, i.bytes)) = some (some (.int .u8 0), 1, 1) := by kernel_rfl
def wWrAt (w : World) (g : Nat) (v : Value) (bs : List Nat) : Prop :=
  w.heap[g]? = some (.cells #[v] 95 (0, 0)) ∧ w.ownsRow 0 5 1 v bs.length (u8s bs) ∧ v.ownBlock ≠ some g
def Moved (w : World) (v v' : Value) : Prop := v'.ownBlock = v.ownBlock ∨ ∀ g, v'.ownBlock = some g → w.heap.size ≤ g
def wWrTo (w w' : World) (gw : Nat) (v : Value) (bs : List Nat) : Prop :=
  ∃ v', wWrAt w' gw v' bs ∧ Fr (fun k => k = gw ∨ v.ownBlock = some k) w w' ∧ Moved w v v'
theorem wWrAt.c0 {w : World} {g : Nat} {v : Value} {bs : List Nat} (h : wWrAt w g v bs) : w.cell? ⟨g, 0, none⟩ = some v := by
  have := h.1; simp [World.cell?, this]
theorem wWrAt.f0 {w : World} {g : Nat} {v : Value} {bs : List Nat} (h : wWrAt w g v bs) : w.frozen? ⟨g, 0, none⟩ = false := by
  have := h.1; simp [World.frozen?, this]
theorem wWrAt.far {w w1 : World} {gw : Nat} {v : Value} {bs : List Nat} (h : wWrAt w gw v bs) {o : Obj} (hg : (w.alloc o).grownBy w1 v.ownBlock) :
    w1.heap[gw]? = some (.cells #[v] 95 (0, 0)) := by
  have hlt := (Array.getElem?_eq_some_iff.1 h.1).1
  rw [hg.block gw (by simp; omega) (fun e => h.2.2 e.symm), Below.heap_alloc w o gw hlt]
  exact h.1
theorem wWrAt.cell1 {w w1 : World} {gw : Nat} {v : Value} {bs : List Nat} (h : wWrAt w gw v bs) {o : Obj} (hg : (w.alloc o).grownBy w1 v.ownBlock) :
    w1.cell? ⟨gw, 0, none⟩ = some v ∧ w1.frozen? ⟨gw, 0, none⟩ = false := by
  have := h.far hg
  exact ⟨by simp [World.cell?, this], by simp [World.frozen?, this]⟩
theorem wWrAt.app {w w1 : World} {gw g cap : Nat} {v : Value} {bs : List Nat} (h : wWrAt w gw v bs) {o : Obj} (x : Nat)
    (hown : w1.ownsRow 0 5 1 (.slice (some ⟨g, 0, none⟩) (bs.length + 1) cap) (bs.length + 1) (u8s bs ++ [.int .u8 (x : Int)]))
    (hg : (w.alloc o).grownBy w1 v.ownBlock) (hat : v.ownBlock = some g ∨ g = w.heap.size + 1) :
    wWrTo w (w1.setCell ⟨gw, 0, none⟩ (.slice (some ⟨g, 0, none⟩) (bs.length + 1) cap)) gw v (bs ++ [x]) := by
  have hlt := (Array.getElem?_eq_some_iff.1 h.1).1
  have hf := h.far hg
  have hne : g ≠ gw := by
    rcases hat with hat | hat
    · intro e; exact h.2.2 (e ▸ hat)
    · omega
  refine ⟨.slice (some ⟨g, 0, none⟩) (bs.length + 1) cap, ⟨?_, ?_, ?_⟩, ?_, ?_⟩
  · rw [heap_setCell_same w1 gw 0 _ _ _ hf]; rfl
  · have : (u8s bs ++ [.int .u8 (x : Int)]) = u8s (bs ++ [x]) := by simp [u8s]
    rw [← this, List.length_append]
    exact (Fr.setCell (fun k => k = gw) w1 ⟨gw, 0, none⟩ _ rfl).owns hown (fun k hk => by simp [Value.ownBlock] at hk; omega)
  · simpa [Value.ownBlock] using hne
  · refine ((Fr.alloc _ w o).trans (Fr.grown hg) (fun j _ e => Or.inr e)).trans (Fr.setCell (fun k => k = gw) w1 ⟨gw, 0, none⟩ _ rfl) (fun j _ e => Or.inl e)
  · rcases hat with hat | hat
    · exact Or.inl hat.symm
    · refine Or.inr fun k hk => ?_
      simp [Value.ownBlock] at hk hat
      omega
theorem wWrTo.trans {w wr w' : World} {gw : Nat} {v v1 : Value} {bs : List Nat} (hfr : Fr (fun k => k = gw ∨ v.ownBlock = some k) w wr) (hmv : Moved w v v1) (h : wWrTo wr w' gw v1 bs) : wWrTo w w' gw v bs := by
  obtain ⟨v2, h2, hf2, hm2⟩ := h
  refine ⟨v2, h2, hfr.trans hf2 ?_, ?_⟩
  · rintro j hj (e | e)
    · exact Or.inl e
    · rcases hmv with hm | hm
      · exact Or.inr (hm ▸ e)
      · have := hm j e; omega
  · rcases hm2 with hm | hm
    · rcases hmv with hm' | hm'
      · exact Or.inl (hm.trans hm')
      · exact Or.inr fun k hk => hm' k (hm ▸ hk)
    · exact Or.inr fun k hk => Nat.le_trans hfr.size (hm k hk)
theorem wWrTo.self {w : World} {gw : Nat} {v : Value} {bs : List Nat} (h : wWrAt w gw v bs) : wWrTo w w gw v bs := ⟨v, h, Fr.refl _ _, Or.inl rfl⟩
theorem or128 (n : Nat) : bits .or .u8 ((n : Int) % 256) 128 = ((n % 128 + 128 : Nat) : Int) := by
  have e : (n : Int) % 256 = ((n % 256 : Nat) : Int) := by omega
  have k : ∀ a : Fin 256, a.1 ||| 128 = a.1 % 128 + 128 := by decide +kernel
  have := u8_or_nat (n % 256) 128 (by omega) (by omega)
  rw [e, show (128 : Int) = ((128 : Nat) : Int) from rfl, this, k ⟨n % 256, by omega⟩]
  congr 2
  show n % 256 % 128 = n % 128
  omega
def vEnc : Nat → Nat → List Nat
  | 0, n => [n % 256]
  | k + 1, n => if n < 128 then [n] else (n % 128 + 128) :: vEnc k (n / 128)
theorem el5 : ElemOk Try.prog 22 5 (.int .u8 0) 1 1 := ⟨Try.underlying22, info5, rfl, by decide, by decide⟩
theorem few_any (gw m n : Nat) (v : Value) (bs : List Nat) (w : World) (h : wWrAt w gw v bs) (hm : 1 ≤ m) (hm2 : m ≤ 10) (hb : bs.length ≤ 1000000) :
    Calls Try.prog 74 #[.pointer (some ⟨gw, 0, none⟩), .int .u64 n, .int .i64 m] w fun e w' => e = .returned (.tuple #[]) ∧ wWrTo w w' gw v (bs ++ vEnc (m - 1) n) := by
  go_enter Try.func74, Try.ntmps74
  go_wp2
  go_loopw [1, 8] (fun a i wr => ∃ (k n' : Nat) (bs1 : List Nat), k ≤ m - 1 ∧ i = .int .i64 k ∧ a = .int .u64 n' ∧ bs1.length ≤ 1000000 + k ∧ bs1 ++ vEnc (m - 1 - k) n' = bs ++ vEnc (m - 1) n ∧ wWrTo w wr gw v bs1) (fun _ i _ => m - (intOf i).toNat)
  case atStart => exact ⟨0, n, bs, by omega, rfl, rfl, by omega, rfl, wWrTo.self h⟩
  case round =>
    obtain ⟨k, n', bs1, hk, rfl, rfl, hl, he, hw⟩ := hrel
    obtain ⟨v1, hw1, hfr, hmv⟩ := hw
    have c0 := hw1.c0
    have f0 := hw1.f0
    have own := hw1.2.1
    have HE := Lib.hid he; clear he
    have HR : Hid (Room (bs1.length + 1)) := Lib.hid (Room.mk (by omega))
    have HL := Lib.hid hl; clear hl
    clear hb
    by_cases hlt : (k : Int) < (m : Int) - 1
    · by_cases h128 : (n' : Int) < 128
      · have LA : Hid (bs1 ++ [n'] = bs ++ vEnc (m - 1) n) := Lib.hid (by
          rw [← HE.out]
          obtain ⟨j, hj⟩ : ∃ j, m - 1 - k = j + 1 := ⟨m - 1 - k - 1, by omega⟩
          rw [hj, vEnc, if_pos (by omega)])
        go_wp2_with (at_builtin; refine app_one el5 (.tmp 31) (.tmp 34) rfl own rfl rfl rfl rfl rfl one8 HR.out ?_)
        intro g cap w1 hown hgrow hat hlt1
        obtain ⟨c1, f1⟩ := hw1.cell1 hgrow
        have W := hw1.app _ hown hgrow hat
        clear own hown hgrow hat hlt1 c0 f0
        go_wp2
        go_end0
        exact ⟨rfl, by rw [← LA.out]; exact wWrTo.trans hfr hmv W⟩
      · go_wp2_with (at_builtin; refine app_one el5 (.tmp 16) (.tmp 20) rfl own rfl rfl rfl rfl rfl one8 HR.out ?_)
        intro g cap w1 hown hgrow hat hlt1
        obtain ⟨c1, f1⟩ := hw1.cell1 hgrow
        rw [or128] at hown; have W := hw1.app _ hown hgrow hat
        clear own hown hgrow hat hlt1 c0 f0
        go_wp2
        go_roundw
        case rel =>
          refine ⟨k + 1, n' / 128, bs1 ++ [n' % 128 + 128], by omega, by go_num, by go_num, ?_, ?_, wWrTo.trans hfr hmv W⟩
          · have := HL.out; simp; omega
          · rw [← HE.out]
            obtain ⟨j, hj⟩ : ∃ j, m - 1 - k = j + 1 := ⟨m - 1 - k - 1, by omega⟩
            rw [hj, vEnc, if_neg (by omega), show m - 1 - (k + 1) = j by omega]
            simp
        case measure => simp [intOf]; omega
    · have LA : Hid (bs1 ++ [n' % 256] = bs ++ vEnc (m - 1) n) := Lib.hid (by
        rw [← HE.out, show m - 1 - k = 0 by omega, vEnc])
      go_wp2_with (at_builtin; refine app_one el5 (.tmp 31) (.tmp 34) rfl own rfl rfl rfl rfl rfl one8 HR.out ?_)
      intro g cap w1 hown hgrow hat hlt1
      obtain ⟨c1, f1⟩ := hw1.cell1 hgrow
      rw [show ((n' : Int) % 256) = ((n' % 256 : Nat) : Int) from by omega] at hown; have W := hw1.app _ hown hgrow hat
      clear own hown hgrow hat hlt1 c0 f0
      go_wp2
      go_end0
      exact ⟨rfl, by rw [← LA.out]; exact wWrTo.trans hfr hmv W⟩
theorem byteAt (n k : Nat) : IntKind.u8.wrap ((n : Int) / 2 ^ (8 * (k : Int)).toNat) = ((n / 256 ^ k % 256 : Nat) : Int) := by
  have : (8 * (k : Int)).toNat = 8 * k := by omega
  rw [this, Int.pow_mul, IntKind.wrap_u8, Int.natCast_emod, Int.natCast_ediv, Int.natCast_pow]
  rfl
theorem wlow_any (gw m n : Nat) (v : Value) (bs : List Nat) (w : World) (h : wWrAt w gw v bs) (hm2 : m ≤ 8) (hb : bs.length ≤ 1000000) :
    Calls Try.prog 70 #[.pointer (some ⟨gw, 0, none⟩), .int .u64 n, .int .i64 m] w fun e w' => e = .returned (.tuple #[]) ∧ wWrTo w w' gw v (bs ++ lEnc m n) := by
  go_enter Try.func70, Try.ntmps70
  go_wp2
  go_loopw [6, 8] (fun _ i wr => ∃ (k : Nat) (bs1 : List Nat), k ≤ m ∧ i = .int .i64 k ∧ bs1.length ≤ 1000000 + k ∧ bs1 ++ lEnc (m - k) (n / 256 ^ k) = bs ++ lEnc m n ∧ wWrTo w wr gw v bs1) (fun _ i _ => m - (intOf i).toNat)
  case atStart => exact ⟨0, bs, by omega, rfl, by omega, by simp, wWrTo.self h⟩
  case round =>
    obtain ⟨k, bs1, hk, rfl, hl, he, hw⟩ := hrel
    obtain ⟨v1, hw1, hfr, hmv⟩ := hw
    have c0 := hw1.c0
    have f0 := hw1.f0
    have own := hw1.2.1
    have HE := Lib.hid he; clear he
    have HR : Hid (Room (bs1.length + 1)) := Lib.hid (Room.mk (by omega))
    have HL := Lib.hid hl; clear hl
    clear hb
    by_cases hlt : (k : Int) < (m : Int)
    · have hw8 : IntKind.i64.wrap (8 * (k : Int)) = 8 * k := IntWalk.i64_in _ (by omega)
      have hp8 : 0 ≤ 8 * (k : Int) := by omega
      have hgw : gw < wr.heap.size := (Array.getElem?_eq_some_iff.1 hw1.1).1
      go_wp2
      go_region_law (refine app_step el5 (.tmp 15) (.tmp 21) rfl own rfl rfl rfl rfl rfl one8 HR.out ?_; intro g cap w1 hown hgrow hat hlt1; obtain ⟨c1, f1⟩ := hw1.cell1 hgrow; rw [byteAt] at hown; have W := hw1.app _ hown hgrow hat; clear hown hgrow hat hlt1)
      all_goals
        go_wp2
        go_roundw
        case rel =>
          refine ⟨k + 1, bs1 ++ [n / 256 ^ k % 256], by omega, by go_num, ?_, ?_, wWrTo.trans hfr hmv W⟩
          · have := HL.out; simp; omega
          · rw [← HE.out]
            obtain ⟨j, hj⟩ : ∃ j, m - k = j + 1 := ⟨m - k - 1, by omega⟩
            rw [hj, lEnc, show m - (k + 1) = j by omega, Nat.pow_succ, Nat.div_div_eq_div_mul]
            simp
        case measure => simp [intOf]; omega
    · have e0 : m - k = 0 := by omega
      have HF : bs1 = bs ++ lEnc m n := by rw [← HE.out, e0, lEnc, List.append_nil]
      have HF' := Lib.hid HF; clear HF e0
      go_wp2
      go_end0
      exact ⟨rfl, by rw [← HF'.out]; exact ⟨v1, hw1, hfr, hmv⟩⟩
theorem whigh_any (gw m n : Nat) (v : Value) (bs : List Nat) (w : World) (h : wWrAt w gw v bs) (hn : n < 18446744073709551616) (hm : m = 2 ∨ m = 4 ∨ m = 8) (hb : bs.length ≤ 1000000) :
    Calls Try.prog 72 #[.pointer (some ⟨gw, 0, none⟩), .int .u64 n, .int .i64 m] w fun e w' => e = .returned (.tuple #[]) ∧ wWrTo w w' gw v (bs ++ (lEnc m n).reverse) := by
  obtain ⟨ht, hl⟩ := turn_enc n m hn hm
  have hm8 : m ≤ 8 := by omega
  have HT := Lib.hid ht
  have HN := Lib.hid hn
  have HB := Lib.hid hb
  clear ht hl hm hn hb
  go_enter Try.func72, Try.ntmps72
  go_wp2_with (first | (go_at_call 82; refine (turned_any n m _ HN.out hm8).mono ?_; rintro e w' ⟨rfl, rfl⟩) | (go_at_call 70; refine (wlow_any gw m _ v bs _ h hm8 HB.out).mono ?_; rintro e w' ⟨rfl, hw⟩))
  go_end0
  exact ⟨rfl, by rw [← HT.out]; exact hw⟩
theorem signed_any (gw m n : Nat) (v : Value) (bs : List Nat) (w : World) (h : wWrAt w gw v bs) (hn : n < 18446744073709551616) (hm : 1 ≤ m) (hm2 : m ≤ 10) (hb : bs.length ≤ 1000000) :
    Calls Try.prog 76 #[.pointer (some ⟨gw, 0, none⟩), .int .u64 n, .int .i64 m] w fun e w' => e = .returned (.tuple #[]) ∧ wWrTo w w' gw v (bs ++ vEnc (m - 1) (zz n)) := by
  have HM := Lib.hid (meant_wrap n (by omega) (by omega))
  have HZ := Lib.hid (zz_eq n hn)
  have B := Lib.hid (meant_bd n (by omega) (by omega))
  have HB := Lib.hid hb
  clear hn hb
  go_enter Try.func76, Try.ntmps76
  go_wp2_with (first | (go_at_call 84; rw [HM.out]; refine (sign_any _ _ B.out.1 B.out.2).mono ?_; rw [HZ.out]; rintro e w' ⟨rfl, rfl⟩) | (go_at_call 74; refine (few_any gw m _ v bs _ h hm hm2 HB.out).mono ?_; rintro e w' ⟨rfl, hw⟩))
  go_end0
  exact ⟨rfl, hw⟩
end Go.Proofs.Ytmieeoceckcnkaa
namespace Go.Proofs.Ytmieeoceckcnkaa
open Go.RowKit
structure wRdIs (w : World) (g : Nat) (p : Option Addr) (c : Nat) (l : List Nat) (at_ : Nat) : Prop where
  blk : w.heap[g]? = some (.cells #[.slice p l.length c, .int .i64 at_] 71 (0, 0))
  sl : SlI w .u8 p l
  off : l ≠ [] → Off (· = g) p
  le : at_ ≤ l.length
  bd : ∀ x ∈ l, x < 256
structure wRdTo (w w' : World) (g : Nat) (p : Option Addr) (c : Nat) (l : List Nat) (at_ : Nat) : Prop where
  is : wRdIs w' g p c l at_
  fr : Fr (· = g) w w'
theorem wRdIs.c0 {w : World} {g : Nat} {p : Option Addr} {c : Nat} {l : List Nat} {at_ : Nat} (h : wRdIs w g p c l at_) : w.cell? ⟨g, 0, none⟩ = some (.slice p l.length c) := by
  simp [World.cell?, h.blk]
theorem wRdIs.c1 {w : World} {g : Nat} {p : Option Addr} {c : Nat} {l : List Nat} {at_ : Nat} (h : wRdIs w g p c l at_) : w.cell? ⟨g, 0 + 1, none⟩ = some (.int .i64 at_) := by
  simp [World.cell?, h.blk]
theorem wRdIs.f1 {w : World} {g : Nat} {p : Option Addr} {c : Nat} {l : List Nat} {at_ : Nat} (h : wRdIs w g p c l at_) : w.frozen? ⟨g, 1, none⟩ = false := by
  simp [World.frozen?, h.blk]
theorem wRdIs.fr {w w' : World} {g : Nat} {p : Option Addr} {c : Nat} {l : List Nat} {at_ : Nat} {S : Nat → Prop} (h : wRdIs w g p c l at_) (hf : Fr S w w') (hg : ¬ S g) (hp : l ≠ [] → Off S p) : wRdIs w' g p c l at_ :=
  ⟨hf.row h.blk hg, h.sl.fr hf hp, h.off, h.le, h.bd⟩
theorem wRdIs.drewN {w : World} {g : Nat} {p : Option Addr} {c : Nat} {l : List Nat} {at_ : Nat} (h : wRdIs w g p c l at_) (k : Nat) : wRdTo w (w.drewN k) g p c l at_ :=
  ⟨⟨h.blk, h.sl, h.off, h.le, h.bd⟩, Fr.drewN _ _ _⟩
theorem wRdIs.self {w : World} {g : Nat} {p : Option Addr} {c : Nat} {l : List Nat} {at_ : Nat} (h : wRdIs w g p c l at_) : wRdTo w w g p c l at_ := ⟨h, Fr.refl _ _⟩
theorem wRdIs.next {w : World} {g : Nat} {p : Option Addr} {c : Nat} {l : List Nat} {at_ : Nat} (h : wRdIs w g p c l at_) (hlt : at_ < l.length) (k : Nat) : wRdTo w ((w.drewN k).setCell ⟨g, 1, none⟩ (.int .i64 (at_ + 1))) g p c l (at_ + 1) := by
  have hf : Fr (· = g) w ((w.drewN k).setCell ⟨g, 1, none⟩ (.int .i64 (at_ + 1))) := (Fr.drewN (· = g) w k).trans (Fr.setCell (· = g) _ ⟨g, 1, none⟩ _ rfl) fun _ _ h => h
  refine ⟨⟨?_, h.sl.fr hf h.off, h.off, hlt, h.bd⟩, hf⟩
  rw [heap_setCell_same (w.drewN k) g 1 _ _ _ h.blk]; rfl
theorem wRdTo.trans {w w1 w2 : World} {g : Nat} {p : Option Addr} {c : Nat} {l : List Nat} {a b : Nat} (h : wRdTo w w1 g p c l a) (k : wRdTo w1 w2 g p c l b) : wRdTo w w2 g p c l b :=
  ⟨k.is, h.fr.trans k.fr fun _ _ h => h⟩
theorem wleft_any (g at_ c : Nat) (p : Option Addr) (l : List Nat) (w : World) (h : wRdIs w g p c l at_) :
    Calls Try.prog 40 #[.pointer (some ⟨g, 0, none⟩)] w fun e w' => e = .returned (.int .i64 (l.length - at_ : Int)) ∧ ∃ k, w' = w.drewN k := by
  have h0 := h.c0
  have h1 := h.c1
  have h4 := h.le
  have h5 := h.sl.1
  unfold maxLen at h5
  go_enter Try.func40, Try.ntmps40
  go_wp2
  go_quiet (fail)
  go_wp2
  go_ret
  exact ⟨rfl, _, rfl⟩
theorem step_no (g at_ c : Nat) (p : Option Addr) (l : List Nat) (w : World) (h : wRdIs w g p c l at_) (h4 : at_ = l.length) :
    Calls Try.prog 81 #[.pointer (some ⟨g, 0, none⟩)] w fun e w' => e = .returned (.tuple #[.int .u8 0, .bool false]) ∧ wRdTo w w' g p c l at_ := by
  subst h4
  go_enter Try.func81, Try.ntmps81
  go_wp2_with (go_at_call 40; refine (wleft_any g _ c p l _ h).mono ?_; rintro e w' ⟨rfl, k, rfl⟩)
  go_ret2
  exact ⟨rfl, h.drewN _⟩
theorem step_yes (g at_ c x : Nat) (p : Option Addr) (l : List Nat) (w : World) (h : wRdIs w g p c l at_) (h4 : at_ < l.length) (hx : l[at_] = x) :
    Calls Try.prog 81 #[.pointer (some ⟨g, 0, none⟩)] w fun e w' => e = .returned (.tuple #[.int .u8 x, .bool true]) ∧ wRdTo w w' g p c l (at_ + 1) := by
  obtain ⟨b, off, rfl, hc⟩ := h.sl.at at_ h4
  rw [hx] at hc
  have h0 := h.c0
  have h1 := h.c1
  have hf := h.f1
  have h5 := h.sl.1
  unfold maxLen at h5
  have ht : ((l.length : Int) - (at_ : Int) == 0) = false := by simp; omega
  have HX := Lib.hid hx
  clear hx
  go_enter Try.func81, Try.ntmps81
  go_wp2_with (go_at_call 40; refine (wleft_any g at_ c _ l _ h).mono ?_; rintro e w' ⟨rfl, k, rfl⟩)
  go_quiet (fail)
  go_wp2
  go_ret2
  exact ⟨rfl, h.next h4 _⟩
def RdPost (w w' : World) (g : Nat) (p : Option Addr) (c : Nat) (l : List Nat) (at_ : Nat) (e : Ending) : Except Nat (Nat × Nat) → Prop
  | .ok (n, k) => e = .returned (.tuple #[.int .u64 n, .int .i64 0]) ∧ n < 18446744073709551616 ∧ wRdTo w w' g p c l (at_ + k)
  | .error x => e = .returned (.tuple #[.int .u64 0, .int .i64 x]) ∧ (x = 20 ∨ x = 21) ∧ ∃ a, wRdTo w w' g p c l a
def lDec : List Nat → Nat
  | [] => 0
  | b :: r => b + 256 * lDec r
def fDec (m : Nat) (l : List Nat) : Except Nat (Nat × Nat) := if m ≤ l.length then .ok (lDec (l.take m), m) else .error 20
theorem lDec_snoc : ∀ (l : List Nat) (x : Nat), lDec (l ++ [x]) = lDec l + 256 ^ l.length * x
  | [], x => by simp [lDec]
  | b :: r, x => by rw [List.cons_append, lDec, lDec, lDec_snoc r x, List.length_cons, Nat.pow_succ, Nat.mul_add, ← Nat.add_assoc, ← Nat.mul_assoc, Nat.mul_comm (256 ^ r.length) 256]
theorem lDec_lt : ∀ (l : List Nat), (∀ x ∈ l, x < 256) → lDec l < 256 ^ l.length
  | [], _ => by simp [lDec]
  | b :: r, h => by
    have h1 := lDec_lt r fun x hx => h x (by simp [hx])
    have h2 := h b (by simp)
    rw [lDec, List.length_cons, Nat.pow_succ]; omega
theorem orAcc' (n x i : Nat) (hn : n < 2 ^ i) (hi : i ≤ 63) (h1 : 2 ^ i * x < 18446744073709551616) :
    bits .or .u64 (n : Int) ((2 ^ i * x : Nat) : Int) = ((n + 2 ^ i * x : Nat) : Int) := by
  have hp : 2 ^ i ≤ 2 ^ 63 := Nat.pow_le_pow_right (by decide) hi
  rw [show (2 : Nat) ^ 63 = 9223372036854775808 by decide] at hp
  rw [u64_or_nat _ _ (by omega) (by omega), Nat.or_comm, nat_join i _ _ (by simp) hn, Nat.add_comm]
theorem orAcc (n x i : Nat) (hn : n < 2 ^ i) (hx : x < 256) (hi : i ≤ 56) :
    bits .or .u64 (n : Int) (IntKind.u64.wrap ((x : Int) * 2 ^ i)) = ((n + 2 ^ i * x : Nat) : Int) := by
  have hp : 2 ^ i ≤ 2 ^ 56 := Nat.pow_le_pow_right (by decide) hi
  rw [show (2 : Nat) ^ 56 = 72057594037927936 by decide] at hp
  have h1 : 2 ^ i * x ≤ 72057594037927936 * 255 := Nat.mul_le_mul hp (by omega)
  rw [IntKind.wrap_u64, show ((x : Int) * 2 ^ i % 18446744073709551616) = ((2 ^ i * x : Nat) : Int) from by
    have : ((x : Int) * 2 ^ i) = ((2 ^ i * x : Nat) : Int) := by rw [Nat.mul_comm, Int.natCast_mul, Int.natCast_pow]; rfl
    rw [this]; omega]
  exact orAcc' n x i hn (by omega) (by omega)
theorem last9 (n x : Nat) (hn : n < 2 ^ 56) (hx : x < 256) : bits .or .u64 (n : Int) ((x : Int) * 72057594037927936) = ((n + 128 ^ 8 * x : Nat) : Int) ∧ n + 128 ^ 8 * x < 18446744073709551616 := by
  have e : (128 : Nat) ^ 8 = 72057594037927936 := by decide
  have e' : (2 : Nat) ^ 56 = 72057594037927936 := by decide
  have := orAcc' n x 56 hn (by decide) (by omega)
  rw [e'] at this hn
  rw [e, ← this, show (x : Int) * 72057594037927936 = ((72057594037927936 * x : Nat) : Int) by omega]
  exact ⟨rfl, by omega⟩
theorem last10 (n x : Nat) (hn : n < 2 ^ 63) (hx : x < 2) : bits .or .u64 (n : Int) (IntKind.u64.wrap ((x : Int) * 9223372036854775808)) = ((n + 128 ^ 9 * x : Nat) : Int) ∧ n + 128 ^ 9 * x < 18446744073709551616 := by
  have e : (128 : Nat) ^ 9 = 9223372036854775808 := by decide
  have e' : (2 : Nat) ^ 63 = 9223372036854775808 := by decide
  have := orAcc' n x 63 hn (by decide) (by omega)
  rw [e'] at this hn
  rw [e, ← this, IntKind.wrap_u64, show (x : Int) * 9223372036854775808 % 18446744073709551616 = ((9223372036854775808 * x : Nat) : Int) by omega]
  exact ⟨rfl, by omega⟩
theorem rdOk {w w' : World} {g : Nat} {p : Option Addr} {c : Nat} {l : List Nat} {at_ : Nat} {r : Except Nat (Nat × Nat)} (n k : Nat) {a b : Value} (ha : a = .int .u64 n) (hb : b = .int .i64 0)
    (hr : r = .ok (n, k)) (hn : n < 18446744073709551616) (h : wRdTo w w' g p c l (at_ + k)) : RdPost w w' g p c l at_ (.returned (.tuple #[a, b])) r := by
  subst ha hb hr; exact ⟨rfl, hn, h⟩
theorem rdErr {w w' : World} {g : Nat} {p : Option Addr} {c : Nat} {l : List Nat} {at_ : Nat} {r : Except Nat (Nat × Nat)} (x : Nat) {a b : Value} (ha : a = .int .u64 0) (hb : b = .int .i64 x)
    (hr : r = .error x) (hx : x = 20 ∨ x = 21) {k : Nat} (h : wRdTo w w' g p c l k) : RdPost w w' g p c l at_ (.returned (.tuple #[a, b])) r := by
  subst ha hb hr; exact ⟨rfl, hx, k, h⟩
theorem wRdIs.bytes {w : World} {g : Nat} {p : Option Addr} {c : Nat} {l : List Nat} {at_ : Nat} (h : wRdIs w g p c l at_) (i : Nat) (hi : i < l.length) : l[i] < 256 := h.bd _ (List.getElem_mem hi)
theorem take_succ_drop (l : List Nat) (a k : Nat) (h : a + k < l.length) : (l.drop a).take (k + 1) = (l.drop a).take k ++ [l[a + k]] := by
  rw [List.take_succ_eq_append_getElem (by simp; omega)]
  simp
theorem lDec_lt8 (l : List Nat) (h : ∀ x ∈ l, x < 256) (hl : l.length ≤ 8) : lDec l < 18446744073709551616 := by
  have h1 := lDec_lt l h
  have h2 : 256 ^ l.length ≤ 256 ^ 8 := Nat.pow_le_pow_right (by decide) hl
  have : 256 ^ 8 = 18446744073709551616 := by decide
  omega
theorem wfixed_any (g at_ c m : Nat) (p : Option Addr) (l : List Nat) (w : World) (h : wRdIs w g p c l at_) (hm : m ≤ 8) :
    Calls Try.prog 80 #[.int .i64 m, .func (.func 81) #[.pointer (some ⟨g, 0, none⟩)] #[]] w fun e w' => RdPost w w' g p c l at_ e (fDec m (l.drop at_)) := by
  go_enter Try.func80, Try.ntmps80
  go_wp2
  go_loopw [6, 7, 8, 9, 11] (fun n _ _ _ i wr => ∃ k : Nat, k ≤ m ∧ at_ + k ≤ l.length ∧ i = .int .i64 k ∧ n = .int .u64 (lDec ((l.drop at_).take k) : Nat) ∧ wRdTo w wr g p c l (at_ + k)) (fun _ _ _ _ i _ => m - (intOf i).toNat)
  case atStart => exact ⟨0, by omega, h.le, rfl, by simp [lDec], h.self⟩
  case round =>
    obtain ⟨k, hk, hle, rfl, rfl, hr⟩ := hrel
    have hr' := hr.is
    by_cases hlt : (k : Int) < (m : Int)
    · by_cases hend : at_ + k < l.length
      · have hk8 : k ≤ 7 := by omega
        have hx := hr'.bytes _ hend
        have HE : Hid (bits .or .u64 ((lDec ((l.drop at_).take k) : Nat) : Int) (IntKind.u64.wrap (((l[at_ + k] : Nat) : Int) * 2 ^ (8 * k))) = ((lDec ((l.drop at_).take (k + 1)) : Nat) : Int)) := Lib.hid (by
          have hl : ((l.drop at_).take k).length = k := by simp; omega
          have hlt : lDec ((l.drop at_).take k) < 2 ^ (8 * k) := by
            have := lDec_lt ((l.drop at_).take k) fun x hx => hr'.bd x (List.mem_of_mem_drop (List.mem_of_mem_take hx))
            rw [hl] at this
            rw [Nat.pow_mul]; exact this
          rw [orAcc _ _ _ hlt hx (by omega), take_succ_drop l at_ k hend, lDec_snoc, hl, Nat.pow_mul])
        go_wp2_with (go_at_call 81; refine (step_yes g _ c _ p l _ hr' hend rfl).mono ?_; rintro e w' ⟨rfl, hw⟩)
        go_roundw
        case rel => exact ⟨k + 1, by omega, by omega, by go_num, by rw [← HE.out], hr.trans hw⟩
        case measure => simp [intOf]; omega
      · go_wp2_with (go_at_call 81; refine (step_no g _ c p l _ hr' (by omega)).mono ?_; rintro e w' ⟨rfl, hw⟩)
        go_ret2
        exact rdErr 20 rfl rfl (by rw [fDec, if_neg (by simp; omega)]) (Or.inl rfl) (hr.trans hw)
    · obtain rfl : k = m := by omega
      go_wp2
      go_ret2
      refine rdOk _ k rfl rfl (by rw [fDec, if_pos (by simp; omega)]) (lDec_lt8 _ (fun x hx => hr'.bd x (List.mem_of_mem_drop (List.mem_of_mem_take hx))) (by simp; omega)) hr
def vDec (room : Nat) : Nat → Bool → List Nat → Except Nat (Nat × Nat)
  | _, _, [] => .error 20
  | 0, _, c :: _ => if c = 0 ∨ 2 ^ room ≤ c then .error 21 else .ok (c, 1)
  | f + 1, first, c :: r => if c = 0 ∧ first = false then .error 21 else if c < 128 then .ok (c, 1) else
    match vDec room f false r with
    | .ok (n, k) => .ok (c % 128 + 128 * n, k + 1)
    | .error x => .error x
def lastR (room x : Nat) : Except Nat (Nat × Nat) := if x = 0 ∨ 2 ^ room ≤ x then .error 21 else .ok (x, 1)
theorem lastR_err (room x : Nat) (h : x = 0 ∨ 2 ^ room ≤ x) : lastR room x = .error 21 := if_pos h
theorem lastR_ok (room x : Nat) (h0 : ¬ x = 0) (h1 : ¬ 2 ^ room ≤ x) : lastR room x = .ok (x, 1) := if_neg (by rintro (h | h); exact h0 h; exact h1 h)
def after (n k : Nat) : Except Nat (Nat × Nat) → Except Nat (Nat × Nat)
  | .ok (x, u) => .ok (n + 128 ^ k * x, k + u)
  | .error x => .error x
theorem after_step (n k x : Nat) (r : Except Nat (Nat × Nat)) :
    after n k (match r with | .ok (n, k) => .ok (x % 128 + 128 * n, k + 1) | .error x => .error x) = after (n + 128 ^ k * (x % 128)) (k + 1) r := by
  rcases r with e | ⟨y, u⟩
  · rfl
  · simp only [after, Except.ok.injEq, Prod.mk.injEq]
    refine ⟨?_, by omega⟩
    rw [Nat.mul_add, ← Nat.mul_assoc, Nat.pow_succ]; omega
theorem orAcc7 (n x k : Nat) (hn : n < 2 ^ (7 * k)) (hk : k ≤ 8) :
    bits .or .u64 (n : Int) (IntKind.u64.wrap ((x : Int) % 128 * 2 ^ (7 * k))) = ((n + 128 ^ k * (x % 128) : Nat) : Int) := by
  have := orAcc n (x % 128) (7 * k) hn (by omega) (by omega)
  rw [show (x : Int) % 128 = ((x % 128 : Nat) : Int) from rfl, this, Nat.pow_mul]
theorem acc_lt (n x k : Nat) (hn : n < 2 ^ (7 * k)) : n + 128 ^ k * (x % 128) < 2 ^ (7 * (k + 1)) := by
  have e : (2 : Nat) ^ (7 * (k + 1)) = 128 * 128 ^ k := by rw [Nat.pow_mul, Nat.pow_succ, Nat.mul_comm]
  rw [Nat.pow_mul] at hn
  have h1 : 128 ^ k * (x % 128) ≤ 128 ^ k * 127 := Nat.mul_le_mul_left _ (by omega)
  have hn' : n < 128 ^ k := hn
  rw [e]; omega
theorem pow64 (i : Nat) (h : i ≤ 64) : 2 ^ i ≤ 18446744073709551616 := by
  have hp : 2 ^ i ≤ 2 ^ 64 := Nat.pow_le_pow_right (by decide) h
  rwa [show (2 : Nat) ^ 64 = 18446744073709551616 by decide] at hp
theorem drop_at (l : List Nat) (a : Nat) (h : a < l.length) (x : Nat) (hx : l[a] = x) : l.drop a = x :: l.drop (a + 1) := by
  rw [← hx]; exact List.drop_eq_getElem_cons h
theorem shortest_any (g at_ c m : Nat) (p : Option Addr) (l : List Nat) (w : World) (h : wRdIs w g p c l at_) (hm : m = 9 ∨ m = 10) :
    Calls Try.prog 83 #[.int .i64 m, .func (.func 81) #[.pointer (some ⟨g, 0, none⟩)] #[]] w fun e w' => RdPost w w' g p c l at_ e (vDec (64 - 7 * (m - 1)) (m - 1) true (l.drop at_)) := by
  go_enter Try.func83, Try.ntmps83
  go_wp2
  go_loopw [6, 7, 8, 9, 15] (fun a _ _ _ i wr => ∃ k n : Nat, k ≤ m - 1 ∧ at_ + k ≤ l.length ∧ i = .int .i64 k ∧ a = .int .u64 n ∧ n < 2 ^ (7 * k) ∧ wRdTo w wr g p c l (at_ + k) ∧
      vDec (64 - 7 * (m - 1)) (m - 1) true (l.drop at_) = after n k (vDec (64 - 7 * (m - 1)) (m - 1 - k) (decide (k = 0)) (l.drop (at_ + k)))) (fun _ _ _ _ i _ => m - (intOf i).toNat)
  case atStart =>
    refine ⟨0, 0, by omega, h.le, rfl, rfl, by omega, h.self, ?_⟩
    show _ = after 0 0 (vDec (64 - 7 * (m - 1)) (m - 1) true (l.drop at_))
    generalize vDec (64 - 7 * (m - 1)) (m - 1) true (l.drop at_) = r
    rcases r with e | ⟨y, u⟩ <;> simp [after]
  case round =>
    obtain ⟨k, n, hk, hle, rfl, rfl, hn, hr, he⟩ := hrel
    have hr' := hr.is
    have HE := Lib.hid he; clear he
    have HN := Lib.hid hn; clear hn
    by_cases hend : at_ + k < l.length
    · have hx := hr'.bytes _ hend
      obtain ⟨x, hX⟩ : ∃ x, l[at_ + k] = x := ⟨_, rfl⟩
      have HX := Lib.hid hX
      have HD := Lib.hid (drop_at l _ hend x hX)
      rw [hX] at hx
      clear hX
      by_cases hlt : (k : Int) < (m : Int) - 1
      · have hk8 : k ≤ 8 := by omega
        have HM : Hid (∃ j, m - 1 - k = j + 1) := Lib.hid ⟨m - 1 - k - 1, by omega⟩
        have hand : bits .and .u8 (x : Int) 127 = (x : Int) % 128 := by
          have := u8_and_nat x 127 hx (by decide)
          rw [show (127 : Int) = ((127 : Nat) : Int) from rfl, this, show (127 : Nat) = 2 ^ 7 - 1 from rfl, Nat.and_two_pow_sub_one_eq_mod]
          rfl
        have HB := Lib.hid (orAcc7 n x k HN.out hk8)
        have HL := Lib.hid (acc_lt n x k HN.out)
        have hp64 : Hid (2 ^ (7 * (k + 1)) ≤ 18446744073709551616) := Lib.hid (pow64 _ (by omega))
        clear hm
        by_cases h128 : (x : Int) < 128
        · by_cases hz : x = 0 ∧ 0 < k
          · have h0 : ((x : Int) == 0) = true := by rw [hz.1]; rfl
            have h0k := hz.2
            have HE' : Hid (vDec (64 - 7 * (m - 1)) (m - 1) true (l.drop at_) = .error 21) := Lib.hid (by
              obtain ⟨j, hj⟩ := HM.out
              rw [HE.out, HD.out, hj, vDec, if_pos ⟨hz.1, by simp; omega⟩]; rfl)
            clear hz
            go_wp2_with (go_at_call 81; refine (step_yes g _ c x p l _ hr' hend HX.out).mono ?_; rintro e w' ⟨rfl, hw⟩)
            go_ret2
            exact rdErr 21 rfl rfl HE'.out (Or.inr rfl) (hr.trans hw)
          · have HE' : Hid (vDec (64 - 7 * (m - 1)) (m - 1) true (l.drop at_) = .ok (n + 128 ^ k * (x % 128), k + 1)) := Lib.hid (by
              obtain ⟨j, hj⟩ := HM.out
              rw [HE.out, HD.out, hj, vDec, if_neg (by simp; omega), if_pos (by omega), after, show x % 128 = x by omega])
            by_cases h0 : x = 0
            · have hb : ((x : Int) == 0) = true := by rw [h0]; rfl
              have hk0 : decide (0 < k) = false := by simp; omega
              clear hz h0
              go_wp2_with (go_at_call 81; refine (step_yes g _ c x p l _ hr' hend HX.out).mono ?_; rintro e w' ⟨rfl, hw⟩)
              go_ret2
              exact rdOk (n + 128 ^ k * (x % 128)) (k + 1) (by rw [← HB.out]; rfl) rfl HE'.out (Nat.lt_of_lt_of_le HL.out hp64.out) (hr.trans hw)
            · have hb : ((x : Int) == 0) = false := by simp; omega
              clear hz h0
              go_wp2_with (go_at_call 81; refine (step_yes g _ c x p l _ hr' hend HX.out).mono ?_; rintro e w' ⟨rfl, hw⟩)
              go_ret2
              exact rdOk (n + 128 ^ k * (x % 128)) (k + 1) (by rw [← HB.out]; rfl) rfl HE'.out (Nat.lt_of_lt_of_le HL.out hp64.out) (hr.trans hw)
        · have hb : ((x : Int) == 0) = false := by simp; omega
          go_wp2_with (go_at_call 81; refine (step_yes g _ c x p l _ hr' hend HX.out).mono ?_; rintro e w' ⟨rfl, hw⟩)
          go_roundw
          case rel =>
            refine ⟨k + 1, n + 128 ^ k * (x % 128), by omega, by omega, by go_num, by rw [← HB.out], HL.out, hr.trans hw, ?_⟩
            obtain ⟨j, hj⟩ := HM.out
            rw [HE.out, HD.out, hj, vDec, if_neg (by omega), if_neg (by omega), after_step, show m - 1 - (k + 1) = j by omega]
            rfl
          case measure => simp [intOf]; omega
      · obtain rfl : k = m - 1 := by omega
        rcases hm with rfl | rfl
        · have HE' : Hid (vDec (64 - 7 * (9 - 1)) (9 - 1) true (l.drop at_) = after n (9 - 1) (lastR 8 x)) := Lib.hid (by rw [HE.out, HD.out]; rfl)
          have hn64 : Hid (n < 2 ^ 56) := Lib.hid HN.out
          clear HE HD HN
          by_cases h0 : x = 0
          · have hb : ((x : Int) == 0) = true := by rw [h0]; rfl
            have HF := Lib.hid (lastR_err 8 x (Or.inl h0))
            clear h0
            go_wp2_with (go_at_call 81; refine (step_yes g _ c x p l _ hr' hend HX.out).mono ?_; rintro e w' ⟨rfl, hw⟩)
            go_ret2
            exact rdErr 21 rfl rfl (by rw [HE'.out, HF.out]; rfl) (Or.inr rfl) (hr.trans hw)
          · have hb : ((x : Int) == 0) = false := by simp; omega
            by_cases h1 : 2 ^ 8 ≤ x
            · have hq : ((x : Int) / 256 != 0) = true := by rw [bne_iff_ne]; omega
              have HF := Lib.hid (lastR_err 8 x (Or.inr h1))
              clear h0 h1
              go_wp2_with (go_at_call 81; refine (step_yes g _ c x p l _ hr' hend HX.out).mono ?_; rintro e w' ⟨rfl, hw⟩)
              go_ret2
              exact rdErr 21 rfl rfl (by rw [HE'.out, HF.out]; rfl) (Or.inr rfl) (hr.trans hw)
            · have hq : ((x : Int) / 256 != 0) = false := by simp; omega
              have HF := Lib.hid (lastR_ok 8 x h0 h1)
              have HB := Lib.hid (last9 n x hn64.out (by omega))
              clear h0 h1
              go_wp2_with (go_at_call 81; refine (step_yes g _ c x p l _ hr' hend HX.out).mono ?_; rintro e w' ⟨rfl, hw⟩)
              go_ret2
              exact rdOk (n + 128 ^ 8 * x) 9 (by rw [← HB.out.1]; rfl) rfl (by rw [HE'.out, HF.out]; rfl) HB.out.2 (hr.trans hw)
        · have HE' : Hid (vDec (64 - 7 * (10 - 1)) (10 - 1) true (l.drop at_) = after n (10 - 1) (lastR 1 x)) := Lib.hid (by rw [HE.out, HD.out]; rfl)
          have hn64 : Hid (n < 2 ^ 63) := Lib.hid HN.out
          clear HE HD HN
          by_cases h0 : x = 0
          · have hb : ((x : Int) == 0) = true := by rw [h0]; rfl
            have HF := Lib.hid (lastR_err 1 x (Or.inl h0))
            clear h0
            go_wp2_with (go_at_call 81; refine (step_yes g _ c x p l _ hr' hend HX.out).mono ?_; rintro e w' ⟨rfl, hw⟩)
            go_ret2
            exact rdErr 21 rfl rfl (by rw [HE'.out, HF.out]; rfl) (Or.inr rfl) (hr.trans hw)
          · have hb : ((x : Int) == 0) = false := by simp; omega
            by_cases h1 : 2 ^ 1 ≤ x
            · have hq : ((x : Int) / 2 != 0) = true := by rw [bne_iff_ne]; omega
              have HF := Lib.hid (lastR_err 1 x (Or.inr h1))
              clear h0 h1
              go_wp2_with (go_at_call 81; refine (step_yes g _ c x p l _ hr' hend HX.out).mono ?_; rintro e w' ⟨rfl, hw⟩)
              go_ret2
              exact rdErr 21 rfl rfl (by rw [HE'.out, HF.out]; rfl) (Or.inr rfl) (hr.trans hw)
            · have hq : ((x : Int) / 2 != 0) = false := by simp; omega
              have HF := Lib.hid (lastR_ok 1 x h0 h1)
              have HB := Lib.hid (last10 n x hn64.out (by omega))
              clear h0 h1
              go_wp2_with (go_at_call 81; refine (step_yes g _ c x p l _ hr' hend HX.out).mono ?_; rintro e w' ⟨rfl, hw⟩)
              go_ret2
              exact rdOk (n + 128 ^ 9 * x) 10 (by rw [← HB.out.1]; rfl) rfl (by rw [HE'.out, HF.out]; rfl) HB.out.2 (hr.trans hw)
    · by_cases hlt : (k : Int) < (m : Int) - 1
      all_goals
        go_wp2_with (go_at_call 81; refine (step_no g _ c p l _ hr' (by omega)).mono ?_; rintro e w' ⟨rfl, hw⟩)
        go_ret2
        refine rdErr 20 rfl rfl ?_ (Or.inl rfl) (hr.trans hw)
        rw [HE.out, List.drop_eq_nil_of_le (by omega)]
        cases m - 1 - k <;> rfl
end Go.Proofs.Ytmieeoceckcnkaa
namespace Go.Proofs.Ytmieeoceckcnkaa
open Go.RowKit
def rmap (f : Nat → Nat) : Except Nat (Nat × Nat) → Except Nat (Nat × Nat)
  | .ok (n, k) => .ok (f n, k)
  | .error x => .error x
theorem rdAny {w w' : World} {g : Nat} {p : Option Addr} {c : Nat} {l : List Nat} {at_ : Nat} {e : Ending} {r : Except Nat (Nat × Nat)} (h : RdPost w w' g p c l at_ e r) :
    ∃ (n x a : Nat), e = .returned (.tuple #[.int .u64 n, .int .i64 x]) ∧ n < 18446744073709551616 ∧ wRdTo w w' g p c l a ∧
      ((x = 0 ∧ ∃ k, r = .ok (n, k) ∧ a = at_ + k) ∨ ((x = 20 ∨ x = 21) ∧ n = 0 ∧ r = .error x)) := by
  rcases r with x | ⟨n, k⟩
  · obtain ⟨he, hx, a, ha⟩ := h
    exact ⟨0, x, a, he, by decide, ha, Or.inr ⟨hx, rfl, rfl⟩⟩
  · obtain ⟨he, hn, ha⟩ := h
    exact ⟨n, 0, _, he, hn, ha, Or.inl ⟨rfl, k, rfl, rfl⟩⟩
theorem rdMade {w w' : World} {g : Nat} {p : Option Addr} {c : Nat} {l : List Nat} {at_ : Nat} {r : Except Nat (Nat × Nat)} {n x a : Nat} (f : Nat → Nat) (h0 : f 0 = 0) (hf : f n < 18446744073709551616) (ht : wRdTo w w' g p c l a)
    (h : (x = 0 ∧ ∃ k, r = .ok (n, k) ∧ a = at_ + k) ∨ ((x = 20 ∨ x = 21) ∧ n = 0 ∧ r = .error x)) {u v : Value} (hu : u = .int .u64 (f n : Nat)) (hv : v = .int .i64 x) :
    RdPost w w' g p c l at_ (.returned (.tuple #[u, v])) (rmap f r) := by
  subst hu hv
  rcases h with ⟨rfl, k, rfl, rfl⟩ | ⟨hx, rfl, rfl⟩
  · exact ⟨rfl, hf, ht⟩
  · exact ⟨by rw [h0]; rfl, hx, a, ht⟩
theorem rlow_any (g at_ c m : Nat) (p : Option Addr) (l : List Nat) (w : World) (h : wRdIs w g p c l at_) (hm : m ≤ 8) :
    Calls Try.prog 71 #[.pointer (some ⟨g, 0, none⟩), .int .i64 m] w fun e w' => RdPost w w' g p c l at_ e (fDec m (l.drop at_)) := by
  go_enter Try.func71, Try.ntmps71
  go_wp2_with fail
  refine (wfixed_any g at_ c m p l _ h hm).mono ?_
  intro e w' hp
  obtain ⟨n, x, a, rfl, hn, ht, hr⟩ := rdAny hp
  have HN := Lib.hid hn
  have HR := Lib.hid hr
  clear hp hn hr
  go_wp2
  go_ret2
  have := rdMade (fun n => n) rfl HN.out ht HR.out (u := .int .u64 n) (v := .int .i64 x) rfl rfl
  have e : ∀ r, rmap (fun n => n) r = r := by rintro (x | ⟨n, k⟩) <;> rfl
  rw [e] at this
  exact this
theorem turn0 (m : Nat) : wturn 0 m = 0 := by
  have : (rev3 (rev2 (rev1 ((0 : Nat) : Int)))).toNat = 0 := by decide +kernel
  unfold wturn
  rw [this, Nat.zero_div]
theorem rhigh_any (g at_ c m : Nat) (p : Option Addr) (l : List Nat) (w : World) (h : wRdIs w g p c l at_) (hm : m = 2 ∨ m = 4 ∨ m = 8) :
    Calls Try.prog 73 #[.pointer (some ⟨g, 0, none⟩), .int .i64 m] w fun e w' => RdPost w w' g p c l at_ e (rmap (fun n => wturn n m) (fDec m (l.drop at_))) := by
  have hm8 : m ≤ 8 := by omega
  have HM := Lib.hid hm
  clear hm
  go_enter Try.func73, Try.ntmps73
  go_wp2_with fail
  refine (wfixed_any g at_ c m p l _ h hm8).mono ?_
  intro e w' hp
  obtain ⟨n, x, a, rfl, hn, ht, hr⟩ := rdAny hp
  have HN := Lib.hid hn
  have HR := Lib.hid hr
  clear hp hn hr
  go_wp2_with fail
  refine (turned_any n m _ HN.out hm8).mono ?_
  rintro e w' ⟨rfl, rfl⟩
  go_wp2
  go_ret2
  exact rdMade (fun n => wturn n m) (turn0 m) (turn_enc n m HN.out HM.out).2 ht HR.out rfl rfl
theorem rfew_any (g at_ c m : Nat) (p : Option Addr) (l : List Nat) (w : World) (h : wRdIs w g p c l at_) (hm : m = 9 ∨ m = 10) :
    Calls Try.prog 75 #[.pointer (some ⟨g, 0, none⟩), .int .i64 m] w fun e w' => RdPost w w' g p c l at_ e (vDec (64 - 7 * (m - 1)) (m - 1) true (l.drop at_)) := by
  have HM := Lib.hid hm
  clear hm
  go_enter Try.func75, Try.ntmps75
  go_wp2_with fail
  refine (shortest_any g at_ c m p l _ h HM.out).mono ?_
  intro e w' hp
  obtain ⟨n, x, a, rfl, hn, ht, hr⟩ := rdAny hp
  have HN := Lib.hid hn
  have HR := Lib.hid hr
  clear hp hn hr
  go_wp2
  go_ret2
  have := rdMade (fun n => n) rfl HN.out ht HR.out (u := .int .u64 n) (v := .int .i64 x) rfl rfl
  have e : ∀ r, rmap (fun n => n) r = r := by rintro (x | ⟨n, k⟩) <;> rfl
  rw [e] at this
  exact this
theorem rsigned_any (g at_ c m : Nat) (p : Option Addr) (l : List Nat) (w : World) (h : wRdIs w g p c l at_) (hm : m = 9 ∨ m = 10) :
    Calls Try.prog 77 #[.pointer (some ⟨g, 0, none⟩), .int .i64 m] w fun e w' => RdPost w w' g p c l at_ e (rmap unzz (vDec (64 - 7 * (m - 1)) (m - 1) true (l.drop at_))) := by
  have HM := Lib.hid hm
  clear hm
  go_enter Try.func77, Try.ntmps77
  go_wp2_with fail
  refine (shortest_any g at_ c m p l _ h HM.out).mono ?_
  intro e w' hp
  obtain ⟨n, x, a, rfl, hn, ht, hr⟩ := rdAny hp
  have HN := Lib.hid hn
  have HR := Lib.hid hr
  have HZ : Hid (IntKind.u64.wrap (uns n) = (unzz n : Nat)) := Lib.hid (by rw [IntKind.wrap_u64]; exact unzz_eq n)
  clear hp hn hr
  go_wp2_with fail
  refine (unsign_any n _ (by omega) (by have := HN.out; omega)).mono ?_
  rintro e w' ⟨rfl, rfl⟩
  go_wp2
  go_ret2
  exact rdMade unzz (by decide) (unzz_lt n) ht HR.out (by rw [← HZ.out]; rfl) rfl
end Go.Proofs.Ytmieeoceckcnkaa
namespace Go.Proofs.Ytmieeoceckcnkaa
open Go.RowKit
def formRows : List (Nat × Nat × Nat × Nat) := [(98, 1, 70, 71), (104, 2, 70, 71), (72, 2, 72, 73), (119, 4, 70, 71), (87, 4, 72, 73), (113, 8, 70, 71), (81, 8, 72, 73), (118, 10, 74, 75), (122, 10, 76, 77), (110, 9, 76, 77)]
def fRow (k : Nat) : Nat × Nat × Nat × Nat := formRows.getD k (0, 0, 0, 0)
def fCells (r : Nat × Nat × Nat × Nat) : Array Value := #[.int .u8 r.1, .int .i64 r.2.1, .func (.func r.2.2.1) #[] #[], .func (.func r.2.2.2) #[] #[]]
def formsCells : Array Value := (formRows.flatMap fun r => (fCells r).toList).toArray
def zeroCells : Array Value := #[.int .u8 0, .int .i64 0, .nilFunc, .nilFunc]
theorem forms_any (w : World) :
    Calls Try.prog 66 #[] w fun e w' => e = .returned (.agg formsCells) ∧ Fr S0 w w' := by
  go_enter Try.func66, Try.ntmps66
  iterate 44 go_step
  iterate 3 (first | (refine store_new 113 (.tmp 0) (.tmp 11) rfl rfl rfl rfl (by as_aux_lemma => kernel_rfl) (by as_aux_lemma => kernel_rfl) (by as_aux_lemma => kernel_rfl) ?_) | go_step)
  iterate 3 go_step
  refine bodyPost_ret (v := .agg formsCells) ?_ rfl ⟨rfl, Fr.alloc _ _ _⟩
  exact results_cell_row (ty := 113) Try.results66 _ _ w.heap.size 113 _ (0, 0) _ rfl (heap_alloc_new w _) Try.underlying113 rfl (by as_aux_lemma => kernel_rfl)
theorem fidx0 (w : World) : (Instr.index 113 (.agg formsCells) (.int .i64 (((0 : Nat)) : Int))).run Try.prog w = .ok (.agg (fCells (fRow 0))) w := by kernel_rfl
theorem fidx1 (w : World) : (Instr.index 113 (.agg formsCells) (.int .i64 (((1 : Nat)) : Int))).run Try.prog w = .ok (.agg (fCells (fRow 1))) w := by kernel_rfl
theorem fidx2 (w : World) : (Instr.index 113 (.agg formsCells) (.int .i64 (((2 : Nat)) : Int))).run Try.prog w = .ok (.agg (fCells (fRow 2))) w := by kernel_rfl
theorem fidx3 (w : World) : (Instr.index 113 (.agg formsCells) (.int .i64 (((3 : Nat)) : Int))).run Try.prog w = .ok (.agg (fCells (fRow 3))) w := by kernel_rfl
theorem fidx4 (w : World) : (Instr.index 113 (.agg formsCells) (.int .i64 (((4 : Nat)) : Int))).run Try.prog w = .ok (.agg (fCells (fRow 4))) w := by kernel_rfl
theorem fidx5 (w : World) : (Instr.index 113 (.agg formsCells) (.int .i64 (((5 : Nat)) : Int))).run Try.prog w = .ok (.agg (fCells (fRow 5))) w := by kernel_rfl
theorem fidx6 (w : World) : (Instr.index 113 (.agg formsCells) (.int .i64 (((6 : Nat)) : Int))).run Try.prog w = .ok (.agg (fCells (fRow 6))) w := by kernel_rfl
theorem fidx7 (w : World) : (Instr.index 113 (.agg formsCells) (.int .i64 (((7 : Nat)) : Int))).run Try.prog w = .ok (.agg (fCells (fRow 7))) w := by kernel_rfl
theorem fidx8 (w : World) : (Instr.index 113 (.agg formsCells) (.int .i64 (((8 : Nat)) : Int))).run Try.prog w = .ok (.agg (fCells (fRow 8))) w := by kernel_rfl
theorem fidx9 (w : World) : (Instr.index 113 (.agg formsCells) (.int .i64 (((9 : Nat)) : Int))).run Try.prog w = .ok (.agg (fCells (fRow 9))) w := by kernel_rfl
theorem forms_index (k : Nat) (hk : k < 10) (w : World) : (Instr.index 113 (.agg formsCells) (.int .i64 (k : Int))).run Try.prog w = .ok (.agg (fCells (fRow k))) w := by
  match k, hk with
  | 0, _ => exact fidx0 w
  | 1, _ => exact fidx1 w
  | 2, _ => exact fidx2 w
  | 3, _ => exact fidx3 w
  | 4, _ => exact fidx4 w
  | 5, _ => exact fidx5 w
  | 6, _ => exact fidx6 w
  | 7, _ => exact fidx7 w
  | 8, _ => exact fidx8 w
  | 9, _ => exact fidx9 w
def fIdx (c : Nat) : Option Nat := formRows.findIdx? fun r => r.1 == c
theorem letters_apart (k j : Nat) (hk : k < 10) (hj : j < k) : (fRow j).1 ≠ (fRow k).1 := by
  have : ∀ k : Fin 10, ∀ j : Fin 10, j.1 < k.1 → (fRow j.1).1 ≠ (fRow k.1).1 := by decide
  exact this ⟨k, hk⟩ ⟨j, by omega⟩ hj
theorem info_form : (Try.prog.info? 99).map (fun i => (i.zero, i.size, i.bytes)) = some (some (.agg zeroCells), 4, 32) := by kernel_rfl
end Go.Proofs.Ytmieeoceckcnkaa
namespace Go.Proofs.Ytmieeoceckcnkaa
open Go.RowKit
theorem forms_index' (k : Nat) (hk : k < 10) (w : World) : (Instr.index 113 (.agg formsCells) (.int .i64 (k : Int))).run Try.prog w =
    .ok (.agg #[.int .u8 ((fRow k).1 : Nat), .int .i64 ((fRow k).2.1 : Nat), .func (.func (fRow k).2.2.1) #[] #[], .func (.func (fRow k).2.2.2) #[] #[]]) w := forms_index k hk w
theorem oneForm (a b : Int) (p q : FuncId) : (#[Value.int .u8 a, .int .i64 b, .func (.func p) #[] #[], .func (.func q) #[] #[]]).all (·.oneCell') = true := by simp [Value.oneCell']
theorem oneZero : (#[Value.int .u8 0, .int .i64 0, .nilFunc, .nilFunc]).all (·.oneCell') = true := by simp [Value.oneCell']
theorem szForm : (Try.prog.info? 99).map (·.size) = some 4 := by kernel_rfl
theorem formOf_yes (k c : Nat) (hk : k < 10) (hc : (fRow k).1 = c) (w : World) :
    Calls Try.prog 59 #[.int .u8 (c : Nat)] w fun e w' => e = .returned (.tuple #[.agg (fCells (fRow k)), .bool true]) ∧ Fr S0 w w' := by
  have HC := Lib.hid hc
  clear hc
  go_enter Try.func59, Try.ntmps59
  go_wp2_with (go_at_call 66; refine (forms_any _).mono ?_; rintro e w' ⟨rfl, hf⟩)
  go_loopw [5, 7] (fun _ i wr => ∃ j : Nat, j ≤ k ∧ i = .int .i64 j ∧ wr.heap[w.heap.size]? = some (.cells zeroCells 99 (0, 0)) ∧ Fr S0 w wr) (fun _ i _ => 10 - (intOf i).toNat)
  case atStart => exact ⟨0, by omega, rfl, hf.row (heap_alloc_new w _) (fun h => h), (Fr.alloc S0 w _).trans0 hf⟩
  case round =>
    obtain ⟨j, hj, rfl, hz, hfr⟩ := hrel
    have hj10 : (j : Int) < 10 := by omega
    have hidx := forms_index' j (by omega)
    by_cases hjk : j = k
    · subst hjk
      have ht : (((fRow j).1 : Int) == (c : Int)) = true := by rw [HC.out]; simp
      have hz' := (Fr.alloc S0 wr (.cells (fCells (fRow j)) 99)).row hz (fun h => h)
      go_wp2_with ((with_reducible show wpList _ _ _ (Oper.mk _ (.store _ (.tmp 2) (.tmp 14)) _ _ _ _ :: _) _ _); refine store_at 99 (.tmp 2) (.tmp 14) rfl rfl rfl rfl hz' szForm rfl (oneForm _ _ _ _) ?_)
      intro w2 hb hfr2
      go_wp2
      refine bodyPost_ret (results_row_tmp Try.results59 _ _ rfl hb Try.underlying99 rfl szForm rfl) rfl ⟨rfl, ?_⟩
      exact (hfr.trans0 (Fr.alloc S0 wr _)).trans hfr2 (fun k hk e => by subst e; omega)
    · have hlt : j < k := by omega
      have ht : (((fRow j).1 : Int) == (c : Int)) = false := by
        have := letters_apart k j hk hlt
        rw [HC.out] at this
        simp; omega
      go_wp2
      go_roundw
      case rel => exact ⟨j + 1, by omega, by go_num, (Fr.alloc S0 wr _).row hz (fun h => h), hfr.trans0 (Fr.alloc S0 wr _)⟩
      case measure => simp [intOf]; omega
theorem formOf_no (c : Nat) (hc : ∀ k, k < 10 → (fRow k).1 ≠ c) (w : World) :
    Calls Try.prog 59 #[.int .u8 (c : Nat)] w fun e w' => e = .returned (.tuple #[.agg zeroCells, .bool false]) ∧ Fr S0 w w' := by
  have HC := Lib.hid hc
  clear hc
  go_enter Try.func59, Try.ntmps59
  go_wp2_with (go_at_call 66; refine (forms_any _).mono ?_; rintro e w' ⟨rfl, hf⟩)
  go_loopw [5, 7] (fun _ i wr => ∃ j : Nat, j ≤ 10 ∧ i = .int .i64 j ∧ wr.heap[w.heap.size]? = some (.cells zeroCells 99 (0, 0)) ∧ Fr S0 w wr) (fun _ i _ => 10 - (intOf i).toNat)
  case atStart => exact ⟨0, by omega, rfl, hf.row (heap_alloc_new w _) (fun h => h), (Fr.alloc S0 w _).trans0 hf⟩
  case round =>
    obtain ⟨j, hj, rfl, hz, hfr⟩ := hrel
    by_cases hj10 : (j : Int) < 10
    · have hidx := forms_index' j (by omega)
      have ht : (((fRow j).1 : Int) == (c : Int)) = false := by
        have := HC.out j (by omega)
        simp; omega
      go_wp2
      go_roundw
      case rel => exact ⟨j + 1, by omega, by go_num, (Fr.alloc S0 wr _).row hz (fun h => h), hfr.trans0 (Fr.alloc S0 wr _)⟩
      case measure => simp [intOf]; omega
    · go_wp2_with ((with_reducible show wpList _ _ _ (Oper.mk _ (.store _ (.tmp 2) (.tmp 16)) _ _ _ _ :: _) _ _); refine store_at 99 (.tmp 2) (.tmp 16) rfl rfl rfl rfl hz szForm rfl oneZero ?_)
      intro w2 hb hfr2
      go_wp2
      refine bodyPost_ret (results_row_tmp Try.results59 _ _ rfl hb Try.underlying99 rfl szForm rfl) rfl ⟨rfl, ?_⟩
      exact hfr.trans hfr2 (fun k hk e => by subst e; omega)
end Go.Proofs.Ytmieeoceckcnkaa
namespace Go.Proofs.Ytmieeoceckcnkaa
open Go.RowKit
theorem fIdx_some (c k : Nat) (h : fIdx c = some k) : k < 10 ∧ (fRow k).1 = c := by
  unfold fIdx at h
  rw [List.findIdx?_eq_some_iff_getElem] at h
  obtain ⟨hk, hc, _⟩ := h
  have h10 : formRows.length = 10 := rfl
  refine ⟨by omega, ?_⟩
  unfold fRow
  simp only [List.getD, List.getElem?_eq_getElem hk, Option.getD_some]
  simpa using hc
theorem fIdx_none (c : Nat) (h : fIdx c = none) : ∀ k, k < 10 → (fRow k).1 ≠ c := by
  unfold fIdx at h
  rw [List.findIdx?_eq_none_iff] at h
  intro k hk
  have h10 : formRows.length = 10 := rfl
  have := h formRows[k] (List.getElem_mem _)
  unfold fRow
  simp only [List.getD, List.getElem?_eq_getElem (show k < formRows.length by omega), Option.getD_some]
  intro e
  rw [beq_eq_false_iff_ne] at this
  exact this e
theorem formOf_yes' (k c : Nat) (hk : k < 10) (hc : (fRow k).1 = c) (w : World) :
    Calls Try.prog 59 #[.int .u8 (c : Nat)] w fun e w' => e = .returned (.tuple #[.agg #[.int .u8 ((fRow k).1 : Nat), .int .i64 ((fRow k).2.1 : Nat), .func (.func (fRow k).2.2.1) #[] #[], .func (.func (fRow k).2.2.2) #[] #[]], .bool true]) ∧ Fr S0 w w' := formOf_yes k c hk hc w
theorem formOf_no' (c : Nat) (hc : ∀ k, k < 10 → (fRow k).1 ≠ c) (w : World) :
    Calls Try.prog 59 #[.int .u8 (c : Nat)] w fun e w' => e = .returned (.tuple #[.agg #[.int .u8 0, .int .i64 0, .nilFunc, .nilFunc], .bool false]) ∧ Fr S0 w w' := formOf_no c hc w
def rowsOf : List Nat → Option (List Nat)
  | [] => some []
  | c :: r => match fIdx c, rowsOf r with
    | some k, some ks => some (k :: ks)
    | _, _ => none
theorem rowsOf_snoc (c : Nat) : ∀ l : List Nat, rowsOf (l ++ [c]) = match rowsOf l, fIdx c with | some ks, some k => some (ks ++ [k]) | _, _ => none
  | [] => by
    simp only [List.nil_append, rowsOf]
    cases fIdx c <;> rfl
  | d :: r => by
    simp only [List.cons_append, rowsOf, rowsOf_snoc c r]
    cases fIdx d <;> cases rowsOf r <;> cases fIdx c <;> rfl
theorem rowsOf_none (l : List Nat) (r : List Nat) (h : rowsOf l = none) : rowsOf (l ++ r) = none := by
  induction l with
  | nil => simp [rowsOf] at h
  | cons c l ih =>
    simp only [List.cons_append, rowsOf] at h ⊢
    cases hc : fIdx c with
    | none => rfl
    | some k =>
      cases hl : rowsOf l with
      | none => rw [ih hl]
      | some ks => simp [hc, hl] at h
theorem rowsOf_length : ∀ (l ks : List Nat), rowsOf l = some ks → ks.length = l.length
  | [], ks, h => by simp [rowsOf] at h; subst h; rfl
  | c :: r, ks, h => by
    simp only [rowsOf] at h
    cases hc : fIdx c <;> cases hr : rowsOf r <;> simp [hc, hr] at h
    subst h
    simp [rowsOf_length r _ hr]
def pat (s : ByteArray) : List Nat := s.data.toList.map UInt8.toNat
theorem pat_length (s : ByteArray) : (pat s).length = s.size := by simp [pat]
theorem pat_take (s : ByteArray) (k : Nat) (h : k < s.size) : (pat s).take (k + 1) = (pat s).take k ++ [s[k].toNat] := by
  have hk : k < (pat s).length := by rw [pat_length]; exact h
  rw [List.take_succ_eq_append_getElem hk]
  simp [pat]; rfl
def formsS (l : List Nat) : Option (List Nat) := if 64 < l.length then none else rowsOf l
def rowCells (ks : List Nat) : List Value := ks.flatMap fun k => (fCells (fRow k)).toList
theorem elForm : ElemOk Try.prog 91 99 (.agg zeroCells) 4 32 := ⟨Try.underlying91, info_form, rfl, by decide, by decide⟩
theorem oneForms (a b : Int) (p q : FuncId) : ∀ u ∈ (#[Value.int .u8 a, .int .i64 b, .func (.func p) #[] #[], .func (.func q) #[] #[]]).toList, u.oneCell' = true := by
  intro u hu; simp at hu; rcases hu with rfl | rfl | rfl | rfl <;> rfl
def FormsPost (w : World) (e : Ending) (w' : World) (r : Option (List Nat)) : Prop :=
  Fr S0 w w' ∧ match r with
  | none => e = .returned (.tuple #[.slice none 0 0, .bool false])
  | some ks => ∃ v, e = .returned (.tuple #[v, .bool true]) ∧ w'.ownsRow 0 99 4 v ks.length (rowCells ks) ∧ Fresh w v
theorem formsOf_any (s : ByteArray) (w : World) (hs : s.size ≤ maxLen) :
    Calls Try.prog 54 #[.string s] w fun e w' => FormsPost w e w' (formsS (pat s)) := by
  unfold maxLen at hs
  by_cases h64 : (64 : Int) < (s.size : Int)
  · have HN : Hid (formsS (pat s) = none) := Lib.hid (if_pos (by rw [pat_length]; omega))
    go_enter Try.func54, Try.ntmps54
    go_wp2
    go_ret2
    rw [HN.out]
    exact ⟨Fr.refl _ _, rfl⟩
  · have HS : Hid (formsS (pat s) = rowsOf (pat s)) := Lib.hid (if_neg (by rw [pat_length]; omega))
    have HR : Hid (Room s.size) := Lib.hid (Room.mk (by omega))
    go_enter Try.func54, Try.ntmps54
    go_wp2_with (at_make; refine make_room elForm _ _ rfl rfl rfl rfl HR.out ?_; intro w1 own1 hf1)
    go_loopw [4, 5, 6, 7, 16] (fun v _ _ _ i wr => ∃ (k : Nat) (ks : List Nat), k ≤ s.size ∧ i = .int .i64 k ∧ rowsOf ((pat s).take k) = some ks ∧ wr.ownsRow 0 99 4 v ks.length (rowCells ks) ∧ Fresh w v ∧ Fr S0 w wr) (fun _ _ _ _ i _ => s.size - (intOf i).toNat)
    case atStart => exact ⟨0, [], by omega, rfl, rfl, own1, fun g hg => by simp [Value.ownBlock] at hg; omega, hf1⟩
    case round =>
      obtain ⟨k, ks, hk, rfl, hks, own, hfresh, hfr⟩ := hrel
      by_cases hlt : (k : Int) < (s.size : Int)
      · have hlt' : k < s.size := by omega
        have HP := Lib.hid (pat_take s k hlt')
        obtain ⟨c, hc⟩ : ∃ c, s[k].toNat = c := ⟨_, rfl⟩
        cases hi : fIdx c with
        | none =>
          have HN : Hid (formsS (pat s) = none) := Lib.hid (by
            rw [HS.out, ← List.take_append_drop (k + 1) (pat s)]
            refine rowsOf_none _ _ ?_
            rw [HP.out, rowsOf_snoc, hks, hc, hi])
          have HC := Lib.hid hc
          have HI := Lib.hid hi
          have HK := Lib.hid hks
          clear hc hi hks
          go_wp2_with (go_at_call 59; rw [HC.out]; refine (formOf_no' c (fIdx_none c HI.out) _).mono ?_; rintro e w' ⟨rfl, hf⟩)
          go_ret2
          rw [HN.out]
          exact ⟨(hfr.trans0 hf).trans0 (Fr.alloc S0 _ _), rfl⟩
        | some j =>
          have HN : Hid (rowsOf ((pat s).take (k + 1)) = some (ks ++ [j])) := Lib.hid (by
            rw [HP.out, rowsOf_snoc, hks, hc, hi])
          have HC := Lib.hid hc
          have HJ := Lib.hid (fIdx_some c j hi)
          have HK := Lib.hid hks
          clear hc hi hks
          have HR1 : Hid (Room (ks.length + 1)) := Lib.hid (Room.mk (by
            have := rowsOf_length _ _ HK.out
            simp [pat_length] at this
            omega))
          go_wp2_with (first | (go_at_call 59; rw [HC.out]; refine (formOf_yes' j c HJ.out.1 HJ.out.2 _).mono ?_; rintro e w' ⟨rfl, hf⟩; have own' := hf.owns own (fun _ _ h => h); clear own) | (at_builtin; refine app_one elForm (.tmp 28) (.tmp 30) (size_alloc _ _) (own'.alloc _) rfl rfl rfl rfl rfl (oneForms _ _ _ _) HR1.out ?_; intro g cap w2 hown hgrow hat hlt2))
          go_roundw
          case rel =>
            refine ⟨k + 1, ks ++ [j], by omega, by go_num, HN.out, ?_, ?_, ?_⟩
            · rw [List.length_append]
              have : rowCells (ks ++ [j]) = rowCells ks ++ (fCells (fRow j)).toList := by simp [rowCells]
              rw [this]
              exact hown
            · intro q hq
              rcases hat with hat | hat
              · exact hfresh q (by rw [hat]; exact hq)
              · simp [Value.ownBlock] at hq
                have h1 := hfr.size
                have h2 := hf.size
                omega
            · exact (((hfr.trans0 hf).trans0 (Fr.alloc S0 _ _)).trans0 (Fr.alloc S0 _ _)).append hgrow hfresh
          case measure => simp [intOf]; omega
      · obtain rfl : k = s.size := by omega
        have HK : Hid (rowsOf (pat s) = some ks) := Lib.hid (by rw [← hks, List.take_of_length_le (by rw [pat_length]; omega)])
        clear hks
        go_wp2
        go_ret2
        rw [HS.out, HK.out]
        exact ⟨hfr, _, rfl, own, hfresh⟩
end Go.Proofs.Ytmieeoceckcnkaa
