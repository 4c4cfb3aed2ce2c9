/- Rows of bytes: what is appended, and bytes as a text. -/
import Derived.Test.YtbpfmjekpjfceaaMany
import Derived.Laws.BytesArg
import Derived.Lib.SlBytesConst
namespace Go.Proofs.Ytbpfmjekpjfceaa
open Go.RowKit

theorem info_u8 : (Try.prog.info? 5).map (fun i => (i.zero, i.size, i.bytes)) = some (some (.int .u8 0), 1, 1) := by kernel_rfl
theorem el8 : ElemOk Try.prog 23 5 (.int .u8 0) 1 1 := ⟨Try.underlying23, info_u8, rfl, by decide, by decide⟩
def u8s (bs : List Nat) : List Value := bs.map fun (x : Nat) => Value.int .u8 (x : Int)
theorem u8s_append (a b : List Nat) : u8s a ++ u8s b = u8s (a ++ b) := by simp [u8s]
theorem u8s_one (x : Nat) : u8s [x] = [.int .u8 (x : Int)] := rfl
theorem one8 {k : IntKind} {x : Int} : ∀ u ∈ (#[Value.int k x]).toList, u.oneCell' = true := by intro u hu; simp at hu; subst hu; rfl
theorem ones {k : IntKind} (l : List Nat) : ∀ y ∈ (l.map fun (x : Nat) => Value.int k (x : Int)), y.oneCell' = true := by
  intro y hy; simp only [List.mem_map] at hy; obtain ⟨x, -, rfl⟩ := hy; rfl
theorem one8s (l : List Nat) : ∀ y ∈ u8s l, y.oneCell' = true := ones l
theorem own_one (w : World) (x : Value) (t : TypeId) : (w.alloc (.cells #[x] t)).ownsRow 0 t 1 (.slice (some ⟨w.heap.size, 0, none⟩) 1 1) 1 [x] :=
  ⟨rfl, .inr ⟨w.heap.size, 1, #[x], rfl, Nat.zero_le _, heap_alloc_new w _, Nat.le_refl _, by decide, rfl, rfl⟩⟩
theorem own_none (w : World) (t : TypeId) : (w.alloc (.cells #[] t)).ownsRow 0 t 1 (.slice (some ⟨w.heap.size, 0, none⟩) 0 0) 0 [] :=
  World.ownsRow_made w #[] 0 (Nat.zero_le _) (by decide) rfl
theorem slForm {w : World} {e : TypeId} {v : Value} {n : Nat} {xs : List Value} (h : w.ownsRow 0 e 1 v n xs) : ∃ p c, v = .slice p n c ∧ (p = none → c = 0) ∧ n ≤ c ∧ c ≤ maxLen := by
  rcases h.2 with ⟨h, h0⟩ | ⟨g, cap, cur, h, _, _, h1, h2, _⟩
  · exact ⟨none, 0, by rw [h, h0], fun _ => rfl, by omega, by decide⟩
  · exact ⟨_, _, h, (fun h => by cases h), h1, h2⟩

/-- a row that is new to w -/
def Fresh (w : World) (v : Value) : Prop := ∀ g, v.ownBlock = some g → w.heap.size ≤ g
theorem fresh_nil (w : World) (c : Nat) : Fresh w (.slice none 0 c) := fun g h => by simp [Value.ownBlock] at h
theorem fresh_made {w w2 : World} {n c : Nat} (h : Fr S0 w w2) : Fresh w (.slice (some ⟨w2.heap.size, 0, none⟩) n c) :=
  fun k hk => by simp only [Value.ownBlock, Option.some.injEq] at hk; have := h.size; omega
theorem fresh_many {w : World} {v v' : Value} {B : Nat} (h : Fresh w v) (hB : w.heap.size ≤ B) (ha : v'.ownBlock = v.ownBlock ∨ v'.ownBlock = some B) : Fresh w v' := by
  intro k hk
  rcases ha with ha | ha
  · exact h k (ha ▸ hk)
  · rw [ha] at hk; simp only [Option.some.injEq] at hk; omega
theorem fresh_app {w wr : World} {v : Value} {g n c : Nat} (h : Fr S0 w wr) (hv : Fresh w v) (hat : v.ownBlock = some g ∨ g = wr.heap.size + 1) : Fresh w (.slice (some ⟨g, 0, none⟩) n c) := by
  intro k hk
  simp only [Value.ownBlock, Option.some.injEq] at hk
  subst hk
  rcases hat with h1 | h1
  · exact hv _ h1
  · have := h.size; omega
theorem fresh_fr {w w2 : World} {v : Value} (h : Fr S0 w w2) (hv : Fresh w2 v) : Fresh w v := fun k hk => Nat.le_trans h.size (hv k hk)
theorem fr_made {w w2 w3 : World} {o : Obj} {n c : Nat} (h : Fr S0 w w2) (g : (w2.alloc o).grownBy w3 (Value.ownBlock (.slice (some ⟨w2.heap.size, 0, none⟩) n c))) : Fr S0 w w3 :=
  (h.trans0 (Fr.alloc S0 w2 o)).append g fun k hk => by simp only [Value.ownBlock, Option.some.injEq] at hk; have := h.size; omega
theorem size_le {w w2 : World} {o : Obj} (h : Fr S0 w w2) : w.heap.size ≤ (w2.alloc o).heap.size := by have := h.size; simp; omega
theorem SlI.take {w : World} {k : IntKind} {p : Option Addr} {l : List Nat} (h : SlI w k p l) (n : Nat) : SlI w k p (l.take n) := by
  refine ⟨by have := h.1; rw [List.length_take]; omega, fun hl => ?_⟩
  obtain ⟨b, off, hp, hc⟩ := h.2 (by intro e; subst e; simp at hl)
  refine ⟨b, off, hp, fun i hi => ?_⟩
  rw [List.length_take] at hi
  rw [hc i (by omega), List.getElem_take]
theorem SlI.ofBlock {w : World} {g : Nat} {t : TypeId} {fr : Nat × Nat} {k : IntKind} {l : List Nat} {cs : Array Value} (hb : w.heap[g]? = some (.cells cs t fr)) (hc : cs.toList = l.map fun (x : Nat) => Value.int k (x : Int)) (hl : l.length ≤ maxLen) :
    SlI w k (some ⟨g, 0, none⟩) l := by
  refine ⟨hl, fun _ => ⟨g, 0, rfl, fun i hi => ?_⟩⟩
  rw [cell_of_row w g (0 + i) cs t fr hb, ← Array.getElem?_toList, hc]
  simp [hi]

/-- bytes as a text -/
def strB (bs : List Nat) : ByteArray := strOfNums (bs.map fun (x : Nat) => (x : Int))
theorem conv_own {w : World} {v : Value} {bs : List Nat} (h : w.ownsRow 0 5 1 v bs.length (u8s bs)) : (convert 23 9 v).run Try.prog w = .ok (.string (strB bs)) w := by
  rcases h.2 with ⟨rfl, h0⟩ | ⟨g, cap, cur, rfl, _⟩
  · have : bs = [] := List.eq_nil_of_length_eq_zero h0
    subst this
    exact run_convert_bytes_nil w 23 5 Try.underlying23 Try.underlying5 0 0 9 Try.underlying9
  · have hs := SlI.ofOwns h
    refine run_convert_bytes_arg w 23 5 Try.underlying23 Try.underlying5 g 0 bs.length cap _ (by simp) ?_ 9 Try.underlying9
    intro i hi
    obtain ⟨b, off, hp, hc⟩ := hs.at i hi
    simp only [Option.some.injEq, Addr.mk.injEq] at hp
    obtain ⟨rfl, rfl, -⟩ := hp
    rw [hc]
    simp [List.getD, hi]
theorem conv_sl {w : World} {p : Option Addr} {l : List Nat} (h : SlI w .u8 p l) (n c : Nat) (hn : n ≤ l.length) : (convert 23 9 (.slice p n c)).run Try.prog w = .ok (.string (strB (l.take n))) w := by
  cases p with
  | none =>
    have : l = [] := by
      by_cases hl : l = []
      · exact hl
      · obtain ⟨b, off, hp, _⟩ := h.2 hl
        cases hp
    subst this
    rw [List.take_nil]
    exact run_convert_bytes_nil w 23 5 Try.underlying23 Try.underlying5 n c 9 Try.underlying9
  | some ad =>
    by_cases hl : l = []
    · subst hl
      obtain rfl : n = 0 := by simpa using hn
      obtain ⟨b, off, sp⟩ := ad
      rw [run_convert_bytes_string w 23 9 5 (some ⟨b, off, sp⟩) 0 c Try.underlying23 Try.underlying5 Try.underlying9]
      simp [Conv.bytesToString, loadCells, loadCellsFrom, strB]
      rfl
    · obtain ⟨b, off, hp, hcell⟩ := h.2 hl
      obtain rfl := Option.some.inj hp
      refine run_convert_bytes_arg w 23 5 Try.underlying23 Try.underlying5 b off n c _ (by simp; omega) ?_ 9 Try.underlying9
      intro i hi
      rw [hcell i (by omega)]
      simp [List.getD, show i < n from hi, show i < l.length by omega]
/-- texts are alike just if the bytes are -/
theorem strB_eq (a b : List Nat) (ha : ∀ x ∈ a, x < 256) (hb : ∀ x ∈ b, x < 256) : strB a = strB b ↔ a = b := by
  constructor
  · intro h
    have h1 : (strB a).data.toList = (strB b).data.toList := by rw [h]
    simp only [strB, strOfNums_data, List.map_map] at h1
    have key : ∀ l : List Nat, (∀ x ∈ l, x < 256) → (l.map ((fun n : Int => UInt8.ofNat n.toNat) ∘ fun (x : Nat) => (x : Int))).map UInt8.toNat = l := by
      intro l hl
      rw [List.map_map]
      conv => rhs; rw [← List.map_id l]
      refine List.map_congr_left fun x hx => ?_
      have := hl x hx
      simp; omega
    rw [← key a ha, ← key b hb, h1]
  · rintro rfl; rfl
/-- a constant text as bytes -/
theorem constB (w : World) (C : Array Value) (n c : Nat) : (convert 23 23 (.slice (some ⟨w.heap.size, 0, none⟩) n c)).run Try.prog (w.alloc (.cells C 5)) =
    .ok (.slice (some ⟨w.heap.size, 0, none⟩) n c) (w.alloc (.cells C 5 (C.size, C.size + 1))) :=
  Go.Lib.run_convert_bytes_const w 23 5 C n c Try.underlying23 Try.underlying5
theorem SlI.new (w : World) (C : Array Value) (t : TypeId) (fr : Nat × Nat) (k : IntKind) (l : List Nat) (hc : C.toList = l.map fun (x : Nat) => Value.int k (x : Int)) (hl : l.length ≤ maxLen) : SlI (w.alloc (.cells C t fr)) k (some ⟨w.heap.size, 0, none⟩) l :=
  SlI.ofBlock (heap_alloc_new w _) hc hl
/-- the model's comparison of texts -/
theorem ba_loop (b : ByteArray) : ∀ (n i : Nat) (r : List UInt8), b.size - i = n → ByteArray.toList.loop b i r = r.reverse ++ b.data.toList.drop i
  | 0, i, r, h => by
    unfold ByteArray.toList.loop
    have hs : b.size = b.data.toList.length := Array.length_toList.symm
    rw [if_neg (by omega), List.drop_eq_nil_of_le (by omega), List.append_nil]
  | n + 1, i, r, h => by
    unfold ByteArray.toList.loop
    have hs : b.size = b.data.toList.length := Array.length_toList.symm
    have hi : i < b.data.toList.length := by omega
    rw [if_pos (by omega), ba_loop b n (i + 1) _ (by omega), List.drop_eq_getElem_cons hi, List.reverse_cons, List.append_assoc]
    congr 1
    have hi2 : i < b.data.size := by rw [← Array.length_toList]; exact hi
    simp [ByteArray.get!, getElem!_pos b.data i hi2]
theorem ba_toList (b : ByteArray) : b.toList = b.data.toList := by
  have := ba_loop b _ 0 [] rfl
  rw [ByteArray.toList, this]; simp
theorem ba_beq (a b : ByteArray) : (a.toList == b.toList) = decide (a = b) := by
  rw [ba_toList, ba_toList, Bool.eq_iff_iff, beq_iff_eq, decide_eq_true_iff]
  constructor
  · intro h
    cases a; cases b
    simpa [Array.toList_inj] using h
  · rintro rfl; rfl
theorem strB_beq (a b : List Nat) (ha : ∀ x ∈ a, x < 256) (hb : ∀ x ∈ b, x < 256) : ((strB a).toList == (strB b).toList) = decide (a = b) := by
  rw [ba_beq, decide_eq_decide.2 (strB_eq a b ha hb)]
end Go.Proofs.Ytbpfmjekpjfceaa
