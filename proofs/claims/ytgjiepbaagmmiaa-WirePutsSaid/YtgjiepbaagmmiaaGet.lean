/- wire.Get: what it reads by any pattern of any bytes. -/
import Derived.Test.YtgjiepbaagmmiaaGetSpec
import Derived.Test.YtgjiepbaagmmiaaPut
namespace Go.Proofs.Ytgjiepbaagmmiaa
open Go.RowKit

theorem info37 : (Try.prog.info? 37).map (fun i => (i.zero, i.size, i.bytes)) = some (some (.int .u64 0), 1, 8) := by kernel_rfl
theorem el64 : ElemOk Try.prog 22 37 (.int .u64 0) 1 8 := ⟨Try.underlying22, info37, rfl, by decide, by decide⟩
def u64s (l : List Nat) : List Value := l.map fun (x : Nat) => Value.int .u64 (x : Int)
def GetPost (w : World) (e : Ending) (w' : World) (r : Except Nat (List Nat × Nat)) : Prop :=
  Fr S0 w w' ∧ match r with
  | .error x => e = .returned (.tuple #[.slice none 0 0, .int .i64 0, .int .i64 x])
  | .ok (ns, u) => ∃ v, e = .returned (.tuple #[v, .int .i64 u, .int .i64 0]) ∧ w'.ownsRow 0 37 1 v ns.length (u64s ns) ∧ Fresh w v ∧ ∀ n ∈ ns, n < 18446744073709551616

def preG (ns : List Nat) (a : Nat) : Except Nat (List Nat × Nat) → Except Nat (List Nat × Nat)
  | .ok (r, u) => .ok (ns ++ r, a + u)
  | .error x => .error x
theorem preG_nil (r : Except Nat (List Nat × Nat)) : preG [] 0 r = r := by rcases r with _ | ⟨a, b⟩ <;> simp [preG]
theorem getRows_cons (k : Nat) (ks l : List Nat) : getRows (k :: ks) l = match dec k l with | .error x => .error x | .ok (n, u) => preG [n] u (getRows ks (l.drop u)) := by
  rw [getRows]
  rcases dec k l with _ | ⟨n, u⟩
  · rfl
  · dsimp only
    rcases getRows ks (l.drop u) with _ | ⟨a, b⟩ <;> rfl
theorem preG_preG (ns ms : List Nat) (a b : Nat) (r : Except Nat (List Nat × Nat)) : preG ns a (preG ms b r) = preG (ns ++ ms) (a + b) r := by
  rcases r with _ | ⟨x, y⟩ <;> simp [preG, Nat.add_assoc]

/-- the row v is apart from the reader's block g and from the row u, and new to w -/
def Apart (w : World) (g : Nat) (u v : Value) : Prop := ∀ b, v.ownBlock = some b → b ≠ g ∧ u.ownBlock ≠ some b ∧ w.heap.size ≤ b
theorem get_close {w wr X wb : World} {g c a : Nat} {p : Option Addr} {l : List Nat} {u v : Value} {n m : Nat} {xs ys : List Value} (hg : w.heap.size ≤ g) (hug : ∀ b, u.ownBlock = some b → b < g)
    (hfr : Fr S0 w wr) (hX : Fr S0 wr X) (ho : wr.ownsRow 0 50 4 u n xs) (hv : wr.ownsRow 0 37 1 v m ys) (ha : Apart w g u v) (ht : RdTo X wb g p c l a) :
    Fr S0 w wb ∧ wb.ownsRow 0 50 4 u n xs ∧ wb.ownsRow 0 37 1 v m ys := by
  refine ⟨(hfr.trans0 hX).trans ht.fr (fun j hj e => by omega), ht.fr.owns (hX.owns ho fun _ _ h => h) (fun b hb e => ?_), ht.fr.owns (hX.owns hv fun _ _ h => h) (fun b hb e => (ha b hb).1 e)⟩
  have := hug b hb
  omega
theorem get_app {w wb w3 : World} {o : Obj} {g c a q cap : Nat} {p : Option Addr} {l : List Nat} {u v : Value} {n m : Nat} {xs : List Value} (hl : l ≠ [] → ∀ a, p = some a → a.block < w.heap.size)
    (hfr : Fr S0 w wb) (ho : wb.ownsRow 0 50 4 u n xs) (ha : Apart w g u v) (hr : RdIs wb g p c l a) (hug : ∀ b, u.ownBlock = some b → b < g)
    (hgrow : (wb.alloc o).grownBy w3 v.ownBlock) (hat : v.ownBlock = some q ∨ q = wb.heap.size + 1) :
    Fr S0 w w3 ∧ w3.ownsRow 0 50 4 u n xs ∧ RdIs w3 g p c l a ∧ Apart w g u (.slice (some ⟨q, 0, none⟩) m cap) := by
  have hgb : g < wb.heap.size := (Array.getElem?_eq_some_iff.1 hr.blk).1
  have hgr := Fr.grown hgrow
  refine ⟨(hfr.trans0 (Fr.alloc S0 _ o)).append hgrow (fun b hb => (ha b hb).2.2), hgr.owns (ho.alloc o) (fun b hb e => (ha b e).2.1 hb), ?_, ?_⟩
  · refine RdIs.fr (RdIs.fr hr (Fr.alloc S0 wb o) (fun h => h) (fun _ => Off.s0 p)) hgr (fun e => (ha g e).1 rfl) (fun hne x hx e => ?_)
    have h1 := hl hne x hx
    have h2 := (ha _ e).2.2
    omega
  · intro b hb
    simp only [Value.ownBlock, Option.some.injEq] at hb
    subst hb
    rcases hat with hat | hat
    · exact ha _ hat
    · have := hfr.size
      refine ⟨by omega, fun hu => ?_, by omega⟩
      have := hug _ hu
      omega

set_option maxRecDepth 100000 in
set_option maxHeartbeats 4000000 in
theorem get_any (s : ByteArray) (p : Option Addr) (c : Nat) (l : List Nat) (w : World) (hs : s.size ≤ maxLen) (hl : SlI w .u8 p l) (hb : ∀ x ∈ l, x < 256) :
    Calls Try.prog 11 #[.string s, .slice p l.length c] w fun e w' => GetPost w e w' (getS (pat s) l) := by
  have HB := Lib.hid hb
  clear hb
  go_enter Try.func11, Try.ntmps11
  go_wp2_with fail
  refine (formsOf_any s w hs).mono ?_
  rintro e w1 ⟨hf1, hr⟩
  cases hfs : formsS (pat s) with
  | none =>
    rw [hfs] at hr
    subst hr
    have HE : Hid (getS (pat s) l = .error 22) := Lib.hid (by unfold getS; rw [hfs])
    clear hfs
    go_wp2
    go_ret3
    rw [HE.out]
    exact ⟨hf1, rfl⟩
  | some ks =>
    rw [hfs] at hr
    obtain ⟨vf, rfl, own, hfresh⟩ := hr
    have hk64 : ks.length ≤ 64 := by
      unfold formsS at hfs
      split at hfs
      · cases hfs
      · have := rowsOf_length _ _ hfs
        omega
    obtain ⟨pf, cf, rfl⟩ : ∃ pf cf, vf = .slice pf ks.length cf := by
      rcases own.2 with ⟨h, h0⟩ | ⟨g, cap, cur, h, _⟩
      · exact ⟨none, 0, by rw [h, h0]⟩
      · exact ⟨_, _, h⟩
    have HE : Hid (getS (pat s) l = getRows ks l) := Lib.hid (by unfold getS; rw [hfs])
    have HF := Lib.hid hfs
    have HR : Hid (Room ks.length) := Lib.hid (Room.mk (by omega))
    clear hfs
    go_wp2_with (at_make; refine make_room el64 _ _ rfl rfl rfl rfl HR.out ?_; intro w2 own2 hf2)
    have hge := hf1.size
    have hug : ∀ b, Value.ownBlock (.slice pf ks.length cf) = some b → b < w1.heap.size := fun b hb => (own.lt b hb).2
    have hll : l ≠ [] → ∀ a, p = some a → a.block < w.heap.size := hl.lt
    have hrd : RdIs w2 w1.heap.size p c l 0 := by
      refine ⟨hf2.row (heap_alloc_new w1 _) (fun h => h), (hl.fr0 hf1).fr0 ((Fr.alloc S0 w1 _).trans0 hf2), fun hne x hx e => ?_, Nat.zero_le _, HB.out⟩
      have := hll hne x hx
      omega
    have hap : Apart w w1.heap.size (.slice pf ks.length cf) (.slice (some ⟨w1.heap.size + 1, 0, none⟩) 0 ks.length) := by
      intro b hb
      simp only [Value.ownBlock, Option.some.injEq] at hb
      refine ⟨by omega, fun hu => ?_, by omega⟩
      have := hug b hu
      omega
    have hfr2 : Fr S0 w w2 := (hf1.trans0 (Fr.alloc S0 w1 _)).trans0 hf2
    have own2f := hf2.owns (own.alloc (.cells #[.slice p l.length c, .int .i64 0] 57)) (fun _ _ h => h)
    have own2v : w2.ownsRow 0 37 1 (.slice (some ⟨w1.heap.size + 1, 0, none⟩) 0 ks.length) 0 [] := by rw [← size_alloc w1]; exact own2
    clear own2 hf2
    go_loopw [10, 12, 13, 14, 30] (fun v _ _ _ i wr => ∃ (k a : Nat) (ns : List Nat), k ≤ ks.length ∧ i = .int .i64 k ∧ ns.length = k ∧ (∀ n ∈ ns, n < 18446744073709551616) ∧ RdIs wr w1.heap.size p c l a ∧ Fr S0 w wr ∧
      wr.ownsRow 0 50 4 (.slice pf ks.length cf) ks.length (rowCells ks) ∧ wr.ownsRow 0 37 1 v ns.length (u64s ns) ∧ Apart w w1.heap.size (.slice pf ks.length cf) v ∧
      getRows ks l = preG ns a (getRows (ks.drop k) (l.drop a))) (fun _ _ _ _ i _ => ks.length - (intOf i).toNat)
    case atStart => exact ⟨0, 0, [], by omega, rfl, rfl, by simp, hrd, hfr2, own2f, own2v, hap, by rw [List.drop_zero, List.drop_zero, preG_nil]⟩
    case round =>
      clear own2f own2v hap hrd hfr2
      obtain ⟨k, a, ns, hk, rfl, hns, hnb, hrd, hfr, ownf, ownv, hap, hpr⟩ := hrel
      have HP := Lib.hid hpr
      have HNB := Lib.hid hnb
      clear hpr hnb
      by_cases hlt : (k : Int) < (ks.length : Int)
      · have hks : k < ks.length := by omega
        obtain ⟨gf, cf', hv, -, hgf⟩ := ownf.form (by omega)
        simp only [Value.slice.injEq] at hv
        obtain ⟨rfl, -, rfl⟩ := hv
        obtain ⟨q0, q1, q2, q3⟩ := form_cells ownf k hks
        obtain ⟨m, hm⟩ : ∃ m, ks[k] = m := ⟨_, rfl⟩
        rw [hm] at q0 q1 q2 q3
        have hm10 := Lib.hid (forms_lt _ _ HF.out m (by rw [← hm]; exact List.getElem_mem hks))
        have HD : Hid (getRows (ks.drop k) (l.drop a) = match dec m (l.drop a) with | .error x => .error x | .ok (n, u) => preG [n] u (getRows (ks.drop (k + 1)) ((l.drop a).drop u))) := Lib.hid (by
          rw [List.drop_eq_getElem_cons hks, getRows_cons, hm])
        clear hm
        have hent := enter_get m hm10.out
        have HR1 : Hid (Room (ns.length + 1)) := Lib.hid (Room.mk (by omega))
        have HNS := Lib.hid hns
        clear hns
        go_wp2_with fail
        refine (get_row w1.heap.size a c p l _ (hrd.fr (Fr.alloc S0 wr _) (fun h => h) (fun _ => Off.s0 p)) m hm10.out).mono ?_
        intro e wb hp
        obtain ⟨n, x, a', rfl, hn, ht, hr⟩ := rdAny hp
        clear hp
        obtain ⟨hfb, ownfb, ownvb⟩ := get_close hge hug hfr (Fr.alloc S0 wr _) ownf ownv hap ht
        have hrb := ht.is
        clear ht
        have HN := Lib.hid hn
        clear hn
        rcases hr with ⟨rfl, u, hdec, rfl⟩ | ⟨hx, rfl, hdec⟩
        · have HQ : Hid (getRows ks l = preG (ns ++ [n]) (a + u) (getRows (ks.drop (k + 1)) (l.drop (a + u)))) := Lib.hid (by
            rw [HP.out, HD.out, hdec]
            dsimp only
            rw [List.drop_drop, preG_preG])
          clear hdec
          go_wp2_with (at_builtin; refine app_one el64 (.tmp 46) (.tmp 48) rfl ownvb rfl rfl rfl rfl rfl one8 HR1.out ?_; intro q cap w3 hown hgrow hat hlt3; obtain ⟨hf3, of3, hr3, ha3⟩ := get_app (m := ns.length + 1) (cap := cap) hll hfb ownfb hap hrb hug hgrow hat; clear hgrow hat)
          go_roundw
          case rel =>
            refine ⟨k + 1, a + u, ns ++ [n], by omega, by go_num, ?_, ?_, hr3, hf3, of3, ?_, ha3, HQ.out⟩
            · rw [List.length_append, HNS.out]; rfl
            · intro y hy
              rw [List.mem_append] at hy
              rcases hy with hy | hy
              · exact HNB.out y hy
              · rw [List.mem_singleton] at hy; subst hy; exact HN.out
            · rw [List.length_append]
              have : u64s (ns ++ [n]) = u64s ns ++ [.int .u64 (n : Int)] := by simp [u64s]
              rw [this]
              exact hown
          case measure => simp [intOf]; omega
        · have hb : ((x : Int) != 0) = true := by rw [bne_iff_ne]; omega
          have HQ : Hid (getS (pat s) l = .error x) := Lib.hid (by rw [HE.out, HP.out, HD.out, hdec]; rfl)
          clear hdec hx
          go_wp2
          go_ret3
          rw [HQ.out]
          exact ⟨hfb, rfl⟩
      · have HQ : Hid (getS (pat s) l = .ok (ns, a)) := Lib.hid (by
          rw [HE.out, HP.out, List.drop_eq_nil_of_le (by omega), getRows, preG, List.append_nil]; rfl)
        have c1 := hrd.c1
        go_wp2
        go_quiet (fail)
        go_wp2
        go_ret3
        rw [HQ.out]
        exact ⟨hfr.trans0 (Fr.drewN S0 _ _), _, rfl, ownv, fun b hb => (hap b hb).2.2, HNB.out⟩
end Go.Proofs.Ytgjiepbaagmmiaa
