/- HwNums, HwChunk -/
import Derived.Test.YtnndgpggjlhhpaaGreatPt1
import Derived.Test.YtnndgpggjlhhpaaGreatPt2
import Derived.Test.YtnndgpggjlhhpaaGreatPt3
import Derived.Test.YtnndgpggjlhhpaaGreatPt4
import Derived.Test.YtnndgpggjlhhpaaGreatPt5
import Derived.Test.YtnndgpggjlhhpaaGreatPt6
import Derived.Test.YtnndgpggjlhhpaaGreatPt7
import Derived.Test.YtnndgpggjlhhpaaGreatPt8
import Derived.Test.YtnndgpggjlhhpaaGreatPt9
import Derived.Test.YtnndgpggjlhhpaaGreatPt10
import Derived.Test.YtnndgpggjlhhpaaGreatPt11
import Derived.Test.YtnndgpggjlhhpaaGreatPt12
import Derived.Test.YtnndgpggjlhhpaaGreatPt13
import Derived.Test.YtnndgpggjlhhpaaGreatPt14
import Derived.Test.YtnndgpggjlhhpaaGreatPt15
import Derived.Lib.Repeat
import Derived.StillTailTactics
import Derived.WalkKit
import Derived.Laws.BitsAllLaws
import Derived.Laws.BytesArg
import Derived.Lib.SlBytesConst
import Derived.Maps.AppendAt
import Derived.Laws.AppendOwnNone
import Derived.WalkSpells
import Derived.WalkLawsBesides
import Derived.Deep.QuietTactic
import Derived.BigQuiet
import Derived.RegionTactic
import Derived.Deep.AppendLies
import Derived.Deep.RegionLaw
import Derived.Laws.ResultCell
import Derived.Laws.EntriesVeiled
import Derived.Lib.Hide
import Derived.Test.YtnndgpggjlhhpaaGreatRows
import Derived.Maps.RangeWalk
import Derived.BigRegion
import Derived.Deep.RegionHeld3
import Derived.Deep.CutBlock
import Derived.Deep.DeepCutAuto
import Derived.Deep.CutRange
import Derived.Lib.BitFns
import Derived.Shelf.Small.Bits
import Derived.Shelf.Strconv.Itoa0
import Derived.Shelf.Bits.Mul64
import Derived.Laws.Externs
import Derived.Shelf.Spec.BitsCarry
import Derived.Shelf.SlSortCmp.WholeK
import Derived.RangeFuncNested
import Derived.RangeFuncBound
import Derived.RangeFuncCalls
import Derived.RangeFuncLeaves
import Derived.Shelf.Abstract
import Derived.Shelf.RegionOpen
import Derived.OwnWalkIn
import Derived.TacticsInMore
import Derived.LoopNIn
import Derived.LoopIn
import Derived.Sort.BigQuietIn
set_option maxRecDepth 100000
set_option maxHeartbeats 8000000
namespace Go.Proofs.YtnndgpggjlhhpaaGreat
open Go.RowKit
structure AccU (w wr : World) (v : Value) (N : Nat) (L : List Nat) : Prop where
  own : wr.ownsRow 0 22 1 v N (wu64s L)
  fresh : Fresh w v
  fr : Fr S0 w wr
theorem wu64s_snoc (l : List Nat) (n : Nat) : wu64s (l ++ [n]) = wu64s l ++ [.int .u64 (n : Int)] := by simp [wu64s]
theorem AccU.nil {w wr : World} (f : Fr S0 w wr) : AccU w wr (.slice none 0 0) 0 [] := ⟨World.ownsRow_nil _ _ _ _, fun g h => by simp [Value.ownBlock] at h, f⟩
theorem AccU.len {w wr : World} {v : Value} {N : Nat} {L : List Nat} (h : AccU w wr v N L) : L.length = N := by
  have := h.own.1
  simp only [wu64s, List.length_map] at this
  omega
theorem AccU.fr0 {w wr w2 : World} {v : Value} {N : Nat} {L : List Nat} (h : AccU w wr v N L) (f : Fr S0 wr w2) : AccU w w2 v N L := ⟨f.owns h.own fun _ _ h => h, h.fresh, h.fr.trans0 f⟩
theorem AccU.app {w wr w3 : World} {v : Value} {N : Nat} {L : List Nat} {o : Obj} {g cap n : Nat} (h : AccU w wr v N L) (own : w3.ownsRow 0 22 1 (.slice (some ⟨g, 0, none⟩) (N + 1) cap) (N + 1) (wu64s L ++ #[Value.int .u64 (n : Int)].toList))
    (hg : (wr.alloc o).grownBy w3 v.ownBlock) (hat : v.ownBlock = some g ∨ g = wr.heap.size + 1) : AccU w w3 (.slice (some ⟨g, 0, none⟩) (N + 1) cap) (N + 1) (L ++ [n]) :=
  ⟨by rw [wu64s_snoc]; exact own, fresh_app h.fr h.fresh hat, (h.fr.trans0 (Fr.alloc S0 wr _)).append hg h.fresh⟩
theorem AccU.form {w wr : World} {v : Value} {N : Nat} {L : List Nat} (h : AccU w wr v N L) : ∃ p c, v = .slice p N c ∧ SlI wr .u64 p L ∧ (p = none → c = 0) ∧ N ≤ c ∧ c ≤ maxLen := by
  obtain ⟨p, c, rfl, hp⟩ := slForm h.own
  exact ⟨p, c, rfl, SlI.ofOwns h.own, hp⟩
theorem hput_any (s : ByteArray) (p : Option Addr) (c n : Nat) (l bs : List Nat) (w : World) (hs : s.size ≤ maxLen) (hn : l.length = n) (hl : SlI w .u64 p l) (hb : ∀ x ∈ l, x < 18446744073709551616) (hp : putS (pat s) l = .ok bs) :
    Calls Tryz.prog 54 #[.string s, .slice p n c] w fun e w' => ∃ q d, e = .returned (.slice q bs.length d) ∧ RowNew w w' (.slice q bs.length d) bs ∧ Fr S0 w w' := by
  have HP := Lib.hid (wput_any s p c l w hs hl hb)
  rw [hn, hp] at HP
  clear hs hn hl hb hp
  go_enter Tryz.func54, Tryz.ntmps54
  go_wp2_with fail
  refine HP.out.mono ?_
  rintro e w1 ⟨f1, v, rfl, own, fresh⟩
  obtain ⟨q, d, rfl, -⟩ := slForm own
  have HR := Lib.hid (show RowNew w w1 (.slice q bs.length d) bs from ⟨own, fresh⟩)
  have F1 := Lib.hid f1
  clear own fresh f1 HP
  go_wp2_with fail
  go_ret
  exact ⟨q, d, rfl, HR.out, F1.out⟩
theorem from_app {w : World} {v : Value} {g n c : Nat} (h : v.ownBlock = some g ∨ g = w.heap.size + 1) : ∀ k, Value.ownBlock (.slice (some ⟨g, 0, none⟩) n c) = some k → v.ownBlock = some k ∨ w.heap.size ≤ k := fun k hk => by
  have h1 : g = k := by simpa [Value.ownBlock] using hk
  subst h1
  rcases h with h | h
  · exact .inl h
  · exact .inr (by omega)
theorem step_many {P : Program} {t e : TypeId} {z : Value} {bytes : Nat} (he : ElemOk P t e z 1 bytes) {ops : Array Oper} {o : Oper} {a : Act} {K : Act → World → Prop} {Q : Exit → Act → World → Prop} {E : Prop} {w : World} (s x : Operand)
    {v : Value} {n : Nat} {xs : List Value} (own : w.ownsRow 0 e 1 v n xs) {u : Value} {m : Nat} {ys : List Value} (hsrc : SrcIs w u m ys) {N : Nat} (hN : n + m = N)
    (hgd : o.guard = none) (ho : o.op = .call { callee := .builtin .append, args := #[s, x], argTypes := #[t, t] }) (hs : a.eval s = v) (hx : a.eval x = u) (h1 : ∀ y ∈ ys, y.oneCell' = true) (hr : Room N)
    (h : ∀ p c w', w'.ownsRow 0 e 1 (.slice p N c) N (xs ++ ys) → w.grownBy w' v.ownBlock → (Value.ownBlock (.slice p N c) = v.ownBlock ∨ Value.ownBlock (.slice p N c) = some w.heap.size) →
      K (a.put o.dst (.slice p N c)) w') :
    if Region.wanted o (yielded ops a.tmps) = true then Oper.wp P o a w K Q else E := by
  subst hN
  have hw : Region.wanted o (yielded ops a.tmps) = true := by simp [Region.wanted, hgd]
  rw [if_pos hw]
  obtain ⟨p, c, w', hrun, h2, h3, h4⟩ := run_many (ty := o.type) he own hsrc h1 hr
  unfold Oper.wp
  simp only [execOp, ho, resolve, invoke, builtin, Sem.run_bind, Sem.run_pure, Result.andThen_ok, List.map_toArray, List.map_cons, List.map_nil, hs, hx, hrun]
  exact h p c w' h2 h3 h4
theorem SrcIs.one {W : World} {B : Nat} {x : Value} {T : TypeId} {fz : Nat × Nat} (hb : W.heap[B]? = some (.cells #[x] T fz)) : SrcIs W (.slice (some ⟨B, 0, none⟩) 1 1) 1 [x] :=
  ⟨rfl, .inr ⟨_, _, rfl, fun j v hj => by
    have hj0 : j = 0 := by have := (List.getElem?_eq_some_iff.1 hj).1; simpa using this
    subst hj0
    simp only [List.getElem?_cons_zero, Option.some.injEq] at hj
    subst hj
    simp [Addr.add, World.cell?, hb]⟩⟩
theorem AccU.more {w W w' : World} {v : Value} {N : Nat} {L : List Nat} {p : Option Addr} {c n : Nat} (h : AccU w W v N L) (own : w'.ownsRow 0 22 1 (.slice p (N + 1) c) (N + 1) (wu64s L ++ [.int .u64 (n : Int)])) (hg : W.grownBy w' v.ownBlock)
    (hat : Value.ownBlock (.slice p (N + 1) c) = v.ownBlock ∨ Value.ownBlock (.slice p (N + 1) c) = some W.heap.size) : AccU w w' (.slice p (N + 1) c) (N + 1) (L ++ [n]) :=
  ⟨by rw [wu64s_snoc]; exact own, fun k hk => by
    rcases hat with e | e
    · exact h.fresh k (e ▸ hk)
    · rw [hk] at e
      have := Option.some.inj e
      have := h.fr.size
      omega, h.fr.append hg h.fresh⟩
theorem AccU.more2 {w u W w' : World} {v : Value} {N : Nat} {L : List Nat} {p : Option Addr} {c n : Nat} (h : AccU w u v N L) (own : w'.ownsRow 0 22 1 (.slice p (N + 1) c) (N + 1) (wu64s L ++ [.int .u64 (n : Int)])) (hg : W.grownBy w' v.ownBlock)
    (hat : Value.ownBlock (.slice p (N + 1) c) = v.ownBlock ∨ Value.ownBlock (.slice p (N + 1) c) = some W.heap.size) (f : Fr S0 u W) : AccU w w' (.slice p (N + 1) c) (N + 1) (L ++ [n]) := (h.fr0 f).more own hg hat
theorem cell_more {u W w' : World} {X o : Nat} {v a : Value} (y : u.cell? ⟨X, o, none⟩ = some a) (hg : W.grownBy w' v.ownBlock) (hne : v.ownBlock ≠ some X) (f : Fr S0 u W) : w'.cell? ⟨X, o, none⟩ = some a :=
  (Fr.grown hg).cell (f.cell y fun h => h) fun e => hne e
theorem zeros_any (w0 w : World) (v : Value) (N : Nat) (L : List Nat) (g : Nat) (h : AccU w0 w v N L) (hN : N ≤ 1000000) (hg : g < 9223372036854775808) :
    Calls Tryz.prog 87 #[v, .int .i64 (g : Nat)] w fun e w' => ∃ v', e = .returned v' ∧ ∃ N', N' ≤ N + 1 ∧ AccU w0 w' v' N' (L ++ zers g) ∧ Fr (fun k => v.ownBlock = some k) w w' ∧ ∀ k, v'.ownBlock = some k → v.ownBlock = some k ∨ w.heap.size ≤ k := by
  have HR : Hid (Room (N + 1)) := Lib.hid (Room.mk (by omega))
  have HH := Lib.hid h
  obtain ⟨p, c, rfl, -⟩ := h.form
  have own := h.own
  clear h
  by_cases g0 : g = 0
  · subst g0
    go_enter Tryz.func87, Tryz.ntmps87
    go_wp2_with fail
    go_ret
    exact ⟨_, rfl, N, by omega, by rw [show zers 0 = [] from rfl, List.append_nil]; exact HH.out, Fr.refl _ _, fun k hk => .inl hk⟩
  · by_cases g1 : g = 1
    · subst g1
      go_enter Tryz.func87, Tryz.ntmps87
      go_wp2_with (at_builtin; refine app_one wel64 (.tmp 11) (.tmp 12) rfl own rfl rfl rfl rfl rfl one8 HR.out ?_; intro g cap w1 hown hgrow hat hlt1)
      have HA := Lib.hid (HH.out.app (n := 0) hown hgrow hat)
      have HF := Lib.hid ((Fr.alloc (fun k => Value.ownBlock (.slice p N c) = some k) w _).trans (Fr.grown hgrow) fun _ _ e => e)
      have HT := Lib.hid hat
      clear hown hgrow hat
      go_wp2_with fail
      go_ret
      exact ⟨_, rfl, _, Nat.le_refl _, HA.out, HF.out, from_app HT.out⟩
    · have e0 : ((g : Int) == 0) = false := by rw [beq_eq_false_iff_ne]; omega
      have e1 : ((g : Int) == 1) = false := by rw [beq_eq_false_iff_ne]; omega
      have e2 : IntKind.u64.wrap (-(g : Int)) = ((18446744073709551616 - g : Nat) : Int) := by rw [IntKind.wrap_u64]; omega
      obtain ⟨Z, hZ⟩ : ∃ Z, 18446744073709551616 - g = Z := ⟨_, rfl⟩
      have HZ : Hid (zers g = [Z]) := Lib.hid (by unfold zers; rw [if_neg g0, if_neg g1, hZ])
      rw [hZ] at e2
      have e3 : (-(g : Int)) % 18446744073709551616 = (Z : Int) := by omega
      clear hZ
      go_enter Tryz.func87, Tryz.ntmps87
      go_wp2_with (at_builtin; refine app_one wel64 (.tmp 14) (.tmp 18) rfl own rfl rfl rfl rfl rfl one8 HR.out ?_; intro g cap w1 hown hgrow hat hlt1)
      have HA := Lib.hid (HH.out.app (n := Z) hown hgrow hat)
      have HF := Lib.hid ((Fr.alloc (fun k => Value.ownBlock (.slice p N c) = some k) w _).trans (Fr.grown hgrow) fun _ _ e => e)
      have HT := Lib.hid hat
      clear hown hgrow hat
      go_wp2_with fail
      go_ret
      exact ⟨_, rfl, _, Nat.le_refl _, by rw [HZ.out]; exact HA.out, HF.out, from_app HT.out⟩
theorem box2p (w : World) (a b : Value) (t : TypeId) : (w.alloc (.cells #[a, b] t)).cell? ⟨w.heap.size, 0, none⟩ = some a ∧ (w.alloc (.cells #[a, b] t)).cell? ⟨w.heap.size, 1, none⟩ = some b := by
  have hb0 := heap_alloc_new w (.cells #[a, b] t)
  exact ⟨by rw [World.cell?, hb0]; rfl, by rw [World.cell?, hb0]; rfl⟩
def behind (a : Nat) : List Pr → Nat
  | [] => a
  | x :: r => behind (x.1.toNat + 1) r
theorem nums_snoc : ∀ (l : List Pr) (a : Nat) (x : Pr), numsAt a (l ++ [x]) = numsAt a l ++ (zers (x.1.toNat - behind a l) ++ [x.2])
  | [], a, x => by simp [numsAt, behind]
  | y :: r, a, x => by
    rw [List.cons_append, numsAt, nums_snoc r (y.1.toNat + 1) x, numsAt, behind]
    simp
theorem behind_snoc : ∀ (l : List Pr) (a : Nat) (x : Pr), behind a (l ++ [x]) = x.1.toNat + 1
  | [], _, _ => rfl
  | y :: r, _, x => behind_snoc r (y.1.toNat + 1) x
theorem behind_le : ∀ (l : List Pr) (a : Nat) (x : Pr), Upw a (l ++ [x]) → behind a l ≤ x.1.toNat
  | [], _, _, h => h.2.1
  | y :: r, _, x, h => behind_le r (y.1.toNat + 1) x h.2.2.2.2
theorem Upw.front : ∀ {l : List Pr} {a : Nat} {r : List Pr}, Upw a (l ++ r) → Upw a l
  | [], _, _, _ => trivial
  | _ :: _, _, _, ⟨h0, h1, h2, h3, h4⟩ => ⟨h0, h1, h2, h3, h4.front⟩
theorem numsAt_len : ∀ (l : List Pr) (a : Nat), (numsAt a l).length ≤ 2 * l.length
  | [], _ => Nat.le_refl _
  | x :: r, a => by
    have h1 := numsAt_len r (x.1.toNat + 1)
    have h2 : (zers (x.1.toNat - a)).length ≤ 1 := by unfold zers; split; · simp
                                                      split <;> simp
    rw [numsAt, List.length_append, List.length_cons, List.length_cons]
    omega
theorem numbers_any (p : Option Addr) (n c : Nat) (l : List Pr) (w : World) (hn : l.length = n) (hl : PrI w p l) (hsm : n ≤ 100000) (hu : Upw 0 l) (hk : ∀ x ∈ l, x.1 < 1099511627776) :
    Calls Tryz.prog 53 #[.slice p n c] w fun e w' => ∃ v N, e = .returned v ∧ AccU w w' v N (nums l) := by
  have HL := Lib.hid hl
  have HN := Lib.hid hn
  have HU := Lib.hid hu
  have HK := Lib.hid hk
  have HR : Hid (∀ k, k ≤ 1000000 → Room k) := Lib.hid fun k hk => Room.mk (by omega)
  clear hl hu hk
  by_cases h0 : n = 0
  · obtain rfl : l = [] := List.eq_nil_of_length_eq_zero (by omega)
    subst h0
    have HZ := Lib.hid (zeros_any w w (.slice none 0 0) 0 [] 1 (.nil (Fr.refl _ _)) (by decide) (by decide))
    clear hn
    go_enter Tryz.func53, Tryz.ntmps53
    go_wp2_with fail
    refine HZ.out.mono ?_
    rintro e w1 ⟨v, rfl, N, -, ha, -⟩
    have HA := Lib.hid ha
    clear ha
    go_wp2_with fail
    go_ret
    exact ⟨v, N, rfl, HA.out⟩
  · have HNE : Hid (nums l = numsAt 0 l) := Lib.hid (by unfold nums; rw [if_neg]; intro e; subst e; exact h0 hn.symm)
    have e0 : ((n : Int) == 0) = false := by rw [beq_eq_false_iff_ne]; omega
    clear hn h0
    go_enter Tryz.func53, Tryz.ntmps53
    go_wp2_with fail
    go_loopw [3, 4, 13] (fun v a z wr => ∃ (i N A : Nat) (q : Option Addr) (d : Nat), z = .int .i64 (i : Nat) ∧ i ≤ n ∧ N ≤ 2 * i ∧ a = .int .i64 (A : Nat) ∧ A < 1099511627777 ∧ v = .slice q N d ∧ Hid (AccU w wr (.slice q N d) N (numsAt 0 (l.take i)) ∧ A = behind 0 (l.take i))) (fun _ _ z _ => n - (intOf z).toNat)
    case atStart => exact ⟨0, 0, 0, none, 0, rfl, Nat.zero_le _, Nat.le_refl _, rfl, by decide, rfl, Lib.hid ⟨.nil (Fr.refl _ _), rfl⟩⟩
    case round =>
      obtain ⟨i, N, A, q, d, rfl, hin, hNi, rfl, hA, rfl, HI⟩ := hrel
      by_cases hlt : i < n
      · have hil : i < l.length := by rw [HN.out]; exact hlt
        obtain ⟨b, o, rfl, k0, k1⟩ := HL.out.at i hil
        have etk : l.take (i + 1) = l.take i ++ [l[i]] := List.take_succ_eq_append_getElem hil
        have hu2 : Upw 0 (l.take i ++ [l[i]]) := by rw [← etk]; exact Upw.front (r := l.drop (i + 1)) (by rw [List.take_append_drop]; exact HU.out)
        have hbl := behind_le _ _ _ hu2
        have hkb := HK.out _ (List.getElem_mem hil)
        have hk0 : 0 ≤ l[i].1 := hu2.facts.2.2.1 _ (List.mem_append_right _ (List.mem_singleton.2 rfl))
        obtain ⟨K, eK⟩ : ∃ K : Nat, l[i].1 = K := ⟨l[i].1.toNat, by omega⟩
        obtain ⟨V, eV⟩ : ∃ V, l[i].2 = V := ⟨_, rfl⟩
        have hns := nums_snoc (l.take i) 0 l[i]
        have hbs := behind_snoc (l.take i) 0 l[i]
        have eKn : l[i].1.toNat = K := by omega
        rw [← etk, eKn, eV, ← HI.out.2] at hns
        rw [← etk, eKn] at hbs
        rw [eKn, ← HI.out.2] at hbl
        rw [eK] at k0 hkb
        rw [eV] at k1
        have HNS := Lib.hid hns
        have HBS := Lib.hid hbs
        have k0 := HI.out.1.fr.cell k0 (fun h => h)
        have k1 := HI.out.1.fr.cell k1 (fun h => h)
        have hin2 : (i : Int) < (n : Int) := by omega
        have e3 : decide (i < n) = true := decide_eq_true hlt
        have HB2 := Lib.hid (box2p wr (.int .i64 (K : Nat)) (.int .u64 (V : Nat)) 65)
        have e4 : (K : Int) - (A : Int) = ((K - A : Nat) : Int) := by omega
        obtain ⟨G, hG⟩ : ∃ G, K - A = G := ⟨_, rfl⟩
        rw [hG] at e4 HNS
        have hG2 : G < 1099511627776 := by omega
        have HZ := Lib.hid (fun W (f : Fr S0 wr W) => zeros_any w W (.slice q N d) N (numsAt 0 (l.take i)) G (HI.out.1.fr0 f) (by omega) (by omega))
        have HA1 := Lib.hid (HI.out.1.fr0 (Fr.alloc S0 wr (.cells #[.int .i64 (K : Nat), .int .u64 (V : Nat)] 65)))
        obtain ⟨y0, y1⟩ := HB2.out
        have HBX : Hid ((∀ k, Value.ownBlock (.slice q N d) = some k → k ≠ wr.heap.size) ∧ wr.heap.size < (wr.alloc (.cells #[.int .i64 (K : Nat), .int .u64 (V : Nat)] 65)).heap.size) := Lib.hid ⟨fun k hk => by have := (HI.out.1.own.lt k hk).2; omega, by rw [size_alloc]; omega⟩
        have HFR := Lib.hid (Fr.alloc S0 wr (.cells #[.int .i64 (K : Nat), .int .u64 (V : Nat)] 65))
        clear hil etk hu2 hk0 eK eV hns hbs eKn hG HB2
        go_wp2_with fail
        obtain ⟨X, eX⟩ : ∃ X, wr.heap.size = X := ⟨_, rfl⟩
        rw [eX] at y0 y1 HBX
        rw [eX]
        generalize wr.alloc (.cells #[.int .i64 (K : Nat), .int .u64 (V : Nat)] 65) = W1 at y0 y1 HA1 HBX HFR ⊢
        clear eX k0 k1
        have e5 : IntKind.i64.wrap (G : Int) = (G : Int) := by rw [IntKind.wrap_i64]; omega
        have e6 : IntKind.i64.wrap ((K : Int) + 1) = ((K + 1 : Nat) : Int) := by rw [IntKind.wrap_i64]; omega
        have HLT : Hid (∀ k, Value.ownBlock (.slice q N d) = some k → k < W1.heap.size) := Lib.hid fun k hk => (HA1.out.own.lt k hk).2
        have y0a := fun o => (Fr.alloc S0 W1 o).cell y0 (fun h => h)
        go_region_law (first
          | (go_simp; go_at_call 87; (with_reducible refine (HZ.out _ (by first | exact HFR.out | exact HFR.out.trans0 (Fr.drew S0 _) | exact HFR.out.trans0 (Fr.alloc S0 _ _) | exact (HFR.out.trans0 (Fr.drew S0 _)).trans0 (Fr.alloc S0 _ _) | exact (HFR.out.trans0 (Fr.alloc S0 _ _)).trans0 (Fr.drew S0 _))).mono ?_); rintro _ u9 ⟨v9, rfl, N9, hN9, ha9, f9, n9⟩; (have HA9 := Lib.hid ha9); (have HNX : Hid (v9.ownBlock ≠ some X) := Lib.hid (fun e => by
              rcases n9 X e with h | h
              · exact HBX.out.1 X h rfl
              · exact absurd (Nat.lt_of_lt_of_le HBX.out.2 (Nat.le_trans (show W1.heap.size ≤ _ from by first | exact (Fr.refl S0 W1).size | exact (Fr.drew S0 W1).size | exact (Fr.alloc S0 W1 _).size | exact ((Fr.drew S0 W1).trans0 (Fr.alloc S0 _ _)).size | exact ((Fr.alloc S0 W1 _).trans0 (Fr.drew S0 _)).size) h)) (Nat.lt_irrefl _))); (have y0n := f9.cell (show World.cell? _ ⟨X, 0, none⟩ = _ from by first | exact y0 | exact (Fr.alloc S0 _ _).cell y0 (fun h => h)) (fun e => HBX.out.1 _ e rfl)); (have y1n := f9.cell (show World.cell? _ ⟨X, 1, none⟩ = _ from by first | exact y1 | exact (Fr.alloc S0 _ _).cell y1 (fun h => h)) (fun e => HBX.out.1 _ e rfl)); clear ha9 n9)
          | (refine step_many wel64 (.tmp 22) (.tmp 25) (n := N9) (m := 1) (N := N9 + 1) (ys := [.int .u64 (V : Nat)]) (by first | exact HA9.out.own | exact (HA9.out.fr0 (Fr.drew S0 _)).own | exact (HA9.out.fr0 (Fr.alloc S0 _ _)).own | exact (HA9.out.fr0 ((Fr.drew S0 _).trans0 (Fr.alloc S0 _ _))).own | exact (HA9.out.fr0 ((Fr.alloc S0 _ _).trans0 (Fr.drew S0 _))).own) (SrcIs.one (by first | exact heap_alloc_new _ _ | exact f9.row (heap_alloc_new W1 _) (fun e => Nat.lt_irrefl _ (HLT.out _ e)) | exact f9.row (heap_alloc_new W1.drew _) (fun e => Nat.lt_irrefl _ (HLT.out _ e)))) rfl rfl rfl rfl rfl (fun y hy => by rw [List.mem_singleton.1 hy]; rfl) (HR.out _ (by omega)) ?_; intro p10 c10 w10 own10 g10 at10; (have HA10 := Lib.hid (AccU.more2 HA9.out own10 g10 at10 (by first | exact Fr.refl S0 _ | exact Fr.drew S0 _ | exact Fr.alloc S0 _ _ | exact (Fr.drew S0 _).trans0 (Fr.alloc S0 _ _) | exact (Fr.alloc S0 _ _).trans0 (Fr.drew S0 _)))); (have y0m := cell_more y0n g10 HNX.out (by first | exact Fr.refl S0 _ | exact Fr.drew S0 _ | exact Fr.alloc S0 _ _ | exact (Fr.drew S0 _).trans0 (Fr.alloc S0 _ _) | exact (Fr.alloc S0 _ _).trans0 (Fr.drew S0 _))); clear own10 g10 at10)
          | fail)
        all_goals
          clear y0a
          go_wp2_with fail
          go_roundw
          case rel => exact ⟨i + 1, N9 + 1, K + 1, _, _, by first | rfl | go_num, by omega, by omega, by first | rfl | go_num, by omega, rfl, Lib.hid ⟨by rw [HNS.out, ← List.append_assoc]; exact HA10.out, HBS.out.symm⟩⟩
          case measure => simp [intOf] <;> omega
      · obtain rfl : i = n := by omega
        have HF : Hid (numsAt 0 (l.take i) = nums l) := Lib.hid (by rw [HNE.out, ← HN.out, List.take_length])
        go_wp2_with fail
        go_ret
        exact ⟨_, _, rfl, by rw [← HF.out]; exact HI.out.1⟩
end Go.Proofs.YtnndgpggjlhhpaaGreat

namespace Go.Proofs.YtnndgpggjlhhpaaGreat
open Go.RowKit Go.Shelf
attribute [local go_sem] Oper.semAt_some
theorem chunk_any (p : Option Addr) (n c : Nat) (w : World) :
    Calls Tryz.prog 85 #[.slice p n c, .int .i64 64] w fun e w' => e = .returned (.func (.func 116) #[] #[.pointer (some ⟨w.heap.size, 0, none⟩), .pointer (some ⟨w.heap.size + 1, 0, none⟩)]) ∧ w' = (w.alloc (.cells #[.slice p n c] 70)).alloc (.cells #[.int .i64 64] 3) := by
  go_enter Tryz.func85, Tryz.ntmps85
  go_wp2_with fail
  go_ret
  exact ⟨rfl, rfl⟩
def starts (n : Nat) : List Nat := (List.range ((n + 63) / 64)).map (64 * ·)
theorem starts_len (n : Nat) : (starts n).length = (n + 63) / 64 := by simp [starts]
theorem starts_take (n k : Nat) (h : 64 * k < n) : (starts n).take (k + 1) = (starts n).take k ++ [64 * k] := by
  have hk : k < (starts n).length := by rw [starts_len]; omega
  rw [List.take_succ_eq_append_getElem hk]
  simp [starts]
def chunkV (b o n x : Nat) : Value := .slice (some ⟨b, o + x, none⟩) (min 64 (n - x)) (min 64 (n - x))
def KpX (X n₀ : Nat) (W W' : World) : Prop := Fr (fun k => k = X ∨ n₀ ≤ k) W W'
theorem KpX.trans {X n₀ : Nat} {A B C : World} (h : KpX X n₀ A B) (k : KpX X n₀ B C) : KpX X n₀ A C := Fr.trans h k fun _ _ e => e
theorem KpX.cell {X n₀ : Nat} {A B : World} (h : KpX X n₀ A B) {b o : Nat} {v : Value} (hb : b < n₀ ∧ b ≠ X) (c : A.cell? ⟨b, o, none⟩ = some v) : B.cell? ⟨b, o, none⟩ = some v :=
  Fr.cell h c fun e => by
    have e : b = X ∨ n₀ ≤ b := e
    omega
theorem kpX_b {X n₀ : Nat} {w : World} (hn : n₀ ≤ w.heap.size) (W : World) (l : Nat) (o o' : Obj) (hl : w.heap.size ≤ l) (h : W.heap[l]? = some o) (h1 : o.isCells = false) (h2 : o.isWalk = false) : KpX X n₀ W (W.putObj l o') := by
  have b := belowK_b (n₀ := n₀) hn W l o o' hl h h1 h2
  exact ⟨b.os, b.tape, b.output, b.size, fun k _ hS => b.block k (Nat.lt_of_not_le fun e => hS (.inr e))⟩
theorem kpX_own {β : Type} {X n₀ B : Nat} {w₀ : World} (hB : n₀ ≤ B) : OwnFrom B (fun (_ : β) W => KpX X n₀ w₀ W) :=
  fun _ _ _ _ hs hg hr => Fr.trans hs (Fr.grown hg) fun _ _ e => .inr (Nat.le_trans hB (hr _ e).1)
theorem chunk1_in (n : Nat) (hn : 1 ≤ n) (X lp B1 B2 n₀ b o m c : Nat) (hmc : m ≤ c) (hc : m ≤ 1099511627776) (J Jx : List Nat → World → Prop) (W : World)
    (hB1 : W.cell? ⟨B1, 0, none⟩ = some (.slice (some ⟨b, o, none⟩) m c)) (hB2 : W.cell? ⟨B2, 0, none⟩ = some (.int .i64 64)) (h1 : B1 < n₀ ∧ B1 ≠ X) (h2 : B2 < n₀ ∧ B2 ≠ X)
    (hY : ∀ pre x W1, J pre W1 → pre.length < (m + 63) / 64 → YieldAt Fence.wide (n - 1) Tryz.prog lp #[chunkV b o m x] W1 fun e W' =>
      (e = .returned (.bool true) ∧ J (pre ++ [x]) W' ∧ KpX X n₀ W1 W') ∨ (e = .returned (.bool false) ∧ Jx (pre ++ [x]) W'))
    (hJ : AbidesFrom W.heap.size J) (h0 : J [] W) :
    CallsIn Fence.wide n Tryz.prog 116 #[.func (.yield lp) #[] #[], .pointer (some ⟨B1, 0, none⟩), .pointer (some ⟨B2, 0, none⟩)] W fun e W' => (∃ v, e = .returned v) ∧
      ((∃ ys, ys = starts m ∧ J ys W') ∨ (∃ pre, pre <+: starts m ∧ Jx pre W')) := by
  have hlen := starts_len m
  refine callsIn_of_wp Tryz.func116 rfl trivial ?_ rfl
  simp only [Tryz.ntmps116, List.size_toArray, List.length_cons, List.length_nil, Nat.reduceAdd, Nat.reduceSub, Array.replicate_succ, Array.replicate_zero, List.push_toArray, List.append_toArray, List.nil_append, List.cons_append]
  gi_wp2
  gi_loopw [4] (fun i wr => ∃ k : Nat, 64 * k ≤ m + 63 ∧ i = .int .i64 ((64 * k : Nat) : Int) ∧ J ((starts m).take k) wr ∧ KpX X n₀ W wr) (fun i _ => m + 64 - (intOf i).toNat)
  case atStart => exact ⟨0, by omega, rfl, h0, Fr.refl _ _⟩
  case round =>
    obtain ⟨k, hk, rfl, hJs, hnx⟩ := hrel
    have c1 := hnx.cell h1 hB1
    have c2 := hnx.cell h2 hB2
    obtain ⟨S, hS⟩ : ∃ S, 64 * k = S := ⟨_, rfl⟩
    by_cases hlt : S < m
    · have htk := starts_take m k (by omega)
      have hlt2 : (S : Int) < (m : Int) := by omega
      have hcs : ¬ c = S := by omega
      have hcs2 : (S : Int) ≤ (m : Int) := by omega
      have hmc2 : (m : Int) ≤ (c : Int) := by omega
      obtain ⟨R, hR⟩ : ∃ R, m - S = R := ⟨_, rfl⟩
      obtain ⟨N, hN⟩ : ∃ N, min 64 R = N := ⟨_, rfl⟩
      have e2 : min (64 : Int) (R : Int) = (N : Int) := by omega
      have HK2 := Lib.hid hS
      have HNR := Lib.hid hN
      have HR2 := Lib.hid hR
      obtain ⟨E, hE⟩ : ∃ E, S + N = E := ⟨_, rfl⟩
      have hsn : (S : Int) + (N : Int) = (E : Int) := by omega
      have hb1 : (E : Int) ≤ (m : Int) := by omega
      have hb2 : (S : Int) ≤ (E : Int) := by omega
      have hb3 : (E : Int) ≤ (c : Int) := by omega
      have hEb : E ≤ 1099511627776 := by omega
      have HKL : Hid (k < (m + 63) / 64) := Lib.hid (by omega)
      rw [hS]
      have hNb : N ≤ 64 := by omega
      have hSb : S < 1099511627776 := by omega
      have hmb : m ≤ 1099511627776 := by omega
      clear hS hN
      have hs3 : E - S = N := by omega
      clear hE
      gi_wp2
      gi_big_quiet_th (fail)
      have hJ1 : J ((starts m).take k) (wr.drewN nq) := hJ _ wr _ none hJs ⟨rfl, rfl, rfl, Nat.le_refl _, fun _ _ _ => rfl⟩ (fun r e => by cases e)
      have hnx1 : KpX X n₀ W (wr.drewN nq) := hnx.trans (Fr.drewN _ _ _)
      have hy0 : ∀ {R : Ending → World → Prop}, YieldAt Fence.wide (n - 1) Tryz.prog lp #[chunkV b o m (64 * k)] (wr.drewN nq) R → YieldAt Fence.wide (n - 1) Tryz.prog lp #[.slice (some ⟨b, o + S, none⟩) N N] (wr.drewN nq) R := fun h => by
        unfold chunkV at h
        rw [HK2.out, HR2.out, HNR.out] at h
        exact h
      obtain ⟨fn, tmps, assign, body, hy, hRR⟩ := hy0 (hY _ (64 * k) _ hJ1 (by rw [List.length_take]; have := HKL.out; omega))
      clear hy0 hJs hnx
      gi_wp2
      refine hRR.mono ?_
      rintro e W3 (⟨rfl, hJ3, hk3⟩ | ⟨rfl, hJx3⟩)
      · have c3 : W3.cell? ⟨B2, 0, none⟩ = some (.int .i64 64) := hk3.cell h2 c2
        gi_wp2
        go_roundw
        case rel =>
          refine ⟨k + 1, by have := HK2.out; omega, ?_, by rw [htk]; exact hJ3, hnx1.trans hk3⟩
          have := HK2.out
          rw [show 64 * (k + 1) = S + 64 by omega]
          go_num
        case measure => simp [intOf] <;> omega
      · gi_wp2
        refine bodyPost_ret (results_none rfl _ _ _) rfl ?_
        exact ⟨⟨_, rfl⟩, .inr ⟨_, by rw [← htk]; exact List.take_prefix _ _, hJx3⟩⟩
    · have hlt2 : ¬ (S : Int) < (m : Int) := by omega
      have hJl : J (starts m) wr := by rwa [List.take_of_length_le (by rw [starts_len]; omega)] at hJs
      rw [hS]
      gi_wp2
      go_end0
      exact ⟨⟨_, rfl⟩, .inl hJl⟩
theorem chunk_stops (n : Nat) (hn : 1 ≤ n) (X B1 B2 n₀ b o m c : Nat) (hmc : m ≤ c) (hc : m ≤ 1099511627776) (w : World)
    (hB1 : w.cell? ⟨B1, 0, none⟩ = some (.slice (some ⟨b, o, none⟩) m c)) (hB2 : w.cell? ⟨B2, 0, none⟩ = some (.int .i64 64)) (h1 : B1 < n₀ ∧ B1 ≠ X) (h2 : B2 < n₀ ∧ B2 ≠ X) (hn₀ : n₀ ≤ w.heap.size) :
    SeqStopsK Fence.wide n Tryz.prog 116 #[.pointer (some ⟨B1, 0, none⟩), .pointer (some ⟨B2, 0, none⟩)] (fun x : Nat => #[chunkV b o m x]) (KpX X n₀) (fun ys => ys = starts m) (fun pre => pre <+: starts m) ((m + 63) / 64) w := fun lp J Jx W hW hJ _ hY h0 =>
  chunk1_in n hn X lp B1 B2 n₀ b o m c hmc hc J Jx W ((hW.cell (p := ⟨B1, 0, none⟩) (Nat.lt_of_lt_of_le h1.1 hn₀)).trans hB1) ((hW.cell (p := ⟨B2, 0, none⟩) (Nat.lt_of_lt_of_le h2.1 hn₀)).trans hB2) h1 h2 hY hJ h0
end Go.Proofs.YtnndgpggjlhhpaaGreat
