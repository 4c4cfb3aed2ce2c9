/- The law on symbols that are written and read. -/
import Derived.Test.YtibmcapaefpkfaaHufAlive
import Derived.Test.YtibmcapaefpkfaaBitText
namespace Go.Proofs.Ytibmcapaefpkfaa
open Go.RowKit

/-- a slice of whole numbers with a sign -/
def SlZ (w : World) (p : Option Addr) (zs : List Int) : Prop :=
  zs.length ≤ maxLen ∧ (zs ≠ [] → ∃ b o, p = some ⟨b, o, none⟩ ∧ ∀ i, (h : i < zs.length) → w.cell? ⟨b, o + i, none⟩ = some (.int .i64 zs[i]))
theorem SlZ.fr0 {w w' : World} {p : Option Addr} {zs : List Int} (h : SlZ w p zs) (hf : Fr S0 w w') : SlZ w' p zs :=
  ⟨h.1, fun hl => let ⟨b, o, hp, hc⟩ := h.2 hl; ⟨b, o, hp, fun i hi => hf.cell (hc i hi) (fun h => h)⟩⟩
theorem SlZ.at {w : World} {p : Option Addr} {zs : List Int} (h : SlZ w p zs) (i : Nat) (hi : i < zs.length) : ∃ b o, p = some ⟨b, o, none⟩ ∧ w.cell? ⟨b, o + i, none⟩ = some (.int .i64 zs[i]) :=
  let ⟨b, o, hp, hc⟩ := h.2 (by intro e; subst e; simp at hi); ⟨b, o, hp, hc i hi⟩

/-- the symbols that have codes -/
def syms (l : List Nat) (zs : List Int) : List Nat := zs.filterMap fun z => if 0 < lenI l z then some z.toNat else none
/-- their codes' bits, one behind the other -/
def writ (l : List Nat) (ss : List Nat) : List Nat := ss.flatMap fun s => code (cod l s) (len l s)
theorem syms_append (l : List Nat) (a b : List Int) : syms l (a ++ b) = syms l a ++ syms l b := by simp [syms]
theorem syms_yes (l : List Nat) (zs : List Int) (j i : Nat) (h : j < zs.length) (hz : zs[j] = i) (hi : 0 < len l i) : syms l (zs.take (j + 1)) = syms l (zs.take j) ++ [i] := by
  rw [List.take_succ_eq_append_getElem h, syms_append, hz]
  have e : syms l [(i : Int)] = [i] := by
    unfold syms
    simp only [List.filterMap_cons, List.filterMap_nil, lenI_nat, if_pos hi, Int.toNat_natCast]
  rw [e]
theorem syms_no (l : List Nat) (zs : List Int) (j : Nat) (h : j < zs.length) (hz : lenI l zs[j] = 0) : syms l (zs.take (j + 1)) = syms l (zs.take j) := by
  rw [List.take_succ_eq_append_getElem h, syms_append]
  have e : syms l [zs[j]] = [] := by
    unfold syms
    simp only [List.filterMap_cons, List.filterMap_nil]
    rw [if_neg (by omega)]
  rw [e, List.append_nil]
theorem syms_le (l : List Nat) (zs : List Int) : (syms l zs).length ≤ zs.length := List.length_filterMap_le _ _
theorem syms_len (l : List Nat) (zs : List Int) : ∀ s ∈ syms l zs, 0 < len l s := by
  intro s hs
  unfold syms at hs
  obtain ⟨z, -, hz⟩ := List.mem_filterMap.1 hs
  by_cases h : 0 < lenI l z
  · rw [if_pos h] at hz
    obtain ⟨i, rfl, hi⟩ := lenI_pos h
    simp only [Int.toNat_natCast, Option.some.injEq] at hz
    rw [← hz]; exact hi
  · rw [if_neg h] at hz; cases hz
theorem writ_append (l a b : List Nat) : writ l (a ++ b) = writ l a ++ writ l b := by simp [writ]
theorem writ_one (l : List Nat) (s : Nat) : writ l [s] = code (cod l s) (len l s) := by simp [writ]
theorem writ_bit (l ss : List Nat) : Bit01 (writ l ss) := by
  intro x hx
  unfold writ at hx
  obtain ⟨s, -, h⟩ := List.mem_flatMap.1 hx
  exact code_bit _ _ x h
theorem writ_le {l : List Nat} (hm : mx l ≤ 15) : ∀ ss : List Nat, (writ l ss).length ≤ 15 * ss.length
  | [] => by simp [writ]
  | s :: r => by
    have := writ_le hm r
    have h2 := mx_len l s
    rw [show s :: r = [s] ++ r by rfl, writ_append, writ_one, List.length_append, code_length, List.length_append]
    simp only [List.length_singleton]
    omega
/-- what stands at a symbol's place -/
theorem writ_hits {l ss : List Nat} (ok : okl l) (hm : mx l ≤ 15) (k : Nat) (hk : k < ss.length) (hs : 0 < len l ss[k]) :
    hits l ((bts (byt (writ l ss))).drop (writ l (ss.take k)).length) ss[k] ∧ (writ l (ss.take (k + 1))).length = (writ l (ss.take k)).length + len l ss[k] ∧ (writ l (ss.take k)).length + len l ss[k] ≤ 8 * (byt (writ l ss)).length := by
  have h1 : writ l ss = writ l (ss.take k) ++ (code (cod l ss[k]) (len l ss[k]) ++ writ l (ss.drop (k + 1))) := by
    rw [← writ_one, ← writ_append, ← writ_append]
    congr 1
    rw [List.singleton_append, List.getElem_cons_drop, List.take_append_drop]
  have h2 : (writ l (ss.take (k + 1))).length = (writ l (ss.take k)).length + len l ss[k] := by
    rw [List.take_succ_eq_append_getElem hk, writ_append, writ_one, List.length_append, code_length]
  obtain ⟨A, hA⟩ : ∃ A, writ l (ss.take k) = A := ⟨_, rfl⟩
  obtain ⟨C, hC⟩ : ∃ C, code (cod l ss[k]) (len l ss[k]) = C := ⟨_, rfl⟩
  have hCl : C.length = len l ss[k] := by rw [← hC, code_length]
  rw [hA] at h1 h2 ⊢
  rw [hC] at h1
  have h3 : A.length + len l ss[k] ≤ (writ l ss).length := by rw [h1, List.length_append, List.length_append]; omega
  have h5 := byt_length (writ l ss)
  have h4 : A.length + len l ss[k] ≤ 8 * (byt (writ l ss)).length := by omega
  refine ⟨⟨hs, by rw [List.length_drop, bts_length]; omega, ?_⟩, h2, h4⟩
  rw [slice_byt _ (writ_bit l ss) _ _ h3, h1, List.drop_append_of_le_length (Nat.le_refl _), List.drop_length, List.nil_append, List.take_append_of_le_length (by omega), List.take_of_length_le (by omega), ← hC, val_code, Nat.mod_eq_of_lt (cod_two ok hs hm)]

theorem elI : ElemOk Try.prog 45 3 (.int .i64 0) 1 8 := ⟨Try.underlying45, info_int, rfl, by decide, by decide⟩
/-- a writer and a row of whole numbers, both younger than w0 -/
structure WrZ (w0 w : World) (g : Nat) (L : List Nat) (v : Value) (xs : List Nat) : Prop where
  ex : ∃ r, WrIs w g r L ∧ (∀ j, r = some j → w0.heap.size ≤ j) ∧ ∀ k, v.ownBlock = some k → k ≠ g ∧ r ≠ some k
  fr : Fr S0 w0 w
  new : w0.heap.size ≤ g
  own : w.ownsRow 0 3 1 v xs.length (i64s xs)
  fresh : Fresh w0 v
theorem WrZ.fr0 {w0 w w' : World} {g : Nat} {L : List Nat} {v : Value} {xs : List Nat} (h : WrZ w0 w g L v xs) (hf : Fr S0 w w') : WrZ w0 w' g L v xs := by
  obtain ⟨r, h1, h2, h3⟩ := h.ex
  exact ⟨⟨r, h1.fr0 hf, h2, h3⟩, h.fr.trans0 hf, h.new, hf.owns h.own (fun _ _ h => h), h.fresh⟩
theorem WrZ.zero (w : World) : WrZ w (w.alloc (.cells #[.slice none 0 0, .int .i64 0] 48)) w.heap.size [] (.slice none 0 0) [] := by
  obtain ⟨r, h1, h2, h3, h4⟩ := WrNew.zero (Fr.refl S0 w)
  exact ⟨⟨r, h1, h4, fun k hk => by simp [Value.ownBlock] at hk⟩, h2, h3, World.ownsRow_nil _ _ _ _, fresh_nil _ _⟩
theorem WrZ.to {w0 w w' : World} {g : Nat} {L L' : List Nat} {v : Value} {xs : List Nat} {r : Option Nat} (hr : ∀ j, r = some j → w0.heap.size ≤ j) (hs : ∀ k, v.ownBlock = some k → k ≠ g ∧ r ≠ some k)
    (h : WrZ w0 w g L v xs) (hto : WrTo w w' g r L') : WrZ w0 w' g L' v xs := by
  obtain ⟨r2, h1, h2, h3⟩ := hto
  refine ⟨⟨r2, h1, fun j hj => ?_, fun k hk => ⟨(hs k hk).1, fun e => ?_⟩⟩, h.fr.trans h2 (fun j hj e => ?_), h.new, h2.owns h.own (fun k hk e => ?_), h.fresh⟩
  · rcases h3 with h3 | h3
    · exact hr j (h3 ▸ hj)
    · exact Nat.le_trans h.fr.size (h3 j hj)
  · rcases h3 with h3 | h3
    · exact (hs k hk).2 (h3.symm.trans e)
    · have := h3 k e
      have := (h.own.lt k hk).2
      omega
  · have := h.new
    rcases e with e | e
    · omega
    · have := hr j e; omega
  · rcases e with e | e
    · exact (hs k hk).1 e
    · exact (hs k hk).2 e
theorem WrZ.app {w0 w wa w' : World} {g : Nat} {L : List Nat} {v v' : Value} {xs zs : List Nat} (h : WrZ w0 w g L v xs) (hf : Fr S0 w wa) (hgrow : wa.grownBy w' v.ownBlock) (own : w'.ownsRow 0 3 1 v' zs.length (i64s zs))
    (hat : v'.ownBlock = v.ownBlock ∨ ∀ k, v'.ownBlock = some k → w.heap.size ≤ k) : WrZ w0 w' g L v' zs := by
  obtain ⟨r, h1, h2, h3⟩ := h.ex
  have f : Fr (fun k => v.ownBlock = some k) w w' := (hf.mono (fun _ _ h => h.elim)).trans (Fr.grown hgrow) (fun _ _ h => h)
  have hlt := h1.lt
  have hrl := h1.rlt
  refine ⟨⟨r, h1.fr f (fun e => (h3 g e).1 rfl) (fun j hj e => (h3 j e).2 hj), h2, fun k hk => ?_⟩, h.fr.trans f (fun j hj e => by have := h.fresh j e; omega), h.new, own, fun k hk => ?_⟩
  · rcases hat with e | e
    · exact h3 k (e ▸ hk)
    · have := e k hk
      exact ⟨by omega, fun e => by have := hrl k e; omega⟩
  · rcases hat with e | e
    · exact h.fresh k (e ▸ hk)
    · exact Nat.le_trans h.fr.size (e k hk)
theorem WrZ.push {w0 w w' : World} {g i gq cap n : Nat} {L : List Nat} {v : Value} {xs : List Nat} {o : Obj} (hn : xs.length = n) (h : WrZ w0 w g L v xs) (own : w'.ownsRow 0 3 1 (.slice (some ⟨gq, 0, none⟩) (n + 1) cap) (n + 1) (i64s xs ++ [.int .i64 (i : Nat)]))
    (hgrow : (w.alloc o).grownBy w' v.ownBlock) (hat : v.ownBlock = some gq ∨ gq = w.heap.size + 1) : WrZ w0 w' g L (.slice (some ⟨gq, 0, none⟩) (n + 1) cap) (xs ++ [i]) := by
  subst hn
  refine h.app (Fr.alloc S0 w o) hgrow ?_ ?_
  · rw [List.length_append, List.length_singleton]
    have e : i64s (xs ++ [i]) = i64s xs ++ [.int .i64 (i : Nat)] := by simp [i64s]
    rw [e]; exact own
  · rcases hat with e | e
    · exact .inl e.symm
    · exact .inr fun k hk => by simp only [Value.ownBlock, Option.some.injEq] at hk; omega
theorem z_write {B g : Nat} {w0 w : World} {gw i : Nat} {L l : List Nat} {v : Value} {xs : List Nat} (h : WrZ w0 w gw L v xs) (hS : SetIs w B g l) (hi : 0 < len l i) (hL : L.length + 32 ≤ 1099511627776) :
    Calls Try.prog 20 #[.pointer (some ⟨g, 0, none⟩), .pointer (some ⟨gw, 0, none⟩), .int .i64 i] w fun e w' => e = .returned (.int .i64 0) ∧ WrZ w0 w' gw (L ++ code (cod l i) (len l i)) v xs := by
  obtain ⟨r, h1, h2, h3⟩ := h.ex
  refine (write_yes B g l i gw r L w hS hi h1 hL).mono ?_
  rintro e w' ⟨rfl, hto⟩
  exact ⟨rfl, WrZ.to h2 h3 h hto⟩
theorem z_bytes {w0 w : World} {g : Nat} {L : List Nat} {v : Value} {xs : List Nat} (h : WrZ w0 w g L v xs) (hL : L.length ≤ 1099511627776) :
    Calls Try.prog 22 #[.pointer (some ⟨g, 0, none⟩)] w fun e w' => ∃ u, e = .returned u ∧ Fr S0 w w' ∧ RowNew w w' u (byt L) := by
  obtain ⟨r, h1, -⟩ := h.ex
  exact bytes_any g r L w h1 hL
theorem z_len {w0 w : World} {g : Nat} {L : List Nat} {v : Value} {xs : List Nat} (h : WrZ w0 w g L v xs) :
    Calls Try.prog 21 #[.pointer (some ⟨g, 0, none⟩)] w fun e w' => e = .returned (.int .i64 (L.length : Nat)) ∧ w = w' := by
  obtain ⟨r, h1, -⟩ := h.ex
  exact len_any g r L w h1

set_option maxRecDepth 100000 in
set_option maxHeartbeats 400000 in
theorem back_far (p q : Option Addr) (n m d e : Nat) (w : World) (hn : ¬ n ≤ 320) :
    Calls Try.prog 5 #[.slice p n d, .slice q m e] w fun e w' => e = .returned (.bool true) ∧ Fr S0 w w' := by
  have hw := start w
  have h1 : (n : Int) > 320 := by omega
  clear hn
  go_enter Try.func5, Try.ntmps5
  go_wp2_with fail
  refine hw _ ?_
  intro w1 g1
  have G1 := Lib.hid g1
  clear hw g1
  go_wp2_with fail
  go_ret
  exact ⟨rfl, G1.out⟩

set_option maxRecDepth 100000 in
set_option maxHeartbeats 400000 in
theorem back_no (p q : Option Addr) (d e k m : Nat) (l : List Nat) (w : World) (hL : l.length ≤ 320) (hk0 : k ≠ 0)
    (hM : ∀ W, Fr S0 w W → Calls Try.prog 9 #[.slice p l.length d] W fun e w' => e = .returned (.tuple #[.pointer none, .int .i64 (k : Nat)]) ∧ Fr S0 W w') :
    Calls Try.prog 5 #[.slice p l.length d, .slice q m e] w fun e w' => e = .returned (.bool true) ∧ Fr S0 w w' := by
  have hw := start w
  have h1 : ¬ (l.length : Int) > 320 := by omega
  have HM := Lib.hid hM
  have hkk : ((k : Int) != 0) = true := by rw [bne_iff_ne]; omega
  clear hM hL
  go_enter Try.func5, Try.ntmps5
  go_wp2_with fail
  refine hw _ ?_
  intro w1 g1
  have G1 := Lib.hid g1
  clear hw g1
  go_wp2_with fail
  refine (HM.out w1 G1.out).mono ?_
  rintro e w2 ⟨rfl, f2⟩
  have G2 := Lib.hid (G1.out.trans0 f2)
  clear f2 HM
  go_wp2_with fail
  go_ret
  exact ⟨rfl, G2.out⟩

set_option maxRecDepth 100000 in
set_option maxHeartbeats 4000000 in
theorem back_ok (p q : Option Addr) (d e : Nat) (l : List Nat) (zs : List Int) (w : World) (hl : SlI w .u8 p l) (hp : p = none → d = 0) (hL : l.length ≤ 320) (h15 : ∀ x ∈ l, x ≤ 15) (ok : okl l) (hz : SlZ w q zs) :
    Calls Try.prog 5 #[.slice p l.length d, .slice q zs.length e] w fun e w' => e = .returned (.bool true) ∧ Fr S0 w w' := by
  have hw := start w
  have h1 : ¬ (l.length : Int) > 320 := by omega
  have HZ := Lib.hid hz
  have hzm := hz.1
  unfold maxLen at hzm
  have HM := Lib.hid (fun (W : World) (f : Fr S0 w W) => make_ok p d l W (hl.fr0 f) hp hL h15 ok)
  have HOK := Lib.hid ok
  have HMX : Hid (mx l ≤ 15) := Lib.hid (mx_le h15)
  clear hl hp h15 ok hz
  go_enter Try.func5, Try.ntmps5
  go_wp2_with fail
  refine hw _ ?_
  intro w1 g1
  have G1 := Lib.hid g1
  clear hw g1
  go_wp2_with fail
  refine (HM.out w1 G1.out).mono ?_
  rintro e w2 ⟨g, rfl, ⟨f2, s2⟩, -⟩
  have G2 := Lib.hid (G1.out.trans0 f2)
  have HS := Lib.hid s2
  have HW2 := Lib.hid (WrZ.zero w2)
  clear f2 s2 HM
  go_wp2_with fail
  obtain ⟨gw, hgw⟩ : ∃ x, w2.heap.size = x := ⟨_, rfl⟩
  obtain ⟨W3, hW3⟩ : ∃ x, w2.alloc (.cells #[.slice none 0 0, .int .i64 0] 48) = x := ⟨_, rfl⟩
  rw [hgw, hW3] at HW2
  rw [hgw, hW3]
  have HGW := Lib.hid hgw
  clear hgw hW3
  go_loopw [8, 9, 10, 11, 12] (fun dv bv i _ _ wr => ∃ (j N : Nat), j ≤ zs.length ∧ j ≤ 60 ∧ i = .int .i64 j ∧ bv = .int .i64 N ∧ N = (writ l (syms l (zs.take j))).length ∧ WrZ w2 wr gw (writ l (syms l (zs.take j))) dv (syms l (zs.take j))) (fun _ _ i _ _ _ => zs.length - (intOf i).toNat)
  case atStart => exact ⟨0, 0, by omega, by omega, rfl, rfl, rfl, HW2.out⟩
  case round =>
    obtain ⟨j, N, hj, hj60, rfl, rfl, hN, hwz⟩ := hrel
    have HN := Lib.hid hN
    have HWZ := Lib.hid hwz
    have hNs : N ≤ 900 := by
      rw [hN]
      have h1 := writ_le HMX.out (syms l (zs.take j))
      have h2 := syms_le l (zs.take j)
      rw [List.length_take] at h2
      omega
    clear hN hwz
    by_cases hjc : (j : Int) < (zs.length : Int)
    · by_cases hj6 : (j : Int) < 60
      · have hjl : j < zs.length := by omega
        obtain ⟨b, o, hpe, hcl⟩ := (HZ.out.fr0 (G2.out.trans0 HWZ.out.fr)).at j hjl
        have HSW := Lib.hid (HS.out.fr0 HWZ.out.fr)
        have HLE := Lib.hid (length_any _ g l zs[j] wr HSW.out)
        subst hpe
        obtain ⟨pv, cv, hdv, -, -, -⟩ := slForm HWZ.out.own
        subst hdv
        by_cases hpos : 0 < lenI l zs[j]
        · obtain ⟨i, hi, hi0⟩ := lenI_pos hpos
          have HSY := Lib.hid (syms_yes l zs j i hjl hi hi0)
          have HZI := Lib.hid hi
          rw [hi] at hcl HLE
          rw [lenI_nat] at HLE
          have HWR := Lib.hid (z_write HWZ.out HSW.out hi0 (by have := HN.out; omega))
          obtain ⟨x, hx⟩ : ∃ x, len l i = x := ⟨_, rfl⟩
          have HX := Lib.hid hx
          have hx15 : x ≤ 15 := by rw [← hx]; exact Nat.le_trans (mx_len l i) HMX.out
          rw [hx] at HLE hi0
          clear hpos hi hx
          go_wp2_with fail
          refine HLE.out.mono ?_
          rintro e w' ⟨rfl, rfl⟩
          go_wp2_with fail
          refine HWR.out.mono ?_
          rintro e w4 ⟨rfl, hz4⟩
          have HZ4 := Lib.hid hz4
          obtain ⟨b', o', hpe', hcl4⟩ := (HZ.out.fr0 (G2.out.trans0 HZ4.out.fr)).at j hjl
          simp only [Option.some.injEq, Addr.mk.injEq, and_true] at hpe'
          obtain ⟨rfl, rfl⟩ := hpe'
          rw [HZI.out] at hcl4
          have own4 := HZ4.out.own
          obtain ⟨n, hn⟩ : ∃ n, (syms l (zs.take j)).length = n := ⟨_, rfl⟩
          have HNN := Lib.hid hn
          have hns : n ≤ 60 := by
            rw [← hn]
            have h2 := syms_le l (zs.take j)
            rw [List.length_take] at h2
            omega
          have HR : Hid (Room (n + 1)) := Lib.hid (Room.mk (by omega))
          rw [hn] at own4 hz4 ⊢
          have HZN := Lib.hid hz4
          clear hz4 hn hcl
          go_wp2_with (first
            | ((with_reducible show wpList _ _ _ (Oper.mk (some 77) _ _ _ _ _ :: _) _ _); refine app_one elI (.tmp 71) (.tmp 76) rfl own4 rfl rfl rfl (by rfl) rfl one8 HR.out ?_; intro q5 cap w5 own5 g5 at5 lt5; have HZ5 := Lib.hid (WrZ.push (i := i) HNN.out HZN.out own5 g5 at5); clear own4 own5 g5 at5 lt5)
            | fail)
          go_roundw
          case rel =>
            refine ⟨j + 1, N + x, by omega, by omega, by go_num, by go_num, ?_, ?_⟩
            · rw [HSY.out, writ_append, writ_one, List.length_append, code_length, HX.out, ← HN.out]
            · rw [HSY.out, writ_append, writ_one, HX.out]
              have := HZ5.out
              rw [HX.out] at this
              exact this
          case measure => simp [intOf]; omega
        · have hx0 : lenI l zs[j] = 0 := by omega
          have HSY := Lib.hid (syms_no l zs j hjl hx0)
          have HWR := Lib.hid (write_no _ g l zs[j] (some ⟨gw, 0, none⟩) wr HSW.out (.inr hx0))
          rw [hx0] at HLE
          have HLE0 : Hid (Calls Try.prog 14 #[.pointer (some ⟨g, 0, none⟩), .int .i64 zs[j]] wr fun e w' => e = .returned (.int .i64 0) ∧ wr = w') := Lib.hid HLE.out
          obtain ⟨z, hz⟩ : ∃ z, zs[j] = z := ⟨_, rfl⟩
          rw [hz] at hcl HWR HLE0
          clear hpos hx0 HLE hz
          go_wp2_with fail
          refine HLE0.out.mono ?_
          rintro e w' ⟨rfl, rfl⟩
          go_wp2_with fail
          refine HWR.out.mono ?_
          rintro e w' ⟨rfl, rfl⟩
          go_wp2_with fail
          go_roundw
          case rel => exact ⟨j + 1, N, by omega, by omega, by go_num, rfl, by rw [HSY.out]; exact HN.out, by rw [HSY.out]; exact HWZ.out⟩
          case measure => simp [intOf]; omega
      · have hj60b : decide (j < 60) = false := decide_eq_false (by omega)
        have HSW := Lib.hid (HS.out.fr0 HWZ.out.fr)
        obtain ⟨pv, cv, hdv, -, -, -⟩ := slForm HWZ.out.own
        subst hdv
        obtain ⟨S, hS⟩ : ∃ S, syms l (zs.take j) = S := ⟨_, rfl⟩
        have HLEN : Hid (∀ s ∈ S, 0 < len l s) := Lib.hid (by rw [← hS]; exact syms_len l _)
        rw [hS] at HWZ HN ⊢
        have hSs : S.length ≤ 60 := by
          rw [← hS]
          have h2 := syms_le l (zs.take j)
          rw [List.length_take] at h2
          omega
        have HLN := z_len HWZ.out
        rw [← HN.out] at HLN
        have HLN := Lib.hid HLN
        clear hS
        go_wp2_with fail
        refine HLN.out.mono ?_
        rintro e w' ⟨rfl, rfl⟩
        clear HLN
        go_wp2_with fail
        refine (z_bytes HWZ.out (by have := HN.out; omega)).mono ?_
        rintro e w5 ⟨u, rfl, f5, hu⟩
        obtain ⟨pu, cu, rfl, hpu, -, -⟩ := slForm hu.own
        have hbl := byt_length (writ l S)
        have hb8 := byt_lt (writ l S) (writ_bit l S)
        have HNW := Lib.hid (new_any pu cu (byt (writ l S)) w5 (SlI.ofOwns hu.own) hb8 hpu (by have := HN.out; omega))
        have HBS : Hid ((byt (writ l S)).length ≤ 140737488355328) := Lib.hid (by have := HN.out; omega)
        obtain ⟨BY, hBY⟩ : ∃ X, byt (writ l S) = X := ⟨_, rfl⟩
        rw [hBY] at HNW HBS ⊢
        have HBY := Lib.hid hBY
        have HW5 := Lib.hid (HWZ.out.fr0 f5)
        have HS5 := Lib.hid (HSW.out.fr0 f5)
        clear f5 hu hpu hbl hb8 hBY
        go_wp2_with fail
        refine HNW.out.mono ?_
        rintro e w6 ⟨gr, rr, rfl, r6, f6, hg6, -⟩
        have HW6 := Lib.hid (HW5.out.fr0 f6)
        have HS6 := Lib.hid (HS5.out.fr0 f6)
        have HGR : Hid (w2.heap.size ≤ gr) := Lib.hid (Nat.le_trans HW5.out.fr.size hg6)
        have HG0 : Hid (w.heap.size ≤ gr) := Lib.hid (Nat.le_trans G2.out.size HGR.out)
        have HR6 := Lib.hid r6
        have HOFF : Hid (∀ k, Value.ownBlock (.slice pv S.length cv) = some k → k ≠ gr) := Lib.hid (fun k hk e => by
          have := (HW5.out.own.lt k hk).2
          omega)
        clear r6 f6 hg6 HNW
        go_wp2_with fail
        go_loopw [14, 15, 16] (fun i _ _ wr => ∃ k : Nat, k ≤ S.length ∧ i = .int .i64 k ∧ RdTo w6 wr gr rr BY (writ l (S.take k)).length) (fun i _ _ _ => S.length - (intOf i).toNat)
        case atStart => exact ⟨0, by omega, rfl, HR6.out.self⟩
        case round =>
          obtain ⟨k, hk, rfl, hto⟩ := hrel
          have HT := Lib.hid hto
          clear hto
          by_cases hkc : (k : Int) < (S.length : Int)
          · have hkl : k < S.length := by omega
            have HH := Lib.hid (writ_hits HOK.out HMX.out k hkl (HLEN.out _ (List.getElem_mem hkl)))
            rw [HBY.out] at HH
            have HRD := Lib.hid (read_any w2.heap.size g l gr rr BY _ wr (HS6.out.fr HT.out.2 (fun x hx e => by have := HGR.out; omega)) HT.out.1 HGR.out HBS.out)
            obtain ⟨s, hs⟩ : ∃ s, S[k] = s := ⟨_, rfl⟩
            rw [hs] at HH
            have HSK := Lib.hid hs
            clear hs
            go_wp2_with fail
            refine HRD.out.mono ?_
            rintro e w7 ⟨n, hn, hto⟩
            have he : e = .returned (.tuple #[.int .i64 (s : Nat), .int .i64 0]) ∧ n = len l s := by
              rcases hn with ⟨i, hi, he, hn⟩ | ⟨hi, -⟩ | ⟨hi, -⟩
              · obtain rfl := hits_one ((bts_bit BY).sub fun _ hx => List.mem_of_mem_drop hx) hi HH.out.1
                exact ⟨he, hn⟩
              · exact absurd HH.out.1 (hi s)
              · exact absurd HH.out.1 (hi s)
            obtain ⟨rfl, hnl⟩ := he
            have HT7 : Hid (RdTo w6 w7 gr rr BY (writ l (S.take (k + 1))).length) := Lib.hid (by rw [HH.out.2.1, ← hnl]; exact HT.out.trans hto)
            have own7 := HT7.out.2.owns HW6.out.own (fun x hx e => HOFF.out x hx e)
            obtain ⟨b7, o7, hp7, hc7⟩ := (SlI.ofOwns (k := .i64) (l := S) own7).at k hkl
            rw [HSK.out] at hc7
            subst hp7
            clear hn hto hnl HRD own7
            go_wp2_with fail
            go_roundw
            case rel => exact ⟨k + 1, by omega, by go_num, HT7.out⟩
            case measure => simp [intOf]; omega
          · have HWN := Lib.hid (write_no w2.heap.size g l 0 none wr (HS6.out.fr HT.out.2 (fun x hx e => by have := HGR.out; omega)) (.inl rfl))
            have HE : Hid (Fr S0 w wr) := Lib.hid ((G2.out.trans0 HW6.out.fr).trans HT.out.2 (fun x hx e => by have := HG0.out; omega))
            go_wp2_with fail
            refine HWN.out.mono ?_
            rintro e w' ⟨rfl, rfl⟩
            go_wp2_with fail
            go_ret
            exact ⟨rfl, HE.out⟩
    · have hjcb : decide (j < zs.length) = false := decide_eq_false (by omega)
      have HSW := Lib.hid (HS.out.fr0 HWZ.out.fr)
      obtain ⟨pv, cv, hdv, -, -, -⟩ := slForm HWZ.out.own
      subst hdv
      obtain ⟨S, hS⟩ : ∃ S, syms l (zs.take j) = S := ⟨_, rfl⟩
      have HLEN : Hid (∀ s ∈ S, 0 < len l s) := Lib.hid (by rw [← hS]; exact syms_len l _)
      rw [hS] at HWZ HN ⊢
      have hSs : S.length ≤ 60 := by
        rw [← hS]
        have h2 := syms_le l (zs.take j)
        rw [List.length_take] at h2
        omega
      have HLN := z_len HWZ.out
      rw [← HN.out] at HLN
      have HLN := Lib.hid HLN
      clear hS
      go_wp2_with fail
      refine HLN.out.mono ?_
      rintro e w' ⟨rfl, rfl⟩
      clear HLN
      go_wp2_with fail
      refine (z_bytes HWZ.out (by have := HN.out; omega)).mono ?_
      rintro e w5 ⟨u, rfl, f5, hu⟩
      obtain ⟨pu, cu, rfl, hpu, -, -⟩ := slForm hu.own
      have hbl := byt_length (writ l S)
      have hb8 := byt_lt (writ l S) (writ_bit l S)
      have HNW := Lib.hid (new_any pu cu (byt (writ l S)) w5 (SlI.ofOwns hu.own) hb8 hpu (by have := HN.out; omega))
      have HBS : Hid ((byt (writ l S)).length ≤ 140737488355328) := Lib.hid (by have := HN.out; omega)
      obtain ⟨BY, hBY⟩ : ∃ X, byt (writ l S) = X := ⟨_, rfl⟩
      rw [hBY] at HNW HBS ⊢
      have HBY := Lib.hid hBY
      have HW5 := Lib.hid (HWZ.out.fr0 f5)
      have HS5 := Lib.hid (HSW.out.fr0 f5)
      clear f5 hu hpu hbl hb8 hBY
      go_wp2_with fail
      refine HNW.out.mono ?_
      rintro e w6 ⟨gr, rr, rfl, r6, f6, hg6, -⟩
      have HW6 := Lib.hid (HW5.out.fr0 f6)
      have HS6 := Lib.hid (HS5.out.fr0 f6)
      have HGR : Hid (w2.heap.size ≤ gr) := Lib.hid (Nat.le_trans HW5.out.fr.size hg6)
      have HG0 : Hid (w.heap.size ≤ gr) := Lib.hid (Nat.le_trans G2.out.size HGR.out)
      have HR6 := Lib.hid r6
      have HOFF : Hid (∀ k, Value.ownBlock (.slice pv S.length cv) = some k → k ≠ gr) := Lib.hid (fun k hk e => by
        have := (HW5.out.own.lt k hk).2
        omega)
      clear r6 f6 hg6 HNW
      go_wp2_with fail
      go_loopw [14, 15, 16] (fun i _ _ wr => ∃ k : Nat, k ≤ S.length ∧ i = .int .i64 k ∧ RdTo w6 wr gr rr BY (writ l (S.take k)).length) (fun i _ _ _ => S.length - (intOf i).toNat)
      case atStart => exact ⟨0, by omega, rfl, HR6.out.self⟩
      case round =>
        obtain ⟨k, hk, rfl, hto⟩ := hrel
        have HT := Lib.hid hto
        clear hto
        by_cases hkc : (k : Int) < (S.length : Int)
        · have hkl : k < S.length := by omega
          have HH := Lib.hid (writ_hits HOK.out HMX.out k hkl (HLEN.out _ (List.getElem_mem hkl)))
          rw [HBY.out] at HH
          have HRD := Lib.hid (read_any w2.heap.size g l gr rr BY _ wr (HS6.out.fr HT.out.2 (fun x hx e => by have := HGR.out; omega)) HT.out.1 HGR.out HBS.out)
          obtain ⟨s, hs⟩ : ∃ s, S[k] = s := ⟨_, rfl⟩
          rw [hs] at HH
          have HSK := Lib.hid hs
          clear hs
          go_wp2_with fail
          refine HRD.out.mono ?_
          rintro e w7 ⟨n, hn, hto⟩
          have he : e = .returned (.tuple #[.int .i64 (s : Nat), .int .i64 0]) ∧ n = len l s := by
            rcases hn with ⟨i, hi, he, hn⟩ | ⟨hi, -⟩ | ⟨hi, -⟩
            · obtain rfl := hits_one ((bts_bit BY).sub fun _ hx => List.mem_of_mem_drop hx) hi HH.out.1
              exact ⟨he, hn⟩
            · exact absurd HH.out.1 (hi s)
            · exact absurd HH.out.1 (hi s)
          obtain ⟨rfl, hnl⟩ := he
          have HT7 : Hid (RdTo w6 w7 gr rr BY (writ l (S.take (k + 1))).length) := Lib.hid (by rw [HH.out.2.1, ← hnl]; exact HT.out.trans hto)
          have own7 := HT7.out.2.owns HW6.out.own (fun x hx e => HOFF.out x hx e)
          obtain ⟨b7, o7, hp7, hc7⟩ := (SlI.ofOwns (k := .i64) (l := S) own7).at k hkl
          rw [HSK.out] at hc7
          subst hp7
          clear hn hto hnl HRD own7
          go_wp2_with fail
          go_roundw
          case rel => exact ⟨k + 1, by omega, by go_num, HT7.out⟩
          case measure => simp [intOf]; omega
        · have HWN := Lib.hid (write_no w2.heap.size g l 0 none wr (HS6.out.fr HT.out.2 (fun x hx e => by have := HGR.out; omega)) (.inl rfl))
          have HE : Hid (Fr S0 w wr) := Lib.hid ((G2.out.trans0 HW6.out.fr).trans HT.out.2 (fun x hx e => by have := HG0.out; omega))
          go_wp2_with fail
          refine HWN.out.mono ?_
          rintro e w' ⟨rfl, rfl⟩
          go_wp2_with fail
          go_ret
          exact ⟨rfl, HE.out⟩

theorem law_back (p q : Option Addr) (d e : Nat) (l : List Nat) (zs : List Int) (w : World) (hl : SlI w .u8 p l) (hp : p = none → d = 0) (hz : SlZ w q zs) :
    Calls Try.prog 5 #[.slice p l.length d, .slice q zs.length e] w fun e w' => e = .returned (.bool true) ∧ Fr S0 w w' := by
  by_cases h1 : l.length ≤ 320
  · cases h3 : long l with
    | true => exact back_no p q d e 1 zs.length l w h1 (by decide) (fun W f => (make_long p d l W (hl.fr0 f) h1 h3).mono fun _ _ h => ⟨h.1, h.2 ▸ Fr.refl _ _⟩)
    | false =>
      have h15 := long_no h3
      by_cases ok : okl l
      · exact back_ok p q d e l zs w hl hp h1 h15 ok hz
      · exact back_no p q d e 62 zs.length l w h1 (by decide) (fun W f => make_no p d l W (hl.fr0 f) hp h1 h15 ok)
  · exact back_far p q l.length zs.length d e w h1
/-- a slice of whole numbers that came in -/
theorem rowZ {w : World} {a : Option Addr} {len cap : Nat} {zs : List Int}
    (h : (a = none ∧ len = 0 ∧ cap = 0 ∧ zs = []) ∨
      ∃ x, a = some x ∧ len ≤ cap ∧ cap ≤ maxLen ∧ zs.length = cap ∧ (∀ i, i < zs.length → w.cell? (x.add i) = some (.int .i64 (zs.getD i 0))) ∧ ∀ n ∈ zs, (Lit.int .i64 n).wf = true) :
    ∃ l : List Int, l.length = len ∧ SlZ w a l := by
  rcases h with ⟨rfl, rfl, rfl, rfl⟩ | ⟨x, rfl, hlc, hm, hz, hc, -⟩
  · exact ⟨[], rfl, by decide, fun h => absurd rfl h⟩
  · refine ⟨zs.take len, by simp; omega, by simp; omega, fun hne => ?_⟩
    have hlen : 0 < len := by
      rcases Nat.eq_zero_or_pos len with h | h
      · subst h; simp at hne
      · exact h
    have h0 := hc 0 (by omega)
    obtain ⟨b, off, sp⟩ := x
    have hsp : sp = none := by
      have e : (⟨b, off, sp⟩ : Addr).add 0 = ⟨b, off, sp⟩ := by simp [Addr.add]
      rw [e] at h0
      cases sp with
      | none => rfl
      | some y =>
        simp only [World.cell?] at h0
        split at h0
        · simp at h0
        · cases h0
    subst hsp
    refine ⟨b, off, rfl, fun i hi => ?_⟩
    have hi' : i < len := by simp at hi; omega
    have hplain : (⟨b, off, none⟩ : Addr).add i = ⟨b, off + i, none⟩ := by unfold Addr.add; split <;> simp_all
    have hci := hc i (by omega)
    rw [hplain] at hci
    rw [hci]
    have hiz : i < zs.length := by omega
    simp only [List.getD, List.getElem?_eq_getElem hiz, Option.getD_some, List.getElem_take]
end Go.Proofs.Ytibmcapaefpkfaa
