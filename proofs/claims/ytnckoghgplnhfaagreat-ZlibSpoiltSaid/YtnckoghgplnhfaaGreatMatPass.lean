/- A text goes on by some places, each kept. -/
import Derived.Test.YtnckoghgplnhfaaGreatMatOne
import Derived.BigRegion
import Derived.IntWalk
namespace Go.Proofs.YtnckoghgplnhfaaGreat.M
open Go.RowKit Go.MapKept Go.ChangeMaps

/-- the blocks that are a past's own -/
def Own (a bm : Nat) (T : Nat → Prop) : Nat → Prop := fun g => g = a ∨ g = bm ∨ T g
structure PsIs (w : World) (a bm : Nat) (p : Option Addr) (c : Nat) (b : List Nat) (k : Nat) (T : Nat → Prop) : Prop where
  is : PastIs w a bm p c b k
  grp : ∃ es clock, Grp w bm T (lst b k) es clock
  a1 : ¬ T a
  a2 : a ≠ bm
  lt : ∀ g, T g → g < w.heap.size
  off : b ≠ [] → Off (Own a bm T) p
/-- from w to w' no other block has turned, and what is new is new -/
structure PsTo (w w' : World) (a bm : Nat) (T T' : Nat → Prop) : Prop where
  fr : Fr (Own a bm T) w w'
  new : ∀ g, T' g → T g ∨ w.heap.size ≤ g
theorem PsIs.fr {S : Nat → Prop} {w w' : World} {a bm : Nat} {p : Option Addr} {c : Nat} {b : List Nat} {k : Nat} {T : Nat → Prop} (h : PsIs w a bm p c b k T) (hf : Fr S w w') (hs : ∀ g, Own a bm T g → ¬ S g) (hp : b ≠ [] → Off S p) : PsIs w' a bm p c b k T :=
  ⟨h.is.fr hf (hs a (.inl rfl)) hp, let ⟨es, cl, hg⟩ := h.grp; ⟨es, cl, hg.fr hf (hs bm (.inr (.inl rfl))) fun g hg => hs g (.inr (.inr hg))⟩, h.a1, h.a2, fun g hg => Nat.lt_of_lt_of_le (h.lt g hg) hf.size, h.off⟩
theorem PsIs.fr0 {w w' : World} {a bm : Nat} {p : Option Addr} {c : Nat} {b : List Nat} {k : Nat} {T : Nat → Prop} (h : PsIs w a bm p c b k T) (hf : Fr S0 w w') : PsIs w' a bm p c b k T := h.fr hf (fun _ _ h => h) fun _ => Off.s0 _
theorem PsTo.refl (w : World) (a bm : Nat) (T : Nat → Prop) : PsTo w w a bm T T := ⟨Fr.refl _ _, fun _ h => .inl h⟩
theorem PsTo.trans {w w1 w2 : World} {a bm : Nat} {T T1 T2 : Nat → Prop} (h : PsTo w w1 a bm T T1) (k : PsTo w1 w2 a bm T1 T2) : PsTo w w2 a bm T T2 :=
  ⟨h.fr.trans k.fr fun j hj hs => by
    rcases hs with h1 | h1 | h1
    · exact .inl h1
    · exact .inr (.inl h1)
    · rcases h.new j h1 with h2 | h2
      · exact .inr (.inr h2)
      · omega, fun g hg => by
    rcases k.new g hg with h1 | h1
    · exact h.new g h1
    · exact .inr (Nat.le_trans h.fr.size h1)⟩
theorem PsTo.fr0 {w w1 w2 : World} {a bm : Nat} {T T1 : Nat → Prop} (h : PsTo w w1 a bm T T1) (k : Fr S0 w1 w2) : PsTo w w2 a bm T T1 := ⟨h.fr.trans0 k, h.new⟩

theorem PsIs.next {w : World} {a bm : Nat} {p : Option Addr} {c : Nat} {b : List Nat} {K : Nat} {T : Nat → Prop} {es : Array MapEntry} {clock : Nat} (h : PastIs w a bm p c b K) (hg : Grp w bm T (lst b (K + 1)) es clock) (a1 : ¬ T a) (a2 : a ≠ bm) (lt : ∀ g, T g → g < w.heap.size) (off : b ≠ [] → Off (Own a bm T) p) :
    PsIs (w.setCell ⟨a, 1, none⟩ (.int .i64 ((K : Int) + 1))) a bm p c b (K + 1) T :=
  ⟨h.to (K + 1) fun hb ad he => fun e => off hb ad he (.inl e), ⟨es, clock, hg.fr (Fr.setCell (· = a) w ⟨a, 1, none⟩ _ rfl) (fun e => a2 e.symm) fun g hg e => a1 (e ▸ hg)⟩, a1, a2, fun g hg => by have := lt g hg; simpa [World.setCell] using this, off⟩
theorem lst_same (b : List Nat) (K : Nat) (h : ¬ K + 3 ≤ b.length) : lst b (K + 1) = lst b K := by
  funext x y z
  rw [lst_next, if_neg (fun h1 => h h1.1)]
theorem PsIs.skip {w : World} {a bm : Nat} {p : Option Addr} {c : Nat} {b : List Nat} {K : Nat} {T : Nat → Prop} (h : PsIs w a bm p c b K T) (h3 : ¬ K + 3 ≤ b.length) : PsIs (w.setCell ⟨a, 1, none⟩ (.int .i64 ((K : Int) + 1))) a bm p c b (K + 1) T := by
  obtain ⟨es, cl, hg⟩ := h.grp
  rw [← lst_same b K h3] at hg
  exact PsIs.next h.is hg h.a1 h.a2 h.lt h.off
theorem PsTo.set {w w1 : World} {a bm : Nat} {T T1 : Nat → Prop} (h : PsTo w w1 a bm T T1) (v : Value) : PsTo w (w1.setCell ⟨a, 1, none⟩ v) a bm T T1 :=
  ⟨h.fr.trans (Fr.setCell (· = a) w1 ⟨a, 1, none⟩ v rfl) fun _ _ e => .inl e, h.new⟩

/-- append(s, x...) at a step of a region that draws its order -/
theorem step_many {P : Program} {t e : TypeId} {z : Value} {bytes : Nat} (he : ElemOk P t e z 1 bytes) {ops : Array Oper} {o : Oper} {a : Act} {K : Act → World → Prop} {Q : Exit → Act → World → Prop} {E : Prop} {w : World} (s x : Operand)
    {v : Value} {n : Nat} {xs : List Value} (own : w.ownsRow 0 e 1 v n xs) {u : Value} {m : Nat} {ys : List Value} (hsrc : SrcIs w u m ys) {N : Nat} (hN : n + m = N)
    (hgd : o.guard = none) (ho : o.op = .call { callee := .builtin .append, args := #[s, x], argTypes := #[t, t] }) (hs : a.eval s = v) (hx : a.eval x = u) (h1 : ∀ y ∈ ys, y.oneCell' = true) (hr : Room N)
    (h : ∀ p c w', w'.ownsRow 0 e 1 (.slice p N c) N (xs ++ ys) → w.grownBy w' v.ownBlock → (Value.ownBlock (.slice p N c) = v.ownBlock ∨ Value.ownBlock (.slice p N c) = some w.heap.size) →
      K (a.put o.dst (.slice p N c)) w') :
    if Region.wanted o (yielded ops a.tmps) = true then Oper.wp P o a w K Q else E := by
  subst hN
  have hw : Region.wanted o (yielded ops a.tmps) = true := by simp [Region.wanted, hgd]
  rw [if_pos hw]
  obtain ⟨p, c, w', hrun, h2, h3, h4⟩ := run_many (ty := o.type) he own hsrc h1 hr
  unfold Oper.wp
  simp only [execOp, ho, resolve, invoke, builtin, Sem.run_bind, Sem.run_pure, Result.andThen_ok, List.map_toArray, List.map_cons, List.map_nil, hs, hx, hrun]
  exact h p c w' h2 h3 h4
theorem Grp.bound {w : World} {bm : Nat} {T : Nat → Prop} {f : Nat → Nat → Nat → List Nat} {es : Array MapEntry} {clock : Nat} (h : Grp w bm T f es clock) : Grp w bm (fun g => T g ∧ g < w.heap.size) f es clock :=
  ⟨h.row, h.st, h.keys, h.own, fun e he g hg => ⟨h.blk e he g hg, by
    obtain ⟨x, y, z, _, _, _, hk⟩ := h.keys e he
    exact ((h.own e he x y z hk).lt g hg).2⟩, h.nil, h.apart, fun h1 => h.off h1.1⟩
theorem ints_append (a b : List Nat) : ints (a ++ b) = ints a ++ ints b := by simp [ints]
/-- a start is kept: the entry opened, its row gone on, the entry written -/
theorem PsIs.ent {w : World} {a bm : Nat} {p : Option Addr} {c : Nat} {b : List Nat} {K : Nat} {T : Nat → Prop} (h : PsIs w a bm p c b K T) (h3 : K + 3 ≤ b.length) {x y z : Nat} (hx : b.getD K 0 = x) (hy : b.getD (K + 1) 0 = y) (hz : b.getD (K + 2) 0 = z)
    (h8 : x < 256 ∧ y < 256 ∧ z < 256) {n : Nat} (hn : (lst b K x y z).length = n) :
    ∃ v st es1 cl1, (∀ U, Fr S0 w U → (Instr.mapEntry 107 (.map (some bm)) (.agg #[.int .u8 (x : Int), .int .u8 (y : Int), .int .u8 (z : Int)])).run Tryz.prog U = .ok (.tuple #[v, .int .i64 st]) (setBlock U bm (.map es1 cl1))) ∧
      (∀ U Wp, Fr S0 w U → Fr S0 (setBlock U bm (.map es1 cl1)) Wp → Wp.ownsRow 0 3 1 v n (ints (lst b K x y z)) ∧ PastIs Wp a bm p c b K) ∧
      (∀ U Wp p' c' w', Fr S0 w U → Fr S0 (setBlock U bm (.map es1 cl1)) Wp → w'.ownsRow 0 3 1 (.slice p' (n + 1) c') (n + 1) (ints (lst b K x y z) ++ ints [K]) → Wp.grownBy w' v.ownBlock → (Value.ownBlock (.slice p' (n + 1) c') = v.ownBlock ∨ Value.ownBlock (.slice p' (n + 1) c') = some Wp.heap.size) →
        ∃ w'', (Instr.entryStore 107 (.map (some bm)) (.int .i64 st) (.slice p' (n + 1) c')).run Tryz.prog w' = .ok () w'' ∧
          ∃ T', PastIs w'' a bm p c b K ∧ (∃ es cl, Grp w'' bm T' (lst b (K + 1)) es cl) ∧ ¬ T' a ∧ (∀ g, T' g → g < w''.heap.size) ∧ (b ≠ [] → Off (Own a bm T') p) ∧ PsTo w w'' a bm T T') := by
  obtain ⟨es, cl, hg⟩ := h.grp
  obtain ⟨v, st, es1, cl1, hown, hblk, hme, hes⟩ := hg.add x y z h8.1 h8.2.1 h8.2.2 K
  have hbm : bm < w.heap.size := (Array.getElem?_eq_some_iff.1 hg.row).1
  have ha : a < w.heap.size := (Array.getElem?_eq_some_iff.1 h.is.blk).1
  have hvb : ∀ g, v.ownBlock = some g → g ≠ bm := fun g h1 e => hg.off (e ▸ hblk g h1)
  have frU : ∀ U Wp, Fr S0 w U → Fr S0 (setBlock U bm (.map es1 cl1)) Wp → Fr (· = bm) w Wp ∧ Wp.heap[bm]? = some (.map es1 cl1) := by
    intro U Wp hU hW
    have h1 := heap_setBlock (o' := .map es1 cl1) (hU.row hg.row (fun h => h))
    exact ⟨((Fr.mono hU (T := (· = bm)) (fun _ _ e => e.elim)).trans (h1.2.trans0 hW) fun _ _ e => e), hW.row h1.1 (fun h => h)⟩
  refine ⟨v, st, es1, cl1, fun U hU => hme U (hU.row hg.row (fun h => h)), fun U Wp hU hW => ?_, fun U Wp p' c' w' hU hW ho hgr hat => ?_⟩
  · obtain ⟨h1, h2⟩ := frU U Wp hU hW
    rw [← hn]
    exact ⟨h1.owns hown fun g hg' e => hvb g hg' e, h.is.fr h1 h.a2 fun hb ad he e => h.off hb ad he (.inr (.inl e))⟩
  · obtain ⟨h1, h2⟩ := frU U Wp hU hW
    have h4 : w'.heap[bm]? = some (.map es1 cl1) := (hgr.block bm (Array.getElem?_eq_some_iff.1 h2).1 (fun e => hvb bm e.symm rfl)).trans h2
    obtain ⟨es2, cl2, hrun, hgrp⟩ := hes (.slice p' (n + 1) c')
    have h5 := heap_setBlock (o' := .map es2 cl2) h4
    have f1 : Fr (fun g => g = bm ∨ v.ownBlock = some g) w (setBlock w' bm (.map es2 cl2)) :=
      ((h1.mono (T := fun g => g = bm ∨ v.ownBlock = some g) fun _ _ e => .inl e).trans (Fr.grown hgr) fun _ _ e => .inr e).trans h5.2 fun _ _ e => .inl e
    have hv' : ∀ g, Value.ownBlock (.slice p' (n + 1) c') = some g → v.ownBlock = some g ∨ w.heap.size ≤ g := by
      intro g hg'
      rcases hat with e | e
      · exact .inl (e ▸ hg')
      · rw [e] at hg'
        cases hg'
        exact .inr h1.size
    have own2 : (setBlock w' bm (.map es2 cl2)).ownsRow 0 3 1 (.slice p' (n + 1) c') (lst b K x y z ++ [K]).length (ints (lst b K x y z ++ [K])) := by
      rw [ints_append, List.length_append, hn]
      refine h5.2.owns ho fun g hg' e => ?_
      rcases hv' g hg' with h6 | h6
      · exact hvb g h6 e
      · omega
    have hG := (hgrp _ f1 h5.1 own2 hv' (lst b (K + 1)) (fun a' b' c' => by
      rw [lst_next, hx, hy, hz]
      by_cases h6 : x = a' ∧ y = b' ∧ z = c'
      · obtain ⟨rfl, rfl, rfl⟩ := h6
        rw [if_pos ⟨h3, rfl, rfl, rfl⟩, if_pos ⟨rfl, rfl, rfl⟩]
      · rw [if_neg (fun h7 => h6 h7.2), if_neg h6])).bound
    have hsz := f1.size
    refine ⟨_, hrun w' h4, _, h.is.fr f1 ?_ ?_, ⟨es2, cl2, hG⟩, ?_, fun g h6 => h6.2, fun hb ad he => ?_, ?_, fun g h6 => h6.1⟩
    · rintro (e | e)
      · exact h.a2 e
      · exact h.a1 (hblk a e)
    · rintro hb ad he (e | e)
      · exact h.off hb ad he (.inr (.inl e))
      · exact h.off hb ad he (.inr (.inr (hblk _ e)))
    · rintro ⟨e | e, -⟩
      · exact h.a1 e
      · omega
    · rintro (e | e | ⟨e | e, -⟩)
      · exact h.off hb ad he (.inl e)
      · exact h.off hb ad he (.inr (.inl e))
      · exact h.off hb ad he (.inr (.inr e))
      · have := h.is.txt.lt hb ad he; omega
    · exact f1.mono fun g _ e => by
        rcases e with e | e
        · exact .inr (.inl e)
        · exact .inr (.inr (hblk g e))

set_option maxRecDepth 100000 in
set_option maxHeartbeats 2000000 in
theorem pass_any (a bm : Nat) (p : Option Addr) (c : Nat) (b : List Nat) (k n : Nat) (T : Nat → Prop) (w : World) (h : PsIs w a bm p c b k T) (hn : k + n ≤ b.length) :
    Calls Tryz.prog 82 #[.pointer (some ⟨a, 0, none⟩), .int .i64 (n : Nat)] w fun r w' => r = .returned (.tuple #[]) ∧ ∃ T', PsIs w' a bm p c b (k + n) T' ∧ PsTo w w' a bm T T' := by
  have H := Lib.hid h
  have hcap := h.is.cap
  have hlen := h.is.len
  obtain ⟨m, hm⟩ : ∃ m, b.length = m := ⟨_, rfl⟩
  have HM := Lib.hid hm
  rw [hm] at hcap hlen hn
  clear h hm
  go_enter Tryz.func82, Tryz.ntmps82
  go_wp2_with fail
  go_loopw [4, 6] (fun _ i wr => ∃ (j : Nat) (T' : Nat → Prop), j ≤ n ∧ i = .int .i64 j ∧ PsIs wr a bm p c b (k + j) T' ∧ PsTo w wr a bm T T') (fun _ i _ => n - (intOf i).toNat)
  case atStart => exact ⟨0, T, by omega, rfl, H.out, PsTo.refl _ _ _ _⟩
  case round =>
    obtain ⟨j, T1, hj, rfl, hps, hto⟩ := hrel
    have hc0 := hps.is.c0
    have hc1 := hps.is.c1
    have hc2 := hps.is.c2
    have hf1 := hps.is.f1
    rw [HM.out] at hc0
    have HPS := Lib.hid hps
    have HTO := Lib.hid hto
    clear hps hto
    obtain ⟨K, hK⟩ : ∃ K, k + j = K := ⟨_, rfl⟩
    rw [hK] at hc1 HPS
    have HKK := Lib.hid hK
    by_cases hjn : (j : Int) < (n : Int)
    · have hKm : K < m := by omega
      clear hK
      by_cases h3 : (3 : Int) ≤ (m : Int) - (K : Int)
      · go_wp2_with fail
        go_quiet (fail)
        go_wp2_with fail
        obtain ⟨W1, hW⟩ : ∃ W1, wr.drewN nq = W1 := ⟨_, rfl⟩
        rw [hW]
        have HP1 : Hid (PsIs W1 a bm p c b K T1) := Lib.hid (by rw [← hW]; exact HPS.out.fr0 (Fr.drewN _ _ _))
        have HT1 : Hid (PsTo w W1 a bm T T1) := Lib.hid (by rw [← hW]; exact HTO.out.fr0 (Fr.drewN _ _ _))
        clear hc0 hc1 hc2 hf1 hW
        have hc0 := HP1.out.is.c0
        have hc1 := HP1.out.is.c1
        rw [HM.out] at hc0
        obtain ⟨B, o, hpe, hx0⟩ := HP1.out.is.txt.at K (by rw [HM.out]; omega)
        obtain ⟨B', o', hpe', hx1⟩ := HP1.out.is.txt.at (K + 1) (by rw [HM.out]; omega)
        obtain ⟨B'', o'', hpe'', hx2⟩ := HP1.out.is.txt.at (K + 2) (by rw [HM.out]; omega)
        rw [hpe] at hpe' hpe''
        obtain ⟨rfl, rfl⟩ : B = B' ∧ o = o' := by simpa using hpe'
        obtain ⟨rfl, rfl⟩ : B = B'' ∧ o = o'' := by simpa using hpe''
        subst hpe
        have H80 := HP1.out.is.small _ (List.getElem_mem (show K < b.length by rw [HM.out]; omega))
        have H81 := HP1.out.is.small _ (List.getElem_mem (show K + 1 < b.length by rw [HM.out]; omega))
        have H82 := HP1.out.is.small _ (List.getElem_mem (show K + 2 < b.length by rw [HM.out]; omega))
        have HX := getD_at b K (by rw [HM.out]; omega)
        have HY := getD_at b (K + 1) (by rw [HM.out]; omega)
        have HZ := getD_at b (K + 2) (by rw [HM.out]; omega)
        obtain ⟨x, hxe⟩ : ∃ x, b[K]'(by rw [HM.out]; omega) = x := ⟨_, rfl⟩
        obtain ⟨y, hye⟩ : ∃ y, b[K + 1]'(by rw [HM.out]; omega) = y := ⟨_, rfl⟩
        obtain ⟨z, hze⟩ : ∃ z, b[K + 2]'(by rw [HM.out]; omega) = z := ⟨_, rfl⟩
        rw [hxe] at hx0 HX H80
        rw [hye] at hx1 HY H81
        rw [hze] at hx2 HZ H82
        clear hpe' hpe'' hxe hye hze
        have r1 : (K : Int) ≤ (m : Int) := by omega
        have r2 : (m : Int) ≤ (c : Int) := by omega
        have r3 : ¬ c = K := by omega
        have r4 : ¬ m - K < 3 := by omega
        have hat : ∀ w : World, (Instr.arrayAt 128 (.slice (some ⟨B, o + K, none⟩) (m - K) (c - K))).run Tryz.prog w = .ok (.pointer (some ⟨B, o + K, none⟩)) w := fun w => run_arrayAt w _ _ 3 _ _ _ Tryz.underlying128 (by omega)
        have hx1' : W1.cell? ⟨B, o + K + 1, none⟩ = some (.int .u8 (y : Int)) := hx1
        have hx2' : W1.cell? ⟨B, o + K + 2, none⟩ = some (.int .u8 (z : Int)) := hx2
        clear hx1 hx2
        have FA : Fr S0 W1 (W1.alloc (.cells #[.int .u8 0, .int .u8 0, .int .u8 0] 128)) := Fr.alloc _ _ _
        have g0 := FA.cell hc0 (fun h => h)
        have g1 := FA.cell hc1 (fun h => h)
        have g2 := FA.cell hx0 (fun h => h)
        have g3 := FA.cell hx1' (fun h => h)
        have g4 := FA.cell hx2' (fun h => h)
        clear FA
        go_region
        obtain ⟨W2, hW⟩ : ∃ W2, (W1.alloc (.cells #[.int .u8 (x : Int), .int .u8 (y : Int), .int .u8 (z : Int)] 128)).drew = W2 := ⟨_, rfl⟩
        have F2 : Fr S0 W1 W2 := by rw [← hW]; exact (Fr.alloc S0 _ _).trans0 (Fr.drew _ _)
        have hs0 : W2.heap[W1.heap.size]? = some (.cells #[.int .u8 (x : Int), .int .u8 (y : Int), .int .u8 (z : Int)] 128) := by rw [← hW]; exact heap_alloc_new W1 _
        rw [hW]
        obtain ⟨S, hS⟩ : ∃ S, W1.heap.size = S := ⟨_, rfl⟩
        rw [hS] at hs0
        rw [hS]
        have HP2 : Hid (PsIs W2 a bm (some ⟨B, o, none⟩) c b K T1) := Lib.hid (HP1.out.fr0 F2)
        have HT2 : Hid (PsTo w W2 a bm T T1) := Lib.hid (HT1.out.fr0 F2)
        clear hc0 hc1 hW F2 hx0 hx1' hx2' g0 g1 g2 g3 g4 hat r1 r2 r3 r4 hS
        have k0 : W2.cell? ⟨S, 0, none⟩ = some (.int .u8 (x : Int)) := by simp [World.cell?, hs0]
        have k1 : W2.cell? ⟨S, 1, none⟩ = some (.int .u8 (y : Int)) := by simp [World.cell?, hs0]
        have k2 : W2.cell? ⟨S, 2, none⟩ = some (.int .u8 (z : Int)) := by simp [World.cell?, hs0]
        have hc1 := HP2.out.is.c1
        have hc2 := HP2.out.is.c2
        obtain ⟨nn, hnn⟩ : ∃ nn, (lst b K x y z).length = nn := ⟨_, rfl⟩
        have hnK : nn ≤ K := by rw [← hnn]; exact lst_len b K x y z
        obtain ⟨v, st, es1, cl1, hme, hmid, hfin⟩ := HP2.out.ent (by rw [HM.out]; omega) HX HY HZ ⟨H80, H81, H82⟩ hnn
        obtain ⟨NN, hNN⟩ : ∃ NN, nn + 1 = NN := ⟨_, rfl⟩
        rw [hNN] at hfin
        have FA : Fr S0 W2 (W2.alloc (.cells #[.int .i64 (K : Int)] 3)) := Fr.alloc _ _ _
        have fA1 := (FA.trans0 (Fr.drew S0 _)).cell hc1 (fun h => h)
        have j0 := FA.cell k0 (fun h => h)
        have j1 := FA.cell k1 (fun h => h)
        have j2 := FA.cell k2 (fun h => h)
        have j3 := FA.cell hc2 (fun h => h)
        have e1 := hme W2.drew (Fr.drew _ _)
        have e2 := hme (W2.alloc (.cells #[.int .i64 (K : Int)] 3)).drew (FA.trans0 (Fr.drew _ _))
        obtain ⟨WA, hWA⟩ : ∃ WA, setBlock W2.drew bm (.map es1 cl1) = WA := ⟨_, rfl⟩
        obtain ⟨WB, hWB⟩ : ∃ WB, setBlock (W2.alloc (.cells #[.int .i64 (K : Int)] 3)).drew bm (.map es1 cl1) = WB := ⟨_, rfl⟩
        rw [hWA] at e1
        rw [hWB] at e2
        have hA1 := (hmid W2.drew WA (Fr.drew _ _) (by rw [hWA]; exact Fr.refl _ _)).2.c1
        have OA := Lib.hid (hmid W2.drew (WA.alloc (.cells #[.int .i64 (K : Int)] 3)) (Fr.drew _ _) (by rw [hWA]; exact Fr.alloc _ _ _)).1
        have OB := Lib.hid (hmid (W2.alloc (.cells #[.int .i64 (K : Int)] 3)).drew WB (FA.trans0 (Fr.drew _ _)) (by rw [hWB]; exact Fr.refl _ _)).1
        have FINA := Lib.hid (fun p' c' w' => hfin W2.drew (WA.alloc (.cells #[.int .i64 (K : Int)] 3)) p' c' w' (Fr.drew _ _) (by rw [hWA]; exact Fr.alloc _ _ _))
        have FINB := Lib.hid (fun p' c' w' => hfin (W2.alloc (.cells #[.int .i64 (K : Int)] 3)).drew WB p' c' w' (FA.trans0 (Fr.drew _ _)) (by rw [hWB]; exact Fr.refl _ _))
        clear hme hmid hfin
        have SA : Hid (SrcIs (WA.alloc (.cells #[.int .i64 (K : Int)] 3)) (.slice (some ⟨WA.heap.size, 0, none⟩) 1 1) 1 (ints [K])) := Lib.hid (SrcIs.ofOwns (own_one WA (.int .i64 (K : Int)) 3))
        have SB : Hid (SrcIs WB (.slice (some ⟨W2.heap.size, 0, none⟩) 1 1) 1 (ints [K])) := Lib.hid (by
          have h1 := (own_one W2 (.int .i64 (K : Int)) 3)
          refine SrcIs.ofOwns (e := 3) ?_
          rw [← hWB]
          have hbm : bm < W2.heap.size := by obtain ⟨es, cl, hg⟩ := HP2.out.grp; exact (Array.getElem?_eq_some_iff.1 hg.row).1
          obtain ⟨es, cl, hg⟩ := HP2.out.grp
          exact (heap_setBlock (o' := .map es1 cl1) ((FA.trans0 (Fr.drew S0 _)).row hg.row (fun h => h))).2.owns ((Fr.drew S0 _).owns h1 fun _ _ h => h) fun g hg' e => by
            have hg2 : W2.heap.size = g := Option.some.inj hg'
            omega)
        have HNN := Lib.hid hNN
        have HR : Hid (Room NN) := Lib.hid (Room.mk (by omega))
        clear hWA hWB FA hnn hs0 hNN
        go_wp2_with fail
        go_region_law (first
          | (refine step_many elInt (.tmp 35) (.tmp 40) OA.out SA.out HNN.out rfl rfl rfl rfl (ones _) HR.out ?_; intro p11 c11 w11 own11 g11 at11; obtain ⟨w12, e12, h12⟩ := FINA.out p11 c11 w11 own11 g11 at11; have H12 := Lib.hid h12; clear h12 own11 g11 at11)
          | (refine step_many elInt (.tmp 35) (.tmp 40) OB.out SB.out HNN.out rfl rfl rfl rfl (ones _) HR.out ?_; intro p11 c11 w11 own11 g11 at11; obtain ⟨w12, e12, h12⟩ := FINB.out p11 c11 w11 own11 g11 at11; have H12 := Lib.hid h12; clear h12 own11 g11 at11))
        all_goals
          obtain ⟨T2, i2, g2, a2, l2, o2, t2⟩ := H12.out
          clear hc1 hc2 k0 k1 k2 fA1 j0 j1 j2 j3 e1 e2 e12
          have hd1 := i2.c1
          have hf1 := i2.f1
          have HI := Lib.hid (And.intro i2 (And.intro g2 (And.intro a2 (And.intro l2 (And.intro o2 t2)))))
          clear i2 g2 a2 l2 o2 t2
          go_wp2_with fail
          go_roundw
          case rel => exact ⟨j + 1, T2, by omega, by simp, by
            obtain ⟨i2, ⟨es, cl, hg⟩, a2, l2, o2, t2⟩ := HI.out
            rw [show k + (j + 1) = K + 1 by have := HKK.out; omega]
            exact PsIs.next i2 hg a2 HP2.out.a2 l2 o2, by
            obtain ⟨i2, g2, a2, l2, o2, t2⟩ := HI.out
            exact (HT2.out.trans t2).set _⟩
          case measure => simp [intOf]; omega
      · go_wp2_with fail
        go_quiet (fail)
        go_wp2_with fail
        go_roundw
        case rel => exact ⟨j + 1, T1, by omega, by simp, by rw [show k + (j + 1) = K + 1 by have := HKK.out; omega]; exact (HPS.out.fr0 (Fr.drewN _ _ _)).skip (by rw [HM.out]; omega), (HTO.out.fr0 (Fr.drewN _ _ _)).set _⟩
        case measure => simp [intOf]; omega
    · go_wp2
      go_end0
      exact ⟨rfl, T1, by rw [show k + n = K by have := HKK.out; omega]; exact HPS.out, HTO.out⟩
end Go.Proofs.YtnckoghgplnhfaaGreat.M
