/- A stream is read. -/
import Derived.Test.YtmcmchldjfnneaaInfCatch
import Derived.Test.YtmcmchldjfnneaaInfLoc
namespace Go.Proofs.Ytmcmchldjfnneaa
open Go.RowKit

theorem rBlocks_no {b : List Nat} {lim : Nat} {T : List Nat} {k e : Nat} (h : rBlock b lim T k = .no e) : rBlocks b lim T k = .no e := by
  rw [rBlocks, h]
theorem rBlocks_end {b : List Nat} {lim : Nat} {T T1 : List Nat} {k k1 : Nat} (h : rBlock b lim T k = .ok (true, T1) k1) : rBlocks b lim T k = .ok T1 k1 := by
  rw [rBlocks, h]
theorem rBlocks_go {b : List Nat} {lim : Nat} {T T1 : List Nat} {k k1 : Nat} (h : rBlock b lim T k = .ok (false, T1) k1) (h1 : k < k1) (h2 : k1 ≤ 8 * b.length) : rBlocks b lim T k = rBlocks b lim T1 k1 := by
  rw [rBlocks, h]
  show (if _h : k < k1 ∧ k1 ≤ 8 * b.length then rBlocks b lim T1 k1 else .no 0) = _
  rw [dif_pos ⟨h1, h2⟩]

/-- what Read answers -/
def ReadEnds (x : Res (List Nat)) (w : World) (e : Ending) (w' : World) : Prop :=
  Fr S0 w w' ∧ match x with
  | .ok T k => ∃ v, e = .returned (.tuple #[v, .int .i64 (upN k / 8 : Nat), .int .i64 0]) ∧ RowNew w w' v T
  | .no m => e = .returned (.tuple #[.slice none 0 0, .int .i64 0, .int .i64 (m : Nat)])

theorem res3 {tmps : Array Value} {w : World} {p q s : Nat} {v : Value} {a e : Int} (h4 : tmps.getD 4 undef = .pointer (some ⟨p, 0, none⟩)) (h5 : tmps.getD 5 undef = .pointer (some ⟨q, 0, none⟩)) (h6 : tmps.getD 6 undef = .pointer (some ⟨s, 0, none⟩))
    (hp : w.heap[p]? = some (.cells #[v] 22 (0, 0))) (hq : w.heap[q]? = some (.cells #[.int .i64 a] 3 (0, 0))) (hs : w.heap[s]? = some (.cells #[.int .i64 e] 24 (0, 0))) :
    (results Try.f9 tmps).run Try.prog w = .ok (.tuple #[v, .int .i64 a, .int .i64 e]) w := by
  have c1 : w.cell? ⟨p, 0, none⟩ = some v := by simp [World.cell?, hp]
  have c2 : w.cell? ⟨q, 0, none⟩ = some (.int .i64 a) := by simp [World.cell?, hq]
  have c3 : w.cell? ⟨s, 0, none⟩ = some (.int .i64 e) := by simp [World.cell?, hs]
  have h4' : tmps[4]?.getD undef = .pointer (some ⟨p, 0, none⟩) := by simpa using h4
  have h5' : tmps[5]?.getD undef = .pointer (some ⟨q, 0, none⟩) := by simpa using h5
  have h6' : tmps[6]?.getD undef = .pointer (some ⟨s, 0, none⟩) := by simpa using h6
  simp [results, Try.results9, asAddr, h4', h5', h6', go_sem, c1, c2, c3]
theorem keep1 {w : World} {g k P : Nat} {x v : Value} (h : w.cell? ⟨g, k, none⟩ = some v) (hn : g ≠ P) : (w.setCell ⟨P, 0, none⟩ x).drew.cell? ⟨g, k, none⟩ = some v :=
  ((Fr.setCell (· = P) w ⟨P, 0, none⟩ x rfl).trans0 (Fr.drew _ _)).cell (a := ⟨g, k, none⟩) h hn
theorem keep0 {w : World} {g k P : Nat} {x v : Value} (h : w.cell? ⟨g, k, none⟩ = some v) (hn : g ≠ P) : (w.setCell ⟨P, 0, none⟩ x).cell? ⟨g, k, none⟩ = some v :=
  (Fr.setCell (· = P) w ⟨P, 0, none⟩ x rfl).cell (a := ⟨g, k, none⟩) h hn
/-- three new variables -/
theorem three (w : World) (o1 o2 o3 : Obj) : Fr S0 w (((w.alloc o1).alloc o2).alloc o3) ∧ (((w.alloc o1).alloc o2).alloc o3).heap[w.heap.size]? = some o1 ∧ (((w.alloc o1).alloc o2).alloc o3).heap[w.heap.size + 1]? = some o2 ∧ (((w.alloc o1).alloc o2).alloc o3).heap[w.heap.size + 1 + 1]? = some o3 ∧ (((w.alloc o1).alloc o2).alloc o3).heap.size = w.heap.size + 3 := by
  refine ⟨((Fr.alloc S0 w o1).trans0 (Fr.alloc S0 _ o2)).trans0 (Fr.alloc S0 _ o3), ?_, ?_, ?_, by simp⟩
  · exact (Fr.alloc S0 _ o3).row ((Fr.alloc S0 _ o2).row (heap_alloc_new w o1) (fun h => h)) (fun h => h)
  · have := heap_alloc_new (w.alloc o1) o2
    rw [size_alloc] at this
    exact (Fr.alloc S0 _ o3).row this (fun h => h)
  · have := heap_alloc_new ((w.alloc o1).alloc o2) o3
    rw [size_alloc, size_alloc] at this
    exact this
set_option maxRecDepth 100000 in
set_option maxHeartbeats 1000000 in
theorem read_bad (p : Option Addr) (n d : Nat) (limit : Int) (w : World) (h : ¬ (0 ≤ limit ∧ limit ≤ 1048576)) :
    Calls Try.prog 9 #[.slice p n d, .int .i64 limit] w (ReadEnds (.no 1) w) := by
  have H3 := Lib.hid (three w (.cells #[.slice none 0 0] 22) (.cells #[.int .i64 0] 3) (.cells #[.int .i64 1] 24))
  by_cases h0 : limit < 0
  · clear h
    go_enter_defers Try.func9, Try.ntmps9
    go_wp2_with fail
    exact ⟨_, res3 rfl rfl rfl H3.out.2.1 H3.out.2.2.1 H3.out.2.2.2.1, H3.out.1, rfl⟩
  · have h1 : limit > 1048576 := by omega
    clear h
    go_enter_defers Try.func9, Try.ntmps9
    go_wp2_with fail
    exact ⟨_, res3 rfl rfl rfl H3.out.2.1 H3.out.2.2.1 H3.out.2.2.2.1, H3.out.1, rfl⟩

/-- the three variables stand, and what the stream has lies behind them -/
structure Three (w0 w : World) (g gr : Nat) (t : Option Nat) (v : Value) (a e : Int) : Prop where
  c1 : w.heap[w0.heap.size]? = some (.cells #[v] 22 (0, 0))
  c2 : w.heap[w0.heap.size + 1]? = some (.cells #[.int .i64 a] 3 (0, 0))
  c3 : w.heap[w0.heap.size + 1 + 1]? = some (.cells #[.int .i64 e] 24 (0, 0))
  fr : Fr S0 w0 w
  far : w0.heap.size + 3 ≤ g ∧ w0.heap.size + 3 ≤ gr ∧ ∀ j, t = some j → w0.heap.size + 3 ≤ j
theorem Three.out {w0 w w' : World} {g gr : Nat} {t : Option Nat} {v : Value} {a e : Int} (h : Three w0 w g gr t v a e) (f : Fr (StB g gr t) w w') : (∃ t', t' = t) ∧ w'.heap[w0.heap.size]? = some (.cells #[v] 22 (0, 0)) ∧ w'.heap[w0.heap.size + 1]? = some (.cells #[.int .i64 a] 3 (0, 0)) ∧ w'.heap[w0.heap.size + 1 + 1]? = some (.cells #[.int .i64 e] 24 (0, 0)) ∧ Fr S0 w0 w' := by
  have hk : ∀ k, k < w0.heap.size + 3 → ¬ StB g gr t k := by
    intro k hk hs
    have := h.far
    rcases hs with hs | hs | hs
    · omega
    · omega
    · have := this.2.2 k hs; omega
  exact ⟨⟨_, rfl⟩, f.row h.c1 (hk _ (by omega)), f.row h.c2 (hk _ (by omega)), f.row h.c3 (hk _ (by omega)), h.fr.trans f (fun j hj e => hk j (by omega) e)⟩
theorem Three.to {w0 w w' : World} {g gr : Nat} {t t' : Option Nat} {v : Value} {a e : Int} (h : Three w0 w g gr t v a e) (f : Fr (StB g gr t) w w') (ht : t' = t ∨ ∀ j, t' = some j → w.heap.size ≤ j) : Three w0 w' g gr t' v a e := by
  obtain ⟨-, h1, h2, h3, h4⟩ := h.out f
  refine ⟨h1, h2, h3, h4, h.far.1, h.far.2.1, fun j hj => ?_⟩
  rcases ht with ht | ht
  · exact h.far.2.2 j (ht ▸ hj)
  · have := ht j hj
    have := (Array.getElem?_eq_some_iff.1 h.c3).1
    omega
set_option maxRecDepth 100000 in
set_option maxHeartbeats 2000000 in
theorem read_ok (p : Option Addr) (d : Nat) (b : List Nat) (lim : Nat) (w : World) (hb : SlI w .u8 p b) (h8 : ∀ x ∈ b, x < 256) (hp : p = none → d = 0) (hL : b.length ≤ 140737488355328) (hl : lim ≤ 1048576) :
    Calls Try.prog 9 #[.slice p b.length d, .int .i64 (lim : Nat)] w (ReadEnds (infl b lim) w) := by
  have H3 := Lib.hid (three w (.cells #[.slice none 0 0] 22) (.cells #[.int .i64 0] 3) (.cells #[.int .i64 0] 24))
  have hmf : ∀ (fn : Fn) (first cap : Array Value) (w : World), (Instr.makeFunc fn first cap).run Try.prog w = .ok (.func fn first cap) w := fun _ _ _ _ => rfl
  have HB := Lib.hid (hb.fr0 H3.out.1)
  have H8 := Lib.hid h8
  have HP := Lib.hid hp
  have HL := Lib.hid hL
  have i1 : ¬ (lim : Int) < 0 := by omega
  have i2 : ¬ (lim : Int) > 1048576 := by omega
  clear hb h8 hp hL
  go_enter_defers Try.func9, Try.ntmps9
  go_wp2_with fail
  have HNW := Lib.hid (new_any p d b _ HB.out H8.out HP.out HL.out)
  have HF3 := Lib.hid H3.out.1
  have HC1 := Lib.hid H3.out.2.1
  have HC2 := Lib.hid H3.out.2.2.1
  have HC3 := Lib.hid H3.out.2.2.2.1
  have HSZ := Lib.hid H3.out.2.2.2.2
  generalize ((w.alloc (.cells #[.slice none 0 0] 22)).alloc (.cells #[.int .i64 0] 3)).alloc (.cells #[.int .i64 0] 24) = W at HNW HF3 HC1 HC2 HC3 HSZ ⊢
  clear H3 HB i1 i2
  refine HNW.out.mono ?_
  rintro e w1 ⟨gr, r, rfl, hrd, hfr, hgr, hrr⟩
  have HST : Hid (StIs (w1.alloc (.cells #[.pointer (some ⟨gr, 0, none⟩), .int .i64 (lim : Nat), .slice none 0 0, .pointer none, .pointer none] 46)) w1.heap.size gr r none b 0 lim [] (.pointer none) (.pointer none)) := Lib.hid (by
    refine ⟨⟨none, 0, heap_alloc_new w1 _, World.ownsRow_nil _ _ _ _, rfl⟩, hrd.fr0 (Fr.alloc _ _ _), by simp, ⟨by simp, hl, HL.out⟩, ?_, ?_, by simp, by simp, by simp⟩
    · have := hrd.lt; omega
    · intro e
      have := hrd.rlt _ e
      omega)
  have HTH : Hid (Three w (w1.alloc (.cells #[.pointer (some ⟨gr, 0, none⟩), .int .i64 (lim : Nat), .slice none 0 0, .pointer none, .pointer none] 46)) w1.heap.size gr none (.slice none 0 0) 0 0) := Lib.hid (by
    have f2 : Fr S0 W (w1.alloc (.cells #[.pointer (some ⟨gr, 0, none⟩), .int .i64 (lim : Nat), .slice none 0 0, .pointer none, .pointer none] 46)) := hfr.trans0 (Fr.alloc _ _ _)
    have hz := HSZ.out
    have h1 := hfr.size
    exact ⟨f2.row HC1.out (fun h => h), f2.row HC2.out (fun h => h), f2.row HC3.out (fun h => h), HF3.out.trans0 f2, by omega, by omega, by simp⟩)
  clear hrd hfr hgr hrr HNW
  go_wp2_with fail
  generalize w1.alloc (.cells #[.pointer (some ⟨gr, 0, none⟩), .int .i64 (lim : Nat), .slice none 0 0, .pointer none, .pointer none] 46) = W1 at HST HTH ⊢
  generalize w1.heap.size = g at HST HTH ⊢
  obtain ⟨RES, hRES⟩ : ∃ X, infl b lim = X := ⟨_, rfl⟩
  have HE : Hid (rBlocks b lim [] 0 = RES) := Lib.hid hRES
  rw [hRES]
  clear hRES HC1 HC2 HC3 HF3 HSZ
  go_loopw [8] (fun l wr => ∃ k T t L S last, l = .bool last ∧ StIs wr g gr r t b k lim T L S ∧ FixIs wr g gr t L S ∧ Three w wr g gr t (.slice none 0 0) 0 0 ∧ (last = true → RES = .ok T k) ∧ (last = false → RES = rBlocks b lim T k)) (fun _ wr => 8 * b.length - atOf wr gr)
  case atStart => exact ⟨0, [], none, _, _, false, rfl, HST.out, .inl ⟨rfl, rfl⟩, HTH.out, (fun h => by cases h), (fun _ => HE.out.symm)⟩
  case round =>
    obtain ⟨k, T, t, L, S, last, rfl, hst, hfx, hth, hl1, hl2⟩ := hrel
    have HS1 := Lib.hid hst
    have HX1 := Lib.hid hfx
    have HT1 := Lib.hid hth
    cases last with
    | false =>
      have HR := Lib.hid (hl2 rfl)
      have HB := Lib.hid (block_any wr hst hfx)
      clear hl1 hl2 hst hfx hth
      go_wp2_with fail
      refine HB.out.mono ?_
      intro e w2 h2
      cases hx : rBlock b lim T k with
      | no m =>
        rw [hx] at h2
        obtain ⟨rfl, f2⟩ := h2
        have K : Hid (RES = .no m) := Lib.hid (by rw [HR.out]; exact rBlocks_no hx)
        obtain ⟨-, a1, a2, a3, a4⟩ := HT1.out.out f2
        have A1 := Lib.hid a1
        have A2 := Lib.hid a2
        have A3 := Lib.hid a3
        have A4 := Lib.hid a4
        clear hx f2 HB a1 a2 a3 a4
        go_wp2_with fail
        refine leaves_cons (f := 15) (args := #[.pointer (some ⟨w.heap.size, 0, none⟩), .pointer (some ⟨w.heap.size + 1, 0, none⟩), .pointer (some ⟨w.heap.size + 1 + 1, 0, none⟩)]) (by simp) (by simp [go_sem]) ?_
        refine (catch_given w.heap.size (w.heap.size + 1) (w.heap.size + 1 + 1) m _ _ _ w2 A1.out A2.out A3.out (by omega) (by omega) (by omega)).mono ?_
        rintro e u' w3 ⟨rfl, hset, f3, c1, c2, c3⟩
        show Leaves _ _ _ _ [] (settle u') w3
        rw [hset]
        refine ⟨_, res3 rfl rfl rfl c1 c2 c3, A4.out.trans f3 (fun j hj e => by omega), ?_⟩
        rw [K.out]
      | ok lt k2 =>
        obtain ⟨last, T2⟩ := lt
        rw [hx] at h2
        obtain ⟨rfl, t2, L2, S2, b1, b2, b3, b4⟩ := h2
        have HUP := Lib.hid (block_up hx)
        have HS2 := Lib.hid b1
        have HX2 := Lib.hid b2
        have HT2 := Lib.hid (HT1.out.to b3 b4)
        have KT : Hid (last = true → RES = .ok T2 k2) := Lib.hid (fun q => by subst q; rw [HR.out]; exact rBlocks_end hx)
        have KF : Hid (last = false → RES = rBlocks b lim T2 k2) := Lib.hid (fun q => by subst q; rw [HR.out]; exact rBlocks_go hx HUP.out b1.rd.inside)
        have HM : Hid (atOf w2 gr = k2 ∧ atOf wr gr = k ∧ k2 ≤ 8 * b.length) := Lib.hid ⟨b1.rd.atOf, HS1.out.rd.atOf, b1.rd.inside⟩
        clear hx b1 b2 b3 b4 HB
        go_wp2_with fail
        go_roundw
        case rel => exact ⟨k2, T2, t2, L2, S2, last, rfl, HS2.out, HX2.out, HT2.out, KT.out, KF.out⟩
        case measure => have := HM.out; have := HUP.out; show _ < _; omega
    | true =>
      have HR := Lib.hid (hl1 rfl)
      have c0 := hst.c0
      have HA := Lib.hid (ralign_any gr r b k wr hst.rd hst.few.2.2)
      clear hl1 hl2 hst hfx hth
      go_wp2_with fail
      refine HA.out.mono ?_
      rintro e w2 ⟨rfl, t2⟩
      have H2 := Lib.hid (HS1.out.read t2)
      have HT2 := Lib.hid (HT1.out.to (frSt t2.2) (.inl rfl))
      have HAT := Lib.hid (fun W (f : Fr S0 w2 W) => at_any gr r b (upN k) W (H2.out.rd.fr0 f))
      obtain ⟨pt, ct, -, e2, own, et⟩ := H2.out.c2
      have e0 := H2.out.c0
      have HU : Hid (upN k ≤ 8 * b.length ∧ upN k % 8 = 0) := Lib.hid ⟨H2.out.rd.inside, by unfold upN; omega⟩
      obtain ⟨U, hU⟩ : ∃ U, upN k = U := ⟨_, rfl⟩
      rw [hU] at HAT HU
      have HUU := Lib.hid hU
      have q1 : U ≤ 1125899906842624 := by have := HU.out.1; have := HL.out; omega
      obtain ⟨D, hD⟩ : ∃ D, U / 8 = D := ⟨_, rfl⟩
      have HD := Lib.hid hD
      have q2 : (U : Int) / 8 = (D : Int) := by omega
      have q3 : (U : Int).tdiv 8 = (D : Int) := by rw [Int.tdiv_eq_ediv_of_nonneg (by omega)]; exact q2
      obtain ⟨P0, hP0⟩ : ∃ P0, w.heap.size = P0 := ⟨_, rfl⟩
      have b1 := HT2.out.c1
      have b2 := HT2.out.c2
      have b3 := HT2.out.c3
      rw [hP0] at b1 b2 b3 ⊢
      have HP0 := Lib.hid hP0
      have d1 : w2.cell? ⟨P0, 0, none⟩ = some (.slice none 0 0) := by simp [World.cell?, b1]
      have d2 : w2.cell? ⟨P0 + 1, 0, none⟩ = some (.int .i64 0) := by simp [World.cell?, b2]
      have d3 : w2.cell? ⟨P0 + 1 + 1, 0, none⟩ = some (.int .i64 0) := by simp [World.cell?, b3]
      have z1 : w2.frozen? ⟨P0, 0, none⟩ = false := by simp [World.frozen?, b1]
      have z2 : w2.frozen? ⟨P0 + 1, 0, none⟩ = false := by simp [World.frozen?, b2]
      have z3 : w2.frozen? ⟨P0 + 1 + 1, 0, none⟩ = false := by simp [World.frozen?, b3]
      have B1 := Lib.hid b1
      have B2 := Lib.hid b2
      have B3 := Lib.hid b3
      have HOT := Lib.hid own
      obtain ⟨MT, hMT⟩ : ∃ M, T.length = M := ⟨_, rfl⟩
      rw [hMT] at e2
      have HMT := Lib.hid hMT
      have HOB : Hid (∀ j, Value.ownBlock (.slice pt T.length ct) = some j → P0 + 3 ≤ j) := Lib.hid (fun j hj => by
        have := HT2.out.far.2.2 j (by rw [← et]; exact hj)
        omega)
      clear c0 HA t2 own hU hD hP0 b1 b2 b3 hMT et
      go_wp2_with fail
      have q4 : IntKind.i64.wrap (D : Int) = (D : Int) := IntWalk.i64_in _ (by omega)
      have n1 : g ≠ P0 := by have := HT2.out.far.1; have := HP0.out; omega
      have n2 : g ≠ P0 + 1 := by have := HT2.out.far.1; have := HP0.out; omega
      have n3 : g ≠ P0 + 1 + 1 := by have := HT2.out.far.1; have := HP0.out; omega
      go_region_held3 (fun w' => w'.cell? ⟨g, 2, none⟩ = some (.slice pt MT ct) ∧ w'.cell? ⟨g, 0, none⟩ = some (.pointer (some ⟨gr, 0, none⟩)))
        (first | (with_reducible exact ⟨keep1 e2 n1, keep1 e0 n1⟩) | (with_reducible exact ⟨keep1 (keep0 e2 n1) n2, keep1 (keep0 e0 n1) n2⟩) | (with_reducible exact ⟨keep1 (keep0 (keep0 e2 n1) n2) n3, keep1 (keep0 (keep0 e0 n1) n2) n3⟩) | (go_split_ands; exact ⟨by assumption, by assumption⟩) | go_keep)
        (first
          | (go_at_call 19; refine (HAT.out _ (Fr.drew _ _)).mono ?_; rintro e w' ⟨rfl, rfl⟩))
      have f1 : Fr (fun j => j = P0 ∨ j = P0 + 1 ∨ j = P0 + 1 + 1) w2 (w2.setCell ⟨P0, 0, none⟩ (.slice pt MT ct)) := Fr.setCell _ _ _ _ (.inl rfl)
      have g1 : (w2.setCell ⟨P0, 0, none⟩ (.slice pt MT ct)).heap[P0]? = some (.cells #[.slice pt MT ct] 22 (0, 0)) := heap_setCell_same w2 P0 0 _ _ _ B1.out
      have g2 := (Fr.setCell (· = P0) w2 ⟨P0, 0, none⟩ (.slice pt MT ct) rfl).row B2.out (by omega)
      have g3 := (Fr.setCell (· = P0) w2 ⟨P0, 0, none⟩ (.slice pt MT ct) rfl).row B3.out (by omega)
      generalize w2.setCell ⟨P0, 0, none⟩ (.slice pt MT ct) = W4 at f1 g1 g2 g3 ⊢
      have f2 : Fr (fun j => j = P0 ∨ j = P0 + 1 ∨ j = P0 + 1 + 1) W4 (W4.setCell ⟨P0 + 1, 0, none⟩ (.int .i64 (D : Nat))) := Fr.setCell _ _ _ _ (.inr (.inl rfl))
      have k1 := (Fr.setCell (· = P0 + 1) W4 ⟨P0 + 1, 0, none⟩ (.int .i64 (D : Nat)) rfl).row g1 (by omega)
      have k2 : (W4.setCell ⟨P0 + 1, 0, none⟩ (.int .i64 (D : Nat))).heap[P0 + 1]? = some (.cells #[.int .i64 (D : Nat)] 3 (0, 0)) := heap_setCell_same W4 (P0 + 1) 0 _ _ _ g2
      have k3 := (Fr.setCell (· = P0 + 1) W4 ⟨P0 + 1, 0, none⟩ (.int .i64 (D : Nat)) rfl).row g3 (by omega)
      generalize W4.setCell ⟨P0 + 1, 0, none⟩ (.int .i64 (D : Nat)) = W5 at f2 k1 k2 k3 ⊢
      have f3 : Fr (fun j => j = P0 ∨ j = P0 + 1 ∨ j = P0 + 1 + 1) W5 (W5.setCell ⟨P0 + 1 + 1, 0, none⟩ (.int .i64 0)) := Fr.setCell _ _ _ _ (.inr (.inr rfl))
      have l1 := (Fr.setCell (· = P0 + 1 + 1) W5 ⟨P0 + 1 + 1, 0, none⟩ (.int .i64 0) rfl).row k1 (by omega)
      have l2 := (Fr.setCell (· = P0 + 1 + 1) W5 ⟨P0 + 1 + 1, 0, none⟩ (.int .i64 0) rfl).row k2 (by omega)
      have l3 : (W5.setCell ⟨P0 + 1 + 1, 0, none⟩ (.int .i64 0)).heap[P0 + 1 + 1]? = some (.cells #[.int .i64 0] 24 (0, 0)) := heap_setCell_same W5 (P0 + 1 + 1) 0 _ _ _ k3
      generalize W5.setCell ⟨P0 + 1 + 1, 0, none⟩ (.int .i64 0) = W6 at f3 l1 l2 l3 ⊢
      have ff : Fr (fun j => j = P0 ∨ j = P0 + 1 ∨ j = P0 + 1 + 1) w2 W6.drew := ((f1.trans f2 (fun _ _ h => h)).trans f3 (fun _ _ h => h)).trans0 (Fr.drew _ _)
      have hown := ff.owns HOT.out (fun j hj e => by have := HOB.out j hj; omega)
      have hfr : Fr S0 w W6.drew := HT2.out.fr.trans ff (fun j hj e => by have := HP0.out; omega)
      have l1' : W6.drew.heap[P0]? = some (.cells #[.slice pt MT ct] 22 (0, 0)) := l1
      have l2' : W6.drew.heap[P0 + 1]? = some (.cells #[.int .i64 (D : Nat)] 3 (0, 0)) := l2
      have l3' : W6.drew.heap[P0 + 1 + 1]? = some (.cells #[.int .i64 0] 24 (0, 0)) := l3
      generalize W6.drew = W7 at hown hfr l1' l2' l3' ⊢
      have HOW := Lib.hid hown
      have HFR := Lib.hid hfr
      have L1 := Lib.hid l1'
      have L2 := Lib.hid l2'
      have L3 := Lib.hid l3'
      clear f1 f2 f3 g1 g2 g3 k1 k2 k3 l1 l2 l3 ff hown hfr l1' l2' l3' d1 d2 d3 z1 z2 z3 e0 e2 q1 q2 q3 q4
      go_wp2_with fail
      refine leaves_cons (f := 15) (args := #[.pointer (some ⟨P0, 0, none⟩), .pointer (some ⟨P0 + 1, 0, none⟩), .pointer (some ⟨P0 + 1 + 1, 0, none⟩)]) (by simp) (by simp [go_sem]) ?_
      refine (catch_idle ⟨P0, 0, none⟩ ⟨P0 + 1, 0, none⟩ ⟨P0 + 1 + 1, 0, none⟩ W7).mono ?_
      rintro e u' w' ⟨rfl, rfl, rfl⟩
      refine ⟨_, res3 rfl rfl rfl L1.out L2.out L3.out, HFR.out, ?_⟩
      have hres : infl b lim = .ok T k := HE.out.trans HR.out
      rw [hres]
      exact ⟨.slice pt MT ct, by rw [HUU.out, HD.out], by have := HOW.out; rw [HMT.out] at this; rw [HMT.out]; exact this, fun j hj => by have := HOB.out j (by rw [HMT.out]; exact hj); have := HP0.out; omega⟩
end Go.Proofs.Ytmcmchldjfnneaa
