/- Pairs that were told may be written over. -/
import Derived.Test.YtocdjklgfmkbfaaDnAlive
import Derived.Deep.CutBlock
import Derived.Deep.DeepCutAuto
import Derived.Deep.CutRange
namespace Go.Proofs.Ytocdjklgfmkbfaa
open Go.RowKit

/-- a list that is read, its block of colour j -/
structure Ls (own : Nat → Nat) (j : Nat) (W : World) (q : Option Addr) (L : List Pr) : Prop where
  pri : PrI W q L
  col : ∀ a, q = some a → own a.block = j ∧ a.block < W.heap.size
theorem Ls.fr0 {own : Nat → Nat} {j : Nat} {W W' : World} {q : Option Addr} {L : List Pr} (s : Ls own j W q L) (f : Fr S0 W W') : Ls own j W' q L := ⟨s.pri.fr0 f, fun a ha => ⟨(s.col a ha).1, Nat.lt_of_lt_of_le (s.col a ha).2 f.size⟩⟩
theorem Ls.turn {own : Nat → Nat} {i j : Nat} {w W W' : World} {g h h' : Nat} {l l' L : List Pr} {q : Option Addr} (s : Ls own j W q L) (d : Cl own i w W g h l) (t : Turned W W' g h h' l') (hij : i ≠ j) : Ls (hue own i h h') j W' q L :=
  ⟨s.pri.fr t.fr fun a ha e => by
    have := (s.col a ha).1
    rcases e with e | e
    · exact hij (by rw [← this, e, d.cg])
    · exact hij (by rw [← this, e, d.ch]),
   fun a ha => ⟨by rw [hue_below t (s.col a ha).2]; exact (s.col a ha).1, Nat.lt_of_lt_of_le (s.col a ha).2 t.fr.size⟩⟩
theorem Ls.nil (own : Nat → Nat) (j : Nat) (W : World) : Ls own j W none [] := ⟨PrI.nil W none, fun _ h => by cases h⟩
/-- the colours behind an answer that is a list -/
def dye (own : Nat → Nat) (j n : Nat) : Nat → Nat := fun y => if n ≤ y then j else own y
theorem dye_below (own : Nat → Nat) (j n y : Nat) (h : y < n) : dye own j n y = own y := if_neg (by omega)
theorem Cl.dye {own : Nat → Nat} {i j : Nat} {w W W' : World} {g h : Nat} {l : List Pr} (c : Cl own i w W g h l) (f : Fr S0 W W') : Cl (dye own j W.heap.size) i w W' g h l :=
  ⟨c.is.fr0 f, c.g0, c.h0, Nat.lt_of_lt_of_le c.hl f.size, by rw [dye_below _ _ _ _ c.gl]; exact c.cg, by rw [dye_below _ _ _ _ c.hl]; exact c.ch⟩
theorem Ls.dye {own : Nat → Nat} {i j : Nat} {W W' : World} {q : Option Addr} {L : List Pr} (s : Ls own i W q L) (f : Fr S0 W W') : Ls (dye own j W.heap.size) i W' q L :=
  ⟨s.pri.fr0 f, fun a ha => ⟨by rw [dye_below _ _ _ _ (s.col a ha).2]; exact (s.col a ha).1, Nat.lt_of_lt_of_le (s.col a ha).2 f.size⟩⟩
theorem Ls.got {own : Nat → Nat} {j : Nat} {W W' : World} {p : Option Addr} {v : Value} {l l' : List Pr} (s : Ls own j W p l) (g : Got W W' p v l') : ∃ q n c, v = .slice q n c ∧ l'.length = n ∧ Ls (Go.Proofs.Ytocdjklgfmkbfaa.dye own j W.heap.size) j W' q l' := by
  obtain ⟨⟨q, n, c, hv, hn, hp, hq⟩, f⟩ := g
  refine ⟨q, n, c, hv, hn, hp, fun a ha => ?_⟩
  rcases hq with rfl | hq
  · exact ((s.dye f).col a ha)
  · have := hq a ha
    exact ⟨if_pos this.1, this.2⟩

theorem Got.from {w W w' : World} {p : Option Addr} {v : Value} {l : List Pr} (g : Got W w' p v l) (f : Fr S0 w W) : Got w w' p v l := by
  obtain ⟨⟨q, n, c, hv, hn, hp, hq⟩, fr⟩ := g
  refine ⟨⟨q, n, c, hv, hn, hp, hq.imp id fun h a ha => ⟨Nat.le_trans f.size (h a ha).1, (h a ha).2⟩⟩, f.trans0 fr⟩

set_option maxRecDepth 100000 in
set_option maxHeartbeats 4000000 in
theorem law_own (p : Option Addr) (c m : Nat) (l : List Pr) (w : World) (hm : l.length = m) (h : PrI w p l) (h64 : ∀ x ∈ l, x.2 < 18446744073709551616) :
    Calls Try.prog 6 #[.slice p m c] w fun e w' => e = .returned (.bool true) ∧ Fr S0 w w' := by
  have hw := start w
  have H := Lib.hid h
  have H64 := Lib.hid h64
  have HM := Lib.hid hm
  have hlen := h.len
  rw [hm] at hlen
  unfold maxLen at hlen
  clear h h64 hm
  go_enter Try.func6, Try.ntmps6
  go_wp2_with fail
  refine hw _ ?_
  intro w1 f1
  clear hw
  have C0 := Lib.hid (Cl.new (fun _ => 0) 0 w w1 f1)
  have F0 : Hid (Fr S0 w (w1.alloc (.cells #[.int .i64 0, .int .i64 0, .int .i64 0, .slice none 0 0, .int .i64 0, .int .u64 0] 32))) := Lib.hid (f1.trans0 (Fr.alloc _ _ _))
  clear f1
  go_wp2_with fail
  obtain ⟨g, hg⟩ : ∃ g, w1.heap.size = g := ⟨_, rfl⟩
  rw [hg] at C0 ⊢
  clear hg
  generalize w1.alloc (.cells #[.int .i64 0, .int .i64 0, .int .i64 0, .slice none 0 0, .int .i64 0, .int .u64 0] 32) = w2 at C0 F0 ⊢
  go_loopw [4, 5, 6, 7, 8, 9] (fun wv x _ _ _ _ wr => ∃ (k h n d : Nat) (own : Nat → Nat) (q : Option Addr) (L : List Pr), k ≤ m ∧ k ≤ 60 ∧ x = .int .i64 k ∧ wv = .slice q n d ∧ Hid (L.length = n) ∧ Hid (Cl own 0 w wr g h L) ∧ Hid (Ls own 1 wr q L) ∧ Hid (Fr S0 w wr)) (fun _ x _ _ _ _ _ => m - (intOf x).toNat)
  case atStart => exact ⟨0, _, 0, 0, _, none, [], by omega, by omega, rfl, rfl, Lib.hid rfl, C0, Lib.hid (Ls.nil _ _ _), F0⟩
  case round =>
    clear C0 F0
    obtain ⟨k, h, n, d, own, q, L, hk, hk60, rfl, rfl, hn, hc, hs, hf⟩ := hrel
    by_cases hkm : (k : Int) < (m : Int)
    · by_cases hk6 : (k : Int) < 60
      · have hkl : k < l.length := by rw [HM.out]; omega
        have hn64 := H64.out _ (List.getElem_mem hkl)
        obtain ⟨b, o, rfl, c0, c1⟩ := (H.out.fr0 hf.out).at k hkl
        have HC : Hid (∀ W, Fr S0 w W → W.cell? ⟨b, o + k * 2, none⟩ = some (.int .i64 l[k].1) ∧ W.cell? ⟨b, o + k * 2 + 1, none⟩ = some (.int .u64 (l[k].2 : Int))) := Lib.hid fun W f => by
          obtain ⟨b', o', hp, c3, c4⟩ := (H.out.fr0 f).at k hkl
          simp only [Option.some.injEq, Addr.mk.injEq] at hp
          obtain ⟨rfl, rfl, -⟩ := hp
          exact ⟨c3, c4⟩
        obtain ⟨⟨tk, tn⟩, ht⟩ : ∃ t, l[k] = t := ⟨_, rfl⟩
        rw [ht] at c0 c1 hn64 HC
        simp only at c0 c1 hn64 HC
        obtain ⟨E, hE⟩ : ∃ E, addE L tk tn = E := ⟨_, rfl⟩
        obtain ⟨L', hL'⟩ : ∃ L', addL L tk tn = L' := ⟨_, rfl⟩
        have HADD := Lib.hid (fun W (f : Fr S0 wr W) => (hc.out.fr0 f).add tk tn E L' hn64 hE hL')
        have HRADD : Hid (∀ W, PrI W q L → Calls Try.prog 9 #[.slice q n d, .int .i64 tk, .int .u64 (tn : Nat), .int .i64 8192] W fun e w' => ∃ v, e = .returned (.tuple #[v, .int .i64 (E : Nat)]) ∧ Got W w' q v L') := Lib.hid fun W hp => by
          have := radd_any q n d tn tk L W hp hn.out hc.out.is.ok hn64
          rwa [hE, hL'] at this
        clear ht hE hL' hn64 hkl
        go_wp2_with fail
        go_still_tail 11, (by kernel_rfl)
        obtain ⟨W1, hW1, g1⟩ := drewFr wr
        change wpList _ _ _ _ _ wr.drew
        rw [hW1]
        have HA1 := Lib.hid (HADD.out W1 g1)
        have HC1 := Lib.hid (And.intro (hc.out.fr0 g1) (And.intro (hs.out.fr0 g1) (hf.out.trans0 g1)))
        clear hW1 g1 hc hs hf c0 c1 HADD
        go_wp2_with fail
        refine HA1.out.mono ?_
        rintro e W2 ⟨rfl, h', t2⟩
        have HC2 := Lib.hid (And.intro (HC1.out.1.turn t2) (And.intro (HC1.out.2.1.turn HC1.out.1 t2 (by decide)) (HC1.out.1.frame t2 HC1.out.2.2)))
        obtain ⟨c0, c1⟩ := HC.out W2 HC2.out.2.2
        clear t2 HA1 HC1
        generalize hue own 0 h h' = own2 at HC2
        go_upto_region 9 with fail
        go_cut [6, 7] from 36 to 50 (fun x6 x7 wx => x7 = .int .i64 (E : Int) ∧ Got W2 wx q x6 L')
        case first =>
          go_region_law (go_simp; go_at_call 9; refine (HRADD.out _ (HC2.out.2.1.pri.fr0 (Fr.drew _ _))).mono ?_; rintro e w5 ⟨v5, rfl, g5⟩; have HG5 := Lib.hid (g5.from (Fr.drew S0 W2)); clear g5; dsimp only)
          all_goals
            go_wp2_with fail
            go_meet
            exact ⟨rfl, HG5.out⟩
        case rest =>
          obtain ⟨rfl, hgot⟩ := hcut
          have HF3 := Lib.hid hgot.fr
          have HC3 := Lib.hid (HC2.out.1.dye (j := 1) hgot.fr)
          obtain ⟨q', n', d', rfl, hn', hs'⟩ := HC2.out.2.1.got hgot
          have HS3 := Lib.hid hs'
          have HN3 := Lib.hid hn'
          have HFF := Lib.hid (HC2.out.2.2.trans0 hgot.fr)
          clear hgot hs' hn' HC2 c0 c1 HRADD HF3
          generalize Go.Proofs.Ytocdjklgfmkbfaa.dye own2 1 W2.heap.size = own3 at HC3 HS3
          go_wp2_with fail
          refine (pairs_any g h' L' _ HC3.out.is).mono ?_
          rintro e W4 ⟨p4, d4, n4, rfl, hp⟩
          have HC4 := Lib.hid (HC3.out.fr0 hp.fr)
          have HS4 := Lib.hid (HS3.out.fr0 hp.fr)
          have HF4 := Lib.hid (HFF.out.trans0 hp.fr)
          have HOW : Hid (∃ xs, W4.ownsRow 0 50 2 (.slice p4 n4 d4) n4 xs) := Lib.hid ⟨_, hp.own⟩
          have hn4 : n4 ≤ 8192 := by have := HC3.out.is.ok.len; have := hp.len; omega
          have HFR : Hid (∀ a, p4 = some a → wc.heap.size ≤ a.block) := Lib.hid hp.fresh
          have HFP : Hid (Fr S0 wc W4) := Lib.hid hp.fr
          clear hp HC4 HS4 HF4
          go_wp2_with fail
          go_loopw [9] (fun x wr => ∃ j : Nat, j ≤ n4 ∧ x = .int .i64 j ∧ Hid (∃ xs, wr.ownsRow 0 50 2 (.slice p4 n4 d4) n4 xs) ∧ Hid (Fr S0 wc wr)) (fun x _ => n4 - (intOf x).toNat)
          case atStart => exact ⟨0, by omega, rfl, HOW, HFP⟩
          case round =>
            clear HOW HFP
            obtain ⟨j, hj, rfl, ho, hf⟩ := hrel
            by_cases hjn : (j : Int) < (n4 : Int)
            · obtain ⟨xs, hx⟩ := ho.out
              have hxl : xs.length = n4 * 2 := hx.1
              obtain ⟨gp, rfl⟩ : ∃ gp, p4 = some ⟨gp, 0, none⟩ := by
                rcases hx.2 with ⟨h1, h2⟩ | ⟨gp, c1, c2, h1, -⟩
                · omega
                · exact ⟨gp, (Value.slice.inj h1).1⟩
              have c1 := hx.cellAt (j * 2 + 1) (by omega)
              have c0 := hx.cellAt (j * 2) (by omega)
              rw [List.getElem?_eq_getElem (by omega)] at c0 c1
              have z1 := hx.frozenAt (j * 2 + 1)
              have z0 := hx.frozenAt (j * 2)
              obtain ⟨y0, hy0⟩ : ∃ y, xs[j * 2]'(by omega) = y := ⟨_, rfl⟩
              obtain ⟨y1, hy1⟩ : ∃ y, xs[j * 2 + 1]'(by omega) = y := ⟨_, rfl⟩
              rw [hy0] at c0
              rw [hy1] at c1
              have h1 := hx.stored (j * 2 + 1) (.int .u64 0)
              have h2 := h1.1.stored (j * 2) (.int .i64 7)
              have HO2 := Lib.hid h2.1
              have HFX := Lib.hid ((hf.out.append h1.2 fun k' hk' => by have h3 := HFR.out ⟨gp, 0, none⟩ rfl; obtain rfl : gp = k' := Option.some.inj hk'; exact h3).append h2.2 fun k' hk' => by have h3 := HFR.out ⟨gp, 0, none⟩ rfl; obtain rfl : gp = k' := Option.some.inj hk'; exact h3)
              clear ho hx hxl hy0 hy1 h1 h2 hf
              go_wp2_with fail
              go_roundw
              case rel => exact ⟨j + 1, by omega, by go_num, Lib.hid ⟨_, HO2.out⟩, HFX⟩
              case measure => simp [intOf]; omega
            · clear ho
              have HC5 := Lib.hid (HC3.out.fr0 hf.out)
              have HS5 := Lib.hid (HS3.out.fr0 hf.out)
              have HF5 := Lib.hid (HFF.out.trans0 hf.out)
              clear hf HC3 HS3 HFF
              go_wp2_with fail
              go_roundw
              case rel => exact ⟨k + 1, h', n', d', own3, q', L', by omega, by omega, by go_num, rfl, HN3, HC5, HS5, HF5⟩
              case measure => simp [intOf]; omega
      · have hk6' : decide ((k : Int) < 60) = false := decide_eq_false hk6
        go_wp2_with fail
        refine (pairs_any g h L wr hc.out.is).mono ?_
        rintro e w4 ⟨p4, d4, n4, rfl, hp⟩
        obtain rfl : n = n4 := hn.out.symm.trans hp.len
        have HS := Lib.hid (rsame_yes p4 q n d4 d L w4 (hp.pri (by have := hc.out.is.ok.len; have := hn.out; omega)) (hs.out.pri.fr0 hp.fr) hn.out)
        have HF4 := Lib.hid (hf.out.trans0 hp.fr)
        clear hp hc hs hf
        go_wp2_with fail
        refine HS.out.mono ?_
        rintro e w5 ⟨rfl, f5⟩
        clear HS
        go_wp2_with fail
        go_ret
        exact ⟨rfl, HF4.out.trans0 f5⟩
    · go_wp2_with fail
      refine (pairs_any g h L wr hc.out.is).mono ?_
      rintro e w4 ⟨p4, d4, n4, rfl, hp⟩
      obtain rfl : n = n4 := hn.out.symm.trans hp.len
      have HS := Lib.hid (rsame_yes p4 q n d4 d L w4 (hp.pri (by have := hc.out.is.ok.len; have := hn.out; omega)) (hs.out.pri.fr0 hp.fr) hn.out)
      have HF4 := Lib.hid (hf.out.trans0 hp.fr)
      clear hp hc hs hf
      go_wp2_with fail
      refine HS.out.mono ?_
      rintro e w5 ⟨rfl, f5⟩
      clear HS
      go_wp2_with fail
      go_ret
      exact ⟨rfl, HF4.out.trans0 f5⟩
end Go.Proofs.Ytocdjklgfmkbfaa
