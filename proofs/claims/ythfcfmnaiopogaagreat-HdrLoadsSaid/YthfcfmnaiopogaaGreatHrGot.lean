/- What the law's helper makes: a landed histogram and the document's, of the same values, apart. -/
import Derived.Test.YthfcfmnaiopogaaGreatHrRecorded
import Derived.Test.YthfcfmnaiopogaaGreatHrReal
import Derived.Test.YthfcfmnaiopogaaGreatHrAlive
namespace Go.Proofs.YthfcfmnaiopogaaGreat
open Go.RowKit

/-- x and r are M in both, new to W -/
structure Got (W w' : World) (x h r : Nat) (p : Option Addr) (n c : Nat) (M : Hm) : Prop where
  hist : HistIs w' x h M
  ref : RefIs w' r p n c M
  len : M.l.length ≤ 100000
  fr : Fr S0 W w'
  xn : W.heap.size ≤ x ∧ W.heap.size ≤ h ∧ W.heap.size ≤ r
  pn : ∀ a, p = some a → W.heap.size ≤ a.block ∧ a.block < w'.heap.size ∧ a.block ≠ x ∧ a.block ≠ h
  ne : x ≠ r ∧ h ≠ r
section
variable {W w' w2 : World} {x h r : Nat} {p : Option Addr} {n c : Nat} {M : Hm}
theorem Got.fr0 (s : Got W w' x h r p n c M) (f : Fr S0 w' w2) : Got W w2 x h r p n c M := ⟨s.hist.fr0 f, s.ref.fr0 f, s.len, s.fr.trans0 f, s.xn, fun a ha => ⟨(s.pn a ha).1, Nat.lt_of_lt_of_le (s.pn a ha).2.1 f.size, (s.pn a ha).2.2⟩, s.ne⟩
theorem Got.same (s : Got W w' x h r p n c M) : Calls Tryz.prog 16 #[.pointer (some ⟨x, 0, none⟩), .pointer (some ⟨r, 0, none⟩)] w' fun e w2 => e = .returned (.bool true) ∧ Fr S0 w' w2 :=
  same_any readsX x _ r p n c M w' (.of s.hist s.len) s.ref (by rw [← s.ref.len]; exact s.len)
end
theorem Quad.got {W w' : World} {gs gw a b xA xB rA rB : Nat} {MA MB NB : Hm} (q : Quad IsX W w' gs gw a b xA xB rA rB MA MB MA NB) : ∃ h p n c, Got W w' xA h rA p n c MA := by
  obtain ⟨own, iA, iB, d⟩ := q
  obtain ⟨C, ⟨h, s, hl, hc⟩, hC⟩ := d.hA
  obtain ⟨C2, ⟨p, n, c, t, hp, hc2⟩, hC2⟩ := d.kA
  have hx := hC xA ((hc _).2 (.inl rfl))
  have hh := hC h ((hc _).2 (.inr rfl))
  have hr := hC2 rA ((hc2 _).2 (.inl rfl))
  refine ⟨h, p, n, c, s, t, hl, d.fr, ⟨hx.1, hh.1, hr.1⟩, fun a ha => ?_, ⟨fun e => ?_, fun e => ?_⟩⟩
  · have hb := hC2 a.block ((hc2 _).2 (.inr ⟨a, ha, rfl⟩))
    refine ⟨hb.1, hp a ha, fun e => ?_, fun e => ?_⟩
    · have h1 := hb.2
      rw [e, hx.2] at h1
      omega
    · have h1 := hb.2
      rw [e, hh.2] at h1
      omega
  · have h1 := hr.2
    rw [← e, hx.2] at h1
    omega
  · have h1 := hr.2
    rw [← e, hh.2] at h1
    omega
/-- recorded, of the landed histograms -/
theorem rec_got (L H D : Nat) (gr : Bool) (p : Option Addr) (m c : Nat) (vs : List Int) (q : Option Addr) (k c2 : Nat) (ns : List Nat) (w : World) (d1 : 1 ≤ D) (d5 : D ≤ 5) (l0 : 0 < L) (lh : 2 * L ≤ H) (hh : H < 9223372036854775808) (hs : unt L + mag D ≤ 62)
    (hm : vs.length = m) (hz : ZI w p vs) (hvb : ∀ v ∈ vs, -9223372036854775808 ≤ v ∧ v ≤ 9223372036854775807) (hk : ns.length = k) (hq : SlI w .u16 q ns) (hnb : ∀ n ∈ ns, n < 65536) :
    Calls Tryz.prog 18 #[.agg #[.int .i64 (L : Nat), .int .i64 (H : Nat), .int .i64 (D : Nat)], .bool gr, .slice p m c, .slice q k c2] w fun e w' => ∃ x h r pp n cc, e = .returned (.tuple #[.pointer (some ⟨x, 0, none⟩), .pointer (some ⟨r, 0, none⟩)]) ∧ Got w w' x h r pp n cc (recs (Hm.new L H D gr) vs ns (min m 40)) :=
  (recorded_any newsX L H D gr p m c vs q k c2 ns w d1 d5 l0 lh hh hs hm hz hvb hk hq hnb).mono fun e w' ⟨gs, gw, xA, xB, rA, rB, he, hq⟩ => by
    obtain ⟨h, pp, n, cc, g⟩ := hq.got
    have hsz := size_alloc w (.cells #[.int .i64 (L : Nat), .int .i64 (H : Nat), .int .i64 (D : Nat)] 30)
    exact ⟨xA, h, rA, pp, n, cc, he, g.hist, g.ref, g.len, (Fr.alloc S0 _ _).trans0 g.fr, by have := g.xn; omega, fun a ha => ⟨by have := (g.pn a ha).1; omega, (g.pn a ha).2⟩, g.ne⟩
theorem most_lt {M : Hm} (g : M.Good) {x : Pr} (hx : x ∈ M.l) : M.most x.1 < 9223372036854775808 := by
  obtain ⟨i, hi, -, h3⟩ := g.cell hx
  have h1 := vof_lt M.u M.m i g.m1 (by have := g.s; omega) h3
  have h2 := two_pos (M.u + ibk M.m i)
  rw [hi]
  unfold Hm.most
  rw [show ((i : Nat) : Int).toNat = i by omega]
  omega
theorem endV_lt {M : Hm} (g : M.Good) (a d : Nat) : endV M M.most a d < 9223372036854775808 := by
  unfold endV
  split
  · rename_i hE
    obtain ⟨h1, h2, h3, h4⟩ := rk_yes hE
    have h5 := rnk_all h2 h3
    obtain ⟨⟨x, hx, hxk⟩, -, -⟩ := keyW_rank g.srt h5.1 h5.2
    rw [h4, ← hxk]
    exact most_lt g hx
  · decide
theorem recs_L (N : Hm) (vs : List Int) (ns : List Nat) : ∀ i, (recs N vs ns i).L = N.L ∧ (recs N vs ns i).H = N.H ∧ (recs N vs ns i).D = N.D
  | 0 => ⟨rfl, rfl, rfl⟩
  | i + 1 => by
    have ih := recs_L N vs ns i
    rw [recs]
    unfold Hm.record
    split
    · exact ih
    · exact ih
end Go.Proofs.YthfcfmnaiopogaaGreat
