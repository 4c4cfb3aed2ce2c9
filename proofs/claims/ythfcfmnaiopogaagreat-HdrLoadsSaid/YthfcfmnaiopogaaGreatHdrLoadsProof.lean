/- The law on what is loaded. -/
import Derived.Test.YthfcfmnaiopogaaGreatRows
import Derived.Test.YthfcfmnaiopogaaGreatHrOpen
import Derived.Test.YthfcfmnaiopogaaGreatHrLawLoads1
import Derived.Test.YthfcfmnaiopogaaGreatHrLawLoads2
import Derived.Test.YthfcfmnaiopogaaGreatHrLawLoads3
import Derived.Test.YthfcfmnaiopogaaGreatHrLawLoads4
import Derived.WalkKit
import Derived.ProofKit
import Derived.OpenShut
import Derived.ShutString
import Derived.ChangeOld
import Derived.ChangeArms
import Derived.Below
namespace Go.Proofs.YthfcfmnaiopogaaGreat
open Go.RowKit Go.ChangeMaps

theorem law_loads (a d : Nat) (gr : Bool) (p : Option Addr) (m c : Nat) (vs : List Int) (q : Option Addr) (k c2 : Nat) (ns : List Nat) (more key : Int) (w : World) (hm : vs.length = m) (hz : ZI w p vs) (hvb : ∀ v ∈ vs, -9223372036854775808 ≤ v ∧ v ≤ 9223372036854775807) (hk : ns.length = k) (hq : SlI w .u16 q ns) (hnb : ∀ n ∈ ns, n < 65536) (hmo : -9223372036854775808 ≤ more ∧ more ≤ 9223372036854775807) (hke : -9223372036854775808 ≤ key ∧ key ≤ 9223372036854775807) :
    Calls Tryz.prog 7 #[.int .u64 (a : Nat), .int .u8 (d : Nat), .bool gr, .slice p m c, .slice q k c2, .int .i64 more, .int .i64 key] w fun e w' => e = .returned (.bool true) ∧ Fr S0 w w' := by
  obtain ⟨L, H, D, ⟨l0, lh, hh⟩, ⟨d1, d5⟩, hs, hsh⟩ := wshape_any a d 1000000
  by_cases hc : (0 ≤ key ∧ ibk (mag D) key.toNat ≤ 63 - (unt L + mag D))
  · by_cases ht : vof (unt L) (mag D) key.toNat ≤ top (unt L) (mag D) (1 + bkt (unt L + mag D) H)
    · by_cases hb : (recs (Hm.new L H D gr) vs ns (min m 40)).b = 1 + bkt (unt L + mag D) H
      · exact law_loads4 a d gr p m c vs q k c2 ns more key w hm hz hvb hk hq hnb hmo hke L H D l0 lh hh d1 d5 hs hsh hc ht hb
      · exact law_loads3 a d gr p m c vs q k c2 ns more key w hm hz hvb hk hq hnb hmo hke L H D l0 lh hh d1 d5 hs hsh hc ht hb
    · exact law_loads2 a d gr p m c vs q k c2 ns more key w hm hz hvb hk hq hnb hmo hke L H D l0 lh hh d1 d5 hs hsh hc ht
  · exact law_loads1 a d gr p m c vs q k c2 ns more key w hm hz hvb hk hq hnb hmo hke L H D l0 lh hh d1 d5 hs hsh hc
end Go.Proofs.YthfcfmnaiopogaaGreat
namespace Go.Proofs.YthfcfmnaiopogaaGreat.hdrLoads
open Go.ChangeShapes Go.WideShapes Go.ChangeAt Go.RowKit Go.Deep

theorem own : ownKnob Tryz.prog.godebug = none := by kernel_rfl
theorem laidOut : laidOutB Tryz.prog = true := by kernel_rfl

set_option maxRecDepth 100000 in
theorem lifted (os : Os) (started : os.Started) (H : Type) (enc : TypeId × Value → H) :
    ReturnsInHanded {} Tryz.checked os 7 .any (Rows.hdrLoadsSpec.pre6 enc Tryz.prog Tryz.f7 Rows.hdrLoadsRow.domain false) (Rows.hdrLoadsSpec.post enc Tryz.prog Tryz.f7 false true false false) := by
  refine returnsInHanded_of_change (C := Tryz.checked) own started (by kernel_rfl) Tryz.func7
    (ChangeSpec.witness6 (enc := enc) (C := Tryz.checked) false ⟨#[], #[.int .u64 0, .int .u8 0, .bool false, .slice none 0 0, .slice none 0 0, .int .i64 0, .int .i64 0], []⟩ 8 (by kernel_rfl) (by kernel_rfl) (by kernel_rfl) (by kernel_rfl)) ?_
  intro W base args ds gs before hval0 hW hcnd _
  have hval : ∀ (j : Nat) t v, Tryz.f7.params[j]? = some t → args[j]? = some v → Value.okWide Tryz.prog W .any base t v := hval0
  have hW' := hW
  obtain ⟨p, q, hA0, hV, rfl, hfz, hnd⟩ := hW
  have hA : DataW.TrodAll enc Tryz.prog W 0 (fun _ => true) true Tryz.f7.params.toList args.toList ds p := hA0
  rw [Tryz.params7] at hA hval
  obtain ⟨v0, vs0, d0, ds0, p0, q0, hargs, rfl, rfl, h0, r0⟩ := trodAll_cons hA
  obtain ⟨v1, vs1, d1, ds1, p1, q1, rfl, rfl, rfl, h1, r1⟩ := trodAll_cons r0
  obtain ⟨v2, vs2, d2, ds2, p2, q2, rfl, rfl, rfl, h2, r2⟩ := trodAll_cons r1
  obtain ⟨v3, vs3, d3, ds3, p3, q3, rfl, rfl, rfl, h3, r3⟩ := trodAll_cons r2
  obtain ⟨v4, vs4, d4, ds4, p4, q4, rfl, rfl, rfl, h4, r4⟩ := trodAll_cons r3
  obtain ⟨v5, vs5, d5, ds5, p5, q5, rfl, rfl, rfl, h5, r5⟩ := trodAll_cons r4
  obtain ⟨v6, vs6, d6, ds6, p6, q6, rfl, rfl, rfl, h6, r6⟩ := trodAll_cons r5
  obtain ⟨rfl, rfl, rfl⟩ := trodAll_nil r6
  obtain rfl : args = #[v0, v1, v2, v3, v4, v5, v6] := by cases args; simp_all
  obtain ⟨rfl, rfl⟩ := trodVars_none hV
  obtain ⟨a0, rfl, rfl, rfl, w0⟩ := open_int Tryz.underlying22 (hval 0 22 v0 rfl rfl) h0
  have b0 := bounds_u64 w0
  obtain ⟨n0, rfl⟩ : ∃ x : Nat, a0 = x := ⟨a0.toNat, by omega⟩
  obtain ⟨a1, rfl, rfl, rfl, w1⟩ := open_int Tryz.underlying5 (hval 1 5 v1 rfl rfl) h1
  have b1 := bounds_u8 w1
  obtain ⟨n1, rfl⟩ : ∃ x : Nat, a1 = x := ⟨a1.toNat, by omega⟩
  obtain ⟨a2, rfl, rfl, rfl⟩ := open_bool Tryz.underlying4 (hval 2 4 v2 rfl rfl) h2
  obtain ⟨a3, len3, cap3, rfl⟩ := okWide_slice Tryz.underlying42 (hval 3 42 v3 rfl rfl)
  have k3 := h3
  have lt3 : ∀ x ∈ p3, x.block < W.heap.size := by obtain ⟨m, hm⟩ := k3; exact DataW.trod_lt m _ _ _ hm
  obtain ⟨l3, w3, w3b, w3c, w3d⟩ : ∃ l : List Int, l.length = len3 ∧ ZI W a3 l ∧ (∀ v ∈ l, -9223372036854775808 ≤ v ∧ v ≤ 9223372036854775807) ∧ len3 ≤ maxLen := by
    obtain ⟨fuel, hf⟩ := h3
    exact zsOpen hf
  obtain ⟨a4, len4, cap4, rfl⟩ := okWide_slice Tryz.underlying43 (hval 4 43 v4 rfl rfl)
  have k4 := h4
  have lt4 : ∀ x ∈ p4, x.block < W.heap.size := by obtain ⟨m, hm⟩ := k4; exact DataW.trod_lt m _ _ _ hm
  obtain ⟨l4, w4, w4b, w4c⟩ : ∃ l : List Nat, l.length = len4 ∧ SlI W .u16 a4 l ∧ ∀ v ∈ l, v < 65536 := by
    obtain ⟨fuel, hf⟩ := h4
    exact hsOpen hf
  obtain ⟨a5, rfl, rfl, rfl, w5⟩ := open_int Tryz.underlying2 (hval 5 2 v5 rfl rfl) h5
  have b5 := bounds_i64 w5
  obtain ⟨a6, rfl, rfl, rfl, w6⟩ := open_int Tryz.underlying3 (hval 6 3 v6 rfl rfl) h6
  have b6 := bounds_i64 w6
  clear hA0 hval0
  refine (law_loads n0 n1 a2 a3 len3 cap3 l3 a4 len4 cap4 l4 a5 a6 W w3 w3b w3c w4 w4b w4c b5 b6).mono fun _ W' he => ?_
  obtain ⟨he, hfr⟩ := he
  have bel := hfr.below
  subst he
  exact ⟨_, rfl, _, _, _, [], _, [], hW', trodAll_mk1 (shut_bool Tryz.underlying4 _), (trodAll_cons_mk (shut_int Tryz.underlying22 w0) (trodAll_cons_mk (shut_int Tryz.underlying5 w1) (trodAll_cons_mk (shut_bool Tryz.underlying4 _) (trodAll_cons_mk (Below.trod laidOut (by kernel_rfl) (of_decide_eq_true (by kernel_rfl)) k3 bel lt3) (trodAll_cons_mk (Below.trod laidOut (by kernel_rfl) (of_decide_eq_true (by kernel_rfl)) k4 bel lt4) (trodAll_cons_mk (shut_int Tryz.underlying2 w5) (trodAll_cons_mk (shut_int Tryz.underlying3 w6) trodAll_mk0))))))), rfl, bel.frame _, fun h => by cases h⟩

theorem over : Rows.hdrLoadsRow.holds Tryz.pinned (OpenSpec.ofChange Rows.hdrLoadsSpec) :=
  OpenClaim.holds_of_wide 7 Tryz.f7 rfl rfl rfl rfl rfl rfl rfl ⟨rfl, rfl, rfl, rfl, rfl⟩ rfl rfl rfl rfl rfl (by kernel_rfl) Tryz.func7 (by kernel_rfl)
    (of_decide_eq_true (by kernel_rfl)) (by unfold Func.isWrapper; first | (rw [if_pos (by decide +kernel)]; kernel_rfl) | (rw [if_neg (by decide +kernel)]; exact ⟨rfl, rfl⟩))
    (fun os started H enc _ => lifted os started H enc)

theorem proved : Rows.HdrLoadsSaid := over
end Go.Proofs.YthfcfmnaiopogaaGreat.hdrLoads
