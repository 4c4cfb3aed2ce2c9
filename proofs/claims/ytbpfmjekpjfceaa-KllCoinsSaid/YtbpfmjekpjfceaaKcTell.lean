/- The code's stacks tell what they hold. -/
import Derived.Test.YtbpfmjekpjfceaaKcTerm
import Derived.Test.YtbpfmjekpjfceaaKcClone
import Derived.Test.YtbpfmjekpjfceaaKcStk
namespace Go.Proofs.Ytbpfmjekpjfceaa
open Go.RowKit

section
variable (g k T E : Nat) (C D : Nat → Prop) (L : Lv) (w : World)
set_option maxRecDepth 100000 in
set_option maxHeartbeats 1000000 in
theorem xsize_any (s : KsS w g C D k L T E) : Calls Try.prog 22 #[.pointer (some ⟨g, 0, none⟩)] w fun e w' => e = .returned (.int .i64 (k : Nat)) ∧ w' = w := by
  obtain ⟨p, n, c, rs, s⟩ := s
  have c0 := s.c0
  go_enter Try.func22, Try.ntmps22
  go_wp2_with fail
  go_ret
  exact ⟨rfl, rfl⟩
set_option maxRecDepth 100000 in
set_option maxHeartbeats 1000000 in
theorem xtotal_any (s : KsS w g C D k L T E) : Calls Try.prog 23 #[.pointer (some ⟨g, 0, none⟩)] w fun e w' => e = .returned (.int .u64 (T : Nat)) ∧ w' = w := by
  obtain ⟨p, n, c, rs, s⟩ := s
  have c2 := s.c2
  go_enter Try.func23, Try.ntmps23
  go_wp2_with fail
  go_ret
  exact ⟨rfl, rfl⟩
set_option maxRecDepth 100000 in
set_option maxHeartbeats 1000000 in
theorem xledger_any (s : KsS w g C D k L T E) : Calls Try.prog 24 #[.pointer (some ⟨g, 0, none⟩)] w fun e w' => e = .returned (.int .u64 (E : Nat)) ∧ w' = w := by
  obtain ⟨p, n, c, rs, s⟩ := s
  have c3 := s.c3
  go_enter Try.func24, Try.ntmps24
  go_wp2_with fail
  go_ret
  exact ⟨rfl, rfl⟩
theorem kept_take : ∀ (L : Lv) (h : Nat) (hh : h < L.length), kept (L.take (h + 1)) = kept (L.take h) + L[h].length ∧ kept (L.take (h + 1)) ≤ kept L
  | [], h, hh => absurd hh (Nat.not_lt_zero _)
  | l :: r, 0, _ => by
    refine ⟨?_, ?_⟩
    · simp [kept]
    · rw [show (l :: r).take (0 + 1) = [l] from by simp]
      simp only [kept]
      omega
  | l :: r, h + 1, hh => by
    obtain ⟨i1, i2⟩ := kept_take r h (by simpa using hh)
    rw [List.take_succ_cons, List.take_succ_cons, kept, kept, kept, i1, List.getElem_cons_succ]
    rw [i1] at i2
    omega
set_option maxRecDepth 100000 in
set_option maxHeartbeats 4000000 in
theorem xkept_any (s : KsS w g C D k L T E) (hk : kept L ≤ 1000000000) (hL : L.length ≤ 1000000) : Calls Try.prog 35 #[.pointer (some ⟨g, 0, none⟩)] w fun e w' => e = .returned (.int .i64 (kept L : Nat)) ∧ w' = w := by
  obtain ⟨p, n, c, rs, s⟩ := s
  have c1 := s.c1
  have hlen := s.len
  have HS := Lib.hid s
  have HK := Lib.hid hk
  rw [hlen] at hL
  have hni : (n : Int) ≤ 1000000 := by omega
  clear s hk
  go_enter Try.func35, Try.ntmps35
  go_wp2_with fail
  go_loopw [3, 5, 11] (fun x _ z wr => ∃ j N : Nat, j ≤ n ∧ z = .int .i64 j ∧ x = .int .i64 (N : Nat) ∧ Hid (N = kept (L.take j)) ∧ wr = w) (fun _ _ z _ => n - (intOf z).toNat)
  case atStart => exact ⟨0, 0, by omega, rfl, rfl, Lib.hid rfl, rfl⟩
  case round =>
    obtain ⟨j, N, hj, rfl, rfl, hN, rfl⟩ := hrel
    by_cases hjn : (j : Int) < (n : Int)
    · have hjM : j < L.length := by omega
      obtain ⟨b, rfl, -, -, q, m, d, ch, z, -, -⟩ := HS.out.lev j hjM
      obtain ⟨h1, h2⟩ := kept_take L j hjM
      rw [z.len, ← hN.out] at h1
      have HN : Hid (N + m = kept (L.take (j + 1))) := Lib.hid h1.symm
      have hb : (N : Int) + (m : Int) ≤ 1000000000 := by have := HK.out; omega
      have hj0 : (0 : Int) ≤ (j : Int) := by omega
      clear z h1 h2 hN
      go_wp2_with fail
      go_roundw
      case rel => exact ⟨j + 1, N + m, by omega, by go_num, by go_num, HN, trivial⟩
      case measure => simp [intOf]; omega
    · obtain rfl : j = n := by omega
      have HN : Hid (N = kept L) := Lib.hid (by rw [hN.out, ← hlen, List.take_length])
      clear hN
      go_wp2_with fail
      go_ret
      exact ⟨by rw [HN.out]; rfl, rfl⟩
/-- what comes out of Levels: a row of slices of its own, each one's block new -/
structure LvOut (w w' : World) (v : Value) (n : Nat) (M : Lv) : Prop where
  row : ∃ p c rs, v = .slice p n c ∧ w'.ownsRow 0 53 1 (.slice p n c) n (svs rs) ∧ Lvs w' (fun b => w.heap.size ≤ b ∧ b < w'.heap.size ∧ Value.ownBlock (.slice p n c) ≠ some b) rs M ∧ ∀ b, Value.ownBlock (.slice p n c) = some b → w.heap.size ≤ b
  fr : Fr S0 w w'
theorem LvOut.nil {w w' : World} (f : Fr S0 w w') : LvOut w w' (.slice none 0 0) 0 [] := ⟨⟨none, 0, [], rfl, World.ownsRow_nil _ _ _ _, Lvs.nil _ _, fun b h => by simp [Value.ownBlock] at h⟩, f⟩
/-- one level more -/
theorem LvOut.app {w wr w2 w3 : World} {pv pu : Option Addr} {j m cv cu g1 cap1 : Nat} {M : Lv} {l : List Int} {o : Obj} (a : AccZ wr w2 (.slice pu m cu) m l) (rs1 : List Sv) (own1 : wr.ownsRow 0 53 1 (.slice pv j cv) j (svs rs1)) (lv1 : Lvs wr (fun b => w.heap.size ≤ b ∧ b < wr.heap.size ∧ Value.ownBlock (.slice pv j cv) ≠ some b) rs1 M) (hb1 : ∀ b, Value.ownBlock (.slice pv j cv) = some b → w.heap.size ≤ b) (f1 : Fr S0 w wr) (own : w3.ownsRow 0 53 1 (.slice (some ⟨g1, 0, none⟩) (j + 1) cap1) (j + 1) (svs rs1 ++ #[Value.slice pu m cu].toList))
    (hg : (w2.alloc o).grownBy w3 (Value.ownBlock (.slice pv j cv))) (hat : Value.ownBlock (.slice pv j cv) = some g1 ∨ g1 = w2.heap.size + 1) : LvOut w w3 (.slice (some ⟨g1, 0, none⟩) (j + 1) cap1) (j + 1) (M ++ [l]) := by
  obtain ⟨pu', cu', hv, zu, hub⟩ := a.sl
  simp only [Value.slice.injEq, true_and] at hv
  obtain ⟨rfl, rfl⟩ := hv
  have f3 : Fr (fun b => Value.ownBlock (.slice pv j cv) = some b) w2 w3 := ((Fr.alloc S0 w2 o).mono fun _ _ h => h.elim).trans (Fr.grown hg) fun _ _ h => h
  have hlt : ∀ b, Value.ownBlock (.slice pv j cv) = some b → b < wr.heap.size := fun b hb => (own1.lt b hb).2
  have s2 := a.fr.size
  have s3 := f3.size
  have s1 := f1.size
  have hg3 : g1 < w3.heap.size := (own.lt g1 rfl).2
  refine ⟨⟨some ⟨g1, 0, none⟩, cap1, rs1 ++ [(pu, m, cu)], rfl, ?_, ?_, fun b hb => ?_⟩, (f1.trans0 a.fr).trans f3 fun k hk e => ?_⟩
  · rw [show svs (rs1 ++ [(pu, m, cu)]) = svs rs1 ++ #[Value.slice pu m cu].toList by simp [svs]]
    exact own
  · have lvm : Lvs w3 (fun b => w.heap.size ≤ b ∧ b < w3.heap.size ∧ Value.ownBlock (.slice (some ⟨g1, 0, none⟩) (j + 1) cap1) ≠ some b) rs1 M := ((lv1.fr0 a.fr).fr f3 fun b hb h => hb.2.2 h).mono fun b hb => ⟨hb.1, by have := hb.2.1; omega, fun e => by
      have e2 : g1 = b := Option.some.inj e
      rcases hat with h | h
      · exact hb.2.2 (by rw [h, e2])
      · have := hb.2.1; omega⟩
    have z3 : Sz w3 pu m cu l := zu.fr f3 fun _ x hx e => by
      have h1 := hub x hx
      have h2 := hlt _ e
      omega
    refine lvm.snoc z3 fun x hx => ?_
    have h1 := hub x hx
    refine ⟨by omega, by omega, fun e => ?_⟩
    have e2 : g1 = x.block := Option.some.inj e
    rcases hat with h | h
    · have := hlt _ h; omega
    · omega
  · obtain rfl : g1 = b := Option.some.inj hb
    rcases hat with h | h
    · exact hb1 _ h
    · omega
  · have := hb1 k e; omega
set_option maxRecDepth 100000 in
set_option maxHeartbeats 4000000 in
theorem xlevels_any (s : KsS w g C D k L T E) (hk : ∀ l ∈ L, l.length ≤ 1000000000) (hL : L.length ≤ 1000000) : Calls Try.prog 25 #[.pointer (some ⟨g, 0, none⟩)] w fun e w' => ∃ v, e = .returned v ∧ LvOut w w' v L.length L := by
  obtain ⟨p, n, c, rs, s⟩ := s
  have c1 := s.c1
  have hlen := s.len
  rw [hlen] at hL ⊢
  have HS := Lib.hid s
  have HK := Lib.hid hk
  clear s hk
  go_enter Try.func25, Try.ntmps25
  go_wp2_with fail
  go_loopw [3, 5, 11] (fun x _ z wr => ∃ j : Nat, j ≤ n ∧ z = .int .i64 j ∧ Hid (LvOut w wr x j (L.take j))) (fun _ _ z _ => n - (intOf z).toNat)
  case atStart => exact ⟨0, by omega, rfl, Lib.hid (LvOut.nil (Fr.refl _ _))⟩
  case round =>
    obtain ⟨j, hj, rfl, ho⟩ := hrel
    obtain ⟨⟨pv, cv, rs1, rfl, own1, lv1, hb1⟩, f1⟩ := ho.out
    by_cases hjn : (j : Int) < (n : Int)
    · have hjM : j < L.length := by omega
      obtain ⟨b, rfl, -, -, q, m, d, ch, z, -, -⟩ := (HS.out.fr0 f1).lev j hjM
      have hm : m ≤ 1000000000 := by rw [← z.len]; exact HK.out _ (List.getElem_mem hjM)
      have HC := Lib.hid (fun W (f : Fr S0 wr W) => clonez_any q m d L[j] W (z.fr0 f) (by omega))
      have HO := Lib.hid own1
      have HO4 := Lib.hid (And.intro lv1 (And.intro hb1 f1))
      have c1r := (HS.out.fr0 f1).c1
      have htk : L.take (j + 1) = L.take j ++ [L[j]] := List.take_succ_eq_append_getElem hjM
      have HTK := Lib.hid htk
      have hj0 : (0 : Int) ≤ (j : Int) := by omega
      have HR : Hid (Room (j + 1)) := Lib.hid (Room.mk (by omega))
      clear z own1 lv1 hb1 f1 htk
      go_wp2_with fail
      refine (HC.out _ (Fr.refl _ _)).mono ?_
      rintro e w2 ⟨u, rfl, acc⟩
      obtain ⟨pu, cu, rfl⟩ := slFormN acc.own
      have A2 := Lib.hid acc
      have HO2 := Lib.hid (acc.fr.owns HO.out fun _ _ h => h)
      clear acc HC
      go_wp2_with (first
        | ((with_reducible show wpList _ _ _ (Oper.mk (some 19) _ _ _ _ _ :: _) _ _); refine app_one elR (.tmp 15) (.tmp 18) rfl HO2.out rfl rfl rfl rfl rfl (one_sv _ _ _) HR.out ?_; intro g1 cap1 w3 hown hgrow hat hlt; have HG := Lib.hid (And.intro hown (And.intro hgrow hat)); clear hown hgrow hat hlt)
        | fail)
      go_roundw
      case rel =>
        refine ⟨j + 1, by omega, by go_num, Lib.hid ?_⟩
        rw [HTK.out]
        exact LvOut.app A2.out rs1 HO.out HO4.out.1 HO4.out.2.1 HO4.out.2.2 HG.out.1 HG.out.2.1 HG.out.2.2
      case measure => simp [intOf]; omega
    · obtain rfl : j = n := by omega
      go_wp2_with fail
      go_ret
      refine ⟨_, rfl, ?_⟩
      have h := ho.out
      rw [← hlen, List.take_length] at h
      rw [← hlen]
      exact h
end
end Go.Proofs.Ytbpfmjekpjfceaa
