import Derived.Test.YtaemgflhgdlmiaaGreatPw1
import Derived.Test.YtaemgflhgdlmiaaGreatPw2
import Derived.Test.YtaemgflhgdlmiaaGreatPw3
import Derived.Test.YtaemgflhgdlmiaaGreatPw4
import Derived.Test.YtaemgflhgdlmiaaGreatPw5
import Derived.Test.YtaemgflhgdlmiaaGreatPw6
import Derived.Test.YtaemgflhgdlmiaaGreatPw7
import Derived.Test.YtaemgflhgdlmiaaGreatPw8
import Derived.Test.YtaemgflhgdlmiaaGreatPw9
import Derived.Test.YtaemgflhgdlmiaaGreatPw10
import Derived.Test.YtaemgflhgdlmiaaGreatPw11
import Derived.Test.YtaemgflhgdlmiaaGreatPw12
import Derived.Test.YtaemgflhgdlmiaaGreatPw13
import Derived.Test.YtaemgflhgdlmiaaGreatPw14
import Derived.Test.YtaemgflhgdlmiaaGreatPw15
import Derived.Test.YtaemgflhgdlmiaaGreatPw16
import Derived.Test.YtaemgflhgdlmiaaGreatPw17
import Derived.Test.YtaemgflhgdlmiaaGreatPw18
import Derived.Test.YtaemgflhgdlmiaaGreatPw19
import Derived.Test.YtaemgflhgdlmiaaGreatPw20
import Derived.Test.YtaemgflhgdlmiaaGreatPw21
import Derived.Test.YtaemgflhgdlmiaaGreatPw22
import Derived.Test.YtaemgflhgdlmiaaGreatPw23
import Derived.Test.YtaemgflhgdlmiaaGreatPw24
import Derived.Test.YtaemgflhgdlmiaaGreatPw25
import Derived.Test.YtaemgflhgdlmiaaGreatPw26
import Derived.Test.YtaemgflhgdlmiaaGreatPw27
import Derived.Test.YtaemgflhgdlmiaaGreatPw28
import Derived.Test.YtaemgflhgdlmiaaGreatPw29
import Derived.Test.YtaemgflhgdlmiaaGreatPw30
import Derived.Test.YtaemgflhgdlmiaaGreatPw31
import Derived.Test.YtaemgflhgdlmiaaGreatPw32
import Derived.Test.YtaemgflhgdlmiaaGreatPw33
import Derived.Test.YtaemgflhgdlmiaaGreatPw34
import Derived.Test.YtaemgflhgdlmiaaGreatPw35
import Derived.Test.YtaemgflhgdlmiaaGreatPw36
import Derived.Test.YtaemgflhgdlmiaaGreatPw37
import Derived.Test.YtaemgflhgdlmiaaGreatPw38
import Derived.Test.YtaemgflhgdlmiaaGreatPw39
import Derived.Test.YtaemgflhgdlmiaaGreatPw40
import Derived.Test.YtaemgflhgdlmiaaGreatPw41
import Derived.Test.YtaemgflhgdlmiaaGreatPw42
import Derived.Test.YtaemgflhgdlmiaaGreatPw43
import Derived.Test.YtaemgflhgdlmiaaGreatPw44
import Derived.Test.YtaemgflhgdlmiaaGreatPw45
import Derived.Test.YtaemgflhgdlmiaaGreatRdNext
/- The document's Peek (layer 21). -/
namespace Go.Proofs.YtaemgflhgdlmiaaGreat
open Go.RowKit

theorem vd_err (room : Nat) : ∀ (f : Nat) (first : Bool) (l : List Nat) (x : Nat), vDec room f first l = .error x → x = 20 ∨ x = 21
  | f, first, [], x, h => by
    have : vDec room f first [] = .error 20 := by cases f <;> rfl
    rw [this] at h
    cases h
    exact .inl rfl
  | 0, first, c :: r, x, h => by
    rw [vDec] at h
    split at h
    · cases h; exact .inr rfl
    · cases h
  | f + 1, first, c :: r, x, h => by
    rw [vDec] at h
    split at h
    · cases h; exact .inr rfl
    · split at h
      · cases h
      · cases hr : vDec room f false r with
        | error y =>
          rw [hr] at h
          cases h
          exact vd_err room f false r _ hr
        | ok z => obtain ⟨a, b⟩ := z; rw [hr] at h; cases h
theorem dec7_err {l : List Nat} {x : Nat} (h : dec 7 l = .error x) : x = 20 ∨ x = 21 := by
  rw [dec_7] at h
  exact vd_err _ _ _ _ _ h
theorem dsml_ok {l : List Nat} {a n u : Nat} (h : dec 7 (l.drop a) = .ok (n, u)) : dsml l a = if n ≤ 2097152 then some (n, a + u) else none := by
  unfold dsml dnum
  rw [h]
theorem dsml_err {l : List Nat} {a x : Nat} (h : dec 7 (l.drop a) = .error x) : dsml l a = none := by
  unfold dsml dnum
  rw [h]
theorem pk_iff {l : List Nat} {A m : Nat} : PkOk l A m ↔ ∃ u u2, dec 7 l = .ok (A, u) ∧ dec 7 (l.drop u) = .ok (m, u2) ∧ 100 ≤ A ∧ A ≤ 5000 ∧ 2 ≤ m ∧ m ≤ 4096 := by
  constructor
  · rintro ⟨⟨e, he⟩, ha⟩
    unfold drdH at he
    cases h1 : dec 7 l with
    | error x => rw [dsml_err (a := 0) (by rw [List.drop_zero]; exact h1)] at he; cases he
    | ok y =>
      obtain ⟨A', u⟩ := y
      rw [dsml_ok (a := 0) (by rw [List.drop_zero]; exact h1), Nat.zero_add] at he
      by_cases hA : A' ≤ 2097152
      · rw [if_pos hA] at he
        simp only at he
        cases h2 : dec 7 (l.drop u) with
        | error x => rw [dsml_err h2] at he; cases he
        | ok z =>
          obtain ⟨m', u2⟩ := z
          rw [dsml_ok h2] at he
          by_cases hm : m' ≤ 2097152
          · rw [if_pos hm] at he
            simp only [Option.some.injEq, Prod.mk.injEq] at he
            obtain ⟨⟨rfl, rfl⟩, -⟩ := he
            exact ⟨u, u2, rfl, h2, ha⟩
          · rw [if_neg hm] at he
            cases he
      · rw [if_neg hA] at he
        cases he
  · rintro ⟨u, u2, h1, h2, ha⟩
    refine ⟨⟨u + u2, ?_⟩, ha⟩
    unfold drdH
    rw [dsml_ok (a := 0) (by rw [List.drop_zero]; exact h1), Nat.zero_add, if_pos (by omega)]
    simp only
    rw [dsml_ok h2, if_pos (by omega)]
theorem sl_drop {w : World} {k : IntKind} {b o : Nat} {l : List Nat} (h : SlI w k (some ⟨b, o, none⟩) l) (u : Nat) : SlI w k (some ⟨b, o + u, none⟩) (l.drop u) := by
  refine ⟨by have := h.1; rw [List.length_drop]; omega, fun _ => ⟨b, o + u, rfl, fun i hi => ?_⟩⟩
  have hi2 : u + i < l.length := by rw [List.length_drop] at hi; omega
  obtain ⟨b', o', e, hc⟩ := SlI.at h (u + i) hi2
  simp only [Option.some.injEq, Addr.mk.injEq, and_true] at e
  obtain ⟨rfl, rfl⟩ := e
  rw [List.getElem_drop, Nat.add_assoc]
  exact hc
/-- how the document's Peek ends -/
def RpEnds (w w' : World) (l : List Nat) (e : Ending) : Prop :=
  (∃ A m, PkOk l A m ∧ e = .returned (.tuple #[.int .i64 (A : Nat), .int .i64 (m : Nat), .bool true]) ∧ Fr S0 w w') ∨ ((¬ ∃ A m, PkOk l A m) ∧ e = .returned (.tuple #[.int .i64 0, .int .i64 0, .bool false]) ∧ Fr S0 w w')
section
variable (q : Option Addr) (n c : Nat) (l : List Nat) (w : World)
set_option maxRecDepth 100000 in
set_option maxHeartbeats 4000000 in
theorem rpeek_any (hn : l.length = n) (hl : SlI w .u8 q l) (h8 : ∀ x ∈ l, x < 256) (hnc : n ≤ c) :
    Calls Tryz.prog 15 #[.slice q n c] w fun e w' => RpEnds w w' l e := by
  have H := Lib.hid (rnext_any q n c l w hn hl h8)
  cases h1 : dec 7 l with
  | error x =>
    rw [h1] at H
    have hx := dec7_err h1
    have HNO : Hid (¬ ∃ A m, PkOk l A m) := Lib.hid (by
      rintro ⟨A, m, h⟩
      obtain ⟨u, u2, k1, -⟩ := pk_iff.1 h
      rw [h1] at k1
      cases k1)
    have hz : ((x : Int) != 0) = true := by rw [bne_iff_ne]; omega
    have hz2 : ((x : Int) == 0) = false := by rw [beq_eq_false_iff_ne]; omega
    unfold rnV at H
    clear hn hl h8 h1 hx hnc
    go_enter Tryz.func15, Tryz.ntmps15
    go_wp2_with fail
    refine H.out.mono ?_
    rintro e w1 ⟨rfl, f1⟩
    have F1 := Lib.hid f1
    clear f1 H
    go_wp2_with fail
    go_ret3
    exact .inr ⟨HNO.out, rfl, F1.out⟩
  | ok y =>
    obtain ⟨A, u⟩ := y
    rw [h1] at H
    obtain ⟨hu, -, -, hA64⟩ := enc_dec 7 A u l (by decide) h8 h1
    unfold rnV at H
    simp only at H
    have hAi : (A : Int) < 18446744073709551616 := by omega
    by_cases hA : 100 ≤ A ∧ A ≤ 5000
    · obtain ⟨hA1, hA2⟩ := hA
      have hu2 : u ≤ n := by omega
      obtain ⟨b, o, rfl⟩ : ∃ b o, q = some ⟨b, o, none⟩ := by
        cases l with
        | nil => cases h1
        | cons y t => obtain ⟨b, o, e, -⟩ := hl.at 0 (by simp); exact ⟨b, o, e⟩
      have H2 := Lib.hid (fun W (f : Fr S0 w W) => rnext_any (some ⟨b, o + u, none⟩) (n - u) (c - u) (l.drop u) W (by rw [List.length_drop, hn]) (sl_drop (hl.fr0 f) u) (fun x hx => h8 x (List.mem_of_mem_drop hx)))
      have a1 : decide ((A : Int) < 100) = false := decide_eq_false (by omega)
      have a2 : decide ((5000 : Int) < (A : Int)) = false := decide_eq_false (by omega)
      have a3 : (100 : Int) ≤ (A : Int) := by omega
      have a4 : (A : Int) ≤ 5000 := by omega
      cases h2 : dec 7 (l.drop u) with
      | error x =>
        rw [h2] at H2
        have hx := dec7_err h2
        have HNO : Hid (¬ ∃ A m, PkOk l A m) := Lib.hid (by
          rintro ⟨A', m', h⟩
          obtain ⟨u', u2', k1, k2, -⟩ := pk_iff.1 h
          rw [h1] at k1
          cases k1
          rw [h2] at k2
          cases k2)
        have hz : ((x : Int) != 0) = true := by rw [bne_iff_ne]; omega
        have hz2 : ((x : Int) == 0) = false := by rw [beq_eq_false_iff_ne]; omega
        by_cases hcu : c = u
        · subst hcu
          have H9 : Hid (∀ W, Fr S0 w W → Calls Tryz.prog 40 #[.int .u8 118, .slice (some ⟨b, o, none⟩) (n - c) 0] W fun e w' => e = .returned (.tuple #[.int .u64 0, .int .i64 0, .int .i64 20]) ∧ Fr S0 W w') := Lib.hid (fun W f => rnext_any (some ⟨b, o, none⟩) (n - c) 0 [] W (by rw [List.length_nil]; omega) (SlI.nil _ _ _) (fun x hx => by cases hx))
          clear H2
          clear hn hl h8 h1 h2 hx hu hA64 hnc hA1 hA2
          go_enter Tryz.func15, Tryz.ntmps15
          go_wp2_with fail
          refine H.out.mono ?_
          rintro e w1 ⟨rfl, f1⟩
          have H3 := Lib.hid (H9.out _ f1)
          have F1 := Lib.hid f1
          clear f1 H H9
          go_wp2_with fail
          refine H3.out.mono ?_
          rintro e w2 ⟨rfl, f2⟩
          have F2 := Lib.hid (F1.out.trans0 f2)
          clear f2 H3
          go_wp2_with fail
          go_ret3
          exact .inr ⟨HNO.out, rfl, F2.out⟩
        · unfold rnV at H2
          clear hn hl h8 h1 h2 hx hu hA64 hnc hA1 hA2
          go_enter Tryz.func15, Tryz.ntmps15
          go_wp2_with fail
          refine H.out.mono ?_
          rintro e w1 ⟨rfl, f1⟩
          have H3 := Lib.hid (H2.out _ f1)
          have F1 := Lib.hid f1
          clear f1 H H2
          go_wp2_with fail
          refine H3.out.mono ?_
          rintro e w2 ⟨rfl, f2⟩
          have F2 := Lib.hid (F1.out.trans0 f2)
          clear f2 H3
          go_wp2_with fail
          go_ret3
          exact .inr ⟨HNO.out, rfl, F2.out⟩
      | ok z =>
        obtain ⟨m, u9⟩ := z
        have hcu : ¬ c = u := by
          intro e
          have : l.drop u = [] := List.drop_eq_nil_of_le (by omega)
          rw [this] at h2
          cases h2
        rw [h2] at H2
        unfold rnV at H2
        simp only at H2
        obtain ⟨-, -, -, hm64⟩ := enc_dec 7 m u9 (l.drop u) (by decide) (fun x hx => h8 x (List.mem_of_mem_drop hx)) h2
        have hmi : (m : Int) < 18446744073709551616 := by omega
        by_cases hm : 2 ≤ m ∧ m ≤ 4096
        · have HOK : Hid (PkOk l A m) := Lib.hid (pk_iff.2 ⟨u, u9, h1, h2, hA1, hA2, hm.1, hm.2⟩)
          obtain ⟨hm1, hm2⟩ := hm
          have m1 : decide ((m : Int) < 2) = false := decide_eq_false (by omega)
          have m2 : decide ((4096 : Int) < (m : Int)) = false := decide_eq_false (by omega)
          have m3 : (2 : Int) ≤ (m : Int) := by omega
          have m4 : (m : Int) ≤ 4096 := by omega
          clear hn hl h8 h1 h2 hu hA64 hm64 hnc hA1 hA2
          go_enter Tryz.func15, Tryz.ntmps15
          go_wp2_with fail
          refine H.out.mono ?_
          rintro e w1 ⟨rfl, f1⟩
          have H3 := Lib.hid (H2.out _ f1)
          have F1 := Lib.hid f1
          clear f1 H H2
          go_wp2_with fail
          refine H3.out.mono ?_
          rintro e w2 ⟨rfl, f2⟩
          have F2 := Lib.hid (F1.out.trans0 f2)
          clear f2 H3
          go_wp2_with fail
          go_ret3
          exact .inl ⟨A, m, HOK.out, rfl, F2.out⟩
        · have HNO : Hid (¬ ∃ A m, PkOk l A m) := Lib.hid (by
            rintro ⟨A', m', h⟩
            obtain ⟨u', u2', k1, k2, -, -, k3, k4⟩ := pk_iff.1 h
            rw [h1] at k1
            cases k1
            rw [h2] at k2
            cases k2
            exact hm ⟨k3, k4⟩)
          by_cases hm1 : m < 2
          · have m1 : decide ((m : Int) < 2) = true := decide_eq_true (by omega)
            have m3 : (m : Int) < 2 := by omega
            clear hn hl h8 h1 h2 hu hA64 hm64 hnc hA1 hA2 hm hm1
            go_enter Tryz.func15, Tryz.ntmps15
            go_wp2_with fail
            refine H.out.mono ?_
            rintro e w1 ⟨rfl, f1⟩
            have H3 := Lib.hid (H2.out _ f1)
            have F1 := Lib.hid f1
            clear f1 H H2
            go_wp2_with fail
            refine H3.out.mono ?_
            rintro e w2 ⟨rfl, f2⟩
            have F2 := Lib.hid (F1.out.trans0 f2)
            clear f2 H3
            go_wp2_with fail
            go_ret3
            exact .inr ⟨HNO.out, rfl, F2.out⟩
          · have m1 : decide ((m : Int) < 2) = false := decide_eq_false (by omega)
            have m2 : decide ((4096 : Int) < (m : Int)) = true := decide_eq_true (by omega)
            have m3 : (2 : Int) ≤ (m : Int) := by omega
            have m4 : (4096 : Int) < (m : Int) := by omega
            clear hn hl h8 h1 h2 hu hA64 hm64 hnc hA1 hA2 hm hm1
            go_enter Tryz.func15, Tryz.ntmps15
            go_wp2_with fail
            refine H.out.mono ?_
            rintro e w1 ⟨rfl, f1⟩
            have H3 := Lib.hid (H2.out _ f1)
            have F1 := Lib.hid f1
            clear f1 H H2
            go_wp2_with fail
            refine H3.out.mono ?_
            rintro e w2 ⟨rfl, f2⟩
            have F2 := Lib.hid (F1.out.trans0 f2)
            clear f2 H3
            go_wp2_with fail
            go_ret3
            exact .inr ⟨HNO.out, rfl, F2.out⟩
    · have HNO : Hid (¬ ∃ A m, PkOk l A m) := Lib.hid (by
        rintro ⟨A', m', h⟩
        obtain ⟨u', u2', k1, k2, k3, k4, -⟩ := pk_iff.1 h
        rw [h1] at k1
        cases k1
        exact hA ⟨k3, k4⟩)
      by_cases hA1 : A < 100
      · have a1 : decide ((A : Int) < 100) = true := decide_eq_true (by omega)
        have a3 : (A : Int) < 100 := by omega
        clear hn hl h8 h1 hu hA64 hA hA1 hnc
        go_enter Tryz.func15, Tryz.ntmps15
        go_wp2_with fail
        refine H.out.mono ?_
        rintro e w1 ⟨rfl, f1⟩
        have F1 := Lib.hid f1
        clear f1 H
        go_wp2_with fail
        go_ret3
        exact .inr ⟨HNO.out, rfl, F1.out⟩
      · have a1 : decide ((A : Int) < 100) = false := decide_eq_false (by omega)
        have a2 : decide ((5000 : Int) < (A : Int)) = true := decide_eq_true (by omega)
        have a3 : (100 : Int) ≤ (A : Int) := by omega
        have a4 : (5000 : Int) < (A : Int) := by omega
        clear hn hl h8 h1 hu hA64 hA hA1 hnc
        go_enter Tryz.func15, Tryz.ntmps15
        go_wp2_with fail
        refine H.out.mono ?_
        rintro e w1 ⟨rfl, f1⟩
        have F1 := Lib.hid f1
        clear f1 H
        go_wp2_with fail
        go_ret3
        exact .inr ⟨HNO.out, rfl, F1.out⟩
end
end Go.Proofs.YtaemgflhgdlmiaaGreat
