/- within: something is done with a store's list, and the list is cut behind it. -/
import Derived.Test.YtibgjmlgjmnheaaClNew
namespace Go.Proofs.Ytibgjmlgjmnheaa
open Go.RowKit

theorem Turned.back {X : Sx} {w W w' : World} {g h h' : Nat} {l : List Pr} (f : Fr S0 w W) (t : Turned X W w' g h h' l) : Turned X w w' g h h' l :=
  ⟨t.sto, t.row.imp id fun ⟨a, b⟩ => ⟨Nat.le_trans f.size a, b⟩, (f.mono fun _ _ h => h.elim).trans t.fr fun _ _ h => h⟩
theorem Turned.then {X Y : Sx} {w w1 w2 : World} {g h h1 h2 : Nat} {l l2 : List Pr} (t : Turned X w w1 g h h1 l) (u : Turned Y w1 w2 g h1 h2 l2) : Turned Y w w2 g h h2 l2 := by
  have hs := u.fr.size
  refine ⟨u.sto, ?_, t.fr.trans u.fr fun x hx e => ?_⟩
  · rcases u.row with rfl | ⟨a, b⟩
    · exact t.row.imp id fun ⟨a, b⟩ => ⟨a, by omega⟩
    · exact .inr ⟨Nat.le_trans t.fr.size a, b⟩
  · rcases e with e | e
    · exact .inl e
    · rcases t.row with rfl | ⟨a, b⟩
      · exact .inr e
      · omega
theorem Turned.on {X : Sx} {w w1 w2 : World} {g h h1 : Nat} {l : List Pr} (t : Turned X w w1 g h h1 l) (f : Fr S0 w1 w2) : Turned X w w2 g h h1 l :=
  ⟨t.sto.fr0 f, t.row.imp id fun ⟨a, b⟩ => ⟨a, Nat.lt_of_lt_of_le b f.size⟩, t.fr.trans0 f⟩
theorem Turned.setkf {X : Sx} {w w1 : World} {g h h1 : Nat} {l : List Pr} (t : Turned X w w1 g h h1 l) (k : Int) (f : Nat) :
    Turned ⟨X.b, k, f⟩ w ((w1.setCell ⟨g, 3, none⟩ (.int .i64 k)).setCell ⟨g, 4, none⟩ (.int .u64 (f : Int))) g h h1 l := by
  have fr : Fr (· = g) w1 ((w1.setCell ⟨g, 3, none⟩ (.int .i64 k)).setCell ⟨g, 4, none⟩ (.int .u64 (f : Int))) := (Fr.setCell (· = g) _ _ _ rfl).trans (Fr.setCell (· = g) _ _ _ rfl) fun _ _ h => h
  exact ⟨t.sto.setkf k f, t.row.imp id fun ⟨a, b⟩ => ⟨a, Nat.lt_of_lt_of_le b fr.size⟩, t.fr.trans fr fun _ _ e => .inl e⟩
theorem keyV_one {l : List Pr} (hp : Pos l) : keyV l 1 = hk l := by
  cases l with
  | nil => rfl
  | cons x r =>
    have := (pos_cons.1 hp).1
    have e : keyE (x :: r) 1 = 0 := by
      unfold keyE
      rw [if_neg (by simp), if_neg (by rw [ltot]; omega)]
    unfold keyV
    rw [if_pos e, hk_key hp]
theorem many_le : ∀ (l : List Pr) (k : Int), many l k ≤ ltot l
  | [], _ => Nat.le_refl _
  | x :: r, k => by
    have := many_le r k
    rw [many, ltot]
    split <;> omega
theorem many_take {l : List Pr} {k : Int} {j : Nat} (h : j < l.length) : many (l.take (j + 1)) k = many (l.take j) k + if l[j].1 = k then l[j].2 else 0 := by
  rw [List.take_succ_eq_append_getElem h, many_app, many, many]
  rfl
theorem many_take_le (l : List Pr) (k : Int) (j : Nat) : many (l.take j) k ≤ ltot l := Nat.le_trans (many_le _ _) (tot_take_le l j)
theorem cutA_le (l : List Pr) (m : Nat) : cutA l m ≤ ltot l := tot_take_le l _

section
variable {X : Sx} (C E g h m b nf : Nat) (x : Value) (l l1 fl : List Pr) (w : World)
set_option maxRecDepth 100000 in
set_option maxHeartbeats 4000000 in
theorem within1_any (hC : Has C) (s : StIs X w g h l) (hX : X.b = m) (hm : 2 ≤ m ∧ m ≤ 4096) (hfl : PrI w (some ⟨b, 0, none⟩) fl) (hnf : fl.length = nf) (hb : b ≠ g ∧ b ≠ h ∧ b < w.heap.size) (hE : E < 9223372036854775808) (hsum : ltot l1 + ltot fl < 18446744073709551616) (hnf2 : nf ≤ 2)
    (hact : Calls Try.prog C #[.pointer (some ⟨g, 1, none⟩), x] w fun e w' => e = .returned (.int .i64 (E : Nat)) ∧ ∃ h', Turned X w w' g h h' l1) :
    Calls Try.prog 25 #[.pointer (some ⟨g, 0, none⟩), .func (.func C) #[] #[x], .slice (some ⟨b, 0, none⟩) nf nf] w fun e w' => e = .returned (.int .i64 (E : Nat)) ∧ ∃ h',
      (E ≠ 0 ∧ Turned X w w' g h h' l1) ∨ (E = 0 ∧ Turned ⟨m, hk (cutN l1 m), cutA l1 m + many fl (hk (cutN l1 m))⟩ w w' g h h' (cutN l1 m)) := by
  have HA := Lib.hid hact
  have hcf := hC #[.pointer (some ⟨g, 1, none⟩), x] w
  have HS := Lib.hid s.lt
  have HB := Lib.hid hb
  have HFL := Lib.hid hfl
  have HN := Lib.hid hnf
  have HSU := Lib.hid hsum
  have HXB := Lib.hid hX
  by_cases hE0 : E = 0
  · subst hE0
    clear hact hC s hX hfl hnf hb hE hsum
    go_enter Try.func25, Try.ntmps25
    go_wp2_with fail
    refine HA.out.mono ?_
    rintro e w1 ⟨rfl, h1, t1⟩
    have T1 := Lib.hid t1
    have hbl := HFL.out
    have HFL1 : Hid (PrI w1 (some ⟨b, 0, none⟩) fl) := Lib.hid (HFL.out.fr t1.fr fun a ha e => by
      obtain rfl := Option.some.inj ha
      rcases e with e | e
      · exact HB.out.1 e
      · exact HB.out.2.1 e)
    have c0 : w1.cell? ⟨g, 0, none⟩ = some (.int .i64 (m : Nat)) := by have := t1.sto.cb; rwa [HXB.out] at this
    have emost : most (m : Int) = m := by unfold most; omega
    have HCUT : Hid (∀ W, Fr S0 w1 W → Calls Try.prog 45 #[.pointer (some ⟨g, 1, none⟩), .int .i64 (m : Nat)] W fun e w' => e = .returned (.int .u64 (cutA l1 m : Nat)) ∧ ∃ h2, Turned X w1 w' g h1 h2 (cutN l1 m)) := Lib.hid fun W f => by
      have := cut_any g h1 (m : Int) l1 W (by omega) (T1.out.sto.fr0 f)
      rw [emost] at this
      exact this.mono fun e w' he => ⟨he.1, he.2.imp fun h2 t => t.back f⟩
    have HOK := Lib.hid t1.sto.ok
    clear t1 hbl HA HFL hcf emost
    obtain ⟨A, hA⟩ : ∃ A, cutA l1 m = A := ⟨_, rfl⟩
    rw [hA] at HCUT
    have HAA := Lib.hid hA
    clear hA
    go_wp2_with fail
    go_region_law (first
      | (go_simp; go_at_call 45; (with_reducible refine (HCUT.out _ (Fr.drew _ _)).mono ?_); rintro _ w2 ⟨rfl, h2, t2⟩; have T2 := Lib.hid t2; clear t2 c0 HCUT; dsimp only))
    all_goals
      have HKEY := Lib.hid (key_any g h2 1 _ w2 T2.out.sto (by decide))
      rw [keyV_one T2.out.sto.ok.pos] at HKEY
      have HFL2 : Hid (PrI w2 (some ⟨b, 0, none⟩) fl) := Lib.hid (HFL1.out.fr T2.out.fr fun a ha e => by
        obtain rfl := Option.some.inj ha
        rcases e with e | e
        · exact HB.out.1 e
        · rcases T1.out.row with h3 | h3
          · exact HB.out.2.1 (e.trans h3)
          · have e2 : b = h1 := e; have := HB.out.2.2; omega)
      obtain ⟨q, hq⟩ : ∃ q, hk (cutN l1 m) = q := ⟨_, rfl⟩
      obtain ⟨KE, hKE⟩ : ∃ KE, keyE (cutN l1 m) 1 = KE := ⟨_, rfl⟩
      rw [hq, hKE] at HKEY
      have HQ := Lib.hid hq
      have HT2 := Lib.hid (T1.out.then T2.out)
      clear HFL1 T1 T2 hKE hq
      go_wp2_with fail
      refine HKEY.out.mono ?_
      rintro e w3 ⟨rfl, f3⟩
      have T3 := Lib.hid (HT2.out.on f3)
      have HFL3 := Lib.hid (HFL2.out.fr0 f3)
      clear f3 HKEY HT2 HFL2
      go_wp2_with fail
      go_loopw [8, 12, 38] (fun s _ i wr => ∃ j N : Nat, j ≤ nf ∧ i = .int .i64 j ∧ s = .int .u64 N ∧ Hid (A + many (fl.take j) q = N) ∧ Hid (Fr S0 w3 wr)) (fun _ _ i _ => nf - (intOf i).toNat)
      case atStart => exact ⟨0, A, by omega, rfl, rfl, Lib.hid rfl, Lib.hid (Fr.refl _ _)⟩
      case round =>
        obtain ⟨j, N, hj, rfl, rfl, hN, hfr⟩ := hrel
        by_cases hjn : (j : Int) < (nf : Int)
        · have hjl : j < fl.length := by rw [HN.out]; omega
          obtain ⟨b', o', hp, d0, d1⟩ := (HFL3.out.fr0 hfr.out).at j hjl
          simp only [Option.some.injEq, Addr.mk.injEq] at hp
          obtain ⟨rfl, rfl, -⟩ := hp
          rw [Nat.zero_add] at d0 d1
          have e1 := many_take (k := q) hjl
          have hle := many_take_le fl q (j + 1)
          have hA2 := cutA_le l1 m
          rw [HAA.out] at hA2
          obtain ⟨⟨tk, tn⟩, ht⟩ : ∃ t, fl[j] = t := ⟨_, rfl⟩
          rw [ht] at d0 d1 e1
          simp only at d0 d1 e1
          by_cases hkq : tk = q
          · subst hkq
            rw [if_pos rfl] at e1
            obtain ⟨N', hN'⟩ : ∃ N', N + tn = N' := ⟨_, rfl⟩
            have HN2 : Hid (A + many (fl.take (j + 1)) tk = N') := Lib.hid (by have := hN.out; omega)
            have hlt : (N' : Int) < 18446744073709551616 := by have := hN.out; have := HSU.out; omega
            have esum : (N : Int) + (tn : Int) = (N' : Int) := by omega
            have hbq : (tk == tk) = true := beq_self_eq_true tk
            clear e1 hle hA2 ht hN' hN
            go_wp2_with fail
            go_roundw
            case rel => exact ⟨j + 1, N', by omega, by go_num, by go_num, HN2, Lib.hid (hfr.out.trans0 (Fr.alloc _ _ _))⟩
            case measure => simp [intOf]; omega
          · rw [if_neg hkq] at e1
            have HN2 : Hid (A + many (fl.take (j + 1)) q = N) := Lib.hid (by have := hN.out; omega)
            have hbq : (tk == q) = false := by rw [beq_eq_false_iff_ne]; exact hkq
            clear e1 hle hA2 ht hN hkq
            go_wp2_with fail
            go_roundw
            case rel => exact ⟨j + 1, N, by omega, by go_num, by go_num, HN2, Lib.hid (hfr.out.trans0 (Fr.alloc _ _ _))⟩
            case measure => simp [intOf]; omega
        · obtain rfl : j = nf := by omega
          have hN2 := hN.out
          rw [← HN.out, List.take_length] at hN2
          have HN2 := Lib.hid hN2
          have T4 := Lib.hid ((T3.out.on hfr.out).setkf q N)
          have z3 := (T3.out.on hfr.out).sto.fz 3
          obtain ⟨_, _, _, _, r⟩ := (T3.out.on hfr.out).sto.cells
          have c3 := r.ck
          have c4 := (r.setk q).cf
          have z4 := (r.setk q).fz 4
          clear hN2 hN hfr T3 HFL3 r
          go_wp2_with fail
          go_ret
          refine ⟨rfl, h2, ?_⟩
          have := T4.out
          rw [HXB.out] at this
          rw [HQ.out, HAA.out, HN2.out]
          exact this
  · have hEb : ((E : Int) == 0) = false := by rw [beq_eq_false_iff_ne]; omega
    have hEb2 : ((E : Int) != 0) = true := by rw [bne_iff_ne]; omega
    have HE0 := Lib.hid hE0
    clear hact hC s hX hfl hnf hb hsum hE0
    go_enter Try.func25, Try.ntmps25
    go_wp2_with fail
    refine HA.out.mono ?_
    rintro e w1 ⟨rfl, h1, t1⟩
    have T1 := Lib.hid t1
    clear t1 HA hcf
    go_wp2_with fail
    go_ret
    exact ⟨rfl, h1, .inl ⟨HE0.out, T1.out⟩⟩
end

section
variable {X : Sx} (C E g h m b nf : Nat) (x y : Value) (l l1 fl : List Pr) (w : World)
set_option maxRecDepth 100000 in
set_option maxHeartbeats 4000000 in
theorem within2_any (hC : Has C) (s : StIs X w g h l) (hX : X.b = m) (hm : 2 ≤ m ∧ m ≤ 4096) (hfl : PrI w (some ⟨b, 0, none⟩) fl) (hnf : fl.length = nf) (hb : b ≠ g ∧ b ≠ h ∧ b < w.heap.size) (hE : E < 9223372036854775808) (hsum : ltot l1 + ltot fl < 18446744073709551616) (hnf2 : nf ≤ 2)
    (hact : Calls Try.prog C #[.pointer (some ⟨g, 1, none⟩), x, y] w fun e w' => e = .returned (.int .i64 (E : Nat)) ∧ ∃ h', Turned X w w' g h h' l1) :
    Calls Try.prog 25 #[.pointer (some ⟨g, 0, none⟩), .func (.func C) #[] #[x, y], .slice (some ⟨b, 0, none⟩) nf nf] w fun e w' => e = .returned (.int .i64 (E : Nat)) ∧ ∃ h',
      (E ≠ 0 ∧ Turned X w w' g h h' l1) ∨ (E = 0 ∧ Turned ⟨m, hk (cutN l1 m), cutA l1 m + many fl (hk (cutN l1 m))⟩ w w' g h h' (cutN l1 m)) := by
  have HA := Lib.hid hact
  have hcf := hC #[.pointer (some ⟨g, 1, none⟩), x, y] w
  have HS := Lib.hid s.lt
  have HB := Lib.hid hb
  have HFL := Lib.hid hfl
  have HN := Lib.hid hnf
  have HSU := Lib.hid hsum
  have HXB := Lib.hid hX
  by_cases hE0 : E = 0
  · subst hE0
    clear hact hC s hX hfl hnf hb hE hsum
    go_enter Try.func25, Try.ntmps25
    go_wp2_with fail
    refine HA.out.mono ?_
    rintro e w1 ⟨rfl, h1, t1⟩
    have T1 := Lib.hid t1
    have hbl := HFL.out
    have HFL1 : Hid (PrI w1 (some ⟨b, 0, none⟩) fl) := Lib.hid (HFL.out.fr t1.fr fun a ha e => by
      obtain rfl := Option.some.inj ha
      rcases e with e | e
      · exact HB.out.1 e
      · exact HB.out.2.1 e)
    have c0 : w1.cell? ⟨g, 0, none⟩ = some (.int .i64 (m : Nat)) := by have := t1.sto.cb; rwa [HXB.out] at this
    have emost : most (m : Int) = m := by unfold most; omega
    have HCUT : Hid (∀ W, Fr S0 w1 W → Calls Try.prog 45 #[.pointer (some ⟨g, 1, none⟩), .int .i64 (m : Nat)] W fun e w' => e = .returned (.int .u64 (cutA l1 m : Nat)) ∧ ∃ h2, Turned X w1 w' g h1 h2 (cutN l1 m)) := Lib.hid fun W f => by
      have := cut_any g h1 (m : Int) l1 W (by omega) (T1.out.sto.fr0 f)
      rw [emost] at this
      exact this.mono fun e w' he => ⟨he.1, he.2.imp fun h2 t => t.back f⟩
    have HOK := Lib.hid t1.sto.ok
    clear t1 hbl HA HFL hcf emost
    obtain ⟨A, hA⟩ : ∃ A, cutA l1 m = A := ⟨_, rfl⟩
    rw [hA] at HCUT
    have HAA := Lib.hid hA
    clear hA
    go_wp2_with fail
    go_region_law (first
      | (go_simp; go_at_call 45; (with_reducible refine (HCUT.out _ (Fr.drew _ _)).mono ?_); rintro _ w2 ⟨rfl, h2, t2⟩; have T2 := Lib.hid t2; clear t2 c0 HCUT; dsimp only))
    all_goals
      have HKEY := Lib.hid (key_any g h2 1 _ w2 T2.out.sto (by decide))
      rw [keyV_one T2.out.sto.ok.pos] at HKEY
      have HFL2 : Hid (PrI w2 (some ⟨b, 0, none⟩) fl) := Lib.hid (HFL1.out.fr T2.out.fr fun a ha e => by
        obtain rfl := Option.some.inj ha
        rcases e with e | e
        · exact HB.out.1 e
        · rcases T1.out.row with h3 | h3
          · exact HB.out.2.1 (e.trans h3)
          · have e2 : b = h1 := e; have := HB.out.2.2; omega)
      obtain ⟨q, hq⟩ : ∃ q, hk (cutN l1 m) = q := ⟨_, rfl⟩
      obtain ⟨KE, hKE⟩ : ∃ KE, keyE (cutN l1 m) 1 = KE := ⟨_, rfl⟩
      rw [hq, hKE] at HKEY
      have HQ := Lib.hid hq
      have HT2 := Lib.hid (T1.out.then T2.out)
      clear HFL1 T1 T2 hKE hq
      go_wp2_with fail
      refine HKEY.out.mono ?_
      rintro e w3 ⟨rfl, f3⟩
      have T3 := Lib.hid (HT2.out.on f3)
      have HFL3 := Lib.hid (HFL2.out.fr0 f3)
      clear f3 HKEY HT2 HFL2
      go_wp2_with fail
      go_loopw [8, 12, 38] (fun s _ i wr => ∃ j N : Nat, j ≤ nf ∧ i = .int .i64 j ∧ s = .int .u64 N ∧ Hid (A + many (fl.take j) q = N) ∧ Hid (Fr S0 w3 wr)) (fun _ _ i _ => nf - (intOf i).toNat)
      case atStart => exact ⟨0, A, by omega, rfl, rfl, Lib.hid rfl, Lib.hid (Fr.refl _ _)⟩
      case round =>
        obtain ⟨j, N, hj, rfl, rfl, hN, hfr⟩ := hrel
        by_cases hjn : (j : Int) < (nf : Int)
        · have hjl : j < fl.length := by rw [HN.out]; omega
          obtain ⟨b', o', hp, d0, d1⟩ := (HFL3.out.fr0 hfr.out).at j hjl
          simp only [Option.some.injEq, Addr.mk.injEq] at hp
          obtain ⟨rfl, rfl, -⟩ := hp
          rw [Nat.zero_add] at d0 d1
          have e1 := many_take (k := q) hjl
          have hle := many_take_le fl q (j + 1)
          have hA2 := cutA_le l1 m
          rw [HAA.out] at hA2
          obtain ⟨⟨tk, tn⟩, ht⟩ : ∃ t, fl[j] = t := ⟨_, rfl⟩
          rw [ht] at d0 d1 e1
          simp only at d0 d1 e1
          by_cases hkq : tk = q
          · subst hkq
            rw [if_pos rfl] at e1
            obtain ⟨N', hN'⟩ : ∃ N', N + tn = N' := ⟨_, rfl⟩
            have HN2 : Hid (A + many (fl.take (j + 1)) tk = N') := Lib.hid (by have := hN.out; omega)
            have hlt : (N' : Int) < 18446744073709551616 := by have := hN.out; have := HSU.out; omega
            have esum : (N : Int) + (tn : Int) = (N' : Int) := by omega
            have hbq : (tk == tk) = true := beq_self_eq_true tk
            clear e1 hle hA2 ht hN' hN
            go_wp2_with fail
            go_roundw
            case rel => exact ⟨j + 1, N', by omega, by go_num, by go_num, HN2, Lib.hid (hfr.out.trans0 (Fr.alloc _ _ _))⟩
            case measure => simp [intOf]; omega
          · rw [if_neg hkq] at e1
            have HN2 : Hid (A + many (fl.take (j + 1)) q = N) := Lib.hid (by have := hN.out; omega)
            have hbq : (tk == q) = false := by rw [beq_eq_false_iff_ne]; exact hkq
            clear e1 hle hA2 ht hN hkq
            go_wp2_with fail
            go_roundw
            case rel => exact ⟨j + 1, N, by omega, by go_num, by go_num, HN2, Lib.hid (hfr.out.trans0 (Fr.alloc _ _ _))⟩
            case measure => simp [intOf]; omega
        · obtain rfl : j = nf := by omega
          have hN2 := hN.out
          rw [← HN.out, List.take_length] at hN2
          have HN2 := Lib.hid hN2
          have T4 := Lib.hid ((T3.out.on hfr.out).setkf q N)
          have z3 := (T3.out.on hfr.out).sto.fz 3
          obtain ⟨_, _, _, _, r⟩ := (T3.out.on hfr.out).sto.cells
          have c3 := r.ck
          have c4 := (r.setk q).cf
          have z4 := (r.setk q).fz 4
          clear hN2 hN hfr T3 HFL3 r
          go_wp2_with fail
          go_ret
          refine ⟨rfl, h2, ?_⟩
          have := T4.out
          rw [HXB.out] at this
          rw [HQ.out, HAA.out, HN2.out]
          exact this
  · have hEb : ((E : Int) == 0) = false := by rw [beq_eq_false_iff_ne]; omega
    have hEb2 : ((E : Int) != 0) = true := by rw [bne_iff_ne]; omega
    have HE0 := Lib.hid hE0
    clear hact hC s hX hfl hnf hb hsum hE0
    go_enter Try.func25, Try.ntmps25
    go_wp2_with fail
    refine HA.out.mono ?_
    rintro e w1 ⟨rfl, h1, t1⟩
    have T1 := Lib.hid t1
    clear t1 HA hcf
    go_wp2_with fail
    go_ret
    exact ⟨rfl, h1, .inl ⟨HE0.out, T1.out⟩⟩
end
end Go.Proofs.Ytibgjmlgjmnheaa
