/- Symbols to the end of a block. -/
import Derived.Test.YtmcmchldjfnneaaInfBack
namespace Go.Proofs.Ytmcmchldjfnneaa
open Go.RowKit

theorem rSyms_no {b : List Nat} {lim : Nat} {lit spn T : List Nat} {k e : Nat} (h : rStep b lim lit spn T k = .no e) : rSyms b lim lit spn T k = .no e := by
  rw [rSyms, h]
theorem rSyms_end {b : List Nat} {lim : Nat} {lit spn T T1 : List Nat} {k k1 : Nat} (h : rStep b lim lit spn T k = .ok (true, T1) k1) : rSyms b lim lit spn T k = .ok T1 k1 := by
  rw [rSyms, h]
theorem rSyms_go {b : List Nat} {lim : Nat} {lit spn T T1 : List Nat} {k k1 : Nat} (h : rStep b lim lit spn T k = .ok (false, T1) k1) (h1 : k < k1) (h2 : k1 ≤ 8 * b.length) : rSyms b lim lit spn T k = rSyms b lim lit spn T1 k1 := by
  rw [rSyms, h]
  show (if _h : k < k1 ∧ k1 ≤ 8 * b.length then rSyms b lim lit spn T1 k1 else .no 0) = _
  rw [dif_pos ⟨h1, h2⟩]

/-- where the reader stands -/
def atOf (w : World) (gr : Nat) : Nat := match w.cell? ⟨gr, 1, none⟩ with
  | some (.int _ n) => n.toNat
  | _ => 0
theorem RdIs.atOf {w : World} {gr : Nat} {r : Option Nat} {b : List Nat} {k : Nat} (h : RdIs w gr r b k) : atOf w gr = k := by
  obtain ⟨p, c, hb, -⟩ := h.ex
  unfold Go.Proofs.Ytmcmchldjfnneaa.atOf
  simp [World.cell?, hb]
theorem rBack_up {b : List Nat} {lim : Nat} {spn T T1 : List Nat} {s k k1 : Nat} (h : rBack b lim spn T s k = .ok T1 k1) : k ≤ k1 := by
  unfold rBack rIf rGrp at h
  by_cases h1 : decide (s ≤ 285) = true
  · rw [if_pos h1, Res.then_ok] at h
    by_cases h2 : k + baseC s ≤ 8 * b.length
    · rw [if_pos h2, Res.then_ok] at h
      cases h3 : rSym b spn (k + baseC s) with
      | no e => rw [h3] at h; cases h
      | ok d k3 =>
        have hk3 := (rSym_in h3).2
        rw [h3, Res.then_ok] at h
        by_cases h4 : decide (d ≤ 29) = true
        · rw [if_pos h4, Res.then_ok] at h
          by_cases h5 : k3 + farC d ≤ 8 * b.length
          · rw [if_pos h5, Res.then_ok] at h
            split at h
            · rw [Res.then_ok] at h
              split at h
              · rw [Res.then_ok] at h
                simp only [Res.ok.injEq] at h
                omega
              · cases h
            · cases h
          · rw [if_neg h5] at h; cases h
        · rw [if_neg h4] at h; cases h
    · rw [if_neg h2] at h; cases h
  · rw [if_neg h1] at h; cases h

section
variable {g gr : Nat} {r t : Option Nat} {b : List Nat} {k lim : Nat} {T : List Nat} {L S : Value}
set_option maxRecDepth 100000 in
set_option maxHeartbeats 2000000 in
theorem symbols_any (A B A2 B2 gl gs : Nat) (lit spn : List Nat) (w : World) (h : StIs w g gr r t b k lim T L S) (hl : SetIs w A B gl lit) (hs : SetIs w A2 B2 gs spn) (al : Away w A B g gr t) (as2 : Away w A2 B2 g gr t) :
    Calls Try.prog 57 #[.pointer (some ⟨g, 0, none⟩), .pointer (some ⟨gl, 0, none⟩), .pointer (some ⟨gs, 0, none⟩)] w (StEnds (rSyms b lim lit spn T k) w g gr r t b lim L S) := by
  have H := Lib.hid h
  have HL := Lib.hid hl
  have HS := Lib.hid hs
  have AL := Lib.hid al
  have AS := Lib.hid as2
  clear h hl hs al as2
  go_enter Try.func57, Try.ntmps57
  go_wp2_with fail
  go_loopw [6, 14, 22] (fun _ _ _ wr => ∃ k1 T1, StTo w wr g gr r t b k1 lim T1 L S ∧ rSyms b lim lit spn T k = rSyms b lim lit spn T1 k1) (fun _ _ _ wr => 8 * b.length - atOf wr gr)
  case atStart => exact ⟨k, T, H.out.self, rfl⟩
  case round =>
    obtain ⟨k1, T1, ⟨t1, hst, hfr, ht1⟩, heq⟩ := hrel
    have H1 := Lib.hid hst
    have HF := Lib.hid hfr
    have HT := Lib.hid ht1
    have HE := Lib.hid heq
    have HAT := Lib.hid hst.rd.atOf
    have HK := Lib.hid hst.rd.inside
    have HL1 := Lib.hid (HL.out.fr hfr (fun j h1 h2 h3 => AL.out.2 j h1 h2 h3))
    have HS1 := Lib.hid (HS.out.fr hfr (fun j h1 h2 h3 => AS.out.2 j h1 h2 h3))
    have HSY := Lib.hid (symbol_any A B gl lit wr hst HL1.out AL.out.rd)
    clear hst hfr ht1 heq
    go_wp2_with fail
    refine HSY.out.mono ?_
    intro e w2 h2
    rcases rd_cases h2 with ⟨s, k2, hx, rfl, t2⟩ | ⟨m, hx, rfl, f2⟩
    rotate_left
    · have K : Hid (rSyms b lim lit spn T k = .no m) := Lib.hid (by rw [HE.out]; exact rSyms_no (by unfold rStep; rw [hx]; rfl))
      have HFF : Hid (Fr (StB g gr t) w w2) := Lib.hid (frTo HF.out HT.out (frSt f2))
      clear hx h2
      go_wp2_with fail
      exact ⟨rfl, StEnds.of K.out ⟨rfl, HFF.out⟩⟩
    have HSI := Lib.hid (rSym_in hx)
    have hss : s < 320 := Nat.lt_of_lt_of_le (rSym_lt hx) HL1.out.small
    have HX := Lib.hid hx
    have H2 := Lib.hid (H1.out.read t2)
    have HF2 : Hid (Fr (StB g gr t) w w2) := Lib.hid (frTo HF.out HT.out (frSt t2.2))
    have HS2 := Lib.hid (HS1.out.fr t2.2 (fun j q1 q2 e => AS.out.2 j q1 q2 (.inr (.inl e))))
    have hk2 : k1 < k2 ∧ k2 ≤ 8 * b.length := ⟨by have := HSI.out.2; have := HSI.out.1.1; omega, t2.1.inside⟩
    have HK2 := Lib.hid hk2
    clear hx h2 t2 hk2 HSY
    by_cases h256 : s < 256
    · have hlt : (s : Int) < 256 := by omega
      have hmod : (s : Int) % 256 = (s : Int) := by omega
      by_cases hroom : T1.length + 1 ≤ lim
      · have K : Hid (rSyms b lim lit spn T k = rSyms b lim lit spn (T1 ++ [s]) k2) := Lib.hid (by
          rw [HE.out]
          refine rSyms_go ?_ HK2.out.1 HK2.out.2
          unfold rStep
          rw [HX.out, Res.then_ok, if_pos h256, rIf_yes (decide_eq_true hroom), Res.then_ok])
        have HTL : Hid (Calls Try.prog 50 #[.pointer (some ⟨g, 0, none⟩), .slice (some ⟨w2.heap.size, 0, none⟩) 1 1] (w2.alloc (.cells #[.int .u8 (s : Nat)] 5)) fun e w' => e = .returned (.tuple #[]) ∧ StTo w w' g gr r t b k2 lim (T1 ++ [s]) L S) :=
          Lib.hid ((tell_yes (some ⟨w2.heap.size, 0, none⟩) 1 [s] _ (H2.out.fr0 (Fr.alloc _ _ _)) (one_src w2 s) (fun y hy => by rw [List.mem_singleton.1 hy]; exact h256) hroom).mono (fun e w' ⟨h1, h2⟩ => ⟨h1, StTo.trans (HF2.out.trans0 (Fr.alloc _ _ _)) HT.out h2⟩))
        clear h256 hroom
        go_wp2_with fail
        refine HTL.out.mono ?_
        rintro e w3 ⟨rfl, hto⟩
        have HN := Lib.hid hto
        have HA3 : Hid (atOf w3 gr = k2) := Lib.hid (by obtain ⟨t3, h3, -⟩ := hto; exact h3.rd.atOf)
        clear hto HTL
        go_wp2_with fail
        go_roundw
        case rel => exact ⟨k2, _, HN.out, K.out⟩
        case measure => have := HA3.out; have := HAT.out; have := HK2.out; show _ < _; omega
      · have K : Hid (rSyms b lim lit spn T k = .no 64) := Lib.hid (by
          rw [HE.out]
          refine rSyms_no ?_
          unfold rStep
          rw [HX.out, Res.then_ok, if_pos h256, rIf_no (decide_eq_false hroom)]
          rfl)
        have HTL : Hid (Calls Try.prog 50 #[.pointer (some ⟨g, 0, none⟩), .slice (some ⟨w2.heap.size, 0, none⟩) 1 1] (w2.alloc (.cells #[.int .u8 (s : Nat)] 5)) fun e w' => e = .panicked (chn 64) ∧ Fr (StB g gr t) w w') :=
          Lib.hid ((tell_no (some ⟨w2.heap.size, 0, none⟩) 1 1 _ (H2.out.fr0 (Fr.alloc _ _ _)) hroom (by decide)).mono (fun e w' ⟨h1, h2⟩ => ⟨h1, (HF2.out.trans0 (Fr.alloc _ _ _)).trans0 h2⟩))
        clear h256 hroom
        go_wp2_with fail
        refine HTL.out.mono ?_
        rintro e w3 ⟨rfl, f3⟩
        have HN := Lib.hid f3
        clear f3 HTL
        go_wp2_with fail
        exact ⟨rfl, StEnds.of K.out ⟨rfl, HN.out⟩⟩
    · by_cases h56 : s = 256
      · subst h56
        have K : Hid (rSyms b lim lit spn T k = .ok T1 k2) := Lib.hid (by
          rw [HE.out]
          refine rSyms_end ?_
          unfold rStep
          rw [HX.out, Res.then_ok, if_neg h256, if_pos rfl])
        have HN : Hid (StTo w w2 g gr r t b k2 lim T1 L S) := Lib.hid ⟨t1, H2.out, HF2.out, HT.out⟩
        clear h256
        go_wp2_with fail
        go_end0
        exact StEnds.of K.out ⟨rfl, HN.out⟩
      · have hlt : ¬ (s : Int) < 256 := by omega
        have hne : ((s : Int) == 256) = false := by rw [beq_eq_false_iff_ne]; omega
        have hne2 : ¬ (s : Int) = 256 := by omega
        have HB := Lib.hid (back_any A2 B2 gs s spn w2 H2.out HS2.out AS.out.rd (by omega) (by omega))
        have K : Hid (∀ T2 k3, rBack b lim spn T1 s k2 = .ok T2 k3 → k3 ≤ 8 * b.length → rSyms b lim lit spn T k = rSyms b lim lit spn T2 k3) := Lib.hid (fun T2 k3 q q2 => by
          rw [HE.out]
          refine rSyms_go ?_ (Nat.lt_of_lt_of_le HK2.out.1 (rBack_up q)) q2
          unfold rStep
          rw [HX.out, Res.then_ok, if_neg h256, if_neg h56, q, Res.then_ok])
        have KN : Hid (∀ m, rBack b lim spn T1 s k2 = .no m → rSyms b lim lit spn T k = .no m) := Lib.hid (fun m q => by
          rw [HE.out]
          refine rSyms_no ?_
          unfold rStep
          rw [HX.out, Res.then_ok, if_neg h256, if_neg h56, q]
          rfl)
        clear h256 h56
        go_wp2_with fail
        refine HB.out.mono ?_
        intro e w3 h3
        cases hx : rBack b lim spn T1 s k2 with
        | no m =>
          rw [hx] at h3
          obtain ⟨rfl, f3⟩ := h3
          have K1 := Lib.hid (KN.out m hx)
          have HN : Hid (Fr (StB g gr t) w w3) := Lib.hid (frTo HF2.out HT.out f3)
          clear hx f3 K KN HB
          go_wp2_with fail
          exact ⟨rfl, StEnds.of K1.out ⟨rfl, HN.out⟩⟩
        | ok T2 k3 =>
          rw [hx] at h3
          obtain ⟨rfl, hto⟩ := h3
          have HKK : Hid (k3 ≤ 8 * b.length ∧ atOf w3 gr = k3 ∧ k2 ≤ k3) := Lib.hid (by obtain ⟨t3, h3, -⟩ := hto; exact ⟨h3.rd.inside, h3.rd.atOf, rBack_up hx⟩)
          have K1 := Lib.hid (K.out T2 k3 hx HKK.out.1)
          have HN := Lib.hid (StTo.trans HF2.out HT.out hto)
          clear hx hto K KN HB
          go_wp2_with fail
          go_roundw
          case rel => exact ⟨k3, T2, HN.out, K1.out⟩
          case measure => have := HKK.out; have := HAT.out; have := HK2.out; show _ < _; omega
end
end Go.Proofs.Ytmcmchldjfnneaa
