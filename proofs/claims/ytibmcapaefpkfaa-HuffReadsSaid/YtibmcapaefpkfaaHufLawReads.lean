/- The law on symbols that are read. -/
import Derived.Test.YtibmcapaefpkfaaHufAlive
import Derived.Test.YtibmcapaefpkfaaHufRead
import Derived.Test.YtibmcapaefpkfaaBitRef
namespace Go.Proofs.Ytibmcapaefpkfaa
open Go.RowKit

/-- a symbol and an error -/
def two (s f : Nat) : Ending := .returned (.tuple #[.int .i64 (s : Nat), .int .i64 (f : Nat)])
/-- a symbol, how many bits, and an error -/
def three (s n f : Nat) : Ending := .returned (.tuple #[.int .i64 (s : Nat), .int .i64 (n : Nat), .int .i64 (f : Nat)])
theorem found_two {l B : List Nat} {e : Ending} {n : Nat} (h : Found l B e n) : ∃ s f, e = two s f := by
  rcases h with ⟨i, -, rfl, -⟩ | ⟨-, -, rfl, -⟩ | ⟨-, -, rfl, -⟩
  · exact ⟨i, 0, rfl⟩
  · exact ⟨0, 20, rfl⟩
  · exact ⟨0, 62, rfl⟩
theorem two_inj {s f s' f' : Nat} (h : two s f = two s' f') : s = s' ∧ f = f' := by
  unfold two at h
  simp only [Ending.returned.injEq, Value.tuple.injEq, Array.mk.injEq, List.cons.injEq, Value.int.injEq, and_true, true_and] at h
  omega
/-- the program reads what the document says -/
theorem agree {l B : List Nat} {s f n : Nat} {e : Ending} (hb : Bit01 B) (ok : okl l) (hm : mx l ≤ 15) (h : Found l B (two s f) n) (k : RefFound l B e) : e = three s n f ∧ n ≤ B.length := by
  have hlon : ¬ ful l → mx l ≠ 0 → mx l = 1 := fun h1 h2 => by
    rcases ok with h | h | h
    · exact absurd h h1
    · exact h.1
    · exact absurd h h2
  rcases h with ⟨i, hi, he, hn⟩ | ⟨hi, hlt, he, hn⟩ | ⟨hi, hle, he, hn⟩
  · obtain ⟨rfl, rfl⟩ := two_inj (s' := i) (f' := 0) he
    rcases k with ⟨j, hj, rfl⟩ | ⟨hj, -⟩ | ⟨hj, -⟩ | ⟨hj, -⟩
    · obtain rfl := hits_one hb hj hi
      exact ⟨by rw [hn]; rfl, by rw [hn]; exact hi.2.1⟩
    · exact absurd hi (hj _)
    · exact absurd hi (hj _)
    · exact absurd hi (hj _)
  · obtain ⟨rfl, rfl⟩ := two_inj (s' := 0) (f' := 20) he
    rcases k with ⟨j, hj, -⟩ | ⟨-, h0, -⟩ | ⟨-, h0, -, rfl⟩ | ⟨-, h0, h1, -⟩
    · exact absurd hj (hi _)
    · omega
    · exact ⟨by rw [hn]; rfl, by omega⟩
    · exfalso
      have := hlon (fun q => h1 (.inl q)) h0
      exact h1 (.inr (by omega))
  · obtain ⟨rfl, rfl⟩ := two_inj (s' := 0) (f' := 62) he
    rcases k with ⟨j, hj, -⟩ | ⟨-, h0, rfl⟩ | ⟨-, h0, h1, -⟩ | ⟨-, h0, h1, rfl⟩
    · exact absurd hj (hi _)
    · exact ⟨by rw [hn, h0]; rfl, by omega⟩
    · exfalso
      rcases h1 with h1 | h1
      · obtain ⟨i, h2⟩ := ful_hit hb h1 hm hle
        exact hi i h2
      · omega
    · exact ⟨by rw [hn, hlon (fun q => h1 (.inl q)) h0]; rfl, by omega⟩

set_option maxRecDepth 100000 in
set_option maxHeartbeats 400000 in
theorem reads_far (p q : Option Addr) (n m d e : Nat) (w : World) (hn : ¬ (n ≤ 320 ∧ m ≤ 200)) :
    Calls Try.prog 4 #[.slice p n d, .slice q m e] w fun e w' => e = .returned (.bool true) ∧ Fr S0 w w' := by
  have hw := start w
  by_cases h : n ≤ 320
  · have h1 : ¬ (n : Int) > 320 := by omega
    have h2 : (m : Int) > 200 := by omega
    have h1' : decide (320 < n) = false := decide_eq_false (by omega)
    clear hn h
    go_enter Try.func4, Try.ntmps4
    go_wp2_with fail
    refine hw _ ?_
    intro w1 g1
    have G1 := Lib.hid g1
    clear hw g1
    go_wp2_with fail
    go_ret
    exact ⟨rfl, G1.out⟩
  · have h1 : (n : Int) > 320 := by omega
    clear hn h
    go_enter Try.func4, Try.ntmps4
    go_wp2_with fail
    refine hw _ ?_
    intro w1 g1
    have G1 := Lib.hid g1
    clear hw g1
    go_wp2_with fail
    go_ret
    exact ⟨rfl, G1.out⟩

set_option maxRecDepth 100000 in
set_option maxHeartbeats 400000 in
theorem reads_no (p q : Option Addr) (d e k m : Nat) (l : List Nat) (w : World) (hL : l.length ≤ 320) (hm : m ≤ 200) (hk0 : k ≠ 0)
    (hM : ∀ W, Fr S0 w W → Calls Try.prog 9 #[.slice p l.length d] W fun e w' => e = .returned (.tuple #[.pointer none, .int .i64 (k : Nat)]) ∧ Fr S0 W w') :
    Calls Try.prog 4 #[.slice p l.length d, .slice q m e] w fun e w' => e = .returned (.bool true) ∧ Fr S0 w w' := by
  have hw := start w
  have h1 : ¬ (l.length : Int) > 320 := by omega
  have h2 : ¬ (m : Int) > 200 := by omega
  have h1' : decide (320 < l.length) = false := decide_eq_false (by omega)
  have h2' : decide (200 < m) = false := decide_eq_false (by omega)
  have HM := Lib.hid hM
  have hkk : ((k : Int) != 0) = true := by rw [bne_iff_ne]; omega
  clear hM hL hm
  go_enter Try.func4, Try.ntmps4
  go_wp2_with fail
  refine hw _ ?_
  intro w1 g1
  have G1 := Lib.hid g1
  clear hw g1
  go_wp2_with fail
  refine (HM.out w1 G1.out).mono ?_
  rintro e w2 ⟨rfl, f2⟩
  have G2 := Lib.hid (G1.out.trans0 f2)
  clear f2 HM
  go_wp2_with fail
  go_ret
  exact ⟨rfl, G2.out⟩

set_option maxRecDepth 100000 in
set_option maxHeartbeats 4000000 in
theorem reads_ok (p q : Option Addr) (d e : Nat) (l b : List Nat) (w : World) (hl : SlI w .u8 p l) (hp : p = none → d = 0) (hL : l.length ≤ 320) (h15 : ∀ x ∈ l, x ≤ 15) (ok : okl l)
    (hb : SlI w .u8 q b) (h8 : ∀ x ∈ b, x < 256) (hq : q = none → e = 0) (hB : b.length ≤ 200) :
    Calls Try.prog 4 #[.slice p l.length d, .slice q b.length e] w fun e w' => e = .returned (.bool true) ∧ Fr S0 w w' := by
  have hw := start w
  have h1 : ¬ (l.length : Int) > 320 := by omega
  have h2 : ¬ (b.length : Int) > 200 := by omega
  have h1' : decide (320 < l.length) = false := decide_eq_false (by omega)
  have h2' : decide (200 < b.length) = false := decide_eq_false (by omega)
  have HL := Lib.hid hl
  have HM := Lib.hid (fun (W : World) (f : Fr S0 w W) => make_ok p d l W (hl.fr0 f) hp hL h15 ok)
  have HN := Lib.hid (fun (W : World) (f : Fr S0 w W) => new_any q e b W (hb.fr0 f) h8 hq (by omega))
  have HBI := Lib.hid (fun (W : World) (f : Fr S0 w W) => rbits_any q e b W (hb.fr0 f) h8 (by omega))
  have HRR := Lib.hid (fun (W : World) (f : Fr S0 w W) (pb : Option Addr) (cb : Nat) (B : List Nat) (x1 : SlI W .u8 pb B) (x2 : pb = none → cb = 0) (x3 : B.length ≤ cb) (x4 : cb ≤ maxLen) (x5 : Bit01 B) => rread_any p pb d cb l B W (hl.fr0 f) h15 hL ok x1 x2 x3 x4 x5)
  have HAG := Lib.hid (fun (B : List Nat) (s f n : Nat) (e : Ending) (x1 : Bit01 B) (x2 : Found l B (two s f) n) (x3 : RefFound l B e) => agree x1 ok (mx_le h15) x2 x3)
  clear hl hp h15 ok hb h8 hq
  go_enter Try.func4, Try.ntmps4
  go_wp2_with fail
  refine hw _ ?_
  intro w1 g1
  have G1 := Lib.hid g1
  clear hw g1
  go_wp2_with fail
  refine (HM.out w1 G1.out).mono ?_
  rintro e w2 ⟨g, rfl, ⟨f2, s2⟩, -⟩
  have G2 := Lib.hid (G1.out.trans0 f2)
  have HS := Lib.hid s2
  clear f2 s2 HM
  go_wp2_with fail
  refine (HN.out w2 G2.out).mono ?_
  rintro e w3 ⟨gr, rr, rfl, r3, f3, hg3, hr3⟩
  have G3 := Lib.hid (G2.out.trans0 f3)
  have HS3 := Lib.hid (HS.out.fr0 f3)
  have HR3 := Lib.hid r3
  have HG3 := Lib.hid hg3
  clear f3 r3 hg3 hr3 HN HS
  go_wp2_with fail
  refine (HBI.out w3 G3.out).mono ?_
  rintro e w4 ⟨v, rfl, f4, hv⟩
  obtain ⟨pb, cb, rfl, hpb, hcb, hcm⟩ := slForm hv.own
  have G4 := Lib.hid (G3.out.trans0 f4)
  have HS4 := Lib.hid (HS3.out.fr0 f4)
  have HR4 := Lib.hid (HR3.out.fr0 f4)
  have HV := Lib.hid (SlI.ofOwns hv.own)
  have HF := Lib.hid (own_form hv.own)
  have HOFF : Hid (Off (· = gr) pb) := Lib.hid (fun a ha e => by
    have h1 := hv.fresh a.block (by rw [ha]; rfl)
    have h2 := HR3.out.lt
    omega)
  have HPB := Lib.hid hpb
  rw [bts_length] at hcb ⊢
  obtain ⟨N, hN⟩ : ∃ N, 8 * b.length = N := ⟨_, rfl⟩
  have hNs : N ≤ 1600 := by omega
  rw [hN] at hcb ⊢
  have HN := Lib.hid hN
  have HCM := Lib.hid hcm
  unfold maxLen at hcm
  clear hN
  have HGW : Hid (w.heap.size ≤ gr) := Lib.hid (Nat.le_trans G2.out.size HG3.out)
  clear f4 hv hpb HBI HS3 HR3
  go_wp2_with fail
  go_loopw [9, 10] (fun at' i wr => ∃ (k j : Nat), j ≤ 40 ∧ i = .int .i64 j ∧ at' = .int .i64 k ∧ k ≤ N ∧ RdTo w4 wr gr rr b k) (fun _ i _ => 40 - (intOf i).toNat)
  case atStart => exact ⟨0, 0, by omega, rfl, rfl, by omega, HR4.out.self⟩
  case round =>
    obtain ⟨k, j, hj, rfl, rfl, hk, hto⟩ := hrel
    have HT := Lib.hid hto
    clear hto
    by_cases hjc : (j : Int) < 40
    · have hread := read_any _ g l gr rr b k wr (HS4.out.fr HT.out.2 (fun x hx e => by have := HG3.out; omega)) HT.out.1 HG3.out (by omega)
      have HREAD := Lib.hid hread
      clear hread
      go_wp2_with fail
      refine HREAD.out.mono ?_
      rintro e w5 ⟨n, hn, hto⟩
      obtain ⟨s, f, rfl⟩ := found_two hn
      have HFO := Lib.hid hn
      have HT5 := Lib.hid (HT.out.trans hto)
      clear hn hto HREAD
      unfold two
      have hkN : (N : Int) ≥ (k : Int) := by omega
      obtain ⟨BB, hBB⟩ : ∃ X, (bts b).drop k = X := ⟨_, rfl⟩
      have HBBL : Hid (BB.length = N - k) := Lib.hid (by rw [← hBB, List.length_drop, bts_length, HN.out])
      have HBIT : Hid (Bit01 BB) := Lib.hid (by rw [← hBB]; exact (bts_bit b).sub fun _ hx => List.mem_of_mem_drop hx)
      rw [hBB] at HFO
      have hSL : ∀ q, pb = some ⟨q, 0, none⟩ → SlI w5 .u8 (some ⟨q, k, none⟩) BB := fun q e => by
        subst e
        have := (HV.out.fr HT5.out.2 (fun _ => HOFF.out)).drop k
        rw [hBB, Nat.zero_add] at this
        exact this
      have HSL := Lib.hid hSL
      have HG5 : Hid (Fr S0 w w5) := Lib.hid (G4.out.trans HT5.out.2 (fun x hx e => by have := HGW.out; omega))
      clear hBB hSL
      by_cases hck : cb = k
      · subst hck
        have e0 : BB = [] := List.eq_nil_of_length_eq_zero (by rw [HBBL.out]; omega)
        subst e0
        have HRD : Hid (Calls Try.prog 18 #[.slice p l.length d, .slice pb 0 0] w5 (RefTold w5 l [])) := Lib.hid (HRR.out w5 HG5.out pb 0 [] (SlI.nil _ _ _) (fun _ => rfl) (Nat.le_refl _) (by decide) Bit01.nil)
        go_wp2_with fail
        refine HRD.out.mono ?_
        rintro e w6 ⟨hrf, f6⟩
        obtain ⟨rfl, hnB⟩ := HAG.out _ s f n e HBIT.out HFO.out hrf
        have HT6 := Lib.hid (HT5.out.fr0 f6)
        have HAT := Lib.hid (at_any gr rr b (cb + n) w6 HT6.out.1)
        have hn0 : n ≤ 0 := hnB
        clear hnB
        clear f6 hrf HT5 HFO
        unfold three
        go_wp2_with fail
        refine HAT.out.mono ?_
        rintro e w' ⟨rfl, rfl⟩
        have hkn : ((cb + n : Nat) : Int) = (cb : Int) + (n : Int) := by omega
        rw [hkn]
        have HKN := Lib.hid hkn
        clear hkn HAT
        by_cases hf0 : f = 0
        · subst hf0
          go_wp2_with fail
          go_roundw
          case rel => exact ⟨cb + n, j + 1, by omega, by go_num, by go_num, by omega, HT6.out⟩
          case measure => simp [intOf]; omega
        · have hfb : ((f : Int) == 0) = false := by rw [beq_eq_false_iff_ne]; omega
          have hfn : ((f : Int) != 0) = true := by rw [bne_iff_ne]; omega
          have HNIL := Lib.hid (read_nil g w6)
          have HE : Hid (Fr S0 w w6) := Lib.hid (G4.out.trans HT6.out.2 (fun x hx e => by have := HGW.out; omega))
          go_wp2_with fail
          refine HNIL.out.mono ?_
          rintro e w' ⟨rfl, rfl⟩
          go_wp2_with fail
          go_ret
          exact ⟨rfl, HE.out⟩
      · rcases HF.out with ⟨⟨hp0, hc0⟩ | ⟨q2, hq2⟩, -⟩
        · exact absurd (show cb = k by omega) hck
        · have HRD := HRR.out w5 HG5.out (some ⟨q2, k, none⟩) (cb - k) BB (HSL.out q2 hq2) (fun h => by cases h) (by rw [HBBL.out]; omega) (by have := HCM.out; omega) HBIT.out
          rw [HBBL.out] at HRD
          have HRD := Lib.hid HRD
          subst hq2
          go_wp2_with fail
          refine HRD.out.mono ?_
          rintro e w6 ⟨hrf, f6⟩
          obtain ⟨rfl, hnB⟩ := HAG.out _ s f n e HBIT.out HFO.out hrf
          have HT6 := Lib.hid (HT5.out.fr0 f6)
          have HAT := Lib.hid (at_any gr rr b (k + n) w6 HT6.out.1)
          rw [HBBL.out] at hnB
          clear f6 hrf HT5 HFO
          unfold three
          go_wp2_with fail
          refine HAT.out.mono ?_
          rintro e w' ⟨rfl, rfl⟩
          have hkn : ((k + n : Nat) : Int) = (k : Int) + (n : Int) := by omega
          rw [hkn]
          have HKN := Lib.hid hkn
          clear hkn HAT
          by_cases hf0 : f = 0
          · subst hf0
            go_wp2_with fail
            go_roundw
            case rel => exact ⟨k + n, j + 1, by omega, by go_num, by go_num, by omega, HT6.out⟩
            case measure => simp [intOf]; omega
          · have hfb : ((f : Int) == 0) = false := by rw [beq_eq_false_iff_ne]; omega
            have hfn : ((f : Int) != 0) = true := by rw [bne_iff_ne]; omega
            have HNIL := Lib.hid (read_nil g w6)
            have HE : Hid (Fr S0 w w6) := Lib.hid (G4.out.trans HT6.out.2 (fun x hx e => by have := HGW.out; omega))
            go_wp2_with fail
            refine HNIL.out.mono ?_
            rintro e w' ⟨rfl, rfl⟩
            go_wp2_with fail
            go_ret
            exact ⟨rfl, HE.out⟩
    · have HNIL := Lib.hid (read_nil g wr)
      have HE : Hid (Fr S0 w wr) := Lib.hid (G4.out.trans HT.out.2 (fun x hx e => by have := HGW.out; omega))
      go_wp2_with fail
      refine HNIL.out.mono ?_
      rintro e w' ⟨rfl, rfl⟩
      go_wp2_with fail
      go_ret
      exact ⟨rfl, HE.out⟩

theorem law_reads (p q : Option Addr) (d e : Nat) (l b : List Nat) (w : World) (hl : SlI w .u8 p l) (hp : p = none → d = 0) (hb : SlI w .u8 q b) (h8 : ∀ x ∈ b, x < 256) (hq : q = none → e = 0) :
    Calls Try.prog 4 #[.slice p l.length d, .slice q b.length e] w fun e w' => e = .returned (.bool true) ∧ Fr S0 w w' := by
  by_cases h1 : l.length ≤ 320 ∧ b.length ≤ 200
  · cases h3 : long l with
    | true => exact reads_no p q d e 1 b.length l w h1.1 h1.2 (by decide) (fun W f => (make_long p d l W (hl.fr0 f) h1.1 h3).mono fun _ _ h => ⟨h.1, h.2 ▸ Fr.refl _ _⟩)
    | false =>
      have h15 := long_no h3
      by_cases ok : okl l
      · exact reads_ok p q d e l b w hl hp h1.1 h15 ok hb h8 hq h1.2
      · exact reads_no p q d e 62 b.length l w h1.1 h1.2 (by decide) (fun W f => make_no p d l W (hl.fr0 f) hp h1.1 h15 ok)
  · exact reads_far p q l.length b.length d e w h1
end Go.Proofs.Ytibmcapaefpkfaa
