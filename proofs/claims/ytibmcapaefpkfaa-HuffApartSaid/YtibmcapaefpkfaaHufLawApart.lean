/- The law on codes that begin with others. -/
import Derived.Test.YtibmcapaefpkfaaHufAlive
import Derived.BigQuiet
import Derived.IntWalk
namespace Go.Proofs.Ytibmcapaefpkfaa
open Go.RowKit

set_option maxRecDepth 100000 in
set_option maxHeartbeats 400000 in
theorem apart_far (p q : Option Addr) (n m d e : Nat) (w : World) (hn : ¬ n ≤ 100) :
    Calls Try.prog 6 #[.slice p n d, .slice q m e] w fun e w' => e = .returned (.bool true) ∧ Fr S0 w w' := by
  have hw := start w
  have h1 : (n : Int) > 100 := by omega
  clear hn
  go_enter Try.func6, Try.ntmps6
  go_wp2_with fail
  refine hw _ ?_
  intro w1 g1
  have G1 := Lib.hid g1
  clear hw g1
  go_wp2_with fail
  go_ret
  exact ⟨rfl, G1.out⟩

set_option maxRecDepth 100000 in
set_option maxHeartbeats 400000 in
theorem apart_no (p q : Option Addr) (d e k m : Nat) (l : List Nat) (w : World) (hL : l.length ≤ 100) (hk0 : k ≠ 0)
    (hM : ∀ W, Fr S0 w W → Calls Try.prog 9 #[.slice p l.length d] W fun e w' => e = .returned (.tuple #[.pointer none, .int .i64 (k : Nat)]) ∧ Fr S0 W w') :
    Calls Try.prog 6 #[.slice p l.length d, .slice q m e] w fun e w' => e = .returned (.bool true) ∧ Fr S0 w w' := by
  have hw := start w
  have h1 : ¬ (l.length : Int) > 100 := by omega
  have HM := Lib.hid hM
  have hkk : ((k : Int) != 0) = true := by rw [bne_iff_ne]; omega
  clear hM hL
  go_enter Try.func6, Try.ntmps6
  go_wp2_with fail
  refine hw _ ?_
  intro w1 g1
  have G1 := Lib.hid g1
  clear hw g1
  go_wp2_with fail
  refine (HM.out w1 G1.out).mono ?_
  rintro e w2 ⟨rfl, f2⟩
  have G2 := Lib.hid (G1.out.trans0 f2)
  clear f2 HM
  go_wp2_with fail
  go_ret
  exact ⟨rfl, G2.out⟩

set_option maxRecDepth 100000 in
set_option maxHeartbeats 4000000 in
theorem apart_ok (p q : Option Addr) (d e : Nat) (l b : List Nat) (w : World) (hl : SlI w .u8 p l) (hp : p = none → d = 0) (hL : l.length ≤ 100) (h15 : ∀ x ∈ l, x ≤ 15) (ok : okl l)
    (hb : SlI w .u8 q b) (h8 : ∀ x ∈ b, x < 256) (hq : q = none → e = 0) (hB : b.length ≤ 140737488355328) :
    Calls Try.prog 6 #[.slice p l.length d, .slice q b.length e] w fun e w' => e = .returned (.bool true) ∧ Fr S0 w w' := by
  have hw := start w
  have h1 : ¬ (l.length : Int) > 100 := by omega
  have HL := Lib.hid hl
  have H15 := Lib.hid h15
  have HM := Lib.hid (fun (W : World) (f : Fr S0 w W) => make_ok p d l W (hl.fr0 f) hp (by omega) h15 ok)
  have HN := Lib.hid (fun (W : World) (f : Fr S0 w W) => new_any q e b W (hb.fr0 f) h8 hq hB)
  clear hl hp h15 ok hb h8 hq
  go_enter Try.func6, Try.ntmps6
  go_wp2_with fail
  refine hw _ ?_
  intro w1 g1
  have G1 := Lib.hid g1
  clear hw g1
  go_wp2_with fail
  refine (HM.out w1 G1.out).mono ?_
  rintro e w2 ⟨g, rfl, ⟨f2, s2⟩, -⟩
  have G2 := Lib.hid (G1.out.trans0 f2)
  have HS := Lib.hid s2
  clear f2 s2 HM
  go_wp2_with fail
  refine (codes_any _ g l w2 HS.out).mono ?_
  rintro e w3 ⟨v, rfl, f3, hv⟩
  obtain ⟨pc, cc, rfl, -, -, -⟩ := slForm hv.own
  have G3 := Lib.hid (G2.out.trans0 f3)
  have HS3 := Lib.hid (HS.out.fr0 f3)
  have HV := Lib.hid (SlI.ofOwns hv.own)
  have HZ3 := Lib.hid f3.size
  rw [cods_length]
  clear f3 hv HS
  go_wp2_with fail
  go_loopw [8, 9] (fun i _ wr => ∃ j : Nat, j ≤ l.length ∧ i = .int .i64 j ∧ Fr S0 w3 wr) (fun i _ _ => l.length - (intOf i).toNat)
  case atStart => exact ⟨0, by omega, rfl, Fr.refl _ _⟩
  case round =>
    obtain ⟨i, hi, rfl, hfr⟩ := hrel
    have HFR := Lib.hid hfr
    clear hfr
    by_cases hic : (i : Int) < (l.length : Int)
    · have hil : i < l.length := by omega
      go_wp2_with fail
      go_loopw [9] (fun k wr => ∃ j : Nat, j ≤ l.length ∧ k = .int .i64 j ∧ Fr S0 w3 wr) (fun k _ => l.length - (intOf k).toNat)
      case atStart => exact ⟨0, by omega, rfl, HFR.out⟩
      case round =>
        obtain ⟨k, hk, rfl, hfr⟩ := hrel
        have HFK := Lib.hid hfr
        clear hfr
        by_cases hkc : (k : Int) < (l.length : Int)
        · have hkl : k < l.length := by omega
          obtain ⟨b1, o1, hpe, hci⟩ := (HL.out.fr0 (G3.out.trans0 HFK.out)).at i hil
          obtain ⟨b2, o2, hpe2, hck⟩ := (HL.out.fr0 (G3.out.trans0 HFK.out)).at k hkl
          obtain ⟨b3, o3, hpe3, hdi⟩ := (HV.out.fr0 HFK.out).at i (by rw [cods_length]; exact hil)
          obtain ⟨b4, o4, hpe4, hdk⟩ := (HV.out.fr0 HFK.out).at k (by rw [cods_length]; exact hkl)
          rw [cods_get] at hdi hdk
          subst hpe hpe3
          simp only [Option.some.injEq, Addr.mk.injEq, and_true] at hpe2 hpe4
          obtain ⟨rfl, rfl⟩ := hpe2
          obtain ⟨rfl, rfl⟩ := hpe4
          have hxi := H15.out _ (List.getElem_mem hil)
          have hxk := H15.out _ (List.getElem_mem hkl)
          have HLI := Lib.hid (len_get l i hil)
          have HLK := Lib.hid (len_get l k hkl)
          obtain ⟨x, hx⟩ : ∃ x, l[i] = x := ⟨_, rfl⟩
          obtain ⟨y, hy⟩ : ∃ y, l[k] = y := ⟨_, rfl⟩
          rw [hx] at hci hxi HLI
          rw [hy] at hck hxk HLK
          clear hx hy
          by_cases e1 : i = k
          · subst e1
            go_wp2_with fail
            go_quiet (fail)
            go_wp2_with fail
            go_roundw
            case rel => exact ⟨i + 1, by omega, by go_num, HFK.out.trans0 (Fr.drewN _ _ _)⟩
            case measure => simp [intOf]; omega
          · have n1 : ((i : Int) != (k : Int)) = true := by rw [bne_iff_ne]; omega
            have HNE := Lib.hid e1
            clear e1
            by_cases e2 : x = 0
            · subst e2
              have c1 : wr.cell? ⟨b1, o1 + i, none⟩ = some (.int .u8 0) := hci
              clear hci
              go_wp2_with fail
              go_quiet (fail)
              go_wp2_with fail
              go_roundw
              case rel => exact ⟨k + 1, by omega, by go_num, HFK.out.trans0 (Fr.drewN _ _ _)⟩
              case measure => simp [intOf]; omega
            · have n2 : 0 < x := by omega
              clear e2
              by_cases e3 : x ≤ y
              · have n3 : decide (x ≤ y) = true := decide_eq_true e3
                have HAP : Hid (cod l k / 2 ^ (y - x) ≠ cod l i) := Lib.hid (by
                  have := cod_apart (l := l) (i := i) (k := k) (by rw [HLI.out]; exact n2) (by rw [HLI.out, HLK.out]; exact e3) HNE.out
                  rwa [HLI.out, HLK.out] at this)
                obtain ⟨A, hA⟩ : ∃ A, cod l k = A := ⟨_, rfl⟩
                obtain ⟨C, hC⟩ : ∃ C, cod l i = C := ⟨_, rfl⟩
                rw [hA] at HAP hdk
                rw [hC] at HAP hdi
                have q1 : IntKind.u8.wrap ((y : Int) - (x : Int)) = (y : Int) - (x : Int) := IntWalk.u8_in _ (by omega)
                have q2 : (0 : Int) ≤ (y : Int) - (x : Int) := by omega
                have q3 : ((y : Int) - (x : Int)).toNat = y - x := by omega
                have q4 : (y : Int) - (x : Int) < 32 := by omega
                have hap : ((A : Int) / 2 ^ (y - x) == (C : Int)) = false := by
                  rw [beq_eq_false_iff_ne]
                  intro h
                  refine HAP.out ?_
                  have e : ((A / 2 ^ (y - x) : Nat) : Int) = (C : Int) := by rw [Int.natCast_ediv, Int.natCast_pow]; exact h
                  omega
                clear hA hC e3
                go_wp2_with fail
                go_quiet (fail)
                go_wp2_with fail
                go_roundw
                case rel => exact ⟨k + 1, by omega, by go_num, HFK.out.trans0 (Fr.drewN _ _ _)⟩
                case measure => simp [intOf]; omega
              · have n3 : decide (x ≤ y) = false := decide_eq_false e3
                clear e3
                go_wp2_with fail
                go_quiet (fail)
                go_wp2_with fail
                go_roundw
                case rel => exact ⟨k + 1, by omega, by go_num, HFK.out.trans0 (Fr.drewN _ _ _)⟩
                case measure => simp [intOf]; omega
        · obtain rfl : k = l.length := by omega
          go_wp2_with fail
          go_roundw
          case rel => exact ⟨i + 1, by omega, by go_num, HFK.out⟩
          case measure => simp [intOf]; omega
    · have HG : Hid (Fr S0 w wr) := Lib.hid (G3.out.trans0 HFR.out)
      have HSW := Lib.hid (HS3.out.fr0 HFR.out)
      by_cases hb2 : b.length < 2
      · go_wp2_with fail
        go_ret
        exact ⟨rfl, HG.out⟩
      · have hb3 : decide (b.length < 2) = false := decide_eq_false hb2
        have hb4 : ¬ (b.length : Int) < 2 := by omega
        obtain ⟨pl, cl, cb, cdd, ob, oc, q1, -⟩ := HSW.out.ex
        have hF := full_any g wr q1 (by omega)
        clear q1
        by_cases hfu : ful l
        · rw [decide_eq_true hfu] at hF
          have HF := Lib.hid hF
          have HFU := Lib.hid hfu
          clear hF hfu
          go_wp2_with fail
          refine HF.out.mono ?_
          rintro e w4 ⟨rfl, f4⟩
          have HG4 := Lib.hid (HG.out.trans0 f4)
          have HS4 := Lib.hid (HSW.out.fr0 f4)
          have HZ4 : Hid (w2.heap.size ≤ w4.heap.size) := Lib.hid (Nat.le_trans HZ3.out (Nat.le_trans HFR.out.size f4.size))
          clear f4 HF
          go_wp2_with fail
          refine (HN.out w4 HG4.out).mono ?_
          rintro e w5 ⟨gr, rr, rfl, r5, f5, hg5, -⟩
          have HG5 := Lib.hid (HG4.out.trans0 f5)
          have HGR : Hid (w2.heap.size ≤ gr) := Lib.hid (Nat.le_trans HZ4.out hg5)
          have HGW : Hid (w.heap.size ≤ gr) := Lib.hid (Nat.le_trans HG4.out.size hg5)
          have HRD := Lib.hid (read_any w2.heap.size g l gr rr b 0 w5 (HS4.out.fr0 f5) r5 HGR.out hB)
          have HS5 := Lib.hid (HS4.out.fr0 f5)
          clear f5 r5 hg5 HN
          go_wp2_with fail
          refine HRD.out.mono ?_
          rintro e w6 ⟨n, hn, hto⟩
          have hB16 : mx l ≤ ((bts b).drop 0).length := by
            have := HS5.out.mx15
            rw [List.drop_zero, bts_length]
            omega
          obtain ⟨i, hi⟩ := ful_hit ((bts_bit b).sub fun _ hx => List.mem_of_mem_drop hx) HFU.out HS5.out.mx15 hB16
          have he : ∃ j, 0 < len l j ∧ e = .returned (.tuple #[.int .i64 (j : Nat), .int .i64 0]) := by
            rcases hn with ⟨j, hj, he, -⟩ | ⟨hj, -⟩ | ⟨hj, -⟩
            · exact ⟨j, hj.1, he⟩
            · exact absurd hi (hj i)
            · exact absurd hi (hj i)
          obtain ⟨j, hj0, rfl⟩ := he
          have hA := length_any _ g l (j : Int) w6 (HS5.out.fr hto.2 (fun x hx e => by have := HGR.out; omega))
          rw [lenI_nat] at hA
          obtain ⟨x, hx⟩ : ∃ x, len l j = x := ⟨_, rfl⟩
          rw [hx] at hA hj0
          have HA := Lib.hid hA
          have HG6 : Hid (Fr S0 w w6) := Lib.hid (HG5.out.trans hto.2 (fun x hx e => by have := HGW.out; omega))
          clear hn hto hB16 hi hA hx HRD
          go_wp2_with fail
          refine HA.out.mono ?_
          rintro e w' ⟨rfl, rfl⟩
          go_wp2_with fail
          go_ret
          exact ⟨rfl, HG6.out⟩
        · rw [decide_eq_false hfu] at hF
          have HF := Lib.hid hF
          clear hF hfu
          go_wp2_with fail
          refine HF.out.mono ?_
          rintro e w4 ⟨rfl, f4⟩
          have HG4 := Lib.hid (HG.out.trans0 f4)
          clear f4
          go_wp2_with fail
          go_ret
          exact ⟨rfl, HG4.out⟩

theorem law_apart (p q : Option Addr) (d e : Nat) (l b : List Nat) (w : World) (hl : SlI w .u8 p l) (hp : p = none → d = 0) (hb : SlI w .u8 q b) (h8 : ∀ x ∈ b, x < 256) (hq : q = none → e = 0) (hB : b.length ≤ 140737488355328) :
    Calls Try.prog 6 #[.slice p l.length d, .slice q b.length e] w fun e w' => e = .returned (.bool true) ∧ Fr S0 w w' := by
  by_cases h1 : l.length ≤ 100
  · have h1' : l.length ≤ 320 := by omega
    cases h3 : long l with
    | true => exact apart_no p q d e 1 b.length l w h1 (by decide) (fun W f => (make_long p d l W (hl.fr0 f) h1' h3).mono fun _ _ h => ⟨h.1, h.2 ▸ Fr.refl _ _⟩)
    | false =>
      have h15 := long_no h3
      by_cases ok : okl l
      · exact apart_ok p q d e l b w hl hp h1 h15 ok hb h8 hq hB
      · exact apart_no p q d e 62 b.length l w h1 (by decide) (fun W f => make_no p d l W (hl.fr0 f) hp h1' h15 ok)
  · exact apart_far p q l.length b.length d e w h1
end Go.Proofs.Ytibmcapaefpkfaa
