/- A stored block. -/
import Derived.Test.YtmcmchldjfnneaaInfSyms
namespace Go.Proofs.Ytmcmchldjfnneaa
open Go.RowKit

theorem ofInt_i64 (a : Nat) (ha : a < 65536) : (BitVec.ofInt 64 (a : Int)).toNat = a := by
  rw [BitVec.toNat_ofInt]; omega
theorem i64_xor16 (a b : Nat) (ha : a < 65536) (hb : b < 65536) : bits .xor .i64 (a : Int) (b : Int) = ((a ^^^ b : Nat) : Int) := by
  have h : a ^^^ b < 2 ^ 16 := Nat.xor_lt_two_pow (n := 16) ha hb
  show IntKind.i64.wrap ((BitVec.ofInt 64 (a : Int) ^^^ BitVec.ofInt 64 (b : Int)).toNat : Int) = _
  rw [BitVec.toNat_xor, ofInt_i64 a ha, ofInt_i64 b hb, IntKind.wrap_i64]
  omega
theorem xor_all (a b : Nat) (ha : a < 65536) (hb : b < 65536) : a ^^^ b = 65535 ↔ a + b = 65535 := by
  have key : a ^^^ b = (BitVec.ofNat 16 a ^^^ BitVec.ofNat 16 b).toNat := by
    rw [BitVec.toNat_xor, BitVec.toNat_ofNat, BitVec.toNat_ofNat, Nat.mod_eq_of_lt ha, Nat.mod_eq_of_lt hb]
  have not_a : (~~~ (BitVec.ofNat 16 a)).toNat = 65535 - a := by
    rw [BitVec.toNat_not, BitVec.toNat_ofNat, Nat.mod_eq_of_lt ha]
  constructor
  · intro h
    have e : BitVec.ofNat 16 b = ~~~ (BitVec.ofNat 16 a) := by
      have h1 : BitVec.ofNat 16 a ^^^ BitVec.ofNat 16 b = BitVec.allOnes 16 := by
        apply BitVec.eq_of_toNat_eq
        rw [← key, h]; rfl
      rw [← BitVec.xor_allOnes, ← h1, ← BitVec.xor_assoc, BitVec.xor_self, BitVec.zero_xor]
    have := congrArg BitVec.toNat e
    rw [not_a, BitVec.toNat_ofNat, Nat.mod_eq_of_lt hb] at this
    omega
  · intro h
    have e : BitVec.ofNat 16 b = ~~~ (BitVec.ofNat 16 a) := by
      apply BitVec.eq_of_toNat_eq
      rw [not_a, BitVec.toNat_ofNat, Nat.mod_eq_of_lt hb]; omega
    rw [key, e, ← BitVec.xor_allOnes, ← BitVec.xor_assoc, BitVec.xor_self, BitVec.zero_xor]
    rfl
theorem rGrp_lt {b : List Nat} {c k n j : Nat} (h : rGrp b c k = .ok n j) : n < 2 ^ c ∧ j = k + c := by
  unfold rGrp at h
  split at h
  · simp only [Res.ok.injEq] at h
    exact ⟨h.1 ▸ bitsAt_lt b k c, h.2.symm⟩
  · cases h
section
variable {g gr : Nat} {r t : Option Nat} {b : List Nat} {k lim : Nat} {T : List Nat} {L S : Value}
set_option maxRecDepth 100000 in
set_option maxHeartbeats 2000000 in
theorem stored_any (w : World) (h : StIs w g gr r t b k lim T L S) :
    Calls Try.prog 40 #[.pointer (some ⟨g, 0, none⟩)] w (StEnds (rStored b lim T k) w g gr r t b lim L S) := by
  have k0 := h.c0
  have HA := Lib.hid (ralign_any gr r b k w h.rd h.few.2.2)
  have HE : Hid (∀ y, ((rGrp b 16 (upN k)).then fun n k1 => (rGrp b 16 k1).then fun m k2 =>
    (rIf (decide (n + m = 65535)) 61 k2).then fun _ k2 => (rIf (decide (T.length + n ≤ lim)) 64 k2).then fun _ k2 =>
    (rIf (decide (k2 + 8 * n ≤ 8 * b.length)) 20 k2).then fun _ k2 => .ok (T ++ (b.drop (k2 / 8)).take n) (k2 + 8 * n)) = y → rStored b lim T k = y) := Lib.hid (fun y hy => hy)
  obtain ⟨U, hU⟩ : ∃ U, upN k = U := ⟨_, rfl⟩
  have HU8 : Hid (U % 8 = 0) := Lib.hid (by rw [← hU]; unfold upN; omega)
  rw [hU] at HA HE
  have H := Lib.hid h
  clear h hU
  go_enter Try.func40, Try.ntmps40
  go_wp2_with fail
  refine HA.out.mono ?_
  rintro e w1 ⟨rfl, t1⟩
  have H1 := Lib.hid (H.out.read t1)
  have HF1 := Lib.hid t1.2
  have HG := Lib.hid (group_any 16 w1 H1.out (by decide))
  clear t1 HA k0
  go_wp2_with fail
  refine HG.out.mono ?_
  intro e w2 h2
  rcases rd_cases h2 with ⟨n, k2, hx, rfl, t2⟩ | ⟨m, hx, rfl, f2⟩
  rotate_left
  · have K := Lib.hid (HE.out (.no m) (by rw [hx]; rfl))
    have HFF : Hid (Fr (StB g gr t) w w2) := Lib.hid (frSt (HF1.out.trans f2 (fun _ _ h => h)))
    clear hx h2
    go_wp2_with fail
    exact ⟨rfl, StEnds.of K.out ⟨rfl, HFF.out⟩⟩
  have HE1 := Lib.hid (fun y hy => HE.out y (by rw [hx, Res.then_ok]; exact hy))
  have HN := rGrp_lt hx
  have H2 := Lib.hid (H1.out.read t2)
  have HF2 : Hid (Fr (· = gr) w w2) := Lib.hid (HF1.out.trans t2.2 (fun _ _ h => h))
  have HK2 : Hid (k2 = U + 16) := Lib.hid HN.2
  have hn : n < 65536 := HN.1
  have HG := Lib.hid (group_any 16 w2 H2.out (by decide))
  clear hx h2 t2 HE H1 HF1 HN
  go_wp2_with fail
  refine HG.out.mono ?_
  intro e w3 h3
  rcases rd_cases h3 with ⟨m, k3, hx, rfl, t3⟩ | ⟨m, hx, rfl, f3⟩
  rotate_left
  · have K := Lib.hid (HE1.out (.no m) (by rw [hx]; rfl))
    have HFF : Hid (Fr (StB g gr t) w w3) := Lib.hid (frSt (HF2.out.trans f3 (fun _ _ h => h)))
    clear hx h3
    go_wp2_with fail
    exact ⟨rfl, StEnds.of K.out ⟨rfl, HFF.out⟩⟩
  have HE2 := Lib.hid (fun y hy => HE1.out y (by rw [hx, Res.then_ok]; exact hy))
  have HN := rGrp_lt hx
  have H3 := Lib.hid (H2.out.read t3)
  have HF3 : Hid (Fr (· = gr) w w3) := Lib.hid (HF2.out.trans t3.2 (fun _ _ h => h))
  have HK3 : Hid (k3 % 8 = 0) := Lib.hid (by have := HN.2; have := HK2.out; have := HU8.out; omega)
  have hm : m < 65536 := HN.1
  have hxor := i64_xor16 n m hn hm
  clear hx h3 t3 HE1 H2 HF2 HN HK2 HU8
  by_cases hc : n + m = 65535
  rotate_left
  · have K := Lib.hid (HE2.out (.no 61) (by rw [rIf_no (decide_eq_false hc)]; rfl))
    have hd : (((n ^^^ m : Nat) : Int) == 65535) = false := by
      rw [beq_eq_false_iff_ne]
      intro q
      exact hc ((xor_all n m hn hm).1 (by omega))
    have HD := Lib.hid (demand_no 61 w3)
    clear hc HE2 hn hm
    obtain ⟨X, hX⟩ : ∃ X : Int, ((n ^^^ m : Nat) : Int) = X := ⟨_, rfl⟩
    rw [hX] at hxor hd
    clear hX
    go_wp2_with fail
    refine HD.out.mono ?_
    rintro e w' ⟨rfl, rfl⟩
    go_wp2_with fail
    exact ⟨rfl, StEnds.of K.out ⟨rfl, frSt HF3.out⟩⟩
  have HE3 := Lib.hid (fun y hy => HE2.out y (by rw [rIf_yes (decide_eq_true hc), Res.then_ok]; exact hy))
  have hd : (((n ^^^ m : Nat) : Int) == 65535) = true := by
    rw [beq_iff_eq]
    have := (xor_all n m hn hm).2 hc
    omega
  have HD := Lib.hid (demand_yes 61 w3)
  clear hc HE2 hm
  obtain ⟨X, hX⟩ : ∃ X : Int, ((n ^^^ m : Nat) : Int) = X := ⟨_, rfl⟩
  rw [hX] at hxor hd
  clear hX
  by_cases hroom : T.length + n ≤ lim
  rotate_left
  · have K := Lib.hid (HE3.out (.no 64) (by rw [rIf_no (decide_eq_false hroom)]; rfl))
    have HR := Lib.hid (room_no n w3 H3.out hroom (by omega))
    clear hroom HE3 hn
    go_wp2_with fail
    refine HD.out.mono ?_
    rintro e w' ⟨rfl, rfl⟩
    go_wp2_with fail
    refine HR.out.mono ?_
    rintro e w4 ⟨rfl, f4⟩
    have HFF : Hid (Fr (StB g gr t) w w4) := Lib.hid ((frSt HF3.out).trans0 f4)
    clear f4
    go_wp2_with fail
    exact ⟨rfl, StEnds.of K.out ⟨rfl, HFF.out⟩⟩
  have HE4 := Lib.hid (fun y hy => HE3.out y (by rw [rIf_yes (decide_eq_true hroom), Res.then_ok]; exact hy))
  have HR := Lib.hid (room_yes n w3 H3.out hroom)
  have HROOM := Lib.hid hroom
  clear hroom HE3
  go_wp2_with fail
  refine HD.out.mono ?_
  rintro e w' ⟨rfl, rfl⟩
  go_wp2_with fail
  refine HR.out.mono ?_
  rintro e w4 ⟨rfl, f4⟩
  have H4 := Lib.hid (H3.out.fr0 f4)
  have HF4 : Hid (Fr (· = gr) w w4) := Lib.hid (HF3.out.trans0 f4)
  have c0 := H4.out.c0
  clear f4 H3 HF3 HR HD hxor hd
  have hup : upN k3 = k3 := by have := HK3.out; unfold upN; omega
  by_cases hend : k3 + 8 * n ≤ 8 * b.length
  rotate_left
  · have K := Lib.hid (HE4.out (.no 20) (by rw [rIf_no (decide_eq_false hend)]; rfl))
    have HT := Lib.hid (rtext_no gr r b k3 n w4 H4.out.rd (by rw [hup]; omega) H4.out.few.2.2)
    clear hend HE4 hup
    go_wp2_with fail
    refine HT.out.mono ?_
    rintro e w5 ⟨rfl, t5⟩
    have HG := Lib.hid (gotText_no (.slice none 0 0) 20 (by decide) w5)
    have HFF : Hid (Fr (StB g gr t) w w5) := Lib.hid (frSt (HF4.out.trans t5.2 (fun _ _ h => h)))
    clear t5
    go_wp2_with fail
    refine HG.out.mono ?_
    rintro e w' ⟨rfl, rfl⟩
    go_wp2_with fail
    exact ⟨rfl, StEnds.of K.out ⟨rfl, HFF.out⟩⟩
  have HE5 := Lib.hid (HE4.out _ (by rw [rIf_yes (decide_eq_true hend), Res.then_ok]))
  have HT := rtext_yes gr r b k3 n w4 H4.out.rd (by rw [hup]; exact hend) H4.out.few.2.2
  rw [hup] at HT
  have HTT := Lib.hid HT
  have HML : Hid (((b.drop (k3 / 8)).take n).length = n) := Lib.hid (by rw [List.length_take, List.length_drop]; omega)
  have HM8 : Hid (∀ x ∈ (b.drop (k3 / 8)).take n, x < 256) := Lib.hid (fun x hx => H4.out.rd.bytes x (List.mem_of_mem_drop (List.mem_of_mem_take hx)))
  obtain ⟨M, hM⟩ : ∃ M, (b.drop (k3 / 8)).take n = M := ⟨_, rfl⟩
  rw [hM] at HTT HML HM8 HE5
  clear hend HE4 hup HT hM
  go_wp2_with fail
  refine HTT.out.mono ?_
  rintro e w5 ⟨v, rfl, t5, hv⟩
  obtain ⟨p, c, rfl, -, -, -⟩ := slForm hv.own
  have HV := Lib.hid hv.own
  have H5 := Lib.hid (H4.out.read t5)
  have HF5 : Hid (Fr (StB g gr t) w w5) := Lib.hid (frSt (HF4.out.trans t5.2 (fun _ _ h => h)))
  have HG := Lib.hid (gotText_yes (.slice p M.length c) w5)
  have HTL := Lib.hid (tell_yes p c M w5 H5.out (SrcIs.ofOwns HV.out) HM8.out (by rw [HML.out]; exact HROOM.out))
  clear t5 hv H4 HF4
  go_wp2_with fail
  refine HG.out.mono ?_
  rintro e w' ⟨rfl, rfl⟩
  go_wp2_with fail
  refine HTL.out.mono ?_
  rintro e w6 ⟨rfl, hto⟩
  have HTO := Lib.hid (StTo.trans HF5.out (.inl rfl) hto)
  clear hto
  go_wp2_with fail
  go_end0
  exact StEnds.of HE5.out ⟨rfl, HTO.out⟩
end
end Go.Proofs.Ytmcmchldjfnneaa
