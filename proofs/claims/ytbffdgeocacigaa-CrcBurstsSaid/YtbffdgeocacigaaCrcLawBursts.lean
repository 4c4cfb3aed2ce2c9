/- The law on bursts of layer 2. -/
import Derived.Test.YtbffdgeocacigaaCrcBurst
import Derived.Test.YtbffdgeocacigaaCrcLawJoins
namespace Go.Proofs.Ytbffdgeocacigaa
open Go.RowKit

/-- behind i rounds: v tells which bits of the burst have been turned -/
def BurstRel (L : List Nat) (n f g c : Nat) (w2 : World) (tu inw ii : Value) (wr : World) : Prop :=
  ∃ (i v : Nat) (M : List Nat), i ≤ 32 ∧ ii = .int .i64 i ∧ v < 2 ^ i ∧ M.length = L.length ∧ (∀ y ∈ M, y < 256) ∧ val M = val L ^^^ v * 2 ^ f ∧ tu = .bool (decide (v ≠ 0)) ∧ inw = .bool (decide (inn n f v ≠ 0)) ∧
    wr.ownsRow 0 5 1 (.slice (some ⟨g, 0, none⟩) L.length c) L.length (u8s M) ∧ Fr S0 w2 wr
theorem burst_off {L M : List Nat} {n f g c i v : Nat} {w2 wr : World} (hi : i < 32) (hv : v < 2 ^ i) (hM : M.length = L.length) (hMb : ∀ y ∈ M, y < 256) (hval : val M = val L ^^^ v * 2 ^ f)
    (own : wr.ownsRow 0 5 1 (.slice (some ⟨g, 0, none⟩) L.length c) L.length (u8s M)) (h : Fr S0 w2 wr) :
    BurstRel L n f g c w2 (.bool (decide (v ≠ 0))) (.bool (decide (inn n f v ≠ 0))) (.int .i64 ((i : Int) + 1)) wr :=
  ⟨i + 1, v, M, by omega, by rw [Int.natCast_add]; rfl, by rw [Nat.pow_succ]; omega, hM, hMb, hval, rfl, rfl, own, h⟩
set_option maxRecDepth 100000 in
theorem burst_on {L M : List Nat} {n f g c i v : Nat} {w2 wr : World} (hi : i < 32) (hv : v < 2 ^ i) (hM : M.length = L.length) (hMb : ∀ y ∈ M, y < 256) (hval : val M = val L ^^^ v * 2 ^ f)
    (own : wr.ownsRow 0 5 1 (.slice (some ⟨g, 0, none⟩) L.length c) L.length (u8s M)) (h : Fr S0 w2 wr) (hfresh : w2.heap.size ≤ g) (hk : (f + i) / 8 < M.length) {u : Int} {b : Bool}
    (hu : u = bits .xor .u8 (M[(f + i) / 8] : Nat) ((2 : Int) ^ ((f + i) % 8) % 256)) (hb : b = (decide (inn n f v ≠ 0) || decide ((f : Int) + i < 8 * n))) :
    BurstRel L n f g c w2 (.bool true) (.bool b) (.int .i64 ((i : Int) + 1)) (wr.setCell ⟨g, (f + i) / 8, none⟩ (.int .u8 u)) := by
  have hx8 : M[(f + i) / 8] < 256 := hMb _ (List.getElem_mem hk)
  have hp8 : 2 ^ ((f + i) % 8) < 256 := by
    have : 2 ^ ((f + i) % 8) ≤ 2 ^ 7 := Nat.pow_le_pow_right (by decide) (by omega)
    omega
  have hpi : ((2 : Int) ^ ((f + i) % 8) % 256) = ((2 ^ ((f + i) % 8) : Nat) : Int) := by
    have e : (2 : Int) ^ ((f + i) % 8) = ((2 ^ ((f + i) % 8) : Nat) : Int) := by push_cast; rfl
    rw [e]
    exact Int.emod_eq_of_lt (Int.natCast_nonneg _) (by exact_mod_cast hp8)
  rw [hpi, u8_xor_nat _ _ hx8 hp8] at hu
  subst hu
  obtain ⟨ho, hgr⟩ := own.stored ((f + i) / 8) (.int .u8 (M[(f + i) / 8] ^^^ 2 ^ ((f + i) % 8) : Nat))
  refine ⟨i + 1, v + 2 ^ i, M.set ((f + i) / 8) (M[(f + i) / 8] ^^^ 2 ^ ((f + i) % 8)), by omega, by rw [Int.natCast_add]; rfl, by rw [Nat.pow_succ]; omega, by rw [List.length_set, hM], set_lt M _ _ hk hp8 hMb,
    burst_step L M f i v hv hval (f + i) rfl hk hMb, ?_, ?_, ?_, h.append hgr (fun k hk => by simp only [Option.some.injEq] at hk; omega)⟩
  · rw [decide_eq_true (show v + 2 ^ i ≠ 0 by have : 0 < 2 ^ i := Nat.pow_pos (by decide); omega)]
  · rw [hb]
    by_cases hin : f + i < 8 * n
    · rw [decide_eq_true (show (f : Int) + i < 8 * n by omega), Bool.or_true, decide_eq_true (inn_in n f v i hv hin)]
    · rw [decide_eq_false (show ¬ (f : Int) + i < 8 * n by omega), Bool.or_false, inn_out n f v i hin]
  · rw [show u8s (M.set ((f + i) / 8) (M[(f + i) / 8] ^^^ 2 ^ ((f + i) % 8))) = (u8s M).set ((f + i) / 8) (.int .u8 (M[(f + i) / 8] ^^^ 2 ^ ((f + i) % 8) : Nat)) by unfold u8s; rw [List.map_set]]
    exact ho

theorem sum_inner {L M l : List Nat} {f v : Nat} (hl : L.take l.length = l) (hn : l.length ≤ L.length) (hlen : M.length = L.length) (hL : ∀ y ∈ L, y < 256) (hM : ∀ y ∈ M, y < 256) (hv : v < 4294967296) (h : val M = val L ^^^ v * 2 ^ f) :
    sum (M.take l.length) = sum l ↔ inn l.length f v = 0 := by
  have ht := take_turned L M l.length f v hn hlen hL hM h
  rw [hl] at ht
  have hMt : ∀ y ∈ M.take l.length, y < 256 := fun y hy => hM y (List.mem_of_mem_take hy)
  have hlt : ∀ y ∈ l, y < 256 := fun y hy => hL y (by rw [← hl] at hy; exact List.mem_of_mem_take hy)
  have hll : (M.take l.length).length = l.length := by rw [List.length_take]; omega
  by_cases hf : f ≤ 8 * l.length
  · have hi : inn l.length f v = v % 2 ^ (8 * l.length - f) := if_pos hf
    rw [if_pos hf, ← hi] at ht
    exact sum_turned l (M.take l.length) f (inn l.length f v) hlt hMt hll hf (by rw [hi]; exact Nat.lt_of_le_of_lt (Nat.mod_le _ _) hv) ht
  · rw [if_neg hf, Nat.zero_mul, Nat.xor_zero] at ht
    rw [val_inj _ _ hll hMt hlt ht, show inn l.length f v = 0 from if_neg hf]
    exact ⟨fun _ => rfl, fun _ => rfl⟩

set_option maxRecDepth 100000 in
set_option maxHeartbeats 1000000 in
theorem law_bursts (C : CrcCode) (p : Option Addr) (d : Nat) (l : List Nat) (sat burst : Nat) (w : World) (hl : SlI w .u8 p l) (hb : ∀ x ∈ l, x < 256) (hp : p = none → d = 0) (ha : sat < 4294967296) (hu : burst < 4294967296) :
    Calls Try.prog 6 #[.slice p l.length d, .int .u32 sat, .int .u32 burst] w fun e w' => e = .returned (.bool true) ∧ Fr S0 w w' := by
  have HB := Lib.hid hb
  have HP := Lib.hid hp
  have HA := Lib.hid ha
  have HU := Lib.hid hu
  clear hb hp ha hu
  have start : ∀ R, (∀ w1, Fr S0 w w1 → R (.returned (.bool true)) w1) → Calls Try.prog 8 #[] w R := fun R h => (alive_any C w).mono fun e w1 he => by rw [he.1]; exact h w1 he.2
  by_cases k1 : (5000 : Int) < (l.length : Int)
  · go_enter Try.func6, Try.ntmps6
    go_wp2_with (go_at_call 8; refine start _ ?_; intro w1 hf)
    go_ret
    exact ⟨rfl, hf⟩
  · have hln : l.length ≤ 5000 := by omega
    go_enter Try.func6, Try.ntmps6
    go_wp2_with fail
    refine start _ ?_
    intro w1 f1
    go_wp2_with fail
    have hseal := rseal_any p d l _ (hl.fr0 f1) HB.out HP.out (by omega)
    obtain ⟨L, hL⟩ : ∃ L, l ++ leB 4 (sum l) = L := ⟨_, rfl⟩
    have hLl : L.length = l.length + 4 := by rw [← hL, List.length_append, leB_length]
    rw [hL] at hseal
    have HL := Lib.hid hL
    have sealed_all : ∀ x ∈ L, x < 256 := by rw [← hL]; exact sealed_lt l HB.out
    refine hseal.mono ?_
    clear hseal hL
    rintro e w2 ⟨v, rfl, f2, own, -⟩
    obtain ⟨p2, c2, rfl, hp2, -, -⟩ := slForm own
    have g2 := f1.trans0 f2
    clear f1 f2
    have hL4 : 4 ≤ L.length := by omega
    have hL5 : L.length ≤ 5004 := by omega
    have HLL := Lib.hid hLl
    have R1 : Hid (Room L.length) := Lib.hid (Room.mk (by omega))
    have hw1 : IntKind.i64.wrap (8 * (L.length : Int)) = 8 * (L.length : Int) := by rw [IntKind.wrap_i64]; omega
    have hw2 : IntKind.u32.wrap (8 * (L.length : Int)) = 8 * (L.length : Int) := by rw [IntKind.wrap_u32]; omega
    clear hLl hln
    go_wp2_with ((with_reducible show wpList _ _ _ (Oper.mk (some 25) _ _ _ _ _ :: _) _ _); refine app_many el8 (.tmp 23) (.tmp 24) (own_none w2 _) (SrcIs.ofSl ((SlI.ofOwns own).fr0 (Fr.alloc S0 w2 (.cells #[] 5))) hp2) (Nat.zero_add _) rfl rfl rfl rfl (ones _) R1.out ?_; intro p4 c4 w4 own4 g4 at4; have h4 := fr_made (Fr.refl S0 w2) g4; have v4 := fresh_many (fresh_made (n := 0) (c := 0) (Fr.refl S0 w2)) (size_le (Fr.refl S0 w2)) at4; clear g4 at4)
    rw [List.nil_append] at own4
    obtain ⟨g, cap, hv, -, hg⟩ := own4.form (by omega)
    simp only [Value.slice.injEq] at hv
    obtain ⟨rfl, -, rfl⟩ := hv
    obtain ⟨f, hf⟩ : ∃ f, sat % (8 * L.length) = f := ⟨_, rfl⟩
    have hf8 : f < 8 * L.length := by rw [← hf]; exact Nat.mod_lt _ (by omega)
    have hfi : wrap64 ((sat : Int) % (8 * (L.length : Int))) = (f : Int) := by
      rw [show (sat : Int) % (8 * (L.length : Int)) = (f : Int) by rw [← hf]; push_cast; rfl]
      unfold wrap64
      omega
    rw [hfi]
    have HF := Lib.hid hf
    clear hf hfi
    have hfresh : w2.heap.size ≤ g := v4 g rfl
    go_loopw [10, 11, 12] (fun tu inw ii wr => BurstRel L l.length f g c4 w2 tu inw ii wr) (fun _ _ i _ => 32 - (intOf i).toNat)
    case atStart =>
      have hin : inn l.length f 0 = 0 := by unfold inn; split <;> simp
      exact ⟨0, 0, L, by omega, rfl, by decide, rfl, sealed_all, by simp, rfl, by rw [hin]; rfl, own4, h4⟩
    case round =>
      obtain ⟨i, v, M, hi, rfl, hv, hM, hMb, hval, rfl, rfl, own5, h5⟩ := hrel
      have HV := Lib.hid hv
      have HMB := Lib.hid hMb
      have HVAL := Lib.hid hval
      clear hv hMb hval
      by_cases h32 : (i : Int) < 32
      · have hi32 : i < 32 := by omega
        have hoff := burst_off (n := l.length) hi32 HV.out hM HMB.out HVAL.out own5 h5
        have hon := fun (u : Int) (b : Bool) hk8 hu hb => burst_on (n := l.length) (u := u) (b := b) hi32 HV.out hM HMB.out HVAL.out own5 h5 hfresh hk8 hu hb
        obtain ⟨tb, htb⟩ : ∃ b, decide (v ≠ 0) = b := ⟨_, rfl⟩
        obtain ⟨ib, hib⟩ : ∃ b, decide (inn l.length f v ≠ 0) = b := ⟨_, rfl⟩
        rw [hib] at hon
        rw [htb, hib] at hoff ⊢
        have HOFF := Lib.hid hoff
        clear htb hib hoff
        by_cases hbit : bits .and .u32 ((burst : Int) / 2 ^ i) 1 = 1
        · by_cases hk : (f : Int) + (i : Int) < 8 * (L.length : Int)
          · have hk8 : (f + i) / 8 < M.length := by omega
            have hcell := own5.cellAt ((f + i) / 8) (by omega)
            rw [show (u8s M)[(f + i) / 8]? = some (.int .u8 (M[(f + i) / 8] : Nat)) by simp [u8s, hk8]] at hcell
            have hfro := own5.frozenAt ((f + i) / 8)
            have hon2 := fun u b hu hb => hon u b hk8 hu hb
            obtain ⟨x, hx⟩ : ∃ x, M[(f + i) / 8] = x := ⟨_, rfl⟩
            rw [hx] at hcell hon2
            have HON' := Lib.hid hon2
            clear hx hon hon2
            cases ib
            · by_cases hin : (f : Int) + (i : Int) < 8 * (l.length : Int)
              · go_wp2
                go_roundw
                case rel => exact HON'.out _ _ rfl (by simp [hin])
                case measure => simp [intOf]; omega
              · go_wp2
                go_roundw
                case rel => exact HON'.out _ _ rfl (by simp [hin])
                case measure => simp [intOf]; omega
            · go_wp2
              go_roundw
              case rel => exact HON'.out _ _ rfl rfl
              case measure => simp [intOf]; omega
          · clear hon
            go_wp2
            go_roundw
            case rel => exact HOFF.out
            case measure => simp [intOf]; omega
        · clear hon
          go_wp2
          go_roundw
          case rel => exact HOFF.out
          case measure => simp [intOf]; omega
      · obtain rfl : i = 32 := by omega
        obtain ⟨tb, htb⟩ : ∃ b, decide (v ≠ 0) = b := ⟨_, rfl⟩
        obtain ⟨ib, hib⟩ : ∃ b, decide (inn l.length f v ≠ 0) = b := ⟨_, rfl⟩
        rw [htb, hib]
        have hLt : L.take l.length = l := by rw [← HL.out, List.take_left]
        have hln : l.length ≤ L.length := by have := HLL.out; omega
        have hv32 : v < 4294967296 := HV.out
        have hfit : fitsB M = !tb := by
          rw [fits_turned L M f v (by omega) sealed_all HMB.out hM (by rw [← HL.out]; exact fits_sealed l) (by omega) hv32 HVAL.out, ← htb]
          by_cases h0 : v = 0 <;> simp [h0]
        have hsi := sum_inner hLt hln hM sealed_all HMB.out hv32 HVAL.out
        have hib2 : decide (sum (M.take l.length) ≠ sum l) = ib := by rw [← hib]; simp only [ne_eq, hsi]
        obtain ⟨s1, hs1⟩ : ∃ s1, sum (M.take l.length) = s1 := ⟨_, rfl⟩
        obtain ⟨s2, hs2⟩ : ∃ s2, sum l = s2 := ⟨_, rfl⟩
        rw [hs1, hs2] at hib2
        have HS1 := Lib.hid hs1
        have HS2 := Lib.hid hs2
        have HFIT := Lib.hid hfit
        have hlen2 : (M.take l.length).length = l.length := by rw [List.length_take]; omega
        obtain ⟨pc, cc, hvc, -, hc1, hc2⟩ := slForm own5
        simp only [Value.slice.injEq] at hvc
        obtain ⟨-, -, rfl⟩ := hvc
        have hcf := fun b w (h : TabIs w b) (hf : Fr S0 wr w) => C.fits_ b (some ⟨g, 0, none⟩) c4 M w h ((SlI.ofOwns own5).fr0 hf) HMB.out (by omega) hc2
        have hcs := fun b w (h : TabIs w b) (hf : Fr S0 wr w) => C.sum_ b (some ⟨g, 0, none⟩) c4 (M.take l.length) w h (((SlI.ofOwns own5).take l.length).fr0 hf) (fun x hx => HMB.out x (List.mem_of_mem_take hx))
        rw [hM, hfit] at hcf
        rw [hlen2, hs1] at hcs
        have HCF := Lib.hid hcf
        have HCS := Lib.hid hcs
        have hlc : (l.length : Int) ≤ c4 := by omega
        have G5 := Lib.hid (g2.trans0 h5)
        clear hcf hcs hs1 hs2 hfit hsi htb hib hv32 hLt hlen2 hc2 sealed_all
        go_wp2_with fail
        refine (C.new_ _).mono ?_
        rintro e w6 ⟨b, rfl, f6, t6⟩
        go_wp2_with fail
        refine (HCF.out b _ t6 f6).mono ?_
        rintro e w7 ⟨rfl, f7⟩
        have g7 := f6.trans0 f7
        have t7 := t6.fr f7
        clear f6 f7 t6
        go_wp2_with fail
        refine (HCS.out b _ t7 g7).mono ?_
        rintro e w8 ⟨rfl, f8⟩
        have g8 := g7.trans0 f8
        have t8 := t7.fr f8
        clear g7 f8 t7
        go_wp2_with fail
        refine (C.sum_ b p d l _ t8 (hl.fr0 (G5.out.trans0 g8)) HB.out).mono ?_
        rintro e w9 ⟨rfl, f9⟩
        rw [HS2.out]
        have g9 := G5.out.trans0 (g8.trans0 f9)
        clear g8 f9 t8
        by_cases he : s1 = s2
        · subst he
          obtain rfl : ib = false := by rw [← hib2]; simp
          cases tb <;> (go_wp2; go_ret; exact ⟨rfl, g9⟩)
        · obtain rfl : ib = true := by rw [← hib2]; simp [he]
          have hne : ((s1 : Int) != (s2 : Int)) = true := by rw [bne_iff_ne]; omega
          cases tb <;> (go_wp2; go_ret; exact ⟨rfl, g9⟩)
end Go.Proofs.Ytbffdgeocacigaa
