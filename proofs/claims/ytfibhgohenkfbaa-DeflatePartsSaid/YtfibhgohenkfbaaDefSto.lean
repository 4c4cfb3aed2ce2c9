/- Stored blocks are written. -/
import Derived.Test.YtfibhgohenkfbaaDefWr
namespace Go.Proofs.Ytfibhgohenkfbaa
open Go.RowKit

theorem grp_add (n a : Nat) : ∀ b, grp n (a + b) = grp n a ++ grp (n / 2 ^ a) b
  | 0 => by simp [grp]
  | b + 1 => by
    rw [← Nat.add_assoc, grp_succ, grp_add n a b, grp_succ, List.append_assoc, Nat.div_div_eq_div_mul, ← Nat.pow_add]
theorem grp_16 (n : Nat) : grp n 16 = grp (n % 256) 8 ++ grp (n / 256) 8 := by
  rw [show (16 : Nat) = 8 + 8 from rfl, grp_add, show (256 : Nat) = 2 ^ 8 from rfl, grp_mod]
theorem alg_bts (B l : List Nat) : alg (bts B ++ l) = bts B ++ alg l := by
  unfold alg
  rw [List.append_assoc]
  congr 2
  rw [List.length_append, bts_length]
  congr 1
  omega
theorem bts_cons (x : Nat) (l : List Nat) : bts (x :: l) = grp x 8 ++ bts l := by simp [bts]
/-- a stored block's bits behind bytes -/
def stoB (L : List Nat) (last : Bool) (l : List Nat) : List Nat := alg (alg (L ++ grp last.toNat 1 ++ grp 0 2) ++ grp l.length 16 ++ grp (65535 - l.length) 16) ++ bts l
theorem sto_bits (B l : List Nat) (last : Bool) (hl : l.length ≤ 65535) : stoB (bts B) last l = bts (B ++ blk last.toNat l) := by
  have h1 : alg (bts B ++ grp last.toNat 1 ++ grp 0 2) = bts B ++ grp last.toNat 8 := by
    rw [List.append_assoc, alg_bts]
    cases last <;> rfl
  unfold stoB
  rw [h1, List.append_assoc, List.append_assoc, alg_bts]
  have h2 : alg (grp last.toNat 8 ++ (grp l.length 16 ++ grp (65535 - l.length) 16)) = grp last.toNat 8 ++ (grp l.length 16 ++ grp (65535 - l.length) 16) := by
    unfold alg
    simp
  rw [h2, grp_16, grp_16, show (65535 - l.length) % 256 = 255 - l.length % 256 by omega, show (65535 - l.length) / 256 = 255 - l.length / 256 by omega, bts_append, blk, bts_append]
  simp only [bts_cons, List.append_assoc]
  rfl
theorem stoB_length (B l : List Nat) (last : Bool) (hl : l.length ≤ 65535) : (stoB (bts B) last l).length = 8 * (B.length + l.length + 5) := by
  rw [sto_bits B l last hl, bts_length, List.length_append, blk_length]; omega

set_option maxRecDepth 100000 in
set_option maxHeartbeats 2000000 in
theorem stored_to {X : Wx} {w0 : World} {g : Nat} {r0 : Option Nat} (B : List Nat) (q : Option Addr) (d : Nat) (l : List Nat) (last : Bool) (w : World) (h : WrTo X w0 w g r0 (bts B)) (hl : SlI w0 .u8 q l) (hoff : l ≠ [] → Off (WrB g r0) q) (h8 : ∀ x ∈ l, x < 256) (hq : q = none → d = 0) (hn : l.length ≤ 65535) (hB : B.length ≤ 1000000000) :
    Calls Try.prog 32 #[.pointer (some ⟨g, 0, none⟩), .slice q l.length d, .bool last] w fun e w' => e = .returned (.tuple #[]) ∧ WrTo X w0 w' g r0 (bts (B ++ blk last.toNat l)) := by
  have HE := Lib.hid (sto_bits B l last hn)
  have HB := Lib.hid hB
  have HSL : Hid (∀ (w : World) (M : List Nat), WrTo X w0 w g r0 M → SlI w .u8 q l) := Lib.hid fun w M hw => by
    obtain ⟨r, -, h2, -⟩ := hw
    exact hl.fr h2 hoff
  have H8 := Lib.hid h8
  have HQ := Lib.hid hq
  have hb : (bts B).length ≤ 8000000000 := by rw [bts_length]; omega
  obtain ⟨L0, hL0⟩ : ∃ L, bts B = L := ⟨_, rfl⟩
  rw [hL0] at h HE hb
  have HH : Hid (Calls Try.prog 44 #[.pointer (some ⟨g, 0, none⟩), .int .u32 0, .bool last] w fun e w' => e = .returned (.tuple #[]) ∧ WrTo X w0 w' g r0 (L0 ++ grp last.toNat 1 ++ grp 0 2)) := Lib.hid (head_to h 0 last (by decide) (by omega))
  obtain ⟨L1, hL1⟩ : ∃ L, L0 ++ grp last.toNat 1 ++ grp 0 2 = L := ⟨_, rfl⟩
  have hb1 : L1.length = L0.length + 3 := by rw [← hL1, List.length_append, List.length_append, grp_length, grp_length]
  have HAL : Hid (∀ w : World, WrTo X w0 w g r0 L1 → Calls Try.prog 52 #[.pointer (some ⟨g, 0, none⟩)] w fun e w' => e = .returned (.tuple #[]) ∧ WrTo X w0 w' g r0 (alg L1)) := Lib.hid fun w hw => align_to hw (by omega)
  have hb2 := alg_length L1
  obtain ⟨L2, hL2⟩ : ∃ L, alg L1 = L := ⟨_, rfl⟩
  rw [hL2] at HAL hb2
  obtain ⟨n, hnn⟩ : ∃ n, l.length = n := ⟨_, rfl⟩
  have HG1 : Hid (∀ w : World, WrTo X w0 w g r0 L2 → Calls Try.prog 53 #[.pointer (some ⟨g, 0, none⟩), .int .u32 n, .int .i64 16] w fun e w' => e = .returned (.int .i64 0) ∧ WrTo X w0 w' g r0 (L2 ++ grp n 16)) := Lib.hid fun w hw => group_to hw n 16 (by omega) (by decide) (by omega)
  obtain ⟨L3, hL3⟩ : ∃ L, L2 ++ grp n 16 = L := ⟨_, rfl⟩
  have hb3 : L3.length = L2.length + 16 := by rw [← hL3, List.length_append, grp_length]
  have HG2 : Hid (∀ w : World, WrTo X w0 w g r0 L3 → Calls Try.prog 53 #[.pointer (some ⟨g, 0, none⟩), .int .u32 ((65535 - n : Nat) : Int), .int .i64 16] w fun e w' => e = .returned (.int .i64 0) ∧ WrTo X w0 w' g r0 (L3 ++ grp (65535 - n) 16)) := Lib.hid fun w hw => group_to hw (65535 - n) 16 (by omega) (by decide) (by omega)
  obtain ⟨L4, hL4⟩ : ∃ L, L3 ++ grp (65535 - n) 16 = L := ⟨_, rfl⟩
  have hb4 : L4.length = L3.length + 16 := by rw [← hL4, List.length_append, grp_length]
  have HTX : Hid (∀ w : World, WrTo X w0 w g r0 L4 → Calls Try.prog 54 #[.pointer (some ⟨g, 0, none⟩), .slice q n d] w fun e w' => e = .returned (.tuple #[]) ∧ WrTo X w0 w' g r0 (alg L4 ++ bts l)) := Lib.hid fun w hw => by
    have := text_to hw q d l (HSL.out w _ hw) H8.out HQ.out (by omega)
    rw [hnn] at this
    exact this
  have HE2 : Hid (alg L4 ++ bts l = bts (B ++ blk last.toNat l)) := Lib.hid (by
    rw [← HE.out, stoB, ← hL4, ← hL3, ← hL2, ← hL1, hnn])
  rw [hL1] at HH
  rw [hL3] at HG1
  rw [hL4] at HG2
  rw [HE2.out] at HTX
  rw [hnn] at hn ⊢
  have E1 : Hid ((65535 : Int) - (n : Int) = ((65535 - n : Nat) : Int)) := Lib.hid (by omega)
  clear hl hoff h8 hq h hb hb1 hb2 hb3 hb4 hL0 hL1 hL2 hL3 hL4 hnn HE HE2 HSL hB
  go_enter Try.func32, Try.ntmps32
  go_wp2_with fail
  refine HH.out.mono ?_
  rintro e w1 ⟨rfl, h1⟩
  have K1 := Lib.hid (HAL.out w1 h1)
  clear h1 HH HAL
  go_wp2_with fail
  refine K1.out.mono ?_
  rintro e w2 ⟨rfl, h2⟩
  have K2 := Lib.hid (HG1.out w2 h2)
  clear h2 K1 HG1
  go_wp2_with fail
  refine K2.out.mono ?_
  rintro e w3 ⟨rfl, h3⟩
  have K3 := Lib.hid (HG2.out w3 h3)
  clear h3 K2 HG2
  go_wp2_with fail
  rw [E1.out]
  refine K3.out.mono ?_
  rintro e w4 ⟨rfl, h4⟩
  have K4 := Lib.hid (HTX.out w4 h4)
  clear h4 K3 HTX
  go_wp2_with fail
  refine K4.out.mono ?_
  rintro e w5 ⟨rfl, h5⟩
  have K5 := Lib.hid h5
  clear h5 K4
  go_wp2_with fail
  go_end0
  exact ⟨rfl, K5.out⟩

theorem blk_256 (f : Nat) (l : List Nat) (hf : f < 256) (hl : l.length ≤ 65535) (h : ∀ x ∈ l, x < 256) : ∀ x ∈ blk f l, x < 256 := by
  intro x hx
  simp only [blk, List.mem_append, List.mem_cons, List.not_mem_nil, or_false] at hx
  rcases hx with (rfl | rfl | rfl | rfl | rfl) | hx
  · exact hf
  · omega
  · omega
  · omega
  · omega
  · exact h x hx
theorem sto_256 : ∀ (n : Nat) (b : List Nat), b.length ≤ n → (∀ x ∈ b, x < 256) → ∀ x ∈ sto b, x < 256
  | 0, b, hn, h => by rw [sto_last (by omega)]; exact blk_256 1 b (by decide) (by omega) h
  | n + 1, b, hn, h => by
    by_cases hl : b.length ≤ 65535
    · rw [sto_last hl]; exact blk_256 1 b (by decide) hl h
    · rw [sto_more hl]
      intro x hx
      rcases List.mem_append.1 hx with hx | hx
      · exact blk_256 0 _ (by decide) (by rw [List.length_take]; omega) (fun y hy => h y (List.mem_of_mem_take hy)) x hx
      · exact sto_256 n _ (by rw [List.length_drop]; omega) (fun y hy => h y (List.mem_of_mem_drop hy)) x hx
theorem sto_length : ∀ (n : Nat) (b : List Nat), b.length ≤ n → (sto b).length ≤ 2 * b.length + 5
  | 0, b, hn => by rw [sto_last (by omega), blk_length]; omega
  | n + 1, b, hn => by
    by_cases hl : b.length ≤ 65535
    · rw [sto_last hl, blk_length]; omega
    · rw [sto_more hl, List.length_append, blk_length, List.length_take]
      have := sto_length n (b.drop 65535) (by rw [List.length_drop]; omega)
      rw [List.length_drop] at this
      omega

theorem WrTo.start {w : World} : WrTo Wx0 (w.alloc (.cells #[.slice none 0 0, .int .i64 0] 53)) (w.alloc (.cells #[.slice none 0 0, .int .i64 0] 53)) w.heap.size none [] := by
  obtain ⟨r, h1, -, -, h4⟩ := WrNew.zero (Fr.refl S0 w)
  have h5 : r = none := by
    cases r with
    | none => rfl
    | some j =>
      have a := h4 j rfl
      have b := h1.rlt j rfl
      rw [size_alloc] at b
      exact absurd (show some j = some w.heap.size by congr 1; omega) h1.apart
  subst h5
  exact h1.self
theorem WrTo.new {X : Wx} {w0 w w' : World} {g : Nat} {L : List Nat} (h : WrTo X w0 w' g none L) (f : Fr S0 w w0) (hg : w.heap.size ≤ g) : Fr S0 w w' := by
  obtain ⟨r, -, h2, -⟩ := h
  refine f.trans h2 fun j hj e => ?_
  rcases e with e | e
  · omega
  · cases e

set_option maxRecDepth 100000 in
set_option maxHeartbeats 2000000 in
theorem dsto_any (p : Option Addr) (d : Nat) (b : List Nat) (w : World) (hb : SlI w .u8 p b) (h8 : ∀ x ∈ b, x < 256) (hp : p = none → d = 0) (hd : b.length ≤ d) (hL : b.length ≤ 1048576) :
    Calls Try.prog 11 #[.slice p b.length d] w fun e w' => ∃ v, e = .returned v ∧ Fr S0 w w' ∧ RowNew w w' v (sto b) := by
  obtain ⟨w1, hw1⟩ : ∃ w1, w.alloc (.cells #[.slice none 0 0, .int .i64 0] 53) = w1 := ⟨_, rfl⟩
  have HW : Hid (WrTo Wx0 w1 w1 w.heap.size none (bts [])) := Lib.hid (by rw [← hw1]; exact WrTo.start)
  have HF1 : Hid (Fr S0 w w1) := Lib.hid (by rw [← hw1]; exact Fr.alloc _ _ _)
  have HS : Hid (SlI w1 .u8 p b) := Lib.hid (hb.fr0 HF1.out)
  have HLT := Lib.hid (fun (h : b ≠ []) => hb.lt h)
  have H8 := Lib.hid h8
  have HP := Lib.hid hp
  have H256 := Lib.hid (sto_256 b.length b (Nat.le_refl _) h8)
  have HSL := Lib.hid (sto_length b.length b (Nat.le_refl _))
  obtain ⟨m, hm⟩ : ∃ m, b.length = m := ⟨_, rfl⟩
  have HM := Lib.hid hm
  rw [hm] at hd hL ⊢
  clear hb h8 hp hm
  go_enter Try.func11, Try.ntmps11
  go_wp2_with fail
  go_loopw [0] (fun s wr => ∃ (l B : List Nat) (q : Option Addr) (n c : Nat), l.length = n ∧ s = .slice q n c ∧ sto b = B ++ sto l ∧ n ≤ m ∧ n ≤ c ∧ c ≤ d ∧ B.length + 2 * n ≤ 2 * m ∧ (∀ x ∈ l, x < 256) ∧ SlI w1 .u8 q l ∧ (q = none → c = 0) ∧ (l ≠ [] → ∀ a, q = some a → a.block < w.heap.size) ∧ WrTo Wx0 w1 wr w.heap.size none (bts B)) (fun s _ => match s with | .slice _ n _ => n | _ => 0)
  case atStart => exact ⟨b, [], p, m, d, HM.out, rfl, rfl, by omega, hd, by omega, by simp, H8.out, HS.out, HP.out, HLT.out, HW.out⟩
  case round =>
    obtain ⟨l, B, q, n, c, hln, rfl, hsto, hnm, hnc, hcd, hBn, hl8, hsl, hq, hlt, hto⟩ := hrel
    have HLN := Lib.hid hln
    have HSTO := Lib.hid hsto
    have HBN := Lib.hid hBn
    have HL8 := Lib.hid hl8
    have HSLI := Lib.hid hsl
    have HQ := Lib.hid hq
    have HLTT := Lib.hid hlt
    have HTO := Lib.hid hto
    have HOFF : Hid (l ≠ [] → Off (WrB w.heap.size none) q) := Lib.hid fun h a ha e => by
      have := hlt h a ha
      rcases e with e | e
      · omega
      · cases e
    clear hln hsto hBn hl8 hsl hq hlt hto
    by_cases hgt : (n : Int) > 65535
    · have hne : l ≠ [] := fun e => by have h := HLN.out; rw [e] at h; simp at h; omega
      obtain ⟨bb, oo, rfl, -⟩ := HSLI.out.at 0 (by rw [HLN.out]; omega)
      have htl : (l.take 65535).length = 65535 := by rw [List.length_take, HLN.out]; omega
      have HC := Lib.hid (stored_to B (some ⟨bb, oo, none⟩) c (l.take 65535) false wr HTO.out (HSLI.out.take 65535) (fun _ => HOFF.out hne) (fun x hx => HL8.out x (List.mem_of_mem_take hx)) (fun h => by cases h) (by rw [htl]; decide) (by have := HBN.out; omega))
      rw [htl] at HC
      have HE : Hid (sto b = (B ++ blk false.toNat (l.take 65535)) ++ sto (l.drop 65535)) := Lib.hid (by rw [HSTO.out, sto_more (by rw [HLN.out]; omega), List.append_assoc]; rfl)
      have HD : Hid (SlI w1 .u8 (some ⟨bb, oo + 65535, none⟩) (l.drop 65535)) := Lib.hid (HSLI.out.drop 65535)
      have HDL : Hid ((l.drop 65535).length = n - 65535) := Lib.hid (by rw [List.length_drop, HLN.out])
      have HBL : Hid ((B ++ blk false.toNat (l.take 65535)).length = B.length + 65540) := Lib.hid (by rw [List.length_append, blk_length, htl])
      have HD8 : Hid (∀ x ∈ l.drop 65535, x < 256) := Lib.hid fun x hx => HL8.out x (List.mem_of_mem_drop hx)
      have HDT : Hid (bb < w.heap.size) := Lib.hid (HLTT.out hne _ rfl)
      have q1 : ¬ (c : Int) = 65535 := by omega
      have q2 : (65535 : Int) ≤ (c : Int) := by omega
      have q3 : (n : Int) ≤ (c : Int) := by omega
      clear hne htl HSLI HOFF HL8 HQ HLTT HSTO
      go_wp2_with fail
      refine HC.out.mono ?_
      rintro e w2 ⟨rfl, h2⟩
      have K := Lib.hid h2
      clear h2 HC
      go_wp2_with fail
      exact ⟨⟨l.drop 65535, B ++ blk false.toNat (l.take 65535), _, _, _, HDL.out, rfl, HE.out, by omega, by omega, by omega, by rw [HBL.out]; have := HBN.out; omega, HD8.out, HD.out, (fun h => by cases h), (fun _ a ha => by cases ha; exact HDT.out), K.out⟩, by simp only; omega⟩
    · have hn : n ≤ 65535 := by omega
      have HC := Lib.hid (stored_to B q c l true wr HTO.out HSLI.out HOFF.out HL8.out HQ.out (by rw [HLN.out]; exact hn) (by have := HBN.out; omega))
      rw [HLN.out] at HC
      have HE : Hid (sto b = B ++ blk true.toNat l) := Lib.hid (by rw [HSTO.out, sto_last (by rw [HLN.out]; exact hn)]; rfl)
      have HR : Hid (∀ w2 : World, WrTo Wx0 w1 w2 w.heap.size none (bts (B ++ blk true.toNat l)) → Calls Try.prog 33 #[.pointer (some ⟨w.heap.size, 0, none⟩)] w2 fun e w' => ∃ v, e = .returned v ∧ Fr S0 w2 w' ∧ RowNew w2 w' v (sto b)) := Lib.hid fun w2 h2 => by
        have := bytes_to h2 (by rw [bts_length, ← HE.out]; have := HSL.out; have := HM.out; omega)
        rw [← HE.out, byt_bts _ H256.out] at this
        exact this
      clear HSLI HOFF HL8 HQ HLTT
      go_wp2_with fail
      refine HC.out.mono ?_
      rintro e w2 ⟨rfl, h2⟩
      have K1 := Lib.hid (HR.out w2 h2)
      have K2 : Hid (Fr S0 w w2) := Lib.hid (h2.new HF1.out (Nat.le_refl _))
      clear h2 HR HC
      go_wp2_with fail
      refine K1.out.mono ?_
      rintro e w3 ⟨v, rfl, f3, hv⟩
      have K3 := Lib.hid hv
      have K4 := Lib.hid f3
      clear f3 hv K1
      go_wp2_with fail
      go_ret
      exact ⟨v, rfl, K2.out.trans0 K4.out, K3.out.own, fun j hj => Nat.le_trans K2.out.size (K3.out.fresh j hj)⟩
end Go.Proofs.Ytfibhgohenkfbaa
