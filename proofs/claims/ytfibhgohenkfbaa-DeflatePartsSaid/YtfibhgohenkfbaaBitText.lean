/- Alignments and texts are written; the bytes are told. -/
import Derived.Test.YtfibhgohenkfbaaBitWr
namespace Go.Proofs.Ytfibhgohenkfbaa
open Go.RowKit
variable {X : Wx}

/-- zeros up to a whole byte -/
def alg (L : List Nat) : List Nat := L ++ List.replicate ((L.length + 7) / 8 * 8 - L.length) 0
theorem alg_length (L : List Nat) : (alg L).length = (L.length + 7) / 8 * 8 := by
  unfold alg
  rw [List.length_append, List.length_replicate]; omega
theorem alg_bit {L : List Nat} (h : Bit01 L) : Bit01 (alg L) := h.app (.zeros _)
theorem byt_alg (L : List Nat) : byt (alg L) = byt L := byt_pad L _ (by omega)
theorem byt_text' (L l : List Nat) (h : ∀ x ∈ l, x < 256) : byt (alg L ++ bts l) = byt L ++ l := by
  rw [byt_text _ _ (by rw [alg_length]; omega) h, byt_alg]

theorem align_end {w : World} {g : Nat} {r : Option Nat} {L : List Nat} (h : WrIs X w g r L) : WrTo X w (w.setCell ⟨g, 1, none⟩ (.int .i64 (8 * (byt L).length : Nat))) g r (alg L) := by
  obtain ⟨p, c, hb, own, hr⟩ := h.ex
  refine ⟨r, ⟨⟨p, c, ?_, ?_, ?_⟩, alg_bit h.bits, h.apart⟩, Fr.setCell _ _ _ _ (.inl rfl), .inl rfl⟩
  · rw [byt_alg, wr_s1 hb, alg_length, byt_length, Nat.mul_comm 8]
  · rw [byt_alg]
    exact (Fr.setCell (· = g) w ⟨g, 1, none⟩ _ rfl).owns own (fun k hk e => h.apart (by rw [← hr, hk, e]))
  · rw [byt_alg]; exact hr
theorem align_any (g : Nat) (r : Option Nat) (L : List Nat) (w : World) (h : WrIs X w g r L) (hL : L.length ≤ 1099511627776) :
    Calls Try.prog 52 #[.pointer (some ⟨g, 0, none⟩)] w fun e w' => e = .returned (.tuple #[]) ∧ WrTo X w w' g r (alg L) := by
  obtain ⟨p, c, hb, -, -⟩ := h.ex
  refine (align_raw g _ _ c p w hb (by rw [byt_length]; omega)).mono ?_
  rintro e w' ⟨rfl, rfl⟩
  exact ⟨rfl, align_end h⟩

theorem text_grown {w w1 : World} {g c N m c1 : Nat} {p p1 : Option Addr} {r : Option Nat} {L : List Nat} {b : Obj} (h : WrIs X w g r L) (hb : w.heap[g]? = some b) (hr : Value.ownBlock (.slice p N c) = r)
    (hgrow : w.grownBy w1 (Value.ownBlock (.slice p N c))) (hat : Value.ownBlock (.slice p1 m c1) = Value.ownBlock (.slice p N c) ∨ Value.ownBlock (.slice p1 m c1) = some w.heap.size) :
    w1.heap[g]? = some b ∧ Fr (WrB g r) w w1 ∧ (Value.ownBlock (.slice p1 m c1) = r ∨ ∀ j, Value.ownBlock (.slice p1 m c1) = some j → w.heap.size ≤ j) ∧ Value.ownBlock (.slice p1 m c1) ≠ some g := by
  rw [hr] at hgrow hat
  have hg := h.lt
  have f : Fr (fun k => r = some k) w w1 := Fr.grown hgrow
  refine ⟨f.row hb (fun e => h.apart e), f.mono (fun j _ e => .inr e), ?_, ?_⟩
  · rcases hat with e | e
    · exact .inl e
    · exact .inr fun j hj => by rw [e, Option.some.injEq] at hj; omega
  · rcases hat with e | e
    · rw [e]; exact h.apart
    · rw [e, Ne, Option.some.injEq]; omega

set_option maxRecDepth 100000 in
set_option maxHeartbeats 1000000 in
theorem text_any (g : Nat) (r : Option Nat) (L : List Nat) (q : Option Addr) (d : Nat) (l : List Nat) (w : World) (h : WrIs X w g r L) (hl : SlI w .u8 q l) (h8 : ∀ x ∈ l, x < 256) (hq : q = none → d = 0) (hL : L.length + 8 * l.length + 8 ≤ 1099511627776) :
    Calls Try.prog 54 #[.pointer (some ⟨g, 0, none⟩), .slice q l.length d] w fun e w' => e = .returned (.tuple #[]) ∧ WrTo X w w' g r (alg L ++ bts l) := by
  obtain ⟨p, c, hb, own, hr⟩ := h.ex
  have H := Lib.hid h
  have H8 := Lib.hid h8
  obtain ⟨M, hM⟩ : ∃ M, L.length = M := ⟨_, rfl⟩
  obtain ⟨N, hN⟩ : ∃ N, (byt L).length = N := ⟨_, rfl⟩
  obtain ⟨K, hK⟩ : ∃ K, N + l.length = K := ⟨_, rfl⟩
  have hN7 := byt_length L
  have HR : Hid (Room K) := Lib.hid (Room.mk (by omega))
  have HK1 : Hid (K ≤ 1099511627776) := Lib.hid (by omega)
  rw [hM] at hb
  rw [hN] at hb own hr
  have h0 := wr_c0 hb
  have h2 := wr_f hb
  have hs := SrcIs.ofSl hl hq
  have HEND : Hid (∀ (W : World) (p1 : Option Addr) (c1 : Nat), W.heap[g]? = some (.cells (X.cs (.slice p1 K c1) (.int .i64 (M : Nat))) X.ty (0, 0)) → W.ownsRow 0 5 1 (.slice p1 K c1) K (u8s (byt L) ++ u8s l) →
      Fr (WrB g r) w W → (Value.ownBlock (.slice p1 K c1) = r ∨ ∀ j, Value.ownBlock (.slice p1 K c1) = some j → w.heap.size ≤ j) → Value.ownBlock (.slice p1 K c1) ≠ some g →
      WrTo X w (W.setCell ⟨g, 1, none⟩ (.int .i64 (8 * K : Nat))) g r (alg L ++ bts l)) := Lib.hid (by
    intro W p1 c1 b1 o1 f1 q1 n1
    have hlen : (byt (alg L ++ bts l)).length = K := by rw [byt_text' L l h8, List.length_append, hN, hK]
    refine ⟨_, ⟨⟨p1, c1, ?_, ?_, rfl⟩, (alg_bit h.bits).app (bts_bit l), ?_⟩, f1.trans (Fr.setCell (WrB g r) _ ⟨g, 1, none⟩ _ (.inl rfl)) (fun _ _ h => h), ?_⟩
    · rw [hlen, wr_s1 b1, List.length_append, alg_length, bts_length, show (L.length + 7) / 8 * 8 + 8 * l.length = 8 * K by omega]
    · rw [hlen, byt_text' L l h8, ← u8s_append]
      exact (Fr.setCell (· = g) W ⟨g, 1, none⟩ _ rfl).owns o1 (fun k hk e => n1 (by rw [hk, e]))
    · rw [hlen]; exact n1
    · rw [hlen]; exact q1)
  clear h hN hM hN7 h8 hl hL
  have HKK := Lib.hid hK
  clear hK
  go_enter Try.func54, Try.ntmps54
  go_wp2_with (first
    | ((with_reducible show wpList _ _ _ (Oper.mk (some 10) _ _ _ _ _ :: _) _ _); refine app_many el8 (.tmp 8) (.tmp 9) own hs HKK.out rfl rfl rfl rfl (ones _) HR.out ?_; intro p1 c1 w1 own1 g1 at1; obtain ⟨b1, f1, q1, n1⟩ := text_grown H.out hb hr g1 at1; have k0 := wr_c0 b1; have kf := wr_f b1; clear g1 at1 hb h0 h2)
    | fail)
  have b2 := wr_s0 b1 (.slice p1 K c1)
  have o2 := (Fr.setCell (· = g) w1 ⟨g, 0, none⟩ (.slice p1 K c1) rfl).owns own1 (fun k hk e => n1 (by rw [hk, e]))
  have f2 : Fr (WrB g r) w (w1.setCell ⟨g, 0, none⟩ (.slice p1 K c1)) := f1.trans (Fr.setCell (WrB g r) _ ⟨g, 0, none⟩ _ (.inl rfl)) (fun _ _ h => h)
  generalize w1.setCell ⟨g, 0, none⟩ (.slice p1 K c1) = W at b2 o2 f2 ⊢
  have HA := Lib.hid (align_raw g M K c1 p1 W b2 HK1.out)
  have HE := Lib.hid (HEND.out W p1 c1 b2 o2 f2 q1 n1)
  clear own own1 k0 kf b1 b2 o2 f2 f1 q1 n1 hs hr HEND
  refine HA.out.mono ?_
  rintro e w' ⟨rfl, rfl⟩
  go_wp2
  go_end0
  exact ⟨rfl, HE.out⟩

set_option maxRecDepth 100000 in
set_option maxHeartbeats 400000 in
theorem clone_any (q : Option Addr) (d : Nat) (l : List Nat) (w : World) (hl : SlI w .u8 q l) (hq : q = none → d = 0) (hL : l.length ≤ 140737488355328) :
    Calls Try.prog 55 #[.slice q l.length d] w fun e w' => ∃ v, e = .returned v ∧ Fr S0 w w' ∧ RowNew w w' v l := by
  have hnil : ∀ (w : World) (a : Option Addr) (n c n' c' : Nat), (binOp .eql 22 (.slice a n c) (.slice none n' c')).run Try.prog w = .ok (.bool a.isNone) w := fun w a n c n' c' => Lib.run_eql_slice_nil w _ _ a n c n' c' Try.underlying22
  cases q with
  | none =>
    obtain rfl : l = [] := by
      by_cases h : l = []
      · exact h
      · obtain ⟨b, o, hp, -⟩ := hl.2 h
        cases hp
    obtain rfl := hq rfl
    go_enter Try.func55, Try.ntmps55
    go_wp2
    go_ret
    exact ⟨_, rfl, Fr.refl _ _, World.ownsRow_nil _ _ _ _, fresh_nil _ _⟩
  | some a =>
    have HR : Hid (l.length * 1 ≤ 140737488355328 ∧ l.length ≤ maxLen) := Lib.hid ⟨by omega, by unfold maxLen; omega⟩
    have hs := SrcIs.ofSl (hl.fr0 (Fr.alloc S0 w (.cells #[] 5))) hq
    clear hl hL hq
    go_enter Try.func55, Try.ntmps55
    go_wp2_with (first
      | ((with_reducible show wpList _ _ _ (Oper.mk (some 7) _ _ _ _ _ :: _) _ _); refine app_many_big el8 (.tmp 5) (.tmp 6) (own_none w _) hs (Nat.zero_add _) rfl rfl rfl rfl (ones _) HR.out.1 HR.out.2 ?_; intro p1 c1 w1 own1 g1 at1; have f1 := fr_made (Fr.refl S0 w) g1; have v1 := fresh_many (fresh_made (n := 0) (c := 0) (Fr.refl S0 w)) (size_le (Fr.refl S0 w)) at1; clear g1 at1)
      | fail)
    go_ret
    exact ⟨_, rfl, f1, by rw [List.nil_append] at own1; exact own1, v1⟩

set_option maxRecDepth 100000 in
set_option maxHeartbeats 400000 in
theorem bytes_any (g : Nat) (r : Option Nat) (L : List Nat) (w : World) (h : WrIs X w g r L) (hL : L.length ≤ 1099511627776) :
    Calls Try.prog 33 #[.pointer (some ⟨g, 0, none⟩)] w fun e w' => ∃ v, e = .returned v ∧ Fr S0 w w' ∧ RowNew w w' v (byt L) := by
  obtain ⟨p, c, hb, own, -⟩ := h.ex
  obtain ⟨l, hl⟩ : ∃ l, byt L = l := ⟨_, rfl⟩
  have hlen := byt_length L
  rw [hl] at hb own hlen ⊢
  obtain ⟨p', c', hv, hn, -, -⟩ := slForm own
  simp only [Value.slice.injEq] at hv
  obtain ⟨rfl, -, rfl⟩ := hv
  have HC := Lib.hid (clone_any p c l w (SlI.ofOwns own) hn (by omega))
  have h0 := wr_c0 hb
  clear hb own h hl hn hlen hL
  go_enter Try.func33, Try.ntmps33
  go_wp2_with fail
  refine HC.out.mono ?_
  rintro e w' ⟨v, rfl, hf, hv⟩
  have K := Lib.hid hv
  clear hv HC
  go_wp2
  go_ret
  exact ⟨v, rfl, hf, K.out⟩
end Go.Proofs.Ytfibhgohenkfbaa
