/- The writer of package wire: what each of its methods appends. -/
import Derived.Test.YtgjiepbaagmmiaaBase
import Derived.Test.YtgjiepbaagmmiaaPure
namespace Go.Proofs.Ytgjiepbaagmmiaa
open Go.RowKit

theorem info5 : (Try.prog.info? 5).map (fun i => (i.zero, i.size, i.bytes)) = some (some (.int .u8 0), 1, 1) := by kernel_rfl

def u8s (bs : List Nat) : List Value := bs.map fun (x : Nat) => Value.int .u8 (x : Int)
/-- block g is a writer that holds the bytes bs in v -/
def WrAt (w : World) (g : Nat) (v : Value) (bs : List Nat) : Prop :=
  w.heap[g]? = some (.cells #[v] 46 (0, 0)) ∧ w.ownsRow 0 5 1 v bs.length (u8s bs) ∧ v.ownBlock ≠ some g
def Moved (w : World) (v v' : Value) : Prop := v'.ownBlock = v.ownBlock ∨ ∀ g, v'.ownBlock = some g → w.heap.size ≤ g
def WrTo (w w' : World) (gw : Nat) (v : Value) (bs : List Nat) : Prop :=
  ∃ v', WrAt w' gw v' bs ∧ Fr (fun k => k = gw ∨ v.ownBlock = some k) w w' ∧ Moved w v v'

theorem WrAt.c0 {w : World} {g : Nat} {v : Value} {bs : List Nat} (h : WrAt w g v bs) : w.cell? ⟨g, 0, none⟩ = some v := by
  have := h.1; simp [World.cell?, this]
theorem WrAt.f0 {w : World} {g : Nat} {v : Value} {bs : List Nat} (h : WrAt w g v bs) : w.frozen? ⟨g, 0, none⟩ = false := by
  have := h.1; simp [World.frozen?, this]

theorem WrAt.far {w w1 : World} {gw : Nat} {v : Value} {bs : List Nat} (h : WrAt w gw v bs) {o : Obj} (hg : (w.alloc o).grownBy w1 v.ownBlock) :
    w1.heap[gw]? = some (.cells #[v] 46 (0, 0)) := by
  have hlt := (Array.getElem?_eq_some_iff.1 h.1).1
  rw [hg.block gw (by simp; omega) (fun e => h.2.2 e.symm), Below.heap_alloc w o gw hlt]
  exact h.1
theorem WrAt.cell1 {w w1 : World} {gw : Nat} {v : Value} {bs : List Nat} (h : WrAt w gw v bs) {o : Obj} (hg : (w.alloc o).grownBy w1 v.ownBlock) :
    w1.cell? ⟨gw, 0, none⟩ = some v ∧ w1.frozen? ⟨gw, 0, none⟩ = false := by
  have := h.far hg
  exact ⟨by simp [World.cell?, this], by simp [World.frozen?, this]⟩
theorem WrAt.app {w w1 : World} {gw g cap : Nat} {v : Value} {bs : List Nat} (h : WrAt w gw v bs) {o : Obj} (x : Nat)
    (hown : w1.ownsRow 0 5 1 (.slice (some ⟨g, 0, none⟩) (bs.length + 1) cap) (bs.length + 1) (u8s bs ++ [.int .u8 (x : Int)]))
    (hg : (w.alloc o).grownBy w1 v.ownBlock) (hat : v.ownBlock = some g ∨ g = w.heap.size + 1) :
    WrTo w (w1.setCell ⟨gw, 0, none⟩ (.slice (some ⟨g, 0, none⟩) (bs.length + 1) cap)) gw v (bs ++ [x]) := by
  have hlt := (Array.getElem?_eq_some_iff.1 h.1).1
  have hf := h.far hg
  have hne : g ≠ gw := by
    rcases hat with hat | hat
    · intro e; exact h.2.2 (e ▸ hat)
    · omega
  refine ⟨.slice (some ⟨g, 0, none⟩) (bs.length + 1) cap, ⟨?_, ?_, ?_⟩, ?_, ?_⟩
  · rw [heap_setCell_same w1 gw 0 _ _ _ hf]; rfl
  · have : (u8s bs ++ [.int .u8 (x : Int)]) = u8s (bs ++ [x]) := by simp [u8s]
    rw [← this, List.length_append]
    exact (Fr.setCell (fun k => k = gw) w1 ⟨gw, 0, none⟩ _ rfl).owns hown (fun k hk => by simp [Value.ownBlock] at hk; omega)
  · simpa [Value.ownBlock] using hne
  · refine ((Fr.alloc _ w o).trans (Fr.grown hg) (fun j _ e => Or.inr e)).trans (Fr.setCell (fun k => k = gw) w1 ⟨gw, 0, none⟩ _ rfl) (fun j _ e => Or.inl e)
  · rcases hat with hat | hat
    · exact Or.inl hat.symm
    · refine Or.inr fun k hk => ?_
      simp [Value.ownBlock] at hk hat
      omega
theorem WrTo.trans {w wr w' : World} {gw : Nat} {v v1 : Value} {bs : List Nat} (hfr : Fr (fun k => k = gw ∨ v.ownBlock = some k) w wr) (hmv : Moved w v v1) (h : WrTo wr w' gw v1 bs) : WrTo w w' gw v bs := by
  obtain ⟨v2, h2, hf2, hm2⟩ := h
  refine ⟨v2, h2, hfr.trans hf2 ?_, ?_⟩
  · rintro j hj (e | e)
    · exact Or.inl e
    · rcases hmv with hm | hm
      · exact Or.inr (hm ▸ e)
      · have := hm j e; omega
  · rcases hm2 with hm | hm
    · rcases hmv with hm' | hm'
      · exact Or.inl (hm.trans hm')
      · exact Or.inr fun k hk => hm' k (hm ▸ hk)
    · exact Or.inr fun k hk => Nat.le_trans hfr.size (hm k hk)
theorem WrTo.self {w : World} {gw : Nat} {v : Value} {bs : List Nat} (h : WrAt w gw v bs) : WrTo w w gw v bs := ⟨v, h, Fr.refl _ _, Or.inl rfl⟩

theorem or128 (n : Nat) : bits .or .u8 ((n : Int) % 256) 128 = ((n % 128 + 128 : Nat) : Int) := by
  have e : (n : Int) % 256 = ((n % 256 : Nat) : Int) := by omega
  have k : ∀ a : Fin 256, a.1 ||| 128 = a.1 % 128 + 128 := by decide +kernel
  have := u8_or_nat (n % 256) 128 (by omega) (by omega)
  rw [e, show (128 : Int) = ((128 : Nat) : Int) from rfl, this, k ⟨n % 256, by omega⟩]
  congr 2
  show n % 256 % 128 = n % 128
  omega

def vEnc : Nat → Nat → List Nat
  | 0, n => [n % 256]
  | k + 1, n => if n < 128 then [n] else (n % 128 + 128) :: vEnc k (n / 128)

theorem one8 {k : IntKind} {x : Int} : ∀ u ∈ (#[Value.int k x]).toList, u.oneCell' = true := by intro u hu; simp at hu; subst hu; rfl
theorem el5 : ElemOk Try.prog 24 5 (.int .u8 0) 1 1 := ⟨Try.underlying24, info5, rfl, by decide, by decide⟩

set_option maxHeartbeats 400000 in
theorem few_any (gw m n : Nat) (v : Value) (bs : List Nat) (w : World) (h : WrAt w gw v bs) (hm : 1 ≤ m) (hm2 : m ≤ 10) (hb : bs.length ≤ 1000000) :
    Calls Try.prog 27 #[.pointer (some ⟨gw, 0, none⟩), .int .u64 n, .int .i64 m] w fun e w' => e = .returned (.tuple #[]) ∧ WrTo w w' gw v (bs ++ vEnc (m - 1) n) := by
  go_enter Try.func27, Try.ntmps27
  go_wp2
  go_loopw [1, 8] (fun a i wr => ∃ (k n' : Nat) (bs1 : List Nat), k ≤ m - 1 ∧ i = .int .i64 k ∧ a = .int .u64 n' ∧ bs1.length ≤ 1000000 + k ∧ bs1 ++ vEnc (m - 1 - k) n' = bs ++ vEnc (m - 1) n ∧ WrTo w wr gw v bs1) (fun _ i _ => m - (intOf i).toNat)
  case atStart => exact ⟨0, n, bs, by omega, rfl, rfl, by omega, rfl, WrTo.self h⟩
  case round =>
    obtain ⟨k, n', bs1, hk, rfl, rfl, hl, he, hw⟩ := hrel
    obtain ⟨v1, hw1, hfr, hmv⟩ := hw
    have c0 := hw1.c0
    have f0 := hw1.f0
    have own := hw1.2.1
    have HE := Lib.hid he; clear he
    have HR : Hid (Room (bs1.length + 1)) := Lib.hid (Room.mk (by omega))
    have HL := Lib.hid hl; clear hl
    clear hb
    by_cases hlt : (k : Int) < (m : Int) - 1
    · by_cases h128 : (n' : Int) < 128
      · have LA : Hid (bs1 ++ [n'] = bs ++ vEnc (m - 1) n) := Lib.hid (by
          rw [← HE.out]
          obtain ⟨j, hj⟩ : ∃ j, m - 1 - k = j + 1 := ⟨m - 1 - k - 1, by omega⟩
          rw [hj, vEnc, if_pos (by omega)])
        go_wp2_with (at_builtin; refine app_one el5 (.tmp 31) (.tmp 34) rfl own rfl rfl rfl rfl rfl one8 HR.out ?_)
        intro g cap w1 hown hgrow hat hlt1
        obtain ⟨c1, f1⟩ := hw1.cell1 hgrow
        have W := hw1.app _ hown hgrow hat
        clear own hown hgrow hat hlt1 c0 f0
        go_wp2
        go_end0
        exact ⟨rfl, by rw [← LA.out]; exact WrTo.trans hfr hmv W⟩
      · go_wp2_with (at_builtin; refine app_one el5 (.tmp 16) (.tmp 20) rfl own rfl rfl rfl rfl rfl one8 HR.out ?_)
        intro g cap w1 hown hgrow hat hlt1
        obtain ⟨c1, f1⟩ := hw1.cell1 hgrow
        rw [or128] at hown; have W := hw1.app _ hown hgrow hat
        clear own hown hgrow hat hlt1 c0 f0
        go_wp2
        go_roundw
        case rel =>
          refine ⟨k + 1, n' / 128, bs1 ++ [n' % 128 + 128], by omega, by go_num, by go_num, ?_, ?_, WrTo.trans hfr hmv W⟩
          · have := HL.out; simp; omega
          · rw [← HE.out]
            obtain ⟨j, hj⟩ : ∃ j, m - 1 - k = j + 1 := ⟨m - 1 - k - 1, by omega⟩
            rw [hj, vEnc, if_neg (by omega), show m - 1 - (k + 1) = j by omega]
            simp
        case measure => simp [intOf]; omega
    · have LA : Hid (bs1 ++ [n' % 256] = bs ++ vEnc (m - 1) n) := Lib.hid (by
        rw [← HE.out, show m - 1 - k = 0 by omega, vEnc])
      go_wp2_with (at_builtin; refine app_one el5 (.tmp 31) (.tmp 34) rfl own rfl rfl rfl rfl rfl one8 HR.out ?_)
      intro g cap w1 hown hgrow hat hlt1
      obtain ⟨c1, f1⟩ := hw1.cell1 hgrow
      rw [show ((n' : Int) % 256) = ((n' % 256 : Nat) : Int) from by omega] at hown; have W := hw1.app _ hown hgrow hat
      clear own hown hgrow hat hlt1 c0 f0
      go_wp2
      go_end0
      exact ⟨rfl, by rw [← LA.out]; exact WrTo.trans hfr hmv W⟩

theorem byteAt (n k : Nat) : IntKind.u8.wrap ((n : Int) / 2 ^ (8 * (k : Int)).toNat) = ((n / 256 ^ k % 256 : Nat) : Int) := by
  have : (8 * (k : Int)).toNat = 8 * k := by omega
  rw [this, Int.pow_mul, IntKind.wrap_u8, Int.natCast_emod, Int.natCast_ediv, Int.natCast_pow]
  rfl

set_option maxHeartbeats 400000 in
theorem low_any (gw m n : Nat) (v : Value) (bs : List Nat) (w : World) (h : WrAt w gw v bs) (hm2 : m ≤ 8) (hb : bs.length ≤ 1000000) :
    Calls Try.prog 23 #[.pointer (some ⟨gw, 0, none⟩), .int .u64 n, .int .i64 m] w fun e w' => e = .returned (.tuple #[]) ∧ WrTo w w' gw v (bs ++ lEnc m n) := by
  go_enter Try.func23, Try.ntmps23
  go_wp2
  go_loopw [6, 8] (fun _ i wr => ∃ (k : Nat) (bs1 : List Nat), k ≤ m ∧ i = .int .i64 k ∧ bs1.length ≤ 1000000 + k ∧ bs1 ++ lEnc (m - k) (n / 256 ^ k) = bs ++ lEnc m n ∧ WrTo w wr gw v bs1) (fun _ i _ => m - (intOf i).toNat)
  case atStart => exact ⟨0, bs, by omega, rfl, by omega, by simp, WrTo.self h⟩
  case round =>
    obtain ⟨k, bs1, hk, rfl, hl, he, hw⟩ := hrel
    obtain ⟨v1, hw1, hfr, hmv⟩ := hw
    have c0 := hw1.c0
    have f0 := hw1.f0
    have own := hw1.2.1
    have HE := Lib.hid he; clear he
    have HR : Hid (Room (bs1.length + 1)) := Lib.hid (Room.mk (by omega))
    have HL := Lib.hid hl; clear hl
    clear hb
    by_cases hlt : (k : Int) < (m : Int)
    · have hw8 : IntKind.i64.wrap (8 * (k : Int)) = 8 * k := IntWalk.i64_in _ (by omega)
      have hp8 : 0 ≤ 8 * (k : Int) := by omega
      have hgw : gw < wr.heap.size := (Array.getElem?_eq_some_iff.1 hw1.1).1
      go_wp2
      go_region_law (refine app_step el5 (.tmp 15) (.tmp 21) rfl own rfl rfl rfl rfl rfl one8 HR.out ?_; intro g cap w1 hown hgrow hat hlt1; obtain ⟨c1, f1⟩ := hw1.cell1 hgrow; rw [byteAt] at hown; have W := hw1.app _ hown hgrow hat; clear hown hgrow hat hlt1)
      all_goals
        go_wp2
        go_roundw
        case rel =>
          refine ⟨k + 1, bs1 ++ [n / 256 ^ k % 256], by omega, by go_num, ?_, ?_, WrTo.trans hfr hmv W⟩
          · have := HL.out; simp; omega
          · rw [← HE.out]
            obtain ⟨j, hj⟩ : ∃ j, m - k = j + 1 := ⟨m - k - 1, by omega⟩
            rw [hj, lEnc, show m - (k + 1) = j by omega, Nat.pow_succ, Nat.div_div_eq_div_mul]
            simp
        case measure => simp [intOf]; omega
    · have e0 : m - k = 0 := by omega
      have HF : bs1 = bs ++ lEnc m n := by rw [← HE.out, e0, lEnc, List.append_nil]
      have HF' := Lib.hid HF; clear HF e0
      go_wp2
      go_end0
      exact ⟨rfl, by rw [← HF'.out]; exact ⟨v1, hw1, hfr, hmv⟩⟩

set_option maxHeartbeats 400000 in
theorem high_any (gw m n : Nat) (v : Value) (bs : List Nat) (w : World) (h : WrAt w gw v bs) (hn : n < 18446744073709551616) (hm : m = 2 ∨ m = 4 ∨ m = 8) (hb : bs.length ≤ 1000000) :
    Calls Try.prog 25 #[.pointer (some ⟨gw, 0, none⟩), .int .u64 n, .int .i64 m] w fun e w' => e = .returned (.tuple #[]) ∧ WrTo w w' gw v (bs ++ (lEnc m n).reverse) := by
  obtain ⟨ht, hl⟩ := turn_enc n m hn hm
  have hm8 : m ≤ 8 := by omega
  have HT := Lib.hid ht
  have HN := Lib.hid hn
  have HB := Lib.hid hb
  clear ht hl hm hn hb
  go_enter Try.func25, Try.ntmps25
  go_wp2_with (first | (go_at_call 33; refine (turned_any n m _ HN.out hm8).mono ?_; rintro e w' ⟨rfl, rfl⟩) | (go_at_call 23; refine (low_any gw m _ v bs _ h hm8 HB.out).mono ?_; rintro e w' ⟨rfl, hw⟩))
  go_end0
  exact ⟨rfl, by rw [← HT.out]; exact hw⟩

set_option maxHeartbeats 400000 in
theorem signed_any (gw m n : Nat) (v : Value) (bs : List Nat) (w : World) (h : WrAt w gw v bs) (hn : n < 18446744073709551616) (hm : 1 ≤ m) (hm2 : m ≤ 10) (hb : bs.length ≤ 1000000) :
    Calls Try.prog 29 #[.pointer (some ⟨gw, 0, none⟩), .int .u64 n, .int .i64 m] w fun e w' => e = .returned (.tuple #[]) ∧ WrTo w w' gw v (bs ++ vEnc (m - 1) (zz n)) := by
  have HM := Lib.hid (meant_wrap n (by omega) (by omega))
  have HZ := Lib.hid (zz_eq n hn)
  have B := Lib.hid (meant_bd n (by omega) (by omega))
  have HB := Lib.hid hb
  clear hn hb
  go_enter Try.func29, Try.ntmps29
  go_wp2_with (first | (go_at_call 13; rw [HM.out]; refine (sign_any _ _ B.out.1 B.out.2).mono ?_; rw [HZ.out]; rintro e w' ⟨rfl, rfl⟩) | (go_at_call 27; refine (few_any gw m _ v bs _ h hm hm2 HB.out).mono ?_; rintro e w' ⟨rfl, hw⟩))
  go_end0
  exact ⟨rfl, hw⟩
end Go.Proofs.Ytgjiepbaagmmiaa
