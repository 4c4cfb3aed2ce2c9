/- One pair, loaded into a histogram that doesn't grow. -/
import Derived.Test.YthfcfmnaiopogaaGreatHrLoadMath
namespace Go.Proofs.YthfcfmnaiopogaaGreat
open Go.RowKit

/-- the key's cell is one of the first buckets' -/
def Fit (L H D : Nat) (key : Int) : Prop := (0 ≤ key ∧ ibk (mag D) key.toNat ≤ 63 - (unt L + mag D)) ∧ vof (unt L) (mag D) key.toNat ≤ top (unt L) (mag D) (1 + bkt (unt L + mag D) H)
theorem pri_one {W : World} {b : Nat} {k : Int} {t : TypeId} (h : W.heap[b]? = some (.cells #[.int .i64 k, .int .u64 1] t (0, 0))) : PrI W (some ⟨b, 0, none⟩) [(k, 1)] := by
  refine ⟨by simp [maxLen], fun _ => ⟨b, 0, rfl, fun i hi => ?_⟩⟩
  obtain rfl : i = 0 := by simpa using hi
  exact ⟨by simp [World.cell?, h], by simp [World.cell?, h]⟩
section
variable (L H D : Nat) (w : World) (h1 : 1 ≤ D) (h5 : D ≤ 5) (h0 : 0 < L) (hh : 2 * L ≤ H) (hb : H < 9223372036854775808) (hs : unt L + mag D ≤ 62)
include h1 h5 h0 hh hb hs
theorem load_one (p : Option Addr) (c : Nat) (key : Int) (hk1 : -9223372036854775808 ≤ key) (hk2 : key ≤ 9223372036854775807) (hl : PrI w p [(key, 1)]) (bk : Int) :
    Calls Tryz.prog 35 #[.agg #[.int .i64 (L : Nat), .int .i64 (H : Nat), .int .i64 (D : Nat)], .bool false, .int .i64 bk, .slice p 1 c] w fun e w' => Fr S0 w w' ∧ (((Fit L H D key ∧ bk = (1 + bkt (unt L + mag D) H : Nat)) ∧ ∃ g, e = .returned (.tuple #[.pointer (some ⟨g, 0, none⟩), .int .i64 0])) ∨ (¬ (Fit L H D key ∧ bk = (1 + bkt (unt L + mag D) H : Nat)) ∧ e = .returned (.tuple #[.pointer none, .int .i64 1]))) := by
  have hg := Hm.new_good L H D false h1 h5 h0 hh hb hs
  by_cases hv : 0 ≤ key ∧ ibk (mag D) key.toNat ≤ 63 - (unt L + mag D)
  · obtain ⟨K, rfl⟩ : ∃ K : Nat, key = K := ⟨key.toNat, by omega⟩
    have hv2 := hv.2
    rw [show ((K : Nat) : Int).toNat = K by omega] at hv2
    have hK : K < 9223372036854775808 := by omega
    have hvl := vof_lt (unt L) (mag D) K hg.m1 (by omega) hv2
    have hp2 := two_pos (unt L + ibk (mag D) K)
    by_cases ht : vof (unt L) (mag D) K ≤ top (unt L) (mag D) (1 + bkt (unt L + mag D) H)
    · have hck : (Hm.new L H D false).check (vof (unt L) (mag D) K : Nat) 1 = 0 := by
        unfold Hm.check
        rw [if_neg (by decide), if_neg (fun h => h.elim (fun h => by omega) fun h => by have h2 := h.2; simp only [Hm.new] at h2; omega), if_neg (by simp [Hm.new, ltot])]
      have hbb : ((Hm.new L H D false).record (vof (unt L) (mag D) K : Nat) 1).b = 1 + bkt (unt L + mag D) H := by
        unfold Hm.record
        rw [if_pos hck]
        have h3 := hg.top_bkt (v := vof (unt L) (mag D) K) ht
        show max (Hm.new L H D false).b (1 + bkt _ ((vof (unt L) (mag D) K : Nat) : Int).toNat) = _
        rw [show ((vof (unt L) (mag D) K : Nat) : Int).toNat = vof (unt L) (mag D) K by omega]
        have h4 : (Hm.new L H D false).b = 1 + bkt (unt L + mag D) H := rfl
        rw [h4] at h3 ⊢
        simp only [Hm.new] at h3 ⊢
        omega
      have htb : Tb [((K : Int), 1)] := ⟨List.pairwise_singleton _ _, fun x hx => by rw [List.mem_singleton.1 hx]; exact Nat.one_pos, by simp [ltot]⟩
      refine (xload_any L H D false w h1 h5 h0 hh hb hs p 1 c [((K : Int), 1)] hl rfl (by decide) htb (fun i => if i = 0 then Hm.new L H D false else (Hm.new L H D false).record (vof (unt L) (mag D) K : Nat) 1) rfl (fun i hi => ?_) bk).mono fun e w' he => ?_
      · obtain rfl : i = 0 := by simpa using hi
        exact ⟨K, rfl, hK, hv2, hck, rfl⟩
      · obtain ⟨f, ⟨e1, g, hm, e2, -⟩ | ⟨e1, e2⟩⟩ := he
        · exact ⟨f, .inl ⟨⟨⟨hv, by rw [show ((K : Nat) : Int).toNat = K by omega]; exact ht⟩, by rw [e1, if_neg (by decide), hbb]⟩, g, e2⟩⟩
        · exact ⟨f, .inr ⟨fun h => e1 (by rw [h.2, if_neg (by decide), hbb]), e2⟩⟩
    · refine (xload_no L H D false w h1 h5 h0 hh hb hs p c (K : Nat) hl bk (.inr ⟨K, rfl, hK, hv2, ?_⟩)).mono fun e w' he => ⟨he.2, .inr ⟨fun h => ht (by have := h.1.2; rwa [show ((K : Nat) : Int).toNat = K by omega] at this), he.1⟩⟩
      unfold Hm.check
      rw [if_neg (by decide), if_pos (.inr ⟨rfl, by simp only [Hm.new]; omega⟩)]
      decide
  · refine (xload_no L H D false w h1 h5 h0 hh hb hs p c key hl bk (.inl fun g W m => ?_)).mono fun e w' he => ⟨he.2, .inr ⟨fun h => hv h.1.1, he.1⟩⟩
    by_cases hn : key < 0
    · exact value_neg g (L : Nat) (H : Nat) (D : Nat) (unt L) (mag D) W m key hn hk1
    · obtain ⟨K, rfl⟩ : ∃ K : Nat, key = K := ⟨key.toNat, by omega⟩
      exact value_no g (L : Nat) (H : Nat) (D : Nat) (unt L) (mag D) W m K (by omega) (by
        have h3 : ¬ ibk (mag D) ((K : Nat) : Int).toNat ≤ 63 - (unt L + mag D) := fun h => hv ⟨by omega, h⟩
        rw [show ((K : Nat) : Int).toNat = K by omega] at h3
        omega)
end
end Go.Proofs.YthfcfmnaiopogaaGreat
