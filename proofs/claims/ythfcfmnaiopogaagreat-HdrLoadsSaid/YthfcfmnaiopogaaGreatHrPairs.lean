/- The landed histograms: the pairs in order. -/
import Derived.Test.YthfcfmnaiopogaaGreatHrCor
import Derived.Test.YthfcfmnaiopogaaGreatHrSort
import Derived.Test.YthfcfmnaiopogaaGreatDnAll
namespace Go.Proofs.YthfcfmnaiopogaaGreat
open Go.RowKit Go.ChangeMaps

/-- a row of pairs that came behind w -/
structure PrsSee (w w' : World) (p : Option Addr) (c n : Nat) (l : List Pr) : Prop where
  pri : PrI w' p l
  len : l.length = n
  fresh : ∀ a, p = some a → w.heap.size ≤ a.block
  fr : Fr S0 w w'
theorem Acc.new {w wr : World} {v : Value} {N : Nat} {L : List Pr} (a : Acc w wr v N L) : ∃ q d, v = .slice q N d ∧ PrsNew w wr q d N L := by
  obtain ⟨q, d, rfl⟩ := slFormN a.own
  refine ⟨q, d, rfl, a.own, a.len, fun x hx => ?_, a.fr⟩
  subst hx
  rcases a.own.2 with ⟨h1, -⟩ | ⟨g', cap, cur, h1, -⟩
  · cases h1
  · obtain ⟨h2, -, -⟩ := Value.slice.inj h1
    obtain rfl := Option.some.inj h2
    exact a.fresh g' rfl
theorem sorted_eq {l l' : List Pr} (hs : Srt l) (hp : l'.Perm l) (ho : ∀ i j, (hj : j < l'.length) → (hi : i < j) → (l'[i]'(by omega)).1 ≤ l'[j].1) : l' = l := by
  have h1 : l'.Pairwise fun a b => a.1 ≤ b.1 := List.pairwise_iff_getElem.2 fun i j hi hj hij => ho i j hj hij
  have h2 : l.Pairwise fun a b => a.1 ≤ b.1 := hs.imp fun h => by omega
  refine List.Perm.eq_of_pairwise (fun a b ha hb h3 h4 => ?_) h1 h2 hp
  have ha := hp.mem_iff.1 ha
  have := cnt_mem hs ha
  rw [show a.1 = b.1 by omega, cnt_mem hs hb] at this
  exact Prod.ext (by omega) this.symm

section
variable (g h : Nat) (M : Hm) (w : World) (s : HistIs w g h M)
include s
set_option maxRecDepth 100000 in
set_option maxHeartbeats 1000000 in
theorem xpairs_any (hl : M.l.length ≤ 100000) : Calls Tryz.prog 37 #[.pointer (some ⟨g, 0, none⟩)] w fun e w' => ∃ p c n, e = .returned (.slice p n c) ∧ PrsSee w w' p c n M.l := by
  have MP := Lib.hid s.mp
  have HSRT := Lib.hid s.good.srt
  have HHL := Lib.hid s.mp.lt
  obtain ⟨es, clock, hb, E⟩ := s.mp
  have HLEN := E.size_run h w hb
  have c7 := s.c7
  obtain ⟨l, el⟩ : ∃ l, M.l = l := ⟨_, rfl⟩
  rw [el] at MP HSRT HLEN hl ⊢
  obtain ⟨N, hN⟩ : ∃ N, l.length = N := ⟨_, rfl⟩
  rw [hN] at HLEN hl
  have HN := Lib.hid hN
  have HR : Hid (∀ k, k ≤ 100000 → Room k) := Lib.hid fun k hk => Room.mk (by omega)
  clear s E el hN
  go_enter Tryz.func37, Tryz.ntmps37
  go_wp2_with (first
    | (at_make; refine make_room elPr (.const (.int .i64 0)) (.tmp 10) rfl rfl rfl rfl (HR.out _ hl) ?_; intro w1 hown hf1; have HO := Lib.hid hown; have HF1 := Lib.hid hf1; have d7 := hf1.cell c7 (fun h => h); clear hown hf1 c7 hb)
    | (at_range; refine wpList_range_mp _ rfl _ rfl h l rfl (MP.out.fr HF1.out fun h => h) ?_; intro w2 it2 f2; have IT2 := Lib.hid it2; have F2 := Lib.hid f2; clear it2 f2))
  obtain ⟨r, hr⟩ : ∃ r, w1.heap.size = r := ⟨_, rfl⟩
  have HRW : Hid (w.heap.size < r) := Lib.hid (by rw [← hr]; exact (HO.out.lt w.heap.size rfl).2)
  rw [hr] at IT2
  rw [hr]
  clear hr
  go_frame
  go_loopw [3] (fun a wr => ∃ (D R : List Pr) (v : Value), a = v ∧ Hid (Acc w wr v D.length D ∧ Itr wr r h l D R ∧ ∀ k, v.ownBlock = some k → k ≠ r)) (fun _ wr => N - came wr r)
  case atStart => exact ⟨[], l, _, rfl, Lib.hid ⟨⟨F2.out.owns HO.out fun _ _ h => h, fun y hy => by obtain rfl := Option.some.inj hy; exact Nat.le_refl _, HF1.out.trans0 F2.out⟩, IT2.out, fun y hy => (Option.some.inj hy) ▸ Nat.ne_of_lt HRW.out⟩⟩
  case round =>
    obtain ⟨D, R, v, rfl, HK⟩ := hrel
    go_wp2_with (at_next; refine wpList_next_mp _ rfl _ rfl _ _ _ _ _ rfl HK.out.2.1 ?_ ?_)
    · intro hperm hR
      obtain ⟨q, d, rfl, hnew⟩ := HK.out.1.new
      have hpl := hperm.length_eq
      have hDn : D.length ≤ 1000000 := by have := HN.out; omega
      have HSO := Lib.hid (sort_any w wr q D.length d D hnew hDn)
      have HP := Lib.hid hperm
      have HFH := Lib.hid hnew.fresh
      clear hnew hperm hR
      obtain ⟨n, hn⟩ : ∃ n, D.length = n := ⟨_, rfl⟩
      rw [hn] at HSO hpl
      rw [hn]
      have HPL := Lib.hid hpl
      clear hpl hDn hn
      go_wp2_with fail
      refine HSO.out.mono ?_
      rintro e w5 ⟨rfl, l', hp', hle, hpri, hf⟩
      have hll : l' = l := sorted_eq HSRT.out (hp'.trans HP.out) hle
      have HE := Lib.hid (show PrsSee w w5 q d n l from ⟨hll ▸ hpri, HPL.out.symm, HFH.out, hf⟩)
      clear hp' hle hpri hf hll HSO
      go_wp2_with fail
      go_ret
      exact ⟨q, d, n, rfl, HE.out⟩
    · intro a b R' w3 hx it3 f3 hen
      have hir := it3.lt
      have hcm := it3.came
      have hcm0 := HK.out.2.1.came
      rw [List.length_append, List.length_singleton] at hcm
      have hN := HN.out
      have HA3 : Hid (Acc w w3 u3 D.length D) := Lib.hid ⟨f3.owns HK.out.1.own fun k hk e => HK.out.2.2 k hk e, HK.out.1.fresh, HK.out.1.fr.trans f3 fun j hj e => by have h1 := HRW.out; have h2 : j = r := e; omega⟩
      have HIT := Lib.hid it3
      have HRD : Hid (Room (D.length + 1)) := HR.out _ (by omega)
      have HCM := Lib.hid (show came wr r < N ∧ came wr r = D.length from ⟨by omega, hcm0.1⟩)
      have HIR := Lib.hid hir
      clear hx it3 f3 hir hcm hcm0 hN
      go_wp2_with ((with_reducible show wpList _ _ _ (Oper.mk (some 27) _ _ _ _ _ :: _) _ _); refine app_one elPr (.tmp 22) (.tmp 26) rfl HA3.out.own rfl rfl rfl rfl rfl (one_pr a b) HRD.out ?_; intro g1 cap1 w4 hown hgrow hat hlt; have HA4 := Lib.hid (HA3.out.app hown hgrow hat); have HIT4 := Lib.hid (HIT.out.fr ((Fr.alloc (fun k => u3.ownBlock = some k) w3 _).trans (Fr.grown hgrow) fun _ _ e => e) (fun e => HK.out.2.2 _ e rfl) (fun e => absurd (HK.out.1.fresh _ e) (Nat.not_le_of_lt HHL.out))); have HG4 : Hid (g1 ≠ r) := Lib.hid (hat.elim (fun e => HK.out.2.2 _ e) fun e => (by have := HIR.out; omega)); clear hown hgrow hat hlt)
      go_roundw
      case rel => exact ⟨D ++ [(a, b)], R', _, rfl, Lib.hid ⟨by rw [List.length_append]; exact HA4.out, HIT4.out, fun k hk => by obtain rfl := Option.some.inj hk; exact HG4.out⟩⟩
      case measure =>
        have h1 := HIT4.out.came
        rw [List.length_append, List.length_singleton] at h1
        have h2 := HCM.out
        omega
end
end Go.Proofs.YthfcfmnaiopogaaGreat
