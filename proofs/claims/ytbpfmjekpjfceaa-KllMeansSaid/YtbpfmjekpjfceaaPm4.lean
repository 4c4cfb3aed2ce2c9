/- KlRow, KrInto -/
import Derived.Test.YtbpfmjekpjfceaaPm1
import Derived.Test.YtbpfmjekpjfceaaPm2
import Derived.Test.YtbpfmjekpjfceaaPm3
import Derived.Maps.AppendAt
import Derived.Laws.AppendOwnNone
import Derived.Laws.OwnMore
import Derived.Lib.AppendZerosOnto
import Derived.Lib.SliceRun
import Derived.Lib.Walk
import Derived.WalkKit
import Derived.Laws.BytesArg
import Derived.Lib.SlBytesConst
import Derived.WalkSpells
import Derived.WalkLawsBesides
import Derived.Deep.QuietTactic
import Derived.BigQuiet
import Derived.RegionTactic
import Derived.Deep.AppendLies
import Derived.Deep.RegionLaw
import Derived.Laws.ResultCell
import Derived.Laws.EntriesVeiled
import Derived.Lib.Hide
import Derived.Test.YtbpfmjekpjfceaaRows
set_option maxRecDepth 100000
set_option maxHeartbeats 8000000
namespace Go.Proofs.Ytbpfmjekpjfceaa
open Go.RowKit
theorem info_int64 : (Try.prog.info? 2).map (fun i => (i.zero, i.size, i.bytes)) = some (some (.int .i64 0), 1, 8) := by kernel_rfl
theorem elZ : ElemOk Try.prog 53 2 (.int .i64 0) 1 8 := ⟨Try.underlying53, info_int64, rfl, by decide, by decide⟩
theorem info_rows : (Try.prog.info? 53).map (fun i => (i.zero, i.size, i.bytes)) = some (some (.slice none 0 0), 1, 24) := by kernel_rfl
theorem elR : ElemOk Try.prog 33 53 (.slice none 0 0) 1 24 := ⟨Try.underlying33, info_rows, rfl, by decide, by decide⟩
def zs (l : List Int) : List Value := l.map fun x => .int .i64 x
theorem zs_app (a b : List Int) : zs (a ++ b) = zs a ++ zs b := by simp [zs]
theorem zs_len (l : List Int) : (zs l).length = l.length := by simp [zs]
theorem one_z (x : Int) : ∀ u ∈ (#[Value.int .i64 x]).toList, u.oneCell' = true := by
  intro u hu
  simp only [List.mem_cons, List.not_mem_nil, or_false] at hu
  rw [hu]
  rfl
theorem one_zs (l : List Int) : ∀ u ∈ zs l, u.oneCell' = true := by
  intro u hu
  obtain ⟨x, -, rfl⟩ := List.mem_map.1 hu
  rfl
theorem own_cap {w : World} {e : TypeId} {s : Nat} {q : Option Addr} {n d m : Nat} {xs : List Value} (h : w.ownsRow 0 e s (.slice q n d) m xs) : n ≤ d ∧ d ≤ maxLen ∧ (q = none → d = 0) := by
  rcases h.2 with ⟨hv, -⟩ | ⟨g, cap, cur, hv, _, _, h1, h2, _⟩
  · simp only [Value.slice.injEq] at hv
    obtain ⟨-, rfl, rfl⟩ := hv
    exact ⟨Nat.le_refl _, Nat.zero_le _, fun _ => rfl⟩
  · simp only [Value.slice.injEq] at hv
    obtain ⟨rfl, rfl, rfl⟩ := hv
    exact ⟨h1, h2, fun h => by cases h⟩
theorem slFormN {w : World} {e : TypeId} {s : Nat} {v : Value} {n : Nat} {xs : List Value} (h : w.ownsRow 0 e s v n xs) : ∃ p c, v = .slice p n c := by
  rcases h.2 with ⟨h, h0⟩ | ⟨g, cap, cur, h, _⟩
  · exact ⟨none, 0, by rw [h, h0]⟩
  · exact ⟨_, _, h⟩
structure Sz (w : World) (p : Option Addr) (n c : Nat) (l : List Int) : Prop where
  len : l.length = n
  cel : l ≠ [] → ∃ b o, p = some ⟨b, o, none⟩ ∧ ∀ i, (h : i < l.length) → w.cell? ⟨b, o + i, none⟩ = some (.int .i64 l[i])
  cap : n ≤ c
  max : c ≤ maxLen
  nil : p = none → c = 0
  form : 0 < c → ∃ b o, p = some ⟨b, o, none⟩
section
variable {S : Nat → Prop} {w w' : World} {p : Option Addr} {n c : Nat} {l : List Int}
theorem Sz.at (h : Sz w p n c l) (i : Nat) (hi : i < l.length) : ∃ b o, p = some ⟨b, o, none⟩ ∧ w.cell? ⟨b, o + i, none⟩ = some (.int .i64 l[i]) := by
  obtain ⟨b, o, hp, hc⟩ := h.cel (fun e => by rw [e] at hi; exact absurd hi (Nat.not_lt_zero _))
  exact ⟨b, o, hp, hc i hi⟩
theorem Sz.fr (h : Sz w p n c l) (f : Fr S w w') (ho : l ≠ [] → Off S p) : Sz w' p n c l :=
  ⟨h.len, fun hl => let ⟨b, o, hp, hc⟩ := h.cel hl; ⟨b, o, hp, fun i hi => f.cell (hc i hi) (ho hl ⟨b, o, none⟩ hp)⟩, h.cap, h.max, h.nil, h.form⟩
theorem Sz.fr0 (h : Sz w p n c l) (f : Fr S0 w w') : Sz w' p n c l := h.fr f fun _ => Off.s0 p
theorem Sz.emp (w : World) : Sz w none 0 0 [] := ⟨rfl, fun h => absurd rfl h, Nat.le_refl _, Nat.zero_le _, fun _ => rfl, fun h => absurd h (Nat.lt_irrefl _)⟩
theorem Sz.lt (h : Sz w p n c l) (hl : l ≠ []) : ∀ a, p = some a → a.block < w.heap.size := by
  intro a ha
  obtain ⟨b, o, hp, hc⟩ := h.cel hl
  rw [hp] at ha
  obtain rfl := Option.some.inj ha
  exact World.block_lt_of_cell? w _ (hc 0 (List.length_pos_iff.2 hl))
theorem Sz.ofOwns (h : w.ownsRow 0 2 1 (.slice p n c) n (zs l)) : Sz w p n c l := by
  obtain ⟨h1, h2, h3⟩ := own_cap h
  have hl : l.length = n := by have := h.1; rw [zs_len] at this; omega
  have hf : 0 < c → ∃ b o, p = some ⟨b, o, none⟩ := fun hc => by
    rcases h.2 with ⟨hv, -⟩ | ⟨g, cap, cur, hv, -⟩
    · simp only [Value.slice.injEq] at hv
      omega
    · simp only [Value.slice.injEq] at hv
      exact ⟨g, 0, hv.1⟩
  refine ⟨hl, fun hne => ?_, h1, h2, h3, hf⟩
  rcases h.2 with ⟨hv, hn⟩ | ⟨g, cap, cur, hv, _⟩
  · exact absurd (List.eq_nil_of_length_eq_zero (by omega)) hne
  · simp only [Value.slice.injEq] at hv
    obtain ⟨rfl, -, rfl⟩ := hv
    refine ⟨g, 0, rfl, fun i hi => ?_⟩
    rw [Nat.zero_add, h.cellAt i (by omega)]
    simp [zs, hi]
end
structure AccZ (w wr : World) (v : Value) (N : Nat) (L : List Int) : Prop where
  own : wr.ownsRow 0 2 1 v N (zs L)
  fresh : Fresh w v
  fr : Fr S0 w wr
section
variable {w wr w2 w3 : World} {v : Value} {N : Nat} {L : List Int}
theorem AccZ.nil (f : Fr S0 w wr) : AccZ w wr (.slice none 0 0) 0 [] := ⟨World.ownsRow_nil _ _ _ _, fresh_nil _ _, f⟩
theorem AccZ.len (h : AccZ w wr v N L) : L.length = N := by
  have := h.own.1
  rw [zs_len] at this
  omega
theorem AccZ.fr0 (h : AccZ w wr v N L) (f : Fr S0 wr w2) : AccZ w w2 v N L := ⟨f.owns h.own fun _ _ h => h, h.fresh, h.fr.trans0 f⟩
theorem AccZ.app {o : Obj} {g cap : Nat} {x : Int} (h : AccZ w wr v N L) (own : w3.ownsRow 0 2 1 (.slice (some ⟨g, 0, none⟩) (N + 1) cap) (N + 1) (zs L ++ #[Value.int .i64 x].toList))
    (hg : (wr.alloc o).grownBy w3 v.ownBlock) (hat : v.ownBlock = some g ∨ g = wr.heap.size + 1) : AccZ w w3 (.slice (some ⟨g, 0, none⟩) (N + 1) cap) (N + 1) (L ++ [x]) :=
  ⟨by rw [show zs (L ++ [x]) = zs L ++ #[Value.int .i64 x].toList by simp [zs]]; exact own, fresh_app h.fr h.fresh hat, (h.fr.trans0 (Fr.alloc S0 wr _)).append hg h.fresh⟩
theorem AccZ.sl (h : AccZ w wr v N L) : ∃ p c, v = .slice p N c ∧ Sz wr p N c L ∧ ∀ a, p = some a → w.heap.size ≤ a.block ∧ a.block < wr.heap.size := by
  obtain ⟨p, c, rfl⟩ := slFormN h.own
  refine ⟨p, c, rfl, Sz.ofOwns h.own, fun a ha => ?_⟩
  subst ha
  exact ⟨h.fresh a.block rfl, (h.own.lt a.block rfl).2⟩
end
abbrev Sv := Option Addr × Nat × Nat
def svs (rs : List Sv) : List Value := rs.map fun r => .slice r.1 r.2.1 r.2.2
theorem svs_len (rs : List Sv) : (svs rs).length = rs.length := by simp [svs]
theorem one_sv (p : Option Addr) (n c : Nat) : ∀ u ∈ (#[Value.slice p n c]).toList, u.oneCell' = true := by
  intro u hu
  simp only [List.mem_cons, List.not_mem_nil, or_false] at hu
  rw [hu]
  rfl
structure Lvs (w : World) (D : Nat → Prop) (rs : List Sv) (L : Lv) : Prop where
  len : rs.length = L.length
  sz : ∀ h (hr : h < rs.length) (hl : h < L.length), Sz w rs[h].1 rs[h].2.1 rs[h].2.2 L[h]
  dd : ∀ h (hr : h < rs.length), ∀ a, rs[h].1 = some a → D a.block
section
variable {S D D' : Nat → Prop} {w w' : World} {rs : List Sv} {L : Lv}
theorem Lvs.fr (h : Lvs w D rs L) (f : Fr S w w') (ho : ∀ b, D b → ¬ S b) : Lvs w' D rs L :=
  ⟨h.len, fun i hr hl => (h.sz i hr hl).fr f fun _ a ha => ho _ (h.dd i hr a ha), h.dd⟩
theorem Lvs.fr0 (h : Lvs w D rs L) (f : Fr S0 w w') : Lvs w' D rs L := h.fr f fun _ _ h => h
theorem Lvs.mono (h : Lvs w D rs L) (hd : ∀ b, D b → D' b) : Lvs w D' rs L := ⟨h.len, h.sz, fun i hr a ha => hd _ (h.dd i hr a ha)⟩
theorem Lvs.nil (w : World) (D : Nat → Prop) : Lvs w D [] [] := ⟨rfl, fun _ hr => absurd hr (Nat.not_lt_zero _), fun _ hr => absurd hr (Nat.not_lt_zero _)⟩
theorem Lvs.snoc (h : Lvs w D rs L) {p : Option Addr} {n c : Nat} {l : List Int} (s : Sz w p n c l) (hd : ∀ a, p = some a → D a.block) : Lvs w D (rs ++ [(p, n, c)]) (L ++ [l]) := by
  have hlen := h.len
  refine ⟨by simp [hlen], fun i hr hl => ?_, fun i hr a ha => ?_⟩
  · by_cases hi : i < rs.length
    · rw [show (rs ++ [(p, n, c)])[i] = rs[i] from List.getElem_append_left hi, show (L ++ [l])[i] = L[i]'(by omega) from List.getElem_append_left (by omega)]
      exact h.sz i hi (by omega)
    · rw [List.length_append, List.length_singleton] at hr
      obtain rfl : i = rs.length := by omega
      have e1 : (rs ++ [(p, n, c)])[rs.length] = (p, n, c) := by simp
      have e2 : (L ++ [l])[rs.length]'(by simp [hlen]) = l := by simp [hlen]
      rw [e1, e2]
      exact s
  · by_cases hi : i < rs.length
    · simp only [List.getElem_append_left hi] at ha
      exact h.dd i hi a ha
    · rw [List.length_append, List.length_singleton] at hr
      obtain rfl : i = rs.length := by omega
      simp only [List.getElem_append_right (Nat.le_refl _), Nat.sub_self, List.getElem_cons_zero] at ha
      exact hd a ha
theorem Lvs.set (h : Lvs w D rs L) {p : Option Addr} {n c : Nat} {l : List Int} (s : Sz w p n c l) (hd : ∀ a, p = some a → D a.block) (j : Nat) : Lvs w D (rs.set j (p, n, c)) (L.set j l) := by
  refine ⟨by simp [h.len], fun i hr hl => ?_, fun i hr a ha => ?_⟩
  · rw [List.length_set] at hr hl
    by_cases hij : j = i
    · subst hij
      simp only [List.getElem_set_self]
      exact s
    · simp only [List.getElem_set_ne hij]
      exact h.sz i hr hl
  · rw [List.length_set] at hr
    by_cases hij : j = i
    · subst hij
      simp only [List.getElem_set_self] at ha
      exact hd a ha
    · simp only [List.getElem_set_ne hij] at ha
      exact h.dd i hr a ha
end
theorem rows_at {w : World} {g c n : Nat} {rs : List Sv} (own : w.ownsRow 0 53 1 (.slice (some ⟨g, 0, none⟩) n c) n (svs rs)) (j : Nat) (hj : j < rs.length) : w.cell? ⟨g, j, none⟩ = some (.slice rs[j].1 rs[j].2.1 rs[j].2.2) := by
  have hl := own.1
  rw [svs_len] at hl
  rw [own.cellAt j (by omega)]
  simp [svs, hj]
theorem rows_some {w : World} {p : Option Addr} {n c : Nat} {rs : List Sv} (own : w.ownsRow 0 53 1 (.slice p n c) n (svs rs)) (h : 0 < rs.length) : ∃ g, p = some ⟨g, 0, none⟩ := by
  rcases own.2 with ⟨hv, hn⟩ | ⟨g, cap, cur, hv, _⟩
  · have hl := own.1
    rw [svs_len] at hl
    omega
  · simp only [Value.slice.injEq] at hv
    exact ⟨g, hv.1⟩
theorem rows_set {w : World} {g c n : Nat} {rs : List Sv} (own : w.ownsRow 0 53 1 (.slice (some ⟨g, 0, none⟩) n c) n (svs rs)) (j : Nat) (p : Option Addr) (m d : Nat) :
    (w.setCell ⟨g, j, none⟩ (.slice p m d)).ownsRow 0 53 1 (.slice (some ⟨g, 0, none⟩) n c) n (svs (rs.set j (p, m, d))) ∧ Fr (· = g) w (w.setCell ⟨g, j, none⟩ (.slice p m d)) := by
  obtain ⟨ho, -⟩ := own.stored j (.slice p m d)
  refine ⟨?_, Fr.setCell (· = g) w ⟨g, j, none⟩ _ rfl⟩
  unfold svs at ho ⊢
  rw [List.map_set]
  exact ho
end Go.Proofs.Ytbpfmjekpjfceaa

namespace Go.Proofs.Ytbpfmjekpjfceaa
open Go.RowKit
section
variable (p : Option Addr) (n c : Nat) (l : List Int) (v : Int) (w : World)
theorem rinto_any (h : Sz w p n c l) (hN : n ≤ 1000000000) :
    Calls Try.prog 81 #[.slice p n c, .int .i64 v] w fun e w' => ∃ u, e = .returned u ∧ AccZ w w' u (n + 1) (insZ v l) := by
  have HS := Lib.hid h
  have HL := Lib.hid h.len
  clear h
  have hNi : (n : Int) ≤ 1000000000 := by omega
  go_enter Try.func81, Try.ntmps81
  go_wp2_with fail
  go_loopw [5, 6, 7] (fun o d z wr => ∃ (i N : Nat) (b : Bool) (acc : List Int), z = .int .i64 (i : Int) ∧ d = .bool b ∧ i ≤ n ∧ N = (if b then i + 1 else i) ∧ Hid (AccZ w wr o N acc) ∧ Hid (insZ v l = acc ++ (if b then l.drop i else insZ v (l.drop i)))) (fun _ _ z _ => n - (intOf z).toNat)
  case atStart => exact ⟨0, 0, false, [], rfl, rfl, by omega, rfl, Lib.hid (AccZ.nil (Fr.refl _ _)), Lib.hid rfl⟩
  case round =>
    obtain ⟨i, N, b, acc, rfl, rfl, hi, hNb, hacc, heq⟩ := hrel
    obtain ⟨pv, cv, rfl⟩ := slFormN hacc.out.own
    by_cases hin : (i : Int) < (n : Int)
    · have hil : i < l.length := by rw [HL.out]; omega
      obtain ⟨b1, o1, rfl, d0⟩ := (HS.out.fr0 hacc.out.fr).at i hil
      have hdr := List.drop_eq_getElem_cons hil
      have HD : Hid (∀ W, Fr S0 w W → W.cell? ⟨b1, o1 + i, none⟩ = some (.int .i64 l[i])) := Lib.hid fun W f => by
        obtain ⟨b', o', hp', c0⟩ := (HS.out.fr0 f).at i hil
        simp only [Option.some.injEq, Addr.mk.injEq] at hp'
        obtain ⟨rfl, rfl, -⟩ := hp'
        exact c0
      obtain ⟨x, hx⟩ : ∃ x, l[i] = x := ⟨_, rfl⟩
      rw [hx] at d0 hdr HD
      clear hx
      cases b with
      | true =>
        obtain rfl : N = i + 1 := hNb
        have HNX : Hid (insZ v l = (acc ++ [x]) ++ l.drop (i + 1)) := Lib.hid (by rw [heq.out, if_pos rfl, hdr]; simp)
        have HR : Hid (Room (i + 1 + 1)) := Lib.hid (Room.mk (by omega))
        clear heq hdr
        go_wp2_with (first
          | ((with_reducible show wpList _ _ _ (Oper.mk (some 34) _ _ _ _ _ :: _) _ _); refine app_one elZ (.tmp 28) (.tmp 33) rfl hacc.out.own rfl rfl rfl rfl rfl (one_z _) HR.out ?_; intro g1 cap1 w3 hown hgrow hat hlt; have HA3 := Lib.hid (hacc.out.app hown hgrow hat); clear hown hgrow hat hlt)
          | fail)
        go_roundw
        case rel => exact ⟨i + 1, i + 1 + 1, true, acc ++ [x], by go_num, rfl, by omega, rfl, HA3, Lib.hid (by rw [HNX.out, if_pos rfl])⟩
        case measure => simp [intOf]; omega
      | false =>
        obtain rfl : N = i := hNb
        by_cases hv : v < x
        · have HNX : Hid (insZ v l = ((acc ++ [v]) ++ [x]) ++ l.drop (N + 1)) := Lib.hid (by rw [heq.out, if_neg (by decide), hdr, insZ, if_pos hv]; simp)
          have HR : Hid (Room (N + 1)) := Lib.hid (Room.mk (by omega))
          have HR2 : Hid (Room (N + 1 + 1)) := Lib.hid (Room.mk (by omega))
          have kv : decide (v < x) = true := decide_eq_true hv
          clear heq hdr hv
          go_wp2_with (first
            | ((with_reducible show wpList _ _ _ (Oper.mk (some 27) _ _ _ _ _ :: _) _ _); refine app_one elZ (.tmp 24) (.tmp 26) rfl hacc.out.own rfl rfl rfl rfl rfl (one_z _) HR.out ?_; intro g1 cap1 w3 hown hgrow hat hlt; have HA3 := Lib.hid (hacc.out.app hown hgrow hat); have d1 := HD.out _ HA3.out.fr; clear hown hgrow hat hlt)
            | ((with_reducible show wpList _ _ _ (Oper.mk (some 34) _ _ _ _ _ :: _) _ _); refine app_one elZ (.tmp 28) (.tmp 33) rfl HA3.out.own rfl rfl rfl rfl rfl (one_z _) HR2.out ?_; intro g2 cap2 w4 hown hgrow hat hlt; have HA4 := Lib.hid (HA3.out.app hown hgrow hat); clear hown hgrow hat hlt)
            | fail)
          go_roundw
          case rel => exact ⟨N + 1, N + 1 + 1, true, (acc ++ [v]) ++ [x], by go_num, rfl, by omega, rfl, HA4, Lib.hid (by rw [HNX.out, if_pos rfl])⟩
          case measure => simp [intOf]; omega
        · have HNX : Hid (insZ v l = (acc ++ [x]) ++ insZ v (l.drop (N + 1))) := Lib.hid (by rw [heq.out, if_neg (by decide), hdr, insZ, if_neg hv]; simp)
          have HR : Hid (Room (N + 1)) := Lib.hid (Room.mk (by omega))
          have kv : decide (v < x) = false := decide_eq_false hv
          clear heq hdr hv
          go_wp2_with (first
            | ((with_reducible show wpList _ _ _ (Oper.mk (some 34) _ _ _ _ _ :: _) _ _); refine app_one elZ (.tmp 28) (.tmp 33) rfl hacc.out.own rfl rfl rfl rfl rfl (one_z _) HR.out ?_; intro g1 cap1 w3 hown hgrow hat hlt; have HA3 := Lib.hid (hacc.out.app hown hgrow hat); clear hown hgrow hat hlt)
            | fail)
          go_roundw
          case rel => exact ⟨N + 1, N + 1, false, acc ++ [x], by go_num, rfl, by omega, rfl, HA3, Lib.hid (by rw [HNX.out, if_neg (by decide)])⟩
          case measure => simp [intOf]; omega
    · obtain rfl : i = n := by omega
      have hdn : l.drop i = [] := by rw [← HL.out, List.drop_length]
      cases b with
      | true =>
        obtain rfl : N = i + 1 := hNb
        have HE : Hid (insZ v l = acc) := Lib.hid (by rw [heq.out, if_pos rfl, hdn, List.append_nil])
        clear heq hdn
        go_wp2_with fail
        go_ret
        exact ⟨_, rfl, by rw [HE.out]; exact hacc.out⟩
      | false =>
        obtain rfl : N = i := hNb
        have HE : Hid (insZ v l = acc ++ [v]) := Lib.hid (by rw [heq.out, if_neg (by decide), hdn, insZ])
        have HR : Hid (Room (N + 1)) := Lib.hid (Room.mk (by omega))
        clear heq hdn
        go_wp2_with (first
          | ((with_reducible show wpList _ _ _ (Oper.mk (some 40) _ _ _ _ _ :: _) _ _); refine app_one elZ (.tmp 37) (.tmp 39) rfl hacc.out.own rfl rfl rfl rfl rfl (one_z _) HR.out ?_; intro g1 cap1 w3 hown hgrow hat hlt; have HA3 := Lib.hid (hacc.out.app hown hgrow hat); clear hown hgrow hat hlt)
          | fail)
        go_ret
        exact ⟨_, rfl, by rw [HE.out]; exact HA3.out⟩
end
end Go.Proofs.Ytbpfmjekpjfceaa
