/- The document's stacks: a value is put to a level. -/
import Derived.Test.YtbpfmjekpjfceaaKrStack
namespace Go.Proofs.Ytbpfmjekpjfceaa
open Go.RowKit

/-- how long the slice in a cell is -/
def lenAt (w : World) (a : Addr) : Nat := match w.cell? a with
  | some (.slice _ n _) => n
  | _ => 0
theorem RkIs.kept {C D : Nat → Prop} {w w3 : World} {g n c k E : Nat} {p : Option Addr} {rs : List Sv} {L : Lv} {o : Obj} (s : RkIs w g C D p n c rs k L E)
    (hg : (w.alloc o).grownBy w3 (Value.ownBlock (.slice p n c))) : w3.cell? ⟨g, 1, none⟩ = some (.slice p n c) ∧ w3.frozen? ⟨g, 1, none⟩ = false ∧ ∀ q m d, lenAt (w3.setCell ⟨g, 1, none⟩ (.slice q m d)) ⟨g, 1, none⟩ = m := by
  have f1 : Fr (fun x => Value.ownBlock (.slice p n c) = some x) w w3 := ((Fr.alloc S0 w o).mono fun _ _ h => h.elim).trans (Fr.grown hg) fun _ _ h => h
  have b3 := f1.row s.blk fun h => (s.own g h).1 rfl
  exact ⟨by simp [World.cell?, b3], by simp [World.frozen?, b3], fun q m d => by simp [lenAt, World.cell?, (three_set b3 (.slice q m d)).1]⟩
section
variable (g k E h : Nat) (C D : Nat → Prop) (L : Lv) (v : Int) (w : World)
set_option maxRecDepth 100000 in
set_option maxHeartbeats 4000000 in
theorem rput_any (s : RkS w g C D k L E) (hh : h ≤ 1000000) (hl : ∀ l ∈ L, l.length ≤ 1000000000) :
    Calls Try.prog 63 #[.pointer (some ⟨g, 0, none⟩), .int .i64 (h : Nat), .int .i64 v] w fun e w' => e = .returned (.tuple #[]) ∧ RkTurn w w' g C D k (putL L h v) E := by
  have HS := Lib.hid s
  have HLL := Lib.hid hl
  have hN0 : Hid (∃ p n c rs, RkIs w g C D p n c rs k L E) := Lib.hid s
  clear s hl
  go_enter Try.func63, Try.ntmps63
  go_wp2_with fail
  go_loopw [] (fun wr => ∃ M : Lv, Hid (RkTurn w wr g C D k M E) ∧ Hid (putL M h v = putL L h v) ∧ Hid (∀ l ∈ M, l.length ≤ 1000000000)) (fun wr => h + 1 - lenAt wr ⟨g, 1, none⟩)
  case atStart => exact ⟨L, Lib.hid (RkTurn.same HS.out (Fr.refl _ _)), Lib.hid rfl, HLL⟩
  case round =>
    obtain ⟨M, ht, hp, hM⟩ := hrel
    obtain ⟨C1, D1, ⟨p, n, c, rs, s⟩, f1, hC, hD⟩ := ht.out
    have c1 := s.c1
    have hlen := s.len
    have HSS := Lib.hid s
    have HF1 := Lib.hid f1
    have HC := Lib.hid hC
    have HD := Lib.hid hD
    have HM1 : Hid (lenAt wr ⟨g, 1, none⟩ = n) := Lib.hid (by unfold lenAt; rw [c1])
    have z1 := s.z 1
    clear s f1 hC hD ht
    by_cases hn : (n : Int) ≤ (h : Int)
    · have HR : Hid (Room (n + 1)) := Lib.hid (Room.mk (by omega))
      go_wp2_with (first
        | ((with_reducible show wpList _ _ _ (Oper.mk (some 19) _ _ _ _ _ :: _) _ _); refine app_one elR (.tmp 17) (.tmp 18) rfl HSS.out.out rfl rfl rfl rfl rfl (one_sv _ _ _) HR.out ?_; intro g1 cap1 w3 hown hgrow hat hlt; have HT := Lib.hid (RkTurn.after HF1.out HC.out HD.out (HSS.out.grow hown hgrow hat)); have d1 := (HSS.out.kept hgrow).1; have y1 := (HSS.out.kept hgrow).2.1; have HM2 := Lib.hid ((HSS.out.kept hgrow).2.2 (some ⟨g1, 0, none⟩) (n + 1) cap1); clear hown hgrow hat hlt)
        | fail)
      go_roundw
      case rel => exact ⟨M ++ [[]], HT, Lib.hid (by rw [putL_pad v M h (by omega), hp.out]), Lib.hid fun l hl => (List.mem_append.1 hl).elim (hM.out l) fun e => by rw [List.mem_singleton.1 e]; exact Nat.zero_le _⟩
      case measure => rw [HM2.out, HM1.out]; omega
    · have hhM : h < M.length := by omega
      obtain ⟨b, rfl, -, -, q, m, d, ch, z, zh, -⟩ := HSS.out.lev h hhM
      have hm : m ≤ 1000000000 := by rw [← z.len]; exact hM.out _ (List.getElem_mem hhM)
      have HLV : Hid (∀ W, Fr S0 wr W → W.cell? ⟨g, 1, none⟩ = some (.slice (some ⟨b, 0, none⟩) n c) ∧ W.cell? ⟨b, h, none⟩ = some (.slice q m d) ∧ W.frozen? ⟨b, h, none⟩ = false) := Lib.hid fun W f => by
        refine ⟨f.cell c1 (fun h => h), f.cell ch (fun h => h), ?_⟩
        obtain ⟨b', hb', -, -, -, -, -, -, -, hz, -⟩ := (HSS.out.fr0 f).lev h hhM
        simp only [Option.some.injEq, Addr.mk.injEq, and_true] at hb'
        subst hb'
        exact hz
      have HI := Lib.hid (fun W (f : Fr S0 wr W) => rinto_any q m d M[h] v W (z.fr0 f) hm)
      have HP : Hid (putL L h v = M.set h (insZ v M[h])) := Lib.hid (by rw [← hp.out, putL_set])
      have hh0 : (0 : Int) ≤ (h : Int) := by omega
      replace hn : (h : Int) < (n : Int) := by omega
      clear z hM hm
      go_wp2_with fail
      go_region_law (first
        | (go_simp; go_at_call 81; (with_reducible refine (HI.out _ (Fr.drew S0 _)).mono ?_); rintro _ w3 ⟨u, rfl, acc⟩; obtain ⟨pu, cu, rfl⟩ := slFormN acc.own; have A3 := Lib.hid acc; obtain ⟨e1, e2, e3⟩ := HLV.out _ ((Fr.drew S0 _).trans0 acc.fr); clear acc; dsimp only))
      all_goals
        have HT := Lib.hid (RkTurn.after HF1.out HC.out HD.out (HSS.out.lay (h := h) ((Fr.drew S0 _).trans0 A3.out.fr) (Sz.ofOwns A3.out.own) (fun a ha => ⟨Nat.le_trans (Fr.drew S0 wr).size (A3.out.fresh a.block (by subst ha; rfl)), (A3.out.own.lt a.block (by subst ha; rfl)).2⟩)))
        rw [← HP.out] at HT
        clear e1 e2 e3 A3
        go_wp2_with fail
        go_end0
        exact ⟨rfl, HT.out⟩
end
end Go.Proofs.Ytbpfmjekpjfceaa
