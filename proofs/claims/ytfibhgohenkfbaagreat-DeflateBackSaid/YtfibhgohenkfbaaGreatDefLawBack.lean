/- The law on what was written and is read. -/
import Derived.Test.YtfibhgohenkfbaaGreatDefPure
namespace Go.Proofs.YtfibhgohenkfbaaGreat
open Go.RowKit

/-- how a call ends that tells the bytes A -/
def Says (A : List Nat) (N : Nat) (w : World) (e : Ending) (w' : World) : Prop := ∃ q c, e = .returned (.slice q N c) ∧ Fr S0 w w' ∧ w'.ownsRow 0 5 1 (.slice q N c) N (u8s A)
theorem says {A : List Nat} {N : Nat} (hA : A.length = N) {w : World} {e : Ending} {w' : World} (h : ∃ v, e = .returned v ∧ Fr S0 w w' ∧ RowNew w w' v A) : Says A N w e w' := by
  obtain ⟨v, rfl, f, hv⟩ := h
  obtain ⟨q, c, rfl, -, -, -⟩ := slForm hv.own
  subst hA
  exact ⟨q, c, rfl, f, hv.own⟩
/-- a stream that was written -/
structure StrIs (w : World) (q : Option Addr) (N c : Nat) (S T : List Nat) : Prop where
  own : w.ownsRow 0 5 1 (.slice q N c) N (u8s S)
  len : S.length = N
  small : ∀ x ∈ S, x < 256
  few : N ≤ 3000
  reads : Reads S T
theorem StrIs.fr0 {w w' : World} {q : Option Addr} {N c : Nat} {S T : List Nat} (h : StrIs w q N c S T) (f : Fr S0 w w') : StrIs w' q N c S T := ⟨f.owns h.own (fun _ _ h => h), h.len, h.small, h.few, h.reads⟩
theorem read1 {q : Option Addr} {c NX n N K : Nat} {Y T : List Nat} {w : World} (hY : Y.length = NX) (hT : T.length = n) (h8 : ∀ x ∈ Y, x < 256) (own : w.ownsRow 0 5 1 (.slice q NX c) NX (u8s Y)) (hN : NX ≤ 1000000) (hn : n ≤ 1000000) (hr : infl Y n = .ok T K) (hK : upN K / 8 = N) :
    Calls Tryz.prog 9 #[.slice q NX c, .int .i64 n] w fun e w' => ∃ q' c', e = .returned (.tuple #[.slice q' n c', .int .i64 N, .int .i64 0]) ∧ Fr S0 w w' ∧ w'.ownsRow 0 5 1 (.slice q' n c') n (u8s T) := by
  subst hY hT hK
  obtain ⟨q2, c2, he, hq, -, -⟩ := slForm own
  simp only [Value.slice.injEq, true_and] at he
  obtain ⟨rfl, rfl⟩ := he
  refine (read_yes (SlI.ofOwns own) h8 hq (by omega) (by omega) hr).mono ?_
  rintro e w' ⟨q', c', rfl, f, o, -⟩
  exact ⟨q', c', rfl, f, o⟩
/-- the document's reader reads it, too -/
def Read2 : Prop := ∀ (q : Option Addr) (c NX n N K : Nat) (Y T : List Nat) (w : World), Y.length = NX → T.length = n → (∀ x ∈ Y, x < 256) → w.ownsRow 0 5 1 (.slice q NX c) NX (u8s Y) → NX ≤ 4000 → n ≤ 1000000 → infl Y n = .ok T K → upN K / 8 = N →
    Calls Tryz.prog 10 #[.slice q NX c, .int .i64 n] w fun e w' => ∃ q' c', e = .returned (.tuple #[.slice q' n c', .int .i64 N, .int .i64 0]) ∧ Fr S0 w w' ∧ w'.ownsRow 0 5 1 (.slice q' n c') n (u8s T)

set_option maxRecDepth 100000 in
set_option maxHeartbeats 8000000 in
theorem law_back (R2 : Read2) (p : Option Addr) (d : Nat) (b : List Nat) (wide : Bool) (p' : Option Addr) (d' : Nat) (bh : List Nat) (w : World) (hb : SlI w .u8 p b) (h8 : ∀ x ∈ b, x < 256) (hbh : SlI w .u8 p' bh) (hbh8 : ∀ x ∈ bh, x < 256) (hp' : p' = none → d' = 0) :
    Calls Tryz.prog 3 #[.slice p b.length d, .bool wide, .slice p' bh.length d'] w fun r w' => r = .returned (.bool true) ∧ Fr S0 w w' := by
  have HAL := Lib.hid (alive8_any w)
  obtain ⟨nb, hnb⟩ : ∃ n, bh.length = n := ⟨_, rfl⟩
  by_cases hbig : nb ≤ 100
  · have HTX := Lib.hid (fun w' (f : Fr S0 w w') => text8_any p d b wide w' (hb.fr0 f) h8)
    have HBH : Hid (∀ w', Fr S0 w w' → SrcIs w' (.slice p' nb d') nb (u8s bh)) := Lib.hid fun w' f => by
      have := SrcIs.ofSl (c := d') (hbh.fr0 f) hp'
      rw [hnb] at this
      exact this
    have hT := txt_256 b wide h8
    have hTl := txt_length b wide
    obtain ⟨T, hTe⟩ : ∃ T, txt b wide = T := ⟨_, rfl⟩
    rw [hTe] at HTX hT hTl
    obtain ⟨n, hn⟩ : ∃ n, T.length = n := ⟨_, rfl⟩
    have HN := Lib.hid hn
    have hn3 : n ≤ 300 := by omega
    have hA3 := fxd_length T hT
    have hB3 := sto_length T.length T (Nat.le_refl _)
    have hC3 := bst_length T hT
    have HRA := Lib.hid (reads_fixed T hT)
    have HRB := Lib.hid (reads_sto T)
    have HRC := Lib.hid (reads_bst T hT)
    have H8A := Lib.hid (fxd_256 T)
    have H8B := Lib.hid (sto_256 T.length T (Nat.le_refl _) hT)
    have H8C := Lib.hid (bst_256 T hT)
    obtain ⟨A, hA⟩ : ∃ A, fxd T = A := ⟨_, rfl⟩
    obtain ⟨B, hB⟩ : ∃ A, sto T = A := ⟨_, rfl⟩
    obtain ⟨C, hC⟩ : ∃ A, bst T = A := ⟨_, rfl⟩
    obtain ⟨NA, hNA⟩ : ∃ N, A.length = N := ⟨_, rfl⟩
    obtain ⟨NB, hNB⟩ : ∃ N, B.length = N := ⟨_, rfl⟩
    obtain ⟨NC, hNC⟩ : ∃ N, C.length = N := ⟨_, rfl⟩
    have HCALL : Hid (∀ (q : Option Addr) (c : Nat) (w' : World), SlI w' .u8 q T → (q = none → c = 0) → n ≤ c →
        Calls Tryz.prog 6 #[.slice q n c] w' (Says A NA w') ∧ Calls Tryz.prog 7 #[.slice q n c] w' (Says B NB w') ∧
        Calls Tryz.prog 8 #[.slice q n c] w' (Says C NC w')) := Lib.hid fun q c w' hs hq hc => by
      subst hn hA hB hC
      exact ⟨(fixed_text q c T w' hs hT hc (by omega)).mono fun _ _ h => says hNA h, (dsto_any q c T w' hs hT hq hc (by omega)).mono fun _ _ h => says hNB h,
        (best_any q c T w' hs hT hq hc (by omega)).mono fun _ _ h => says hNC h⟩
    have HST : Hid (∀ w' q c, (w'.ownsRow 0 5 1 (.slice q NA c) NA (u8s A) → StrIs w' q NA c A T) ∧ (w'.ownsRow 0 5 1 (.slice q NB c) NB (u8s B) → StrIs w' q NB c B T) ∧ (w'.ownsRow 0 5 1 (.slice q NC c) NC (u8s C) → StrIs w' q NC c C T)) := Lib.hid fun w' q c => by
      rw [hA] at HRA H8A hA3
      rw [hB] at HRB H8B hB3
      rw [hC] at HRC H8C hC3
      exact ⟨fun o => ⟨o, hNA, H8A.out, by omega, HRA.out⟩, fun o => ⟨o, hNB, H8B.out, by omega, HRB.out⟩, fun o => ⟨o, hNC, H8C.out, by omega, HRC.out⟩⟩
    obtain ⟨m, hm⟩ : ∃ m, b.length = m := ⟨_, rfl⟩
    have HNB := Lib.hid hnb
    have HBH8 := Lib.hid hbh8
    rw [hm] at HTX ⊢
    rw [hnb]
    clear hb h8 hT hTl hTe hn hA hB hC hNA hNB hNC hm hA3 hB3 hC3 HRA HRB HRC H8A H8B H8C hbh hbh8 hnb hp'
    go_enter Tryz.func3, Tryz.ntmps3
    go_wp2_with fail
    refine HAL.out.mono ?_
    rintro _ w1 ⟨rfl, f1⟩
    have F1 := Lib.hid f1
    have KT := Lib.hid (HTX.out w1 f1)
    clear f1 HAL HTX
    go_wp2_with fail
    refine KT.out.mono ?_
    rintro _ w2 ⟨v, rfl, f2, hv⟩
    obtain ⟨q, c, rfl, hq, hc, -⟩ := slForm hv.own
    have OT : Hid (w2.ownsRow 0 5 1 (.slice q n c) n (u8s T)) := Lib.hid (by have h := hv.own; rw [HN.out] at h; exact h)
    have HC : Hid (∀ w', Fr S0 w2 w' → Calls Tryz.prog 6 #[.slice q n c] w' (Says A NA w') ∧ Calls Tryz.prog 7 #[.slice q n c] w' (Says B NB w') ∧
        Calls Tryz.prog 8 #[.slice q n c] w' (Says C NC w')) := Lib.hid fun w' f =>
      HCALL.out q c w' (SlI.ofOwns (f.owns OT.out (fun _ _ h => h))) hq (by rw [← HN.out]; exact hc)
    have F2 := Lib.hid (F1.out.trans0 f2)
    have KA := Lib.hid (HC.out w2 (Fr.refl _ _)).1
    rw [HN.out]
    clear f2 hv hq hc KT HCALL F1
    go_wp2_with fail
    refine KA.out.mono ?_
    rintro _ w3 ⟨q3, c3, rfl, f3, o3⟩
    have F3 := Lib.hid f3
    have S3 := Lib.hid ((HST.out w3 q3 c3).1 o3)
    have KB := Lib.hid (HC.out w3 f3).2.1
    clear f3 o3 KA
    go_wp2_with fail
    refine KB.out.mono ?_
    rintro _ w4 ⟨q4, c4, rfl, f4, o4⟩
    have F4 := Lib.hid (F3.out.trans0 f4)
    have S4 := Lib.hid ((HST.out w4 q4 c4).2.1 o4)
    have S34 := Lib.hid (S3.out.fr0 f4)
    have KC := Lib.hid (HC.out w4 (F3.out.trans0 f4)).2.2
    clear f4 o4 KB F3 S3
    go_wp2_with fail
    refine KC.out.mono ?_
    rintro _ w5 ⟨q5, c5, rfl, f5, o5⟩
    have F5 := Lib.hid (F4.out.trans0 f5)
    have S5 := Lib.hid ((HST.out w5 q5 c5).2.2 o5)
    have S45 := Lib.hid (S4.out.fr0 f5)
    have S35 := Lib.hid (S34.out.fr0 f5)
    clear f5 o5 KC F4 S4 S34 HST HC
    go_wp2_with fail
    have hb6 := heap_alloc_new w5 (.cells #[.slice q3 NA c3, .slice q4 NB c4, .slice q5 NC c5] 22)
    have f6 : Fr S0 w5 (w5.alloc (.cells #[.slice q3 NA c3, .slice q4 NB c4, .slice q5 NC c5] 22)) := Fr.alloc _ _ _
    obtain ⟨G, hG⟩ : ∃ G, w5.heap.size = G := ⟨_, rfl⟩
    rw [hG] at hb6 ⊢
    generalize w5.alloc (.cells #[.slice q3 NA c3, .slice q4 NB c4, .slice q5 NC c5] 22) = w6 at hb6 f6 ⊢
    have HE : Hid (∀ j, j < 3 → ∃ q' N' c' S, w6.cell? ⟨G, j, none⟩ = some (.slice q' N' c') ∧ StrIs w6 q' N' c' S T) := Lib.hid fun j hj => by
      have hc : ∀ v, (#[Value.slice q3 NA c3, .slice q4 NB c4, .slice q5 NC c5])[j]? = some v → w6.cell? ⟨G, j, none⟩ = some v := fun v hv => by simp only [World.cell?, hb6]; exact hv
      match j, hj, hc with
      | 0, _, hc => exact ⟨_, _, _, A, hc _ rfl, S35.out.fr0 f6⟩
      | 1, _, hc => exact ⟨_, _, _, B, hc _ rfl, S45.out.fr0 f6⟩
      | 2, _, hc => exact ⟨_, _, _, C, hc _ rfl, S5.out.fr0 f6⟩
    have OT6 := Lib.hid ((F5.out.trans0 f6).owns OT.out (fun _ _ h => h))
    have F6 := Lib.hid ((F2.out.trans0 F5.out).trans0 f6)
    clear hb6 f6 hG S5 S45 S35 OT F2 F5
    go_loopw [33] (fun i wr => ∃ j : Nat, j ≤ 3 ∧ i = .int .i64 j ∧ Fr S0 w6 wr) (fun i _ => 3 - (intOf i).toNat)
    case atStart => exact ⟨0, by omega, rfl, Fr.refl _ _⟩
    case round =>
      obtain ⟨j, hj, rfl, hfr⟩ := hrel
      have HFR := Lib.hid hfr
      clear hfr
      by_cases hj3 : (j : Int) < 3
      · obtain ⟨q7, N, c7, S, hcell, hstr⟩ := HE.out j (by omega)
        have k9 := HFR.out.cell hcell (fun h => h)
        have HS := Lib.hid (hstr.fr0 HFR.out)
        have HW := Lib.hid (F6.out.trans0 HFR.out)
        have OTR := Lib.hid (HFR.out.owns OT6.out (fun _ _ h => h))
        have hNs := HS.out.few
        obtain ⟨K, hK1, hK2⟩ := HS.out.reads bh
        have HX8 : Hid (∀ y ∈ S ++ bh, y < 256) := Lib.hid fun y hy => by
          rcases List.mem_append.1 hy with h | h
          · exact HS.out.small y h
          · exact HBH8.out y h
        obtain ⟨X, hX⟩ : ∃ X, S ++ bh = X := ⟨_, rfl⟩
        rw [hX] at hK1 HX8
        rw [HN.out] at hK1
        obtain ⟨NX, hNX⟩ : ∃ NX, N + nb = NX := ⟨_, rfl⟩
        have HNX := Lib.hid hNX
        have HXL : Hid (X.length = NX) := Lib.hid (by rw [← hX, List.length_append, HS.out.len, HNB.out]; exact hNX)
        have HXE : Hid (u8s S ++ u8s bh = u8s X) := Lib.hid (by rw [u8s_append, hX])
        have HIN := Lib.hid hK1
        have HKK := Lib.hid (hK2.trans HS.out.len)
        have HR : Hid (Room N ∧ Room NX) := Lib.hid ⟨Room.mk (by omega), Room.mk (by omega)⟩
        have hNXs : NX ≤ 3100 := by omega
        clear hcell hstr hK1 hK2 hX hNX
        go_wp2_with (first
          | ((with_reducible show wpList _ _ _ (Oper.mk (some 39) _ _ _ _ _ :: _) _ _); refine app_many el8 (.tmp 37) (.tmp 38) (own_none wr _) (SrcIs.ofOwns ((Fr.alloc S0 wr _).owns HS.out.own (fun _ _ h => h))) (Nat.zero_add _) rfl rfl rfl rfl (ones _) HR.out.1 ?_; intro p8 c8 w8 own8 g8 at8; have f8 := fr_made (Fr.refl S0 wr) g8; have v8 := fresh_many (fresh_made (n := 0) (c := 0) (Fr.refl S0 wr)) (size_le (Fr.refl S0 wr)) at8; rw [List.nil_append] at own8; have O8 := Lib.hid own8; have F8 := Lib.hid f8; have V8 := Lib.hid v8; have SB := Lib.hid (HBH.out w8 (HW.out.trans0 f8)); clear own8 g8 at8 f8 v8)
          | ((with_reducible show wpList _ _ _ (Oper.mk (some 41) _ _ _ _ _ :: _) _ _); refine app_many el8 (.tmp 39) (.tmp 40) O8.out SB.out HNX.out rfl rfl rfl rfl (ones _) HR.out.2 ?_; intro p9 c9 w9 own9 g9 at9; rw [HXE.out] at own9; have O9 := Lib.hid own9; have F9 := Lib.hid (F8.out.append g9 V8.out); have KR := Lib.hid (read1 HXL.out HN.out HX8.out own9 (by omega) (by omega) HIN.out HKK.out); clear own9 g9 at9)
          | fail)
        refine KR.out.mono ?_
        rintro _ w10 ⟨q10, c10, rfl, f10, o10⟩
        have F10 := Lib.hid (F9.out.trans0 f10)
        have KR2 := Lib.hid (R2 p9 c9 NX n N K X T w10 HXL.out HN.out HX8.out (f10.owns O9.out (fun _ _ h => h)) (by omega) (by omega) HIN.out HKK.out)
        have O10 := Lib.hid o10
        clear o10 f10 KR F8 F9 O8 O9 SB V8
        go_wp2_with fail
        refine KR2.out.mono ?_
        rintro _ w11 ⟨q11, c11, rfl, f11, o11⟩
        have F11 := Lib.hid (F10.out.trans0 f11)
        have kout := cv8 HN.out (f11.owns O10.out (fun _ _ h => h))
        have kwant := cv8 HN.out o11
        have kt := cv8 HN.out (F11.out.owns OTR.out (fun _ _ h => h))
        clear o11 f11 KR2 F10 O10 k9
        go_wp2_with fail
        go_roundw
        case rel => exact ⟨j + 1, by omega, by go_num, HFR.out.trans0 F11.out⟩
        case measure => simp [intOf]; omega
      · go_wp2_with fail
        go_ret
        exact ⟨rfl, F6.out.trans0 HFR.out⟩
  · rw [hnb]
    have hgt : (nb : Int) > 100 := by omega
    obtain ⟨m, hm⟩ : ∃ m, b.length = m := ⟨_, rfl⟩
    rw [hm]
    clear hb h8 hbh hbh8 hp' hnb hm
    go_enter Tryz.func3, Tryz.ntmps3
    go_wp2_with fail
    refine HAL.out.mono ?_
    rintro _ w1 ⟨rfl, f1⟩
    have F1 := Lib.hid f1
    clear f1 HAL
    go_wp2_with fail
    go_ret
    exact ⟨rfl, F1.out⟩
end Go.Proofs.YtfibhgohenkfbaaGreat
