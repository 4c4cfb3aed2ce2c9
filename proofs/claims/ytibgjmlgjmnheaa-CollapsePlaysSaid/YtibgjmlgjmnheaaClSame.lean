/- All that is told of a store is what all that was counted says. -/
import Derived.Test.YtibgjmlgjmnheaaClAlive
namespace Go.Proofs.Ytibgjmlgjmnheaa
open Go.RowKit

set_option maxRecDepth 100000 in
set_option maxHeartbeats 4000000 in
theorem same_any (g h b n d : Nat) (q : Option Addr) (A : List Pr) (k : Int) (w : World) (s : Col w g h b A) (hp : PrI w q A) (hn : A.length = n) (hN : n ≤ 100000) :
    Calls Try.prog 15 #[.pointer (some ⟨g, 0, none⟩), .slice q n d, .int .i64 (b : Nat), .int .i64 k] w fun e w' => e = .returned (.bool true) ∧ Fr S0 w w' := by
  have ok := s.ok
  have m2 := s.m2
  have m3 := s.m3
  have HC0 := Lib.hid (rkept_any q n d b A w (by omega) hp hn hN (by have := ok.tot; omega))
  have htt : ltot A < 18446744073709551616 := by have := ok.tot; omega
  have htk : ltot (cutN A b) < 18446744073709551616 := by rw [cut_tot ok.srt ok.pos (by omega)]; exact htt
  have HS := Lib.hid s
  have HP := Lib.hid hp
  have HN := Lib.hid hn
  have HLB := Lib.hid (cut_len ok.srt ok.pos (by omega : 1 ≤ b))
  have HPA := Lib.hid (fun W (f : Fr S0 w W) => cpairs_any g h b A W (s.fr0 f))
  have HFO := fun W (f : Fr S0 w W) => cfolded_any g h b A W (s.fr0 f)
  have HTO := fun W (f : Fr S0 w W) => ctotal_any g h b A W (s.fr0 f)
  have HRT := fun W (f : Fr S0 w W) => rtotal_any q n d A W (hp.fr0 f) hn htt
  have HLE := fun W (f : Fr S0 w W) => clen_any g h b A W (s.fr0 f)
  have HBE := fun W (f : Fr S0 w W) => cbelow_any g h b A W k (s.fr0 f)
  have HUP := fun W (f : Fr S0 w W) => cupto_any g h b A W k (s.fr0 f)
  have HRB : ∀ (W : World) (q' : Option Addr) (n' d' : Nat), PrI W q' (cutN A b) → (cutN A b).length = n' → Calls Try.prog 36 #[.slice q' n' d', .int .i64 k, .bool false] W fun e w' => e = .returned (.int .u64 (bel (cutN A b) k : Nat)) ∧ Fr S0 W w' := fun W q' n' d' h1 h2 => rbelow_any q' n' d' k (cutN A b) W false h1 h2 htk
  have HRU : ∀ (W : World) (q' : Option Addr) (n' d' : Nat), PrI W q' (cutN A b) → (cutN A b).length = n' → Calls Try.prog 36 #[.slice q' n' d', .int .i64 k, .bool true] W fun e w' => e = .returned (.int .u64 (upt (cutN A b) k : Nat)) ∧ Fr S0 W w' := fun W q' n' d' h1 h2 => rbelow_any q' n' d' k (cutN A b) W true h1 h2 htk
  obtain ⟨F, hF⟩ : ∃ F, cutA A b = F := ⟨_, rfl⟩
  obtain ⟨T, hT⟩ : ∃ T, ltot A = T := ⟨_, rfl⟩
  obtain ⟨B, hB⟩ : ∃ B, bel (cutN A b) k = B := ⟨_, rfl⟩
  obtain ⟨U, hU⟩ : ∃ U, upt (cutN A b) k = U := ⟨_, rfl⟩
  obtain ⟨L, hL⟩ : ∃ L, (cutN A b).length = L := ⟨_, rfl⟩
  rw [hF] at HC0
  simp only [hF] at HFO
  simp only [hT] at HTO HRT
  simp only [hB] at HBE HRB
  simp only [hU] at HUP HRU
  simp only [hL] at HLE HRB HRU
  rw [hL] at HLB
  have HLL := Lib.hid hL
  have HFO := Lib.hid HFO
  have HTO := Lib.hid HTO
  have HRT := Lib.hid HRT
  have HLE := Lib.hid HLE
  have HBE := Lib.hid HBE
  have HUP := Lib.hid HUP
  have HRB := Lib.hid HRB
  have HRU := Lib.hid HRU
  have hLb : L ≤ 4096 := Nat.le_trans HLB.out m3
  clear s hp hn hN ok m2 m3 htt htk hF hT hB hU hL
  rename_i x1 x2 x3 x4 x5 x6 x7 x8
  clear x1 x2 x3 x4 x5 x6 x7 x8
  go_enter Try.func15, Try.ntmps15
  go_wp2_with fail
  refine HC0.out.mono ?_
  rintro e w1 ⟨v, rfl, ⟨q', n', d', rfl, hn', hp', -⟩, f1⟩
  obtain rfl : L = n' := HLL.out.symm.trans hn'
  have P1 := Lib.hid hp'
  have F1 := Lib.hid f1
  have H1 := Lib.hid (HPA.out w1 f1)
  clear f1 hn' hp' HC0 HPA
  go_wp2_with fail
  refine H1.out.mono ?_
  rintro e w2 ⟨p2, c2, n2, rfl, hpn⟩
  obtain rfl : L = n2 := HLL.out.symm.trans hpn.len
  have P2 := Lib.hid (And.intro (hpn.pri (by omega)) (P1.out.fr0 hpn.fr))
  have F2 := Lib.hid (F1.out.trans0 hpn.fr)
  have H2 := Lib.hid (rsame15_yes p2 q' L c2 d' (cutN A b) w2 P2.out.1 P2.out.2 HLL.out)
  clear hpn H1 P1 F1
  go_wp2_with fail
  refine H2.out.mono ?_
  rintro e w3 ⟨rfl, f3⟩
  have P3 := Lib.hid (P2.out.2.fr0 f3)
  have F3 := Lib.hid (F2.out.trans0 f3)
  have H3 := Lib.hid (HFO.out w3 F3.out)
  clear f3 H2 P2 F2 HFO
  go_wp2_with fail
  refine H3.out.mono ?_
  rintro e w4 ⟨rfl, f4⟩
  have P4 := Lib.hid (P3.out.fr0 f4)
  have F4 := Lib.hid (F3.out.trans0 f4)
  have H4 := Lib.hid (HTO.out w4 F4.out)
  clear f4 H3 P3 F3 HTO
  go_wp2_with fail
  refine H4.out.mono ?_
  rintro e w5 ⟨rfl, f5⟩
  have P5 := Lib.hid (P4.out.fr0 f5)
  have F5 := Lib.hid (F4.out.trans0 f5)
  have H5 := Lib.hid (HRT.out w5 F5.out)
  clear f5 H4 P4 F4 HRT
  go_wp2_with fail
  refine H5.out.mono ?_
  rintro e w6 ⟨rfl, f6⟩
  have P6 := Lib.hid (P5.out.fr0 f6)
  have F6 := Lib.hid (F5.out.trans0 f6)
  have H6 := Lib.hid (HLE.out w6 F6.out)
  clear f6 H5 P5 F5 HLE
  go_wp2_with fail
  refine H6.out.mono ?_
  rintro e w7 ⟨rfl, f7⟩
  have P7 := Lib.hid (P6.out.fr0 f7)
  have F7 := Lib.hid (F6.out.trans0 f7)
  have H7 := Lib.hid (HBE.out w7 F7.out)
  clear f7 H6 P6 F6 HBE
  go_wp2_with fail
  refine H7.out.mono ?_
  rintro e w8 ⟨rfl, f8⟩
  have P8 := Lib.hid (P7.out.fr0 f8)
  have F8 := Lib.hid (F7.out.trans0 f8)
  have H8 := Lib.hid (HRB.out w8 q' L d' P8.out rfl)
  clear f8 H7 P7 F7 HRB
  go_wp2_with fail
  refine H8.out.mono ?_
  rintro e w9 ⟨rfl, f9⟩
  have P9 := Lib.hid (P8.out.fr0 f9)
  have F9 := Lib.hid (F8.out.trans0 f9)
  have H9 := Lib.hid (HUP.out w9 F9.out)
  clear f9 H8 P8 F8 HUP
  go_wp2_with fail
  refine H9.out.mono ?_
  rintro e w10 ⟨rfl, f10⟩
  have P10 := Lib.hid (P9.out.fr0 f10)
  have F10 := Lib.hid (F9.out.trans0 f10)
  have H10 := Lib.hid (HRU.out w10 q' L d' P10.out rfl)
  clear f10 H9 P9 F9 HRU
  go_wp2_with fail
  refine H10.out.mono ?_
  rintro e w11 ⟨rfl, f11⟩
  have F11 := Lib.hid (F10.out.trans0 f11)
  clear f11 H10 P10 F10
  go_wp2_with fail
  go_ret
  exact ⟨rfl, F11.out⟩
end Go.Proofs.Ytibgjmlgjmnheaa
