/- DwLawSpoilt -/
import Derived.Test.YtaemgflhgdlmiaaGreatPs1
import Derived.Test.YtaemgflhgdlmiaaGreatPs2
import Derived.Test.YtaemgflhgdlmiaaGreatPs3
import Derived.Test.YtaemgflhgdlmiaaGreatPs4
import Derived.Test.YtaemgflhgdlmiaaGreatPs5
import Derived.Test.YtaemgflhgdlmiaaGreatPs6
import Derived.Test.YtaemgflhgdlmiaaGreatPs7
import Derived.Test.YtaemgflhgdlmiaaGreatPs8
import Derived.Test.YtaemgflhgdlmiaaGreatPs9
import Derived.Test.YtaemgflhgdlmiaaGreatPs10
import Derived.Test.YtaemgflhgdlmiaaGreatPs11
import Derived.Test.YtaemgflhgdlmiaaGreatPs12
import Derived.Test.YtaemgflhgdlmiaaGreatPs13
import Derived.Test.YtaemgflhgdlmiaaGreatPs14
import Derived.Test.YtaemgflhgdlmiaaGreatPs15
import Derived.Test.YtaemgflhgdlmiaaGreatPs16
import Derived.Test.YtaemgflhgdlmiaaGreatPs17
import Derived.Test.YtaemgflhgdlmiaaGreatPs18
import Derived.Test.YtaemgflhgdlmiaaGreatPs19
import Derived.Test.YtaemgflhgdlmiaaGreatPs20
import Derived.Test.YtaemgflhgdlmiaaGreatPs21
import Derived.Test.YtaemgflhgdlmiaaGreatPs22
import Derived.Test.YtaemgflhgdlmiaaGreatPs23
import Derived.Test.YtaemgflhgdlmiaaGreatPs24
import Derived.Test.YtaemgflhgdlmiaaGreatPs25
import Derived.Test.YtaemgflhgdlmiaaGreatPs26
import Derived.Test.YtaemgflhgdlmiaaGreatPs27
import Derived.Test.YtaemgflhgdlmiaaGreatPs28
import Derived.Test.YtaemgflhgdlmiaaGreatPs29
import Derived.Test.YtaemgflhgdlmiaaGreatPs30
import Derived.Test.YtaemgflhgdlmiaaGreatPs31
import Derived.Test.YtaemgflhgdlmiaaGreatPs32
import Derived.Test.YtaemgflhgdlmiaaGreatPs33
import Derived.Test.YtaemgflhgdlmiaaGreatPs34
import Derived.Test.YtaemgflhgdlmiaaGreatPs36
import Derived.Defers
import Derived.Recover
import Derived.Deep.RegionHeld2
import Derived.StillTailTactics
import Derived.WalkKit
import Derived.Laws.BitsAllLaws
import Derived.Laws.BytesArg
import Derived.Lib.SlBytesConst
import Derived.Maps.AppendAt
import Derived.Laws.AppendOwnNone
import Derived.WalkSpells
import Derived.WalkLawsBesides
import Derived.Deep.QuietTactic
import Derived.BigQuiet
import Derived.RegionTactic
import Derived.Deep.AppendLies
import Derived.Deep.RegionLaw
import Derived.Laws.ResultCell
import Derived.Laws.EntriesVeiled
import Derived.Lib.Hide
import Derived.Test.YtaemgflhgdlmiaaGreatRows
import Derived.Deep.RegionHeld3
import Derived.Lib.SliceRun
import Derived.BigRegion
import Derived.Laws.Externs
import Derived.Shelf.Spec.BitsCarry
import Derived.Deep.CutBlock
import Derived.Deep.CutRange
import Derived.Deep.DeepCutAuto
import Derived.Lib.BitFns
import Derived.Shelf.Small.Bits
import Derived.Shelf.Strconv.Itoa0
import Derived.Shelf.Bits.Mul64
import Derived.Lib.AppendZeros
import Derived.Laws.CopyOwn
import Derived.Lib.Overlaps
import Derived.Lib.AppendZerosOnto
import Derived.Laws.OwnMore
import Derived.Shelf.SlSortCmp.WholeK
set_option maxRecDepth 100000
set_option maxHeartbeats 8000000
namespace Go.Proofs.YtaemgflhgdlmiaaGreat
open Go.RowKit
theorem own_some {w : World} {q : Option Addr} {n d : Nat} {l : List Nat} (h : w.ownsRow 0 5 1 (.slice q n d) n (u8s l)) (h0 : n ≠ 0) : ∃ g, q = some ⟨g, 0, none⟩ ∧ SlI w .u8 (some ⟨g, 0, none⟩) l ∧ n ≤ d ∧ d ≤ maxLen := by
  have hs := SlI.ofOwns h
  obtain ⟨p, c, e, -, h1, h2⟩ := slForm h
  simp only [Value.slice.injEq, true_and] at e
  obtain ⟨rfl, rfl⟩ := e
  rcases h.2 with ⟨e, e0⟩ | ⟨g, cap, cur, e, _⟩
  · exact absurd e0 h0
  · simp only [Value.slice.injEq, true_and] at e
    obtain ⟨rfl, rfl⟩ := e
    exact ⟨g, rfl, hs, h1, h2⟩
theorem enc7_pos (n : Nat) : 1 ≤ (enc 7 n).length := by
  rw [enc_7]
  unfold vEnc
  split <;> simp
theorem ddB_pos (A m : Nat) (L : List Pr) (f : Nat) : 1 ≤ (ddB A m L f).length := by
  have := enc7_pos A
  rw [ddB, List.length_append]
  omega
theorem both_bytes {w W : World} {g h s d A m : Nat} {a : List Pr} (b : Both w W g h s d A m a) (hm : m ≤ 21) : ∃ P, ddB A m (cutN a m) (cutA a m) = P ∧ DdOk A m (cutN a m) (cutA a m) ∧ 1 ≤ P.length ∧ P.length ≤ 460 ∧ ∀ x ∈ P, x < 256 := by
  have k := b.sk.is
  have hd := DdOk.of k.ok k.m2 k.m3 k.a1 k.a2 k.ks
  refine ⟨_, rfl, hd, ddB_pos _ _ _ _, ?_, ddB_lt _ _ _ _⟩
  have h1 := ddB_len A m (cutN a m) (cutA a m)
  have h2 := hd.ld.len
  omega
theorem write_read {A m f : Nat} {L : List Pr} {T : List Nat} (h : T = ddB A m L f ∧ DdOk A m L f) (W : World) (pp : Option Addr) (cc nn : Nat) (hp : PrI W pp L) (hn : L.length = nn) :
    Calls Tryz.prog 21 #[.int .i64 (A : Nat), .int .i64 (m : Nat), .slice pp nn cc, .int .u64 (f : Nat)] W fun e w' => ∃ v, e = .returned v ∧ AccB W w' v T.length T := by
  obtain ⟨rfl, hd⟩ := h
  obtain ⟨-, hf, hA, hm, -⟩ := ddOk_good hd
  exact rwrite21_any A m f nn cc pp L W hp hn (by have := hd.ld.len; have := hd.ld.m3; omega) hd.ld.good hA hm hf
theorem read_more {A m f N : Nat} {L : List Pr} (hd : DdOk A m L f) {B : List Nat} (hB : ∀ x ∈ B, x < 256) (hN : (ddB A m L f ++ B).length = N) (hN1 : N ≤ 1000) (W : World) (q : Option Addr) (c : Nat) (hs : SlI W .u8 q (ddB A m L f ++ B)) (hc : q = none → c = 0) :
    Calls Tryz.prog 11 #[.slice q N c] W fun e w' => ∃ v E, e = .returned (.tuple #[v, .int .i64 (E : Nat)]) ∧ ((E : Int) == 0) = (((B.length : Nat) : Int) == 0) ∧ Fr S0 W w' := by
  have h8 : ∀ x ∈ ddB A m L f ++ B, x < 256 := fun x hx => (List.mem_append.1 hx).elim (ddB_lt _ _ _ _ x) (hB x)
  refine (dread_any q c N _ W hN hs h8 hc (by omega)).mono ?_
  rintro e w' (⟨A', m', L', f', a, gs, h, s, hr, rfl, k, -, -⟩ | ⟨hno, rfl, f1⟩)
  · refine ⟨_, 0, rfl, ?_, k.fr⟩
    by_cases hb : B = []
    · subst hb
      rfl
    · exact absurd hr (rdOk_more hd B hb)
  · refine ⟨_, 9, rfl, ?_, f1⟩
    by_cases hb : B = []
    · subst hb
      exact absurd ⟨A, m, L, f, (rdOk_iff h8).2 ⟨List.append_nil _, hd⟩⟩ hno
    · have : 0 < B.length := List.length_pos_iff.2 hb
      have h1 : (((B.length : Nat) : Int) == 0) = false := by rw [beq_eq_false_iff_ne]; omega
      rw [h1]
      rfl
section
variable (a m : Nat) (p : Option Addr) (n1 c : Nat) (vs : List Int) (at0 : Int) (bt : Nat) (cut : Int) (q : Option Addr) (k c2 : Nat) (bs : List Nat) (w : World)
theorem law_spoilt (ha : a < 65536) (hm : m < 65536) (hn : vs.length = n1) (hz : ZI w p vs) (hvb : ∀ v ∈ vs, -9223372036854775808 ≤ v ∧ v ≤ 9223372036854775807) (hbt : bt < 256) (hk : bs.length = k) (hq : SlI w .u8 q bs) (h8 : ∀ x ∈ bs, x < 256) (hqc : q = none → c2 = 0) :
    Calls Tryz.prog 6 #[.int .u16 (a : Nat), .int .u16 (m : Nat), .slice p n1 c, .int .i64 at0, .int .u8 (bt : Nat), .int .i64 cut, .slice q k c2] w fun e w' => e = .returned (.bool true) ∧ Fr S0 w w' := by
  have HA := Lib.hid (alive21_any w)
  have HR := Lib.hid (fun W (f : Fr S0 w W) => added21_any a m p n1 c vs none 0 0 [] W ha hm hn (hz.fr0 f) hvb rfl (SlI.nil _ _ _) (fun n h => by cases h))
  have HQ0 := Lib.hid (fun W (f : Fr S0 w W) => hq.fr0 f)
  have H8 := Lib.hid h8
  have HQC := Lib.hid hqc
  have HKL := Lib.hid hk
  have hM := (bud21_in m).2
  obtain ⟨A, hA⟩ : ∃ A, acc21 a = A := ⟨_, rfl⟩
  obtain ⟨M, hM2⟩ : ∃ M, bud21 m = M := ⟨_, rfl⟩
  obtain ⟨ks, hks⟩ : ∃ ks, adds A vs [] (min n1 40) = ks := ⟨_, rfl⟩
  rw [hA, hM2, hks] at HR
  rw [hM2] at hM
  clear ha hm hn hz hvb hq h8 hqc hk hA hM2 hks
  by_cases hk1 : (k : Int) ≤ 100
  · go_enter Tryz.func6, Tryz.ntmps6
    go_wp2_with fail
    refine HA.out.mono ?_
    rintro e w1 ⟨rfl, f1⟩
    have F1 := Lib.hid f1
    clear f1 HA
    go_wp2_with fail
    refine (HR.out _ F1.out).mono ?_
    rintro e w2 ⟨g0, h0, s0, d0, rfl, b2⟩
    obtain ⟨P, eP, hdo, hP1, hP4, hP8⟩ := both_bytes b2 hM
    have F2 := Lib.hid (F1.out.trans0 b2.fr)
    have HWR := Lib.hid (dwrite_any g0 h0 s0 A M ks w2 b2.sk.is)
    rw [eP] at HWR
    have HPL := Lib.hid (And.intro hP1 (And.intro hP4 hP8))
    have HDO := Lib.hid (And.intro eP hdo)
    clear b2 eP hdo hP1 hP4 hP8 HR
    go_wp2_with fail
    refine HWR.out.mono ?_
    rintro _ w3 ⟨vb, rfl, acc⟩
    have HB := Lib.hid acc
    obtain ⟨PN, hPN⟩ : ∃ n, P.length = n := ⟨_, rfl⟩
    rw [hPN] at HB HPL
    have HLN := Lib.hid hPN
    have hPb : PN ≤ 460 := HPL.out.2.1
    have hPb1 : 1 ≤ PN := HPL.out.1
    obtain ⟨qb, db, rfl⟩ := slFormN HB.out.own
    obtain ⟨g, rfl, -, hd1, hd2⟩ := own_some HB.out.own (by omega)
    clear acc hPN HWR F1
    have F3 := Lib.hid (F2.out.trans0 HB.out.fr)
    have HR1 : Hid (Room PN) := Lib.hid (Room.mk (by omega))
    have HR2 : Hid (Room (PN + k)) := Lib.hid (Room.mk (by omega))
    have HSB := Lib.hid (SrcIs.ofOwns (HB.out.own.alloc (.cells #[] 5)))
    go_wp2_with (first
      | ((with_reducible show wpList _ _ _ (Oper.mk (some 45) _ _ _ _ _ :: _) _ _); refine app_many el8 (.tmp 43) (.tmp 44) (own_none w3 _) HSB.out (Nat.zero_add _) rfl rfl rfl rfl (one8s _) HR1.out ?_; intro p4 c4 w4 own4 g4 at4; have h4 := fr_made (Fr.refl S0 w3) g4; have v4 := fresh_many (fresh_made (n := 0) (c := 0) (Fr.refl S0 w3)) (size_le (Fr.refl S0 w3)) at4; clear g4 at4)
      | ((with_reducible show wpList _ _ _ (Oper.mk (some 47) _ _ _ _ _ :: _) _ _); refine app_many el8 (.tmp 45) (.tmp 46) own4 (by have := SrcIs.ofSl ((HQ0.out _ (F3.out.trans0 h4))) HQC.out; rw [HKL.out] at this; exact this) rfl rfl rfl rfl rfl (ones _) HR2.out ?_; intro p5 c5 w5 own5 g5 at5; have h5 := h4.append g5 v4; clear g5 at5))
    obtain ⟨sp5, sc5, e5, hc5, -, -⟩ := slForm own5
    simp only [Value.slice.injEq, true_and] at e5
    obtain ⟨rfl, rfl⟩ := e5
    have own5' : w5.ownsRow 0 5 1 (.slice p5 (PN + k) c5) (PN + k) (u8s (P ++ bs)) := by rw [← u8s_append]; exact own5
    have HRM : Hid (Calls Tryz.prog 11 #[.slice p5 (PN + k) c5] w5 fun e w' => ∃ v E, e = .returned (.tuple #[v, .int .i64 (E : Nat)]) ∧ ((E : Int) == 0) = ((k : Int) == 0) ∧ Fr S0 w5 w') := Lib.hid (by
      have h := read_more HDO.out.2 H8.out (N := PN + k) (by rw [HDO.out.1, List.length_append, HLN.out, HKL.out]) (by omega) w5 p5 c5 (by rw [HDO.out.1]; exact SlI.ofOwns own5') hc5
      rwa [HKL.out] at h)
    have F5 := Lib.hid h5
    clear own5 own5' own4 h4 v4 h5 hc5 HSB HR1 HR2 HQ0 HQC H8
    refine HRM.out.mono ?_
    rintro e w6 ⟨v6, E, rfl, hE, f6⟩
    have F6 := Lib.hid (F5.out.trans0 f6)
    clear f6 F5 HRM
    obtain ⟨B, hB⟩ : ∃ B, ((k : Int) == 0) = B := ⟨_, rfl⟩
    rw [hB] at hE
    have hBB : (B != B) = false := by cases B <;> rfl
    have HOW := Lib.hid (F6.out.owns HB.out.own fun _ _ h => h)
    have F26 := Lib.hid (HB.out.fr.trans0 F6.out)
    go_upto_region 12 with fail
    go_cut [64] (fun v wx => v = .bool (decide (0 ≤ at0 ∧ at0 < (PN : Int))) ∧ wx = w6)
    case first =>
      go_wp2_with fail
      all_goals go_meet
      · exact ⟨by simp_all, rfl⟩
      · exact ⟨by rw [decide_eq_false (by omega)], rfl⟩
    case rest =>
      obtain ⟨rfl, rfl⟩ := hcut
      go_upto_if 64 with fail
      go_cut [17] (fun vb wx => vb = .slice (some ⟨g, 0, none⟩) PN db ∧ Hid (∃ Q : List Nat, wx.ownsRow 0 5 1 (.slice (some ⟨g, 0, none⟩) PN db) PN (u8s Q) ∧ Q.length = PN ∧ (∀ x ∈ Q, x < 256) ∧ Fr S0 w2 wx))
      case first =>
        by_cases hat : 0 ≤ at0 ∧ at0 < (PN : Int)
        · rw [decide_eq_true hat]
          obtain ⟨K, rfl⟩ : ∃ K : Nat, at0 = K := ⟨at0.toNat, by omega⟩
          obtain ⟨-, hat2⟩ := hat
          have jK : K < PN := by omega
          obtain ⟨v, hv⟩ : ∃ v, P[K]'(by rw [HLN.out]; exact jK) = v := ⟨_, rfl⟩
          have hv8 : v < 256 := by rw [← hv]; exact HPL.out.2.2 _ (List.getElem_mem _)
          obtain ⟨X, hX⟩ : ∃ X, v ^^^ bt = X := ⟨_, rfl⟩
          have hx : bits .xor .u8 (v : Int) (bt : Int) = ((X : Nat) : Int) := by rw [← hX]; exact u8_xor_nat _ _ hv8 hbt
          have hX8 : X < 256 := by rw [← hX]; exact Nat.xor_lt_two_pow (n := 8) hv8 hbt
          have own := HOW.out
          obtain ⟨b9, o9, e9, hc⟩ := (SlI.ofOwns own).at K (by rw [HLN.out]; exact jK)
          simp only [Option.some.injEq, Addr.mk.injEq, and_true] at e9
          obtain ⟨rfl, rfl⟩ := e9
          rw [hv, Nat.zero_add] at hc
          have hfz : wc.frozen? ⟨g, K, none⟩ = false := by
            rcases own.2 with ⟨e, -⟩ | ⟨g', cap, cur, e, -, hb, -⟩
            · cases e
            · simp only [Value.slice.injEq, Option.some.injEq, Addr.mk.injEq] at e
              obtain ⟨⟨rfl, -⟩, -, rfl⟩ := e
              simp [World.frozen?, hb]
          obtain ⟨ho, hgr⟩ := own.stored K (.int .u8 (X : Nat))
          have HE := Lib.hid (show Hid (∃ Q : List Nat, (wc.setCell ⟨g, K, none⟩ (.int .u8 (X : Nat))).ownsRow 0 5 1 (.slice (some ⟨g, 0, none⟩) PN db) PN (u8s Q) ∧ Q.length = PN ∧ (∀ x ∈ Q, x < 256) ∧ Fr S0 w2 (wc.setCell ⟨g, K, none⟩ (.int .u8 (X : Nat)))) from Lib.hid ⟨P.set K X, by unfold u8s; rw [List.map_set]; exact ho, by rw [List.length_set, HLN.out], fun x hx => (List.mem_or_eq_of_mem_set hx).elim (HPL.out.2.2 x) (fun e => e ▸ hX8), F26.out.append hgr HB.out.fresh⟩)
          clear own ho hgr hv hX
          go_wp2_with fail
          go_meet
          exact ⟨rfl, HE.out⟩
        · rw [decide_eq_false hat]
          go_wp2_with fail
          go_meet
          exact ⟨rfl, Lib.hid ⟨P, HOW.out, HLN.out, HPL.out.2.2, F26.out⟩⟩
      case rest =>
        obtain ⟨rfl, HQ⟩ := hcut
        clear F26 F6 HOW HB F3 HDO
        go_upto_region 14 with fail
        go_cut [81] (fun v wx => v = .bool (decide (0 ≤ cut ∧ cut < (PN : Int))) ∧ wx = wc)
        case first =>
          go_wp2_with fail
          all_goals go_meet
          · exact ⟨by simp_all, rfl⟩
          · exact ⟨by rw [decide_eq_false (by omega)], rfl⟩
        case rest =>
          obtain ⟨rfl, rfl⟩ := hcut
          go_upto_if 81 with fail
          go_cut [17] (fun vb wx => (∃ n : Nat, vb = .slice (some ⟨g, 0, none⟩) n db ∧ n ≤ PN) ∧ wx = wc)
          case first =>
            by_cases hcu : 0 ≤ cut ∧ cut < (PN : Int)
            · rw [decide_eq_true hcu]
              obtain ⟨C, rfl⟩ : ∃ C : Nat, cut = C := ⟨cut.toNat, by omega⟩
              obtain ⟨-, hcu2⟩ := hcu
              have hcd : (C : Int) ≤ (db : Int) := by omega
              go_wp2_with fail
              go_meet
              exact ⟨⟨C, rfl, by omega⟩, rfl⟩
            · rw [decide_eq_false hcu]
              go_wp2_with fail
              go_meet
              exact ⟨⟨PN, rfl, Nat.le_refl _⟩, rfl⟩
          case rest =>
            obtain ⟨⟨n, rfl, hn⟩, rfl⟩ := hcut
            obtain ⟨Q, hown, hQl, hQ8, hQf⟩ := HQ.out
            obtain ⟨T, hT⟩ : ∃ T, Q.take n = T := ⟨_, rfl⟩
            have hTl : T.length = n := by rw [← hT, List.length_take]; omega
            have hT8 : ∀ x ∈ T, x < 256 := by rw [← hT]; exact fun x hx => hQ8 x (List.mem_of_mem_take hx)
            have hTs : SlI wc .u8 (some ⟨g, 0, none⟩) T := by rw [← hT]; exact (SlI.ofOwns hown).take n
            have HTS := Lib.hid hTs
            have HTL := Lib.hid hTl
            have HT8 := Lib.hid hT8
            have FW := Lib.hid (F2.out.trans0 hQf)
            have HRD := Lib.hid (dread_any (some ⟨g, 0, none⟩) db n T wc hTl hTs hT8 (fun h => by cases h) (by omega))
            clear hPb hPb1 hown hQl hQ8 hQf hT hTl hT8 hTs HQ HPL HLN F2 hd1 hn
            go_wp2_with fail
            refine HRD.out.mono ?_
            rintro e w9 (⟨A', M', L', f', ks', gs, h', s', hr, rfl, k9, e1, e2⟩ | ⟨hno, rfl, f9⟩)
            · have FW5 := Lib.hid (FW.out.trans0 k9.fr)
              have hok := (rdOk_iff HT8.out).1 hr
              have HT := Lib.hid (fun W (f : Fr S0 w9 W) => sl_txt (HTS.out.fr0 (k9.fr.trans0 f)) HTL.out (d := db))
              have HRW := Lib.hid (write_read hok)
              have HLE : Hid (L'.length ≤ 1000000) := Lib.hid (by have := hok.2.ld.len; have := hok.2.ld.m3; omega)
              have HAC : Hid (∀ W, Fr S0 w9 W → Calls Tryz.prog 16 #[.pointer (some ⟨gs, 0, none⟩)] W fun e w' => e = .returned (.int .i64 (A' : Nat)) ∧ Fr S0 W w') := Lib.hid fun W f => (daccuracy_any gs h' s' A' M' ks' W (k9.is.fr0 f)).mono fun e w' ⟨x, y⟩ => ⟨x, y ▸ Fr.refl _ _⟩
              have HBU := Lib.hid (fun W (f : Fr S0 w9 W) => dbudget_any gs h' s' A' M' ks' W (k9.is.fr0 f))
              have HPY := Lib.hid (fun W (f : Fr S0 w9 W) => dpairs_any gs h' s' A' M' ks' W (k9.is.fr0 f))
              have HFO := Lib.hid (fun W (f : Fr S0 w9 W) => dfolded_any gs h' s' A' M' ks' W (k9.is.fr0 f))
              rw [e1] at HPY
              rw [e2] at HFO
              clear hr hok k9 e1 e2 HRD HTS HTL HT8 FW
              go_wp2_with fail
              refine wp_region_noPanic ?_
              refine wp_region_held_drew (S := fun w' => Fr S0 w9 w' ∧ (convert 30 9 (.slice (some ⟨g, 0, none⟩) n db)).run Tryz.prog w' = .ok (.string (strB T)) w') (by kernel_rfl) ⟨Fr.drew S0 w9, HT.out _ (Fr.drew S0 w9)⟩ (fun hHeld0 => ?_)
              refine wpAnyH_take (i := 0) (oi := Oper.mk (some 98) _ _ _ _ _) (v := ?_) rfl (by as_aux_lemma => kernel_rfl) (by as_aux_lemma => kernel_rfl) (by as_aux_lemma => kernel_rfl) (fun _ _ _ h => h) (Or.inl ⟨by rfl, ?_⟩) (by assumption) ?_
              rotate_left
              · (intro w hSw; obtain ⟨hf, h3⟩ := hSw; go_simp <;> with_reducible rfl)
              simp only [Act.put, List.setIfInBounds_toArray, List.set_cons_zero, List.set_cons_succ]
              refine wpAnyH_take (i := 2) (oi := Oper.mk (some 100) _ _ _ _ _) (v := ?_) rfl (by as_aux_lemma => kernel_rfl) (by as_aux_lemma => kernel_rfl) (by as_aux_lemma => kernel_rfl) (fun _ _ _ h => h) (Or.inl ⟨by rfl, ?_⟩) (by assumption) ?_
              rotate_left
              · (intro w hSw; obtain ⟨hf, h3⟩ := hSw; go_simp <;> with_reducible rfl)
              simp only [Act.put, List.setIfInBounds_toArray, List.set_cons_zero, List.set_cons_succ]
              refine wpAnyH_take (i := 4) (oi := Oper.mk (some 102) _ _ _ _ _) (v := ?_) rfl (by as_aux_lemma => kernel_rfl) (by as_aux_lemma => kernel_rfl) (by as_aux_lemma => kernel_rfl) (fun _ _ _ h => h) (Or.inl ⟨by rfl, ?_⟩) (by assumption) ?_
              rotate_left
              · (intro w hSw; obtain ⟨hf, h3⟩ := hSw; go_simp <;> with_reducible rfl)
              simp only [Act.put, List.setIfInBounds_toArray, List.set_cons_zero, List.set_cons_succ]
              refine wpAnyH_take (i := 6) (oi := Oper.mk (some 104) _ _ _ _ _) (v := ?_) rfl (by as_aux_lemma => kernel_rfl) (by as_aux_lemma => kernel_rfl) (by as_aux_lemma => kernel_rfl) (fun _ _ _ h => h) (Or.inl ⟨by rfl, ?_⟩) (by assumption) ?_
              rotate_left
              · (intro w hSw; obtain ⟨hf, h3⟩ := hSw; go_simp <;> with_reducible rfl)
              simp only [Act.put, List.setIfInBounds_toArray, List.set_cons_zero, List.set_cons_succ]
              refine wpAnyH_take (i := 10) (oi := Oper.mk (some 108) _ _ _ _ _) (v := ?_) rfl (by as_aux_lemma => kernel_rfl) (by as_aux_lemma => kernel_rfl) (by as_aux_lemma => kernel_rfl) (fun _ _ _ h => h) (Or.inl ⟨by rfl, ?_⟩) (by assumption) ?_
              rotate_left
              · (intro w hSw; obtain ⟨hf, h3⟩ := hSw; go_simp <;> with_reducible rfl)
              simp only [Act.put, List.setIfInBounds_toArray, List.set_cons_zero, List.set_cons_succ]
              refine wpAnyH_take (i := 11) (oi := Oper.mk (some 109) _ _ _ _ _) (v := ?_) rfl (by as_aux_lemma => kernel_rfl) (by as_aux_lemma => kernel_rfl) (by as_aux_lemma => kernel_rfl) (fun _ _ _ h => h) (Or.inl ⟨by rfl, ?_⟩) (by assumption) ?_
              rotate_left
              · (intro w hSw; obtain ⟨hf, h3⟩ := hSw; go_simp <;> with_reducible rfl)
              simp only [Act.put, List.setIfInBounds_toArray, List.set_cons_zero, List.set_cons_succ]
              refine wpAnyH_ready (rs := [1]) (by kernel_rfl) (by simp) (AllReadyH.cons (o := Oper.mk (some 99) _ _ _ _ _) rfl (fun K hK => ?_) AllReadyH.nil)
              go_simp
              go_at_call 16
              refine (HAC.out _ hHeld0.1).mono ?_
              rintro _ v1 ⟨rfl, f⟩
              refine hK.out _ _ ⟨hHeld0.1.trans0 f, HT.out _ (hHeld0.1.trans0 f)⟩ (fun hHeld1 => ?_)
              clear hK K hHeld0 f
              try simp only [Act.put, List.setIfInBounds_toArray, List.set_cons_zero, List.set_cons_succ]
              refine wpAnyH_ready (rs := [3]) (by kernel_rfl) (by simp) (AllReadyH.cons (o := Oper.mk (some 101) _ _ _ _ _) rfl (fun K hK => ?_) AllReadyH.nil)
              go_simp
              go_at_call 17
              refine (HBU.out _ hHeld1.1).mono ?_
              rintro _ v3 ⟨rfl, f⟩
              refine hK.out _ _ ⟨hHeld1.1.trans0 f, HT.out _ (hHeld1.1.trans0 f)⟩ (fun hHeld2 => ?_)
              clear hK K hHeld1 f
              try simp only [Act.put, List.setIfInBounds_toArray, List.set_cons_zero, List.set_cons_succ]
              refine wpAnyH_ready (rs := [5]) (by kernel_rfl) (by simp) (AllReadyH.cons (o := Oper.mk (some 103) _ _ _ _ _) rfl (fun K hK => ?_) AllReadyH.nil)
              go_simp
              go_at_call 19
              refine (HPY.out _ hHeld2.1).mono ?_
              rintro _ v5 ⟨pa, ca, na, rfl, see⟩
              have HSEE := Lib.hid (And.intro (see.pri (by have := HLE.out; have := see.len; omega)) see.len)
              refine hK.out _ _ ⟨hHeld2.1.trans0 see.fr, HT.out _ (hHeld2.1.trans0 see.fr)⟩ (fun hHeld3 => ?_)
              clear hK K hHeld2 see
              try simp only [Act.put, List.setIfInBounds_toArray, List.set_cons_zero, List.set_cons_succ]
              refine wpAnyH_ready (rs := [7]) (by kernel_rfl) (by simp) (AllReadyH.cons (o := Oper.mk (some 105) _ _ _ _ _) rfl (fun K hK => ?_) AllReadyH.nil)
              go_simp
              go_at_call 20
              refine (HFO.out _ hHeld3.1).mono ?_
              rintro _ v7 ⟨rfl, f⟩
              have HSE2 := Lib.hid (And.intro (HSEE.out.1.fr0 f) HSEE.out.2)
              refine hK.out _ _ ⟨hHeld3.1.trans0 f, HT.out _ (hHeld3.1.trans0 f)⟩ (fun hHeld4 => ?_)
              clear hK K hHeld3 f HSEE
              try simp only [Act.put, List.setIfInBounds_toArray, List.set_cons_zero, List.set_cons_succ]
              refine wpAnyH_ready (rs := [8]) (by kernel_rfl) (by simp) (AllReadyH.cons (o := Oper.mk (some 106) _ _ _ _ _) rfl (fun K hK => ?_) AllReadyH.nil)
              go_simp
              go_at_call 21
              refine (HRW.out _ _ _ _ HSE2.out.1 HSE2.out.2).mono ?_
              rintro _ v8 ⟨vw, rfl, acc⟩
              obtain ⟨qw, dw, rfl, sw, -⟩ := acc.sl
              have tw := sl_txt sw rfl (d := dw)
              refine hK.out _ _ ⟨hHeld4.1.trans0 acc.fr, HT.out _ (hHeld4.1.trans0 acc.fr)⟩ (fun hHeld5 => ?_)
              clear hK K hHeld4 acc sw HSE2
              try simp only [Act.put, List.setIfInBounds_toArray, List.set_cons_zero, List.set_cons_succ]
              refine wpAnyH_ready (rs := [9]) (by kernel_rfl) (by simp) (AllReadyH.cons (o := Oper.mk (some 107) _ _ _ _ _) rfl (fun K hK => ?_) AllReadyH.nil)
              go_simp
              refine hK.out _ _ hHeld5 (fun hHeld6 => ?_)
              clear hK K  hHeld5 tw
              try simp only [Act.put, List.setIfInBounds_toArray, List.set_cons_zero, List.set_cons_succ]
              refine wpAnyH_take (i := 12) (oi := Oper.mk (some 110) _ _ _ _ _) (v := ?_) rfl (by as_aux_lemma => kernel_rfl) (by as_aux_lemma => kernel_rfl) (by as_aux_lemma => kernel_rfl) (fun _ _ _ h => h) (Or.inl ⟨by rfl, ?_⟩) (by assumption) ?_
              rotate_left
              · (intro w hSw; obtain ⟨hf, h3⟩ := hSw; go_simp <;> with_reducible rfl)
              simp only [Act.put, List.setIfInBounds_toArray, List.set_cons_zero, List.set_cons_succ]
              refine wpAnyH_take (i := 13) (oi := Oper.mk (some 14) _ _ _ _ _) (v := ?_) rfl (by as_aux_lemma => kernel_rfl) (by as_aux_lemma => kernel_rfl) (by as_aux_lemma => kernel_rfl) (fun _ _ _ h => h) (Or.inl ⟨by rfl, ?_⟩) (by assumption) ?_
              rotate_left
              · (intro w hSw; obtain ⟨hf, h3⟩ := hSw; go_simp <;> with_reducible rfl)
              simp only [Act.put, List.setIfInBounds_toArray, List.set_cons_zero, List.set_cons_succ]
              have FZ := Lib.hid (FW5.out.trans0 hHeld6.1)
              clear hHeld6
              refine wpAnyH_done (by kernel_rfl) ?_ _
              refine NoPanic.normal ?_
              go_wp2_with fail
              go_ret
              exact ⟨rfl, FZ.out⟩
            · have FW5 := Lib.hid (FW.out.trans0 f9)
              clear f9 hno HRD
              go_wp2_with fail
              go_ret
              exact ⟨rfl, FW5.out⟩
  · have hk2 : decide ((100 : Int) < (k : Int)) = true := decide_eq_true (by omega)
    have hk3 : (100 : Int) < (k : Int) := by omega
    clear hk1
    go_enter Tryz.func6, Tryz.ntmps6
    go_wp2_with fail
    refine HA.out.mono ?_
    rintro e w1 ⟨rfl, f1⟩
    have F1 := Lib.hid f1
    clear f1 HA
    go_wp2_with fail
    go_ret
    exact ⟨rfl, F1.out⟩
end
end Go.Proofs.YtaemgflhgdlmiaaGreat
