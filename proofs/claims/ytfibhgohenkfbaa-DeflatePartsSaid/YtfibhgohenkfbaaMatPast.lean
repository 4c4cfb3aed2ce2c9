/- A text up to a place: how long a place's bytes are the same; the longest of all places. -/
import Derived.Test.YtfibhgohenkfbaaMatGrp
namespace Go.Proofs.Ytfibhgohenkfbaa.M
open Go.RowKit Go.MapKept

/-- block a holds the text, the place and the map -/
structure PastIs (w : World) (a bm : Nat) (p : Option Addr) (c : Nat) (b : List Nat) (k : Nat) : Prop where
  blk : w.heap[a]? = some (.cells #[.slice p b.length c, .int .i64 (k : Nat), .map (some bm)] 72 (0, 0))
  txt : SlI w .u8 p b
  cap : b.length ≤ c
  small : ∀ x ∈ b, x < 256
  len : b.length ≤ 1048576
theorem PastIs.c0 {w : World} {a bm : Nat} {p : Option Addr} {c : Nat} {b : List Nat} {k : Nat} (h : PastIs w a bm p c b k) : w.cell? ⟨a, 0, none⟩ = some (.slice p b.length c) := by simp [World.cell?, h.blk]
theorem PastIs.c1 {w : World} {a bm : Nat} {p : Option Addr} {c : Nat} {b : List Nat} {k : Nat} (h : PastIs w a bm p c b k) : w.cell? ⟨a, 1, none⟩ = some (.int .i64 (k : Nat)) := by simp [World.cell?, h.blk]
theorem PastIs.c2 {w : World} {a bm : Nat} {p : Option Addr} {c : Nat} {b : List Nat} {k : Nat} (h : PastIs w a bm p c b k) : w.cell? ⟨a, 2, none⟩ = some (.map (some bm)) := by simp [World.cell?, h.blk]
theorem PastIs.f1 {w : World} {a bm : Nat} {p : Option Addr} {c : Nat} {b : List Nat} {k : Nat} (h : PastIs w a bm p c b k) : w.frozen? ⟨a, 1, none⟩ = false := by simp [World.frozen?, h.blk]
theorem PastIs.fr {S : Nat → Prop} {w w' : World} {a bm : Nat} {p : Option Addr} {c : Nat} {b : List Nat} {k : Nat} (h : PastIs w a bm p c b k) (hf : Fr S w w') (ha : ¬ S a) (hp : b ≠ [] → Off S p) : PastIs w' a bm p c b k :=
  ⟨hf.row h.blk ha, h.txt.fr hf hp, h.cap, h.small, h.len⟩
theorem PastIs.fr0 {w w' : World} {a bm : Nat} {p : Option Addr} {c : Nat} {b : List Nat} {k : Nat} (h : PastIs w a bm p c b k) (hf : Fr S0 w w') : PastIs w' a bm p c b k := h.fr hf (fun h => h) (fun _ => Off.s0 _)
theorem PastIs.to {w : World} {a bm : Nat} {p : Option Addr} {c : Nat} {b : List Nat} {k : Nat} (h : PastIs w a bm p c b k) (k' : Nat) (ha : b ≠ [] → Off (· = a) p) : PastIs (w.setCell ⟨a, 1, none⟩ (.int .i64 (k' : Nat))) a bm p c b k' :=
  ⟨by rw [heap_setCell_same w a 1 _ _ _ h.blk]; rfl, h.txt.fr (Fr.setCell (· = a) w ⟨a, 1, none⟩ _ rfl) ha, h.cap, h.small, h.len⟩
theorem getD_at (b : List Nat) (i : Nat) (h : i < b.length) : b.getD i 0 = b[i] := by simp [h]

/-- the run of the places that the program looks at -/
def sam (b : List Nat) (i k s e : Nat) : Nat := if b.getD (i + s) 0 = b.getD (k + s) 0 then run b i k e else 0

set_option maxRecDepth 100000 in
set_option maxHeartbeats 1000000 in
theorem same_any (a bm : Nat) (p : Option Addr) (c : Nat) (b : List Nat) (k i s e : Nat) (w : World) (h : PastIs w a bm p c b k) (hi : i < k) (hs : s < e) (he : k + e ≤ b.length) :
    Calls Try.prog 83 #[.pointer (some ⟨a, 0, none⟩), .int .i64 (i : Nat), .int .i64 (s : Nat), .int .i64 (e : Nat)] w fun r w' => r = .returned (.int .i64 (sam b i k s e : Nat)) ∧ Fr S0 w w' := by
  have H := Lib.hid h
  have hc0 := h.c0
  have hc1 := h.c1
  have hlen := h.len
  have hcap := h.cap
  obtain ⟨B, o, hpe, hx⟩ := h.txt.at (i + s) (by omega)
  obtain ⟨B', o', hpe', hy⟩ := h.txt.at (k + s) (by omega)
  rw [hpe] at hpe'
  obtain ⟨rfl, rfl⟩ : B = B' ∧ o = o' := by simpa using hpe'
  subst hpe
  have HX := getD_at b (i + s) (by omega)
  have HY := getD_at b (k + s) (by omega)
  obtain ⟨x, hxe⟩ : ∃ x, b[i + s] = x := ⟨_, rfl⟩
  obtain ⟨y, hye⟩ : ∃ y, b[k + s] = y := ⟨_, rfl⟩
  rw [hxe] at hx HX
  rw [hye] at hy HY
  obtain ⟨m, hm⟩ : ∃ m, b.length = m := ⟨_, rfl⟩
  have HM := Lib.hid hm
  rw [hm] at hc0 hlen hcap he
  clear hpe' h hxe hye hm
  have q1 : (i : Int) + (s : Int) < (m : Int) := by omega
  have q2 : (k : Int) + (s : Int) < (m : Int) := by omega
  have hx' : w.cell? ⟨B, o + (i + s), none⟩ = some (.int .u8 (x : Int)) := hx
  have hy' : w.cell? ⟨B, o + (k + s), none⟩ = some (.int .u8 (y : Int)) := hy
  by_cases hxy : (x : Int) = (y : Int)
  · have HS : Hid (sam b i k s e = run b i k e) := Lib.hid (by unfold sam; rw [if_pos (by omega)])
    have HXY := Lib.hid hxy
    go_enter Try.func83, Try.ntmps83
    go_wp2_with fail
    go_quiet (fail)
    go_wp2_with fail
    go_loopw [9] (fun n wr => ∃ j : Nat, j ≤ e ∧ n = .int .i64 j ∧ Fr S0 w wr ∧ ∀ q, q < j → b.getD (i + q) 0 = b.getD (k + q) 0) (fun n _ => e - (intOf n).toNat)
    case atStart => exact ⟨0, by omega, rfl, Fr.drewN _ _ _, fun q hq => by omega⟩
    case round =>
      obtain ⟨j, hj, rfl, hfr, hq⟩ := hrel
      have H1 := H.out.fr0 hfr
      have hc0 := H1.c0
      have hc1 := H1.c1
      rw [HM.out] at hc0
      have HFR := Lib.hid hfr
      have HQ := Lib.hid hq
      by_cases hje : (j : Int) < (e : Int)
      · obtain ⟨B', o', hpe', hu⟩ := H1.txt.at (i + j) (by rw [HM.out]; omega)
        obtain ⟨B'', o'', hpe'', hv⟩ := H1.txt.at (k + j) (by rw [HM.out]; omega)
        obtain ⟨rfl, rfl⟩ : B = B' ∧ o = o' := by simpa using hpe'
        obtain ⟨rfl, rfl⟩ : B = B'' ∧ o = o'' := by simpa using hpe''
        have HU := getD_at b (i + j) (by rw [HM.out]; omega)
        have HV := getD_at b (k + j) (by rw [HM.out]; omega)
        obtain ⟨u, hue⟩ : ∃ u, b[i + j]'(by rw [HM.out]; omega) = u := ⟨_, rfl⟩
        obtain ⟨v, hve⟩ : ∃ v, b[k + j]'(by rw [HM.out]; omega) = v := ⟨_, rfl⟩
        rw [hue] at hu HU
        rw [hve] at hv HV
        have r1 : (i : Int) + (j : Int) < (m : Int) := by omega
        have r2 : (k : Int) + (j : Int) < (m : Int) := by omega
        have hu' : wr.cell? ⟨B, o + (i + j), none⟩ = some (.int .u8 (u : Int)) := hu
        have hv' : wr.cell? ⟨B, o + (k + j), none⟩ = some (.int .u8 (v : Int)) := hv
        clear hpe' hpe'' hue hve hfr hq
        by_cases huv : (u : Int) = (v : Int)
        · go_wp2_with fail
          go_quiet (fail)
          go_wp2_with fail
          go_roundw
          case rel => exact ⟨j + 1, by omega, by simp, HFR.out.trans0 (Fr.drewN _ _ _), fun q hq => by
            by_cases e1 : q = j
            · rw [e1, HU, HV]; omega
            · exact HQ.out q (by omega)⟩
          case measure => simp [intOf]; omega
        · have HR : Hid (run b i k e = j) := Lib.hid (run_unique b e i k j (by omega) (fun q h1 => ⟨by rw [HM.out]; omega, HQ.out q h1⟩) fun _ h2 => huv (by rw [← HU, ← HV, h2.2]))
          go_wp2_with fail
          go_quiet (fail)
          go_wp2
          go_ret
          exact ⟨congrArg (fun z : Nat => Ending.returned (Value.int .i64 (z : Int))) (HS.out.trans HR.out).symm, HFR.out.trans0 (Fr.drewN _ _ _)⟩
      · have HR : Hid (run b i k e = j) := Lib.hid (run_unique b e i k j (by omega) (fun q h1 => ⟨by rw [HM.out]; omega, HQ.out q h1⟩) fun h1 _ => by omega)
        have hd : decide (j < e) = false := decide_eq_false (by omega)
        clear hfr hq
        go_wp2_with fail
        go_quiet (fail)
        go_wp2
        go_ret
        exact ⟨congrArg (fun z : Nat => Ending.returned (Value.int .i64 (z : Int))) (HS.out.trans HR.out).symm, HFR.out.trans0 (Fr.drewN _ _ _)⟩
  · have HS : Hid (sam b i k s e = 0) := Lib.hid (by unfold sam; rw [if_neg (by omega)])
    go_enter Try.func83, Try.ntmps83
    go_wp2_with fail
    go_quiet (fail)
    go_wp2
    go_ret
    exact ⟨by rw [HS.out]; rfl, Fr.drewN _ _ _⟩
end Go.Proofs.Ytfibhgohenkfbaa.M
