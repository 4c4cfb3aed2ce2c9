/- AdAll -/
import Derived.Test.YtnndgpggjlhhpaaGreatPt1
import Derived.Test.YtnndgpggjlhhpaaGreatPt2
import Derived.Test.YtnndgpggjlhhpaaGreatPt15
import Derived.WalkKit
import Derived.StillTailTactics
import Derived.WalkSpells
import Derived.WalkLawsBesides
import Derived.Deep.QuietTactic
import Derived.BigQuiet
import Derived.RegionTactic
import Derived.Deep.AppendLies
import Derived.Deep.RegionLaw
import Derived.Laws.ResultCell
import Derived.Laws.EntriesVeiled
import Derived.Lib.Hide
import Derived.Test.YtnndgpggjlhhpaaGreatRows
import Derived.Laws.BytesArg
import Derived.Lib.SlBytesConst
import Derived.Maps.AppendAt
import Derived.Laws.AppendOwnNone
set_option maxRecDepth 100000
set_option maxHeartbeats 8000000
namespace Go.Proofs.YtnndgpggjlhhpaaGreat
open Go.RowKit
def adF (a b : Nat) : List Nat → Nat × Nat
  | [] => (a, b)
  | x :: r => adF ((a + x) % 65521) (((a + x) % 65521 + b) % 65521) r
def sS : List Nat → Nat
  | [] => 0
  | x :: r => x + sS r
def sW : List Nat → Nat
  | [] => 0
  | x :: r => (r.length + 1) * x + sW r
theorem mod_part (n y : Nat) : n * y = n * (y / 65521) * 65521 + n * (y % 65521) := by
  rw [Nat.mul_assoc, ← Nat.mul_add, Nat.mul_comm (y / 65521), Nat.div_add_mod]
theorem adF_eq : ∀ (l : List Nat) (a b : Nat), a < 65521 → b < 65521 → adF a b l = ((a + sS l) % 65521, (b + l.length * a + sW l) % 65521)
  | [], a, b, ha, hb => by
    simp only [adF, sS, sW, List.length_nil, Nat.zero_mul, Nat.add_zero]
    rw [Nat.mod_eq_of_lt ha, Nat.mod_eq_of_lt hb]
  | x :: r, a, b, ha, hb => by
    rw [adF, adF_eq r _ _ (Nat.mod_lt _ (by decide)) (Nat.mod_lt _ (by decide)), sS, sW, List.length_cons]
    have h1 := mod_part r.length (a + x)
    have h2 : (r.length + 1) * a + (r.length + 1) * x = r.length * (a + x) + (a + x) := by rw [← Nat.mul_add, Nat.add_mul, Nat.one_mul]
    generalize r.length * ((a + x) / 65521) = p at h1
    generalize r.length * ((a + x) % 65521) = q at h1 ⊢
    generalize r.length * (a + x) = t at h1 h2
    generalize (r.length + 1) * a = u at h2 ⊢
    generalize (r.length + 1) * x = v at h2 ⊢
    refine Prod.ext ?_ ?_
    · show ((a + x) % 65521 + sS r) % 65521 = (a + (x + sS r)) % 65521
      omega
    · show (((a + x) % 65521 + b) % 65521 + q + sW r) % 65521 = (b + u + (v + sW r)) % 65521
      omega
theorem adF_append : ∀ (l m : List Nat) (a b : Nat), adF a b (l ++ m) = adF (adF a b l).1 (adF a b l).2 m
  | [], _, _, _ => rfl
  | x :: r, m, a, b => by rw [List.cons_append, adF, adF, adF_append r]
theorem adF_lt (l : List Nat) (a b : Nat) (ha : a < 65521) (hb : b < 65521) : (adF a b l).1 < 65521 ∧ (adF a b l).2 < 65521 := by
  rw [adF_eq l a b ha hb]
  exact ⟨Nat.mod_lt _ (by decide), Nat.mod_lt _ (by decide)⟩
theorem sS_append : ∀ (l m : List Nat), sS (l ++ m) = sS l + sS m
  | [], m => by rw [List.nil_append, sS, Nat.zero_add]
  | x :: r, m => by rw [List.cons_append, sS, sS, sS_append r, Nat.add_assoc]
theorem sW_append : ∀ (l m : List Nat), sW (l ++ m) = sW l + m.length * sS l + sW m
  | [], m => by simp [sW, sS]
  | x :: r, m => by
    rw [List.cons_append, sW, sW, sW_append r, sS, List.length_append, Nat.mul_add, show (r.length + m.length + 1) * x = (r.length + 1) * x + m.length * x by rw [← Nat.add_mul]; congr 1; omega]
    omega
def loA (s : Nat) : Nat := s % 65536 % 65521
def hiA (s : Nat) : Nat := s / 65536 % 65521
def put (r : Nat × Nat) : Nat := 65536 * r.2 + r.1
def adMore (s : Nat) (l : List Nat) : Nat := put (adF (loA s) (hiA s) l)
def adSum (l : List Nat) : Nat := adMore 1 l
def rightB (s : Nat) : Bool := decide (s % 65536 < 65521) && decide (s / 65536 < 65521)
theorem loA_lt (s : Nat) : loA s < 65521 := Nat.mod_lt _ (by decide)
theorem hiA_lt (s : Nat) : hiA s < 65521 := Nat.mod_lt _ (by decide)
theorem put_parts (r : Nat × Nat) (h : r.1 < 65521 ∧ r.2 < 65521) : loA (put r) = r.1 ∧ hiA (put r) = r.2 ∧ rightB (put r) = true ∧ put r < 4294967296 := by
  obtain ⟨a, b⟩ := r
  obtain ⟨ha, hb⟩ : a < 65521 ∧ b < 65521 := h
  unfold loA hiA rightB put
  simp only
  refine ⟨by omega, by omega, ?_, by omega⟩
  rw [Bool.and_eq_true, decide_eq_true_iff, decide_eq_true_iff]; omega
theorem adMore_put (s : Nat) (l : List Nat) : loA (adMore s l) = (adF (loA s) (hiA s) l).1 ∧ hiA (adMore s l) = (adF (loA s) (hiA s) l).2 ∧ rightB (adMore s l) = true ∧ adMore s l < 4294967296 :=
  put_parts _ (adF_lt l _ _ (loA_lt s) (hiA_lt s))
theorem adMore_lt (s : Nat) (l : List Nat) : adMore s l < 4294967296 := (adMore_put s l).2.2.2
end Go.Proofs.YtnndgpggjlhhpaaGreat
namespace Go.Proofs.YtnndgpggjlhhpaaGreat
open Go.RowKit
def U32Post (w : World) (e : Ending) (w' : World) (n : Nat) : Prop := e = .returned (.int .u32 (n : Int)) ∧ Fr S0 w w'
end Go.Proofs.YtnndgpggjlhhpaaGreat
namespace Go.Proofs.YtnndgpggjlhhpaaGreat
open Go.RowKit
structure PtIs (w : World) (g a b : Nat) : Prop where
  blk : w.heap[g]? = some (.cells #[.int .u32 a, .int .u32 b] 176 (0, 0))
theorem PtIs.c0 {w : World} {g a b : Nat} (h : PtIs w g a b) : w.cell? ⟨g, 0, none⟩ = some (.int .u32 a) := by simp [World.cell?, h.blk]
theorem PtIs.c1 {w : World} {g a b : Nat} (h : PtIs w g a b) : w.cell? ⟨g, 0 + 1, none⟩ = some (.int .u32 b) := by simp [World.cell?, h.blk]
theorem PtIs.f0 {w : World} {g a b : Nat} (h : PtIs w g a b) : w.frozen? ⟨g, 0, none⟩ = false := by simp [World.frozen?, h.blk]
theorem PtIs.f1 {w : World} {g a b : Nat} (h : PtIs w g a b) : w.frozen? ⟨g, 1, none⟩ = false := by simp [World.frozen?, h.blk]
theorem PtIs.fr {w w' : World} {g a b : Nat} {S : Nat → Prop} (h : PtIs w g a b) (hf : Fr S w w') (hg : ¬ S g) : PtIs w' g a b := ⟨hf.row h.blk hg⟩
theorem PtIs.new (w : World) (a b : Nat) : PtIs (w.alloc (.cells #[.int .u32 a, .int .u32 b] 176)) w.heap.size a b := ⟨heap_alloc_new w _⟩
theorem PtIs.set0 {w : World} {g a b : Nat} (h : PtIs w g a b) (x : Nat) : PtIs (w.setCell ⟨g, 0, none⟩ (.int .u32 x)) g x b := ⟨by rw [heap_setCell_same w g 0 _ _ _ h.blk]; rfl⟩
theorem PtIs.set1 {w : World} {g a b : Nat} (h : PtIs w g a b) (x : Nat) : PtIs (w.setCell ⟨g, 1, none⟩ (.int .u32 x)) g a x := ⟨by rw [heap_setCell_same w g 1 _ _ _ h.blk]; rfl⟩
theorem PtIs.drewN {w : World} {g a b : Nat} (h : PtIs w g a b) (k : Nat) : PtIs (w.drewN k) g a b := ⟨h.blk⟩
structure PtTo (w w' : World) (g a b : Nat) : Prop where
  is : PtIs w' g a b
  fr : Fr (· = g) w w'
theorem PtIs.self {w : World} {g a b : Nat} (h : PtIs w g a b) : PtTo w w g a b := ⟨h, Fr.refl _ _⟩
theorem PtTo.set0 {w w' : World} {g a b : Nat} (h : PtTo w w' g a b) (x : Nat) : PtTo w (w'.setCell ⟨g, 0, none⟩ (.int .u32 x)) g x b :=
  ⟨h.is.set0 x, h.fr.trans (Fr.setCell (· = g) _ ⟨g, 0, none⟩ _ rfl) fun _ _ h => h⟩
theorem PtTo.set1 {w w' : World} {g a b : Nat} (h : PtTo w w' g a b) (x : Nat) : PtTo w (w'.setCell ⟨g, 1, none⟩ (.int .u32 x)) g a x :=
  ⟨h.is.set1 x, h.fr.trans (Fr.setCell (· = g) _ ⟨g, 1, none⟩ _ rfl) fun _ _ h => h⟩
theorem PtTo.drewN {w w' : World} {g a b : Nat} (h : PtTo w w' g a b) (k : Nat) : PtTo w (w'.drewN k) g a b := ⟨h.is.drewN k, h.fr.trans0 (Fr.drewN _ _ _)⟩
theorem PtTo.trans {w w1 w2 : World} {g a b c d : Nat} (h : PtTo w w1 g a b) (k : PtTo w1 w2 g c d) : PtTo w w2 g c d := ⟨k.is, h.fr.trans k.fr fun _ _ h => h⟩
theorem ad_and_low (s : Nat) (hs : s < 4294967296) : bits .and .u32 (s : Int) 65535 = ((s % 65536 : Nat) : Int) := by
  have h := u32_and_nat s 65535 hs (by decide)
  rw [show (65535 : Nat) = 2 ^ 16 - 1 by decide, Nat.and_two_pow_sub_one_eq_mod] at h
  exact h
theorem or_parts (a b : Nat) (ha : a < 65521) (hb : b < 65521) : bits .or .u32 ((b : Int) * 65536) (a : Int) = ((put (a, b) : Nat) : Int) := by
  have h := u32_or_nat (b * 65536) a (by omega) (by omega)
  rw [show b * 65536 = b <<< 16 by rw [Nat.shiftLeft_eq], ← Nat.shiftLeft_add_eq_or_of_lt (show a < 2 ^ 16 by omega), Nat.shiftLeft_eq] at h
  rw [show ((b : Int) * 65536) = ((b * 2 ^ 16 : Nat) : Int) by omega, h]
  unfold put
  omega
theorem split_any (s : Nat) (w : World) (hs : s < 4294967296) :
    Calls Tryz.prog 124 #[.int .u32 s] w fun e w' => e = .returned (.agg #[.int .u32 (s % 65536 : Nat), .int .u32 (s / 65536 : Nat)]) ∧ Fr S0 w w' := by
  have H := Lib.hid (ad_and_low s hs)
  go_enter Tryz.func124, Tryz.ntmps124
  go_wp2
  rw [H.out]
  exact bodyPost_ret (v := .agg #[.int .u32 (s % 65536 : Nat), .int .u32 (s / 65536 : Nat)]) (by simp [results, Tryz.results124, go_sem]) rfl ⟨rfl, Fr.alloc _ _ _⟩
theorem reduce_any (g a b : Nat) (w : World) (h : PtIs w g a b) (ha : a < 4294967296) (hb : b < 4294967296) :
    Calls Tryz.prog 125 #[.pointer (some ⟨g, 0, none⟩)] w fun e w' => e = .returned (.tuple #[]) ∧ PtTo w w' g (a % 65521) (b % 65521) := by
  have H := Lib.hid h
  have h0 := h.c0
  have h1 := h.c1
  have h2 := h.f0
  have h3 := h.f1
  clear h
  go_enter Tryz.func125, Tryz.ntmps125
  go_wp2
  go_end0
  exact ⟨rfl, (H.out.self.set0 _).set1 _⟩
theorem psum_any (g a b : Nat) (w : World) (h : PtIs w g a b) (ha : a < 65521) (hb : b < 65521) :
    Calls Tryz.prog 128 #[.pointer (some ⟨g, 0, none⟩)] w fun e w' => e = .returned (.int .u32 (put (a, b) : Nat)) ∧ Fr S0 w w' := by
  have h0 := h.c0
  have h1 := h.c1
  have H := Lib.hid (or_parts a b ha hb)
  go_enter Tryz.func128, Tryz.ntmps128
  go_wp2
  go_quiet (fail)
  go_wp2
  go_ret
  exact ⟨congrArg (fun z => Ending.returned (Value.int IntKind.u32 z)) H.out, Fr.drewN _ _ _⟩
def rawA (a : Nat) (l : List Nat) : Nat := a + sS l
def rawB (a b : Nat) (l : List Nat) : Nat := b + l.length * a + sW l
theorem raw_next (a b : Nat) (l : List Nat) (k : Nat) (hk : k < l.length) :
    rawA a (l.take (k + 1)) = rawA a (l.take k) + l[k] ∧ rawB a b (l.take (k + 1)) = rawB a b (l.take k) + rawA a (l.take (k + 1)) := by
  unfold rawA rawB
  rw [List.take_succ_eq_append_getElem hk, sS_append, sW_append, List.length_append]
  simp only [sS, sW, List.length_cons, List.length_nil, Nat.add_mul]
  omega
theorem sS_le : ∀ (l : List Nat), (∀ x ∈ l, x < 256) → sS l ≤ 255 * l.length
  | [], _ => by simp [sS]
  | x :: r, h => by
    have h1 := sS_le r fun y hy => h y (List.mem_cons_of_mem _ hy)
    have h2 := h x List.mem_cons_self
    rw [sS, List.length_cons]; omega
theorem sW_le : ∀ (l : List Nat), (∀ x ∈ l, x < 256) → 2 * sW l ≤ 255 * (l.length * (l.length + 1))
  | [], _ => by simp [sW]
  | x :: r, h => by
    have h1 := sW_le r fun y hy => h y (List.mem_cons_of_mem _ hy)
    have h2 := h x List.mem_cons_self
    have h3 : (r.length + 1) * x ≤ (r.length + 1) * 255 := Nat.mul_le_mul_left _ (by omega)
    rw [sW, List.length_cons]
    have h4 : (r.length + 1) * (r.length + 1 + 1) = r.length * (r.length + 1) + 2 * (r.length + 1) := by rw [← Nat.add_mul, Nat.mul_comm]
    omega
theorem raw_lt (a b : Nat) (l : List Nat) (ha : a < 65521) (hb : b < 65521) (hl : l.length ≤ 5552) (h : ∀ x ∈ l, x < 256) : rawA a l < 4294967296 ∧ rawB a b l < 4294967296 := by
  unfold rawA rawB
  have h1 := sS_le l h
  have h2 := sW_le l h
  have h3 : l.length * a ≤ 5552 * 65520 := Nat.mul_le_mul hl (by omega)
  have h4 : l.length * (l.length + 1) ≤ 5552 * 5553 := Nat.mul_le_mul hl (by omega)
  omega
theorem raw_mod (a b : Nat) (l : List Nat) (ha : a < 65521) (hb : b < 65521) : (rawA a l % 65521, rawB a b l % 65521) = adF a b l := by rw [adF_eq l a b ha hb]; rfl
theorem take_any (g a b : Nat) (p : Option Addr) (d : Nat) (l : List Nat) (w : World) (h : PtIs w g a b) (ha : a < 65521) (hb : b < 65521) (hl : SlI w .u8 p l) (ho : l ≠ [] → Off (· = g) p) (h8 : ∀ x ∈ l, x < 256) (hn : l.length ≤ 5552) :
    Calls Tryz.prog 127 #[.pointer (some ⟨g, 0, none⟩), .slice p l.length d] w fun e w' => e = .returned (.tuple #[]) ∧ PtTo w w' g (adF a b l).1 (adF a b l).2 := by
  have H := Lib.hid h
  have H8 := Lib.hid h8
  have HO := Lib.hid ho
  have HL := Lib.hid hl
  have HAB := Lib.hid (And.intro ha hb)
  clear h h8 ho hl ha hb
  go_enter Tryz.func127, Tryz.ntmps127
  go_wp2
  go_loopw [5, 8] (fun _ i wr => ∃ k : Nat, k ≤ l.length ∧ i = .int .i64 k ∧ PtTo w wr g (rawA a (l.take k)) (rawB a b (l.take k))) (fun _ i _ => l.length - (intOf i).toNat)
  case atStart => exact ⟨0, by omega, rfl, by rw [List.take_zero]; unfold rawA rawB sS sW; simpa using H.out.self⟩
  case round =>
    obtain ⟨k, hk, rfl, hto⟩ := hrel
    have HT := Lib.hid hto
    have hlt := raw_lt a b (l.take k) HAB.out.1 HAB.out.2 (by rw [List.length_take]; omega) fun x hx => H8.out x (List.mem_of_mem_take hx)
    have h0 := hto.is.c0
    have h1 := hto.is.c1
    have h2 := hto.is.f0
    have h3 := hto.is.f1
    have hs := HL.out.fr hto.fr HO.out
    clear hto
    by_cases h8 : (k : Int) < (l.length : Int)
    · have hkl : k < l.length := by omega
      obtain ⟨bl, ol, rfl, hcl⟩ := hs.at k hkl
      have hnx := raw_next a b l k hkl
      have hlt2 := raw_lt a b (l.take (k + 1)) HAB.out.1 HAB.out.2 (by rw [List.length_take]; omega) fun x hx => H8.out x (List.mem_of_mem_take hx)
      have hx8 := H8.out _ (List.getElem_mem hkl)
      obtain ⟨x, hx⟩ : ∃ x, l[k] = x := ⟨_, rfl⟩
      obtain ⟨A, hA⟩ : ∃ A, rawA a (l.take k) = A := ⟨_, rfl⟩
      obtain ⟨B, hB⟩ : ∃ B, rawB a b (l.take k) = B := ⟨_, rfl⟩
      rw [hx] at hcl hnx hx8
      rw [hA] at h0 hnx HT hlt
      rw [hB] at h1 hnx HT hlt
      have HN := Lib.hid hnx
      rw [hnx.1, hnx.2, hnx.1] at hlt2
      clear hx hA hB hs hnx
      go_wp2
      go_region
      go_wp2
      go_roundw
      case rel => exact ⟨k + 1, by omega, by go_num, by rw [HN.out.2, HN.out.1]; exact ((HT.out.set0 (A + x)).set1 (B + (A + x))).drewN 1⟩
      case measure => simp [intOf]; omega
    · obtain rfl : k = l.length := by omega
      rw [List.take_length] at HT hlt
      clear hs h0 h1 h2 h3
      have HM := Lib.hid (raw_mod a b l HAB.out.1 HAB.out.2)
      obtain ⟨A, hA⟩ : ∃ A, rawA a l = A := ⟨_, rfl⟩
      obtain ⟨B, hB⟩ : ∃ B, rawB a b l = B := ⟨_, rfl⟩
      rw [hA, hB] at HT hlt HM
      clear hA hB
      go_wp2_with fail
      refine (reduce_any g A B _ HT.out.is hlt.1 hlt.2).mono ?_
      rintro e w' ⟨rfl, hto⟩
      have K := Lib.hid (HT.out.trans hto)
      clear hto HT
      go_wp2
      go_end0
      exact ⟨rfl, by rw [← HM.out]; exact K.out⟩
theorem pieces_any (g a b : Nat) (p : Option Addr) (d : Nat) (l : List Nat) (w : World) (h : PtIs w g a b) (ha : a < 65521) (hb : b < 65521) (hl : SlI w .u8 p l) (ho : l ≠ [] → Off (· = g) p) (h8 : ∀ x ∈ l, x < 256) (hd : l.length ≤ d) :
    Calls Tryz.prog 126 #[.slice p l.length d, .func (.func 127) #[.pointer (some ⟨g, 0, none⟩)] #[]] w fun e w' => e = .returned (.tuple #[]) ∧ PtTo w w' g (adF a b l).1 (adF a b l).2 := by
  have hlen := hl.1
  unfold maxLen at hlen
  have H := Lib.hid h
  have H8 := Lib.hid h8
  have HO := Lib.hid ho
  have HL := Lib.hid hl
  have HD := Lib.hid hd
  have HAB := Lib.hid (And.intro ha hb)
  clear h h8 ho hl ha hb hd
  go_enter Tryz.func126, Tryz.ntmps126
  go_wp2
  go_loopw [0] (fun v wr => ∃ (dn rs : List Nat) (q : Option Addr) (c : Nat), l = dn ++ rs ∧ v = .slice q rs.length c ∧ rs.length ≤ c ∧ SlI w .u8 q rs ∧ (rs ≠ [] → Off (· = g) q) ∧ PtTo w wr g (adF a b dn).1 (adF a b dn).2) (fun v _ => match v with | .slice _ n _ => n | _ => 0)
  case atStart => exact ⟨[], l, p, d, rfl, rfl, HD.out, HL.out, HO.out, H.out.self⟩
  case round =>
    obtain ⟨dn, rs, q, c, hl, rfl, hc, hs, hoff, hto⟩ := hrel
    have hls : rs.length ≤ l.length := by rw [hl, List.length_append]; omega
    have HE := Lib.hid hl
    have HT := Lib.hid hto
    have HF := Lib.hid hoff
    have HR8 : Hid (∀ x ∈ rs, x < 256) := Lib.hid fun x hx => H8.out x (by rw [hl]; exact List.mem_append_right _ hx)
    have hlt := adF_lt dn a b HAB.out.1 HAB.out.2
    have HLT := Lib.hid hlt
    have HS := Lib.hid hs
    clear hl hto hoff hs hlt
    by_cases h5 : (5552 : Int) < (rs.length : Int)
    · obtain ⟨bl, ol, rfl, hcl⟩ := HS.out.at 0 (by omega)
      clear hcl
      have T : Hid ((rs.take 5552).length = 5552) := Lib.hid (by rw [List.length_take]; omega)
      have HC := take_any g (adF a b dn).1 (adF a b dn).2 (some ⟨bl, ol, none⟩) c (rs.take 5552) wr HT.out.is HLT.out.1 HLT.out.2 ((HS.out.take 5552).fr HT.out.fr fun _ => HF.out (by intro e; subst e; simp at h5)) (fun _ => HF.out (by intro e; subst e; simp at h5)) (fun x hx => HR8.out x (List.mem_of_mem_take hx)) (by rw [T.out]; exact Nat.le_refl _)
      rw [T.out] at HC
      have HC2 := Lib.hid HC
      clear HC
      go_wp2_with fail
      refine HC2.out.mono ?_
      rintro e w' ⟨rfl, hto⟩
      have K := Lib.hid (HT.out.trans hto)
      clear hto HT HC2
      go_wp2
      go_roundw
      case rel =>
        refine ⟨dn ++ rs.take 5552, rs.drop 5552, some ⟨bl, ol + 5552, none⟩, c - 5552, by rw [List.append_assoc, List.take_append_drop]; exact HE.out, by rw [List.length_drop], by rw [List.length_drop]; omega, HS.out.drop 5552, fun _ => ?_, by rw [adF_append]; exact K.out⟩
        intro a ha
        simp only [Option.some.injEq] at ha
        subst ha
        exact HF.out (by intro e; subst e; simp at h5) ⟨bl, ol, none⟩ rfl
      case measure => simp; omega
    · have HC := take_any g (adF a b dn).1 (adF a b dn).2 q c rs wr HT.out.is HLT.out.1 HLT.out.2 (HS.out.fr HT.out.fr HF.out) HF.out HR8.out (by omega)
      have HC2 := Lib.hid HC
      clear HC
      go_wp2_with fail
      refine HC2.out.mono ?_
      rintro e w' ⟨rfl, hto⟩
      have K := Lib.hid (HT.out.trans hto)
      clear hto HT HC2
      go_wp2
      go_end0
      exact ⟨rfl, by rw [HE.out, adF_append]; exact K.out⟩
theorem admore_any (s : Nat) (p : Option Addr) (d : Nat) (l : List Nat) (w : World) (hs : s < 4294967296) (hl : SlI w .u8 p l) (h8 : ∀ x ∈ l, x < 256) (hd : l.length ≤ d) :
    Calls Tryz.prog 91 #[.int .u32 s, .slice p l.length d] w fun e w' => U32Post w e w' (adMore s l) := by
  have H8 := Lib.hid h8
  have HL := Lib.hid hl
  have HD := Lib.hid hd
  clear h8 hl hd
  have hmf : ∀ (fn : Fn) (first cap : Array Value) (w : World), (Instr.makeFunc fn first cap).run Tryz.prog w = .ok (.func fn first cap) w := fun _ _ _ _ => rfl
  have hsp := split_any s w hs
  obtain ⟨A, hA⟩ : ∃ A, s % 65536 = A := ⟨_, rfl⟩
  obtain ⟨B, hB⟩ : ∃ B, s / 65536 = B := ⟨_, rfl⟩
  have HM : Hid (adMore s l = put (adF (A % 65521) (B % 65521) l)) := Lib.hid (by rw [← hA, ← hB]; rfl)
  have ha : A < 65536 := by omega
  have hb : B < 65536 := by omega
  rw [hA, hB] at hsp
  have HSP := Lib.hid hsp
  clear hsp hA hB
  go_enter Tryz.func91, Tryz.ntmps91
  go_wp2_with fail
  refine HSP.out.mono ?_
  rintro e w1 ⟨rfl, f1⟩
  clear HSP
  go_wp2_with fail
  refine (reduce_any w1.heap.size A B _ (PtIs.new w1 A B) (by omega) (by omega)).mono ?_
  rintro e w2 ⟨rfl, t2⟩
  have h2 : PtIs w2 w1.heap.size (A % 65521) (B % 65521) := t2.is
  have f2 : Fr S0 w w2 := f1.trans ((Fr.alloc S0 w1 _).trans t2.fr fun j hj e => by omega) fun j hj e => e
  obtain ⟨g, hg⟩ : ∃ g, w1.heap.size = g := ⟨_, rfl⟩
  have hwg : w.heap.size ≤ g := by have := f1.size; omega
  rw [hg] at h2
  rw [hg]
  clear hg f1 t2
  have HP := pieces_any g (A % 65521) (B % 65521) p d l w2 h2 (by omega) (by omega) (HL.out.fr0 f2) (fun hne a e1 e2 => by have := HL.out.lt hne a e1; simp only at e2; omega) H8.out HD.out
  have HP2 := Lib.hid HP
  have hlt := adF_lt l (A % 65521) (B % 65521) (by omega) (by omega)
  obtain ⟨A2, hA⟩ : ∃ A2, (adF (A % 65521) (B % 65521) l).1 = A2 := ⟨_, rfl⟩
  obtain ⟨B2, hB⟩ : ∃ B2, (adF (A % 65521) (B % 65521) l).2 = B2 := ⟨_, rfl⟩
  rw [hA, hB] at HP2 hlt
  have HM2 : Hid (adMore s l = put (A2, B2)) := Lib.hid (by rw [HM.out, ← hA, ← hB])
  clear hA hB HP h2 HM
  go_wp2_with fail
  refine HP2.out.mono ?_
  rintro e w3 ⟨rfl, t3⟩
  have f3 : Fr S0 w w3 := f2.trans t3.fr fun j hj e => by omega
  have h3 := t3.is
  clear t3 f2 HP2
  go_wp2_with fail
  refine (psum_any g A2 B2 w3 h3 hlt.1 hlt.2).mono ?_
  rintro e w4 ⟨rfl, f4⟩
  go_wp2
  go_ret
  exact ⟨by rw [HM2.out]; rfl, f3.trans0 f4⟩
theorem sum_any (p : Option Addr) (d : Nat) (l : List Nat) (w : World) (hl : SlI w .u8 p l) (h8 : ∀ x ∈ l, x < 256) (hd : l.length ≤ d) :
    Calls Tryz.prog 123 #[.slice p l.length d] w fun e w' => U32Post w e w' (adSum l) := by
  have HM := Lib.hid (admore_any 1 p d l w (by decide) hl h8 hd)
  clear hl h8 hd
  go_enter Tryz.func123, Tryz.ntmps123
  go_wp2_with fail
  refine HM.out.mono ?_
  rintro e w' ⟨rfl, hf⟩
  go_wp2
  go_ret
  exact ⟨rfl, hf⟩
end Go.Proofs.YtnndgpggjlhhpaaGreat
