/- Three laws of layer 1: there and back, one form, cut off. -/
import Derived.Test.YtgjiepbaagmmiaaMath
import Derived.Test.YtgjiepbaagmmiaaAlive
import Derived.Test.YtgjiepbaagmmiaaSame
import Derived.Test.YtgjiepbaagmmiaaMany
namespace Go.Proofs.Ytgjiepbaagmmiaa
open Go.RowKit

theorem one8s (l : List Nat) : ∀ y ∈ u8s l, y.oneCell' = true := by
  intro y hy; simp only [u8s, List.mem_map] at hy; obtain ⟨x, -, rfl⟩ := hy; rfl
theorem getS_lt (s l ns : List Nat) (u : Nat) (hb : ∀ x ∈ l, x < 256) (h : getS s l = .ok (ns, u)) : u ≤ l.length := (putS_getS s l ns u hb h).1
theorem putRows_err : ∀ (ks l : List Nat) (x : Nat), putRows ks l = .error x → x = 5
  | [], l, x, h => by rw [putRows] at h; · cases h
                      · intro _ _ _ _ e; cases e
  | _ :: _, [], x, h => by rw [putRows] at h; · cases h
                           · intro _ _ _ _ _ e; cases e
  | k :: ks, n :: ns, x, h => by
    rw [putRows_cons] at h
    split at h
    · cases hp : putRows ks ns with
      | error y => rw [hp] at h; simp only [pre, Except.error.injEq] at h; subst h; exact putRows_err ks ns y hp
      | ok bs => rw [hp] at h; cases h
    · simp only [Except.error.injEq] at h; exact h.symm
theorem putS_err (s l : List Nat) (x : Nat) (h : putS s l = .error x) : x = 22 ∨ x = 5 := by
  unfold putS at h
  cases hs : formsS s with
  | none => rw [hs] at h; simp only [Except.error.injEq] at h; exact Or.inl h.symm
  | some ks =>
    rw [hs] at h
    dsimp only at h
    split at h
    · exact Or.inr (putRows_err _ _ _ h)
    · simp only [Except.error.injEq] at h; exact Or.inl h.symm
theorem putRows_len : ∀ (ks l bs : List Nat), (∀ k ∈ ks, k < 10) → putRows ks l = .ok bs → bs.length ≤ 10 * ks.length
  | [], l, bs, _, h => by
    rw [putRows] at h
    · obtain rfl : [] = bs := Except.ok.inj h
      simp
    · intro _ _ _ _ e; cases e
  | _ :: _, [], bs, _, h => by
    rw [putRows] at h
    · obtain rfl : [] = bs := Except.ok.inj h
      simp
    · intro _ _ _ _ _ e; cases e
  | k :: ks, n :: ns, bs, hk, h => by
    rw [putRows_cons] at h
    split at h
    · cases hp : putRows ks ns with
      | error y => rw [hp] at h; cases h
      | ok cs =>
        rw [hp] at h
        obtain rfl := Except.ok.inj h
        have h1 := putRows_len ks ns cs (fun x hx => hk x (by simp [hx])) hp
        have h2 := enc_length k n (hk k (by simp))
        rw [List.length_append, List.length_cons]; omega
    · cases h
theorem forms_len (s ks : List Nat) (h : formsS s = some ks) : ks.length ≤ 64 := by
  unfold formsS at h
  split at h
  · cases h
  · have := rowsOf_length _ _ h; omega
theorem putS_len (s l bs : List Nat) (h : putS s l = .ok bs) : bs.length ≤ 640 := by
  unfold putS at h
  cases hs : formsS s with
  | none => rw [hs] at h; cases h
  | some ks =>
    rw [hs] at h
    dsimp only at h
    split at h
    · have h1 := putRows_len _ _ _ (forms_lt s ks hs) h
      have h2 := forms_len s ks hs
      omega
    · cases h
theorem u8s_append (a b : List Nat) : u8s a ++ u8s b = u8s (a ++ b) := by simp [u8s]
theorem fr_made {w w2 w3 : World} {o : Obj} {n c : Nat} (h : Fr S0 w w2) (g : (w2.alloc o).grownBy w3 (Value.ownBlock (.slice (some ⟨w2.heap.size, 0, none⟩) n c))) : Fr S0 w w3 :=
  (h.trans0 (Fr.alloc S0 w2 o)).append g fun k hk => by simp only [Value.ownBlock, Option.some.injEq] at hk; have := h.size; omega
theorem fresh_made {w w2 : World} {n c : Nat} (h : Fr S0 w w2) : Fresh w (.slice (some ⟨w2.heap.size, 0, none⟩) n c) :=
  fun k hk => by simp only [Value.ownBlock, Option.some.injEq] at hk; have := h.size; omega
theorem fresh_many {w : World} {v v' : Value} {B : Nat} (h : Fresh w v) (hB : w.heap.size ≤ B) (ha : v'.ownBlock = v.ownBlock ∨ v'.ownBlock = some B) : Fresh w v' := by
  intro k hk
  rcases ha with ha | ha
  · exact h k (ha ▸ hk)
  · rw [ha] at hk; simp only [Option.some.injEq] at hk; omega
theorem size_le {w w2 : World} {o : Obj} (h : Fr S0 w w2) : w.heap.size ≤ (w2.alloc o).heap.size := by have := h.size; simp; omega
theorem slForm {w : World} {e : TypeId} {v : Value} {n : Nat} {xs : List Value} (h : w.ownsRow 0 e 1 v n xs) : ∃ p c, v = .slice p n c ∧ (p = none → c = 0) := by
  rcases h.2 with ⟨h, h0⟩ | ⟨g, cap, cur, h, _⟩
  · exact ⟨none, 0, by rw [h, h0], fun _ => rfl⟩
  · exact ⟨_, _, h, fun h => by cases h⟩

set_option maxRecDepth 100000 in
set_option maxHeartbeats 1000000 in
theorem law_back (s : ByteArray) (p q : Option Addr) (c d : Nat) (l b2 : List Nat) (w : World) (hs : s.size ≤ maxLen) (hl : SlI w .u64 p l) (hl64 : ∀ x ∈ l, x < 18446744073709551616)
    (h2 : SlI w .u8 q b2) (hb2 : ∀ x ∈ b2, x < 256) (hd : q = none → d = 0) :
    Calls Try.prog 4 #[.string s, .slice p l.length c, .slice q b2.length d] w fun e w' => e = .returned (.bool true) ∧ Fr S0 w w' := by
  have hlen1 := hl.1
  have hlen2 := h2.1
  have HL := Lib.hid hl64
  have HB2 := Lib.hid hb2
  have HS := Lib.hid hs
  unfold maxLen at hlen1 hlen2 hs
  clear hl64 hb2
  have start : ∀ R, (∀ w1, Fr S0 w w1 → R (.returned (.bool true)) w1) → Calls Try.prog 8 #[] w R := fun R h => (alive_any w).mono fun e w1 he => by rw [he.1]; exact h w1 he.2
  by_cases t1 : (200 : Int) < (s.size : Int) ∨ (200 : Int) < (l.length : Int) ∨ (2000 : Int) < (b2.length : Int)
  · by_cases k1 : (200 : Int) < (s.size : Int)
    · clear t1
      go_enter Try.func4, Try.ntmps4
      go_wp2_with (go_at_call 8; refine start _ ?_; intro w1 hf)
      go_ret
      exact ⟨rfl, hf⟩
    · by_cases k2 : (200 : Int) < (l.length : Int)
      · clear t1
        go_enter Try.func4, Try.ntmps4
        go_wp2_with (go_at_call 8; refine start _ ?_; intro w1 hf)
        go_ret
        exact ⟨rfl, hf⟩
      · have k3 : (2000 : Int) < (b2.length : Int) := by omega
        clear t1
        go_enter Try.func4, Try.ntmps4
        go_wp2_with (go_at_call 8; refine start _ ?_; intro w1 hf)
        go_ret
        exact ⟨rfl, hf⟩
  · have k1 : ¬ (200 : Int) < (s.size : Int) := by omega
    have k2 : ¬ (200 : Int) < (l.length : Int) := by omega
    have k3 : ¬ (2000 : Int) < (b2.length : Int) := by omega
    clear t1
    go_enter Try.func4, Try.ntmps4
    go_wp2_with fail
    refine start _ ?_
    intro w1 hf
    go_wp2_with fail
    refine (put_any s p c l w1 HS.out (hl.fr0 hf) HL.out).mono ?_
    rintro e w2 ⟨hf2, hr⟩
    cases hp : putS (pat s) l with
    | error x =>
      rw [hp] at hr
      subst hr
      have hx : ((x : Int) != 0) = true := by
        have := putS_err _ _ _ hp
        rw [bne_iff_ne]; omega
      clear hp
      go_wp2
      go_ret
      exact ⟨rfl, hf.trans0 hf2⟩
    | ok bs =>
      rw [hp] at hr
      obtain ⟨v, rfl, own, hfv⟩ := hr
      obtain ⟨pv, cv, rfl, -⟩ := slForm own
      have hbl := putS_len _ _ _ hp
      have HR1 : Hid (Room bs.length) := Lib.hid (Room.mk (by omega))
      have HR2 : ∀ N, (bs ++ b2).length = N → Room N := fun N h => Room.mk (by rw [List.length_append] at h; omega)
      have HG := Lib.hid (getS_putS (pat s) l bs b2 HL.out hp)
      have hbs := putS_lt _ _ _ hp
      have HBB : Hid (∀ x ∈ bs ++ b2, x < 256) := Lib.hid (fun x hx => by
        rcases List.mem_append.1 hx with h | h
        · exact hbs x h
        · exact HB2.out x h)
      obtain ⟨N, hN⟩ : ∃ N, (bs ++ b2).length = N := ⟨_, rfl⟩
      have HNN : Hid (bs.length + b2.length = N) := Lib.hid (by rw [← hN, List.length_append])
      have HR3 := Lib.hid (HR2 N hN)
      have HN := Lib.hid hN
      clear hN HR2
      clear hbs
      clear hp hbl
      have f02 : Fr S0 w w2 := hf.trans0 hf2
      go_wp2_with (first | ((with_reducible show wpList _ _ _ (Oper.mk (some 42) _ _ _ _ _ :: _) _ _); refine app_many el5 (.tmp 40) (.tmp 41) (World.ownsRow_made w2 #[] 0 (Nat.zero_le _) (by decide) rfl) (SrcIs.ofOwns (own.alloc _)) (Nat.zero_add _) rfl rfl rfl rfl (one8s _) HR1.out ?_; intro p3 c3 w3 own3 g3 at3; have f03 := fr_made f02 g3; have v03 := fresh_many (fresh_made f02) (size_le f02) at3; clear g3 at3) | ((with_reducible show wpList _ _ _ (Oper.mk (some 44) _ _ _ _ _ :: _) _ _); refine app_many el5 (.tmp 42) (.tmp 43) own3 (SrcIs.ofSl (h2.fr0 f03) hd) HNN.out rfl rfl rfl rfl (one8s _) HR3.out ?_; intro p4 c4 w4 own4 g4 at4; have f04 := f03.append g4 v03; clear g4 at4))
      have own4' : w4.ownsRow 0 5 1 (.slice p4 N c4) N (u8s (bs ++ b2)) := by rw [← u8s_append]; exact own4
      clear own4
      have hget := get_any s p4 c4 (bs ++ b2) w4 HS.out (SlI.ofOwns own4') HBB.out
      rw [HN.out] at hget
      refine hget.mono ?_
      clear hget
      rintro e w5 ⟨f5, hr⟩
      rw [HG.out] at hr
      obtain ⟨v5, rfl, own5, -, -⟩ := hr
      obtain ⟨p5, c5, rfl, -⟩ := slForm own5
      have f05 : Fr S0 w w5 := f04.trans0 f5
      have hbb : ((bs.length : Int) == (bs.length : Int)) = true := by simp
      go_wp2_with (go_at_call 12; refine (same_any p p5 c c5 l _ (hl.fr0 f05) (SlI.ofOwns own5)).mono ?_; rintro e w6 ⟨rfl, hf6⟩)
      go_ret
      exact ⟨rfl, f05.trans0 hf6⟩
end Go.Proofs.Ytgjiepbaagmmiaa
