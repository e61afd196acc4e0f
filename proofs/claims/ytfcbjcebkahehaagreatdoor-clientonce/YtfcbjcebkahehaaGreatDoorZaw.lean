/- message: blocks; the Writer beside blocks that it leaves alone. message: the fields of a message, laid down. -/
import Derived.Test.YtfcbjcebkahehaaGreatDoorZam
import Derived.Test.YtfcbjcebkahehaaGreatDoorZai
import Derived.Test.YtfcbjcebkahehaaGreatDoorRq
import Derived.Test.YtfcbjcebkahehaaGreatDoorZah
import Derived.Deep.RegionHeld3
import Derived.Deep.RegionLaw
import Derived.Lib.MinMax
namespace Go.Proofs.YtfcbjcebkahehaaGreatDoor
open Go.RowKit
theorem Bk.of {w w' : World} {b : Nat} {cs : List Value} {t : TypeId} (h : Bk w b cs t) (hb : w'.heap[b]? = w.heap[b]?) : Bk w' b cs t := hb.trans h
/-- what stays: the blocks F -/
structure Fr (F : Nat → Prop) (w w' : World) : Prop where
  os : w'.os = w.os
  tape : w'.tape = w.tape
  output : w'.output = w.output
  size : w.heap.size ≤ w'.heap.size
  block : ∀ b, F b → w'.heap[b]? = w.heap[b]?
theorem Fr.refl (F : Nat → Prop) (w : World) : Fr F w w := ⟨rfl, rfl, rfl, Nat.le_refl _, fun _ _ => rfl⟩
theorem Fr.trans {F : Nat → Prop} {a b c : World} (h : Fr F a b) (k : Fr F b c) : Fr F a c := ⟨k.os.trans h.os, k.tape.trans h.tape, k.output.trans h.output, Nat.le_trans h.size k.size, fun i hi => (k.block i hi).trans (h.block i hi)⟩
theorem Fr.mono {F G : Nat → Prop} {a b : World} (h : Fr F a b) (hG : ∀ i, G i → F i) : Fr G a b := ⟨h.os, h.tape, h.output, h.size, fun i hi => h.block i (hG i hi)⟩
theorem Fr.of_below {F : Nat → Prop} {a b : World} {B : Nat} (h : Below B a b) (hF : ∀ i, F i → i < B) : Fr F a b := ⟨h.os, h.tape, h.output, h.size, fun i hi => h.block i (hF i hi)⟩
theorem Fr.below {F : Nat → Prop} {a b : World} {B : Nat} (h : Fr F a b) (hF : ∀ i, i < B → F i) : Below B a b := ⟨h.os, h.tape, h.output, h.size, fun i hi => h.block i (hF i hi)⟩
theorem Fr.alloc (F : Nat → Prop) (w : World) (o : Obj) (hF : ∀ i, F i → i < w.heap.size) : Fr F w (w.alloc o) := Fr.of_below (below_new w o) hF
/-- a Writer whose bytes lie in none of the blocks F: nothing was wrong just if P, and then l was laid down -/
def WrK (F : Nat → Prop) (w : World) (p : Nat) (M : Int) (P : Prop) (l : List UInt8) : Prop :=
  ∃ v S E, PW w p v M (Lib.strCells S) E ∧ (S.size : Int) ≤ M ∧ (E = 0 ↔ P) ∧ (P → S = ⟨l.toArray⟩) ∧ ∀ b, v.ownBlock = some b → ¬ F b
/-- blocks that are there, and not the Writer's -/
def Ok (F : Nat → Prop) (w : World) (p : Nat) : Prop := ∀ b, F b → b < w.heap.size ∧ b ≠ p
def KPost (F : Nat → Prop) (p : Nat) (M : Int) (P : Prop) (l : List UInt8) (w : World) (e : Ending) (w' : World) : Prop :=
  e = .returned (.tuple #[]) ∧ WrK F w' p M P l ∧ Fr F w w'
theorem WrK.lt {F : Nat → Prop} {w : World} {p : Nat} {M : Int} {P : Prop} {l : List UInt8} (h : WrK F w p M P l) : p < w.heap.size := by
  obtain ⟨v, S, E, h1, _⟩ := h
  exact h1.lt
theorem WrK.iff {F : Nat → Prop} {w : World} {p : Nat} {M : Int} {P Q : Prop} {l m : List UInt8} (h : WrK F w p M P l) (hq : Q ↔ P) (hl : P → l = m) : WrK F w p M Q m := by
  obtain ⟨v, S, E, h1, h2, h3, h4, h5⟩ := h
  exact ⟨v, S, E, h1, h2, h3.trans hq.symm, fun q => by rw [← hl (hq.1 q)]; exact h4 (hq.1 q), h5⟩
theorem WrK.below {F : Nat → Prop} {w w' : World} {p : Nat} {M : Int} {P : Prop} {l : List UInt8} (h : WrK F w p M P l) (hB : Below w.heap.size w w') : WrK F w' p M P l := by
  obtain ⟨v, S, E, h1, h2⟩ := h
  exact ⟨v, S, E, h1.below hB, h2⟩
theorem WrK.less {F G : Nat → Prop} {w : World} {p : Nat} {M : Int} {P : Prop} {l : List UInt8} (h : WrK F w p M P l) (hG : ∀ b, G b → F b) : WrK G w p M P l := by
  obtain ⟨v, S, E, h1, h2, h3, h4, h5⟩ := h
  exact ⟨v, S, E, h1, h2, h3, h4, fun b e hb => h5 b e (hG b hb)⟩
/-- blocks that were not there are others -/
theorem WrK.more {F G : Nat → Prop} {w w' : World} {p : Nat} {M : Int} {P : Prop} {l : List UInt8} (h : WrK F w p M P l) (hB : Below w.heap.size w w') (hG : ∀ b, G b → F b ∨ w.heap.size ≤ b) : WrK G w' p M P l := by
  obtain ⟨v, S, E, h1, h2, h3, h4, h5⟩ := h
  refine ⟨v, S, E, h1.below hB, h2, h3, h4, fun b e hb => ?_⟩
  rcases hG b hb with h6 | h6
  · exact h5 b e h6
  · have := (h1.own.lt b e).2
    omega
theorem WrK.toP {F : Nat → Prop} {w : World} {p : Nat} {M : Int} {P : Prop} {l : List UInt8} (h : WrK F w p M P l) : WrP w p M P l := by
  obtain ⟨v, S, E, h1, h2, h3, h4, _⟩ := h
  exact ⟨v, S, E, h1, h2, h3, h4⟩
theorem Ok.below {F : Nat → Prop} {w w' : World} {p : Nat} (h : Ok F w p) (hz : w.heap.size ≤ w'.heap.size) : Ok F w' p := fun b hb => ⟨Nat.lt_of_lt_of_le (h b hb).1 hz, (h b hb).2⟩
theorem kept_fr {F : Nat → Prop} {p : Nat} {v v' : Value} {w w' : World} (hF : Ok F w p) (hv : ∀ b, v.ownBlock = some b → ¬ F b) (k : Kept p v v' w w') : Fr F w w' ∧ ∀ b, v'.ownBlock = some b → ¬ F b := by
  refine ⟨⟨k.os, k.tape, k.output, k.size, fun b hb => k.block b (hF b hb).1 (hF b hb).2 (fun e => hv b e.symm hb)⟩, fun b e hb => ?_⟩
  rcases k.row with h | ⟨g, h1, h2⟩
  · exact hv b (h ▸ e) hb
  · rw [h2] at e
    cases e
    have := (hF b hb).1
    omega
theorem kpost_laid {F : Nat → Prop} {p : Nat} {M : Int} {P : Prop} {l t : List UInt8} {v : Value} {S s : ByteArray} {E : Int} {w w' : World} {e : Ending} (hF : Ok F w p) (hv : ∀ b, v.ownBlock = some b → ¬ F b) (hz : (S.size : Int) ≤ M) (hP : E = 0 ↔ P) (hS : P → S = ⟨l.toArray⟩)
    (hs : s = ⟨t.toArray⟩) (hr : P → (l.length : Int) + t.length ≤ M) (hw : PWrote p v M (rlay M S E s) w e w') : KPost F p M P (l ++ t) w e w' := by
  obtain ⟨h1, v', h2, h3⟩ := hw
  obtain ⟨k1, k2⟩ := kept_fr hF hv h3
  refine ⟨h1, ?_, k1⟩
  subst hs
  by_cases hp : P
  · have e0 := hP.2 hp
    have eS := hS hp
    subst eS e0
    have hfit := hr hp
    have er : rlay M ⟨l.toArray⟩ 0 ⟨t.toArray⟩ = (⟨(l ++ t).toArray⟩, 0) := by
      unfold rlay
      rw [if_neg (by simp), if_neg (by rw [ba_size, ba_size]; omega), bapp]
    rw [er] at h2
    exact ⟨v', _, _, h2, by show (((⟨(l ++ t).toArray⟩ : ByteArray).size : Nat) : Int) ≤ M; rw [ba_size, List.length_append]; omega, by simp [hp], fun _ => rfl, k2⟩
  · have e0 : E ≠ 0 := fun x => hp (hP.1 x)
    have er : rlay M S E ⟨t.toArray⟩ = (S, E) := by unfold rlay; rw [if_pos e0]
    rw [er] at h2
    exact ⟨v', _, _, h2, hz, hP, fun q => absurd q hp, k2⟩
theorem kpost_fail {F : Nat → Prop} {p : Nat} {M : Int} {P Q : Prop} {l : List UInt8} {v : Value} {S : ByteArray} {E N : Int} {w w' : World} {e : Ending} (hF : Ok F w p) (hv : ∀ b, v.ownBlock = some b → ¬ F b) (hz : (S.size : Int) ≤ M) (hN : N ≠ 0) (hQ : ¬ Q)
    (hw : PWrote p v M (S, firstE E N) w e w') : KPost F p M (P ∧ Q) l w e w' := by
  obtain ⟨h1, v', h2, h3⟩ := hw
  obtain ⟨k1, k2⟩ := kept_fr hF hv h3
  refine ⟨h1, ⟨v', _, _, h2, hz, ?_, fun q => absurd q.2 hQ, k2⟩, k1⟩
  constructor
  · intro x
    have x' : firstE E N = 0 := x
    unfold firstE at x'
    split at x'
    · exact absurd x' hN
    · rename_i h0; exact absurd x' h0
  · exact fun q => absurd q.2 hQ
theorem KPost.more {F : Nat → Prop} {p : Nat} {M : Int} {P Q : Prop} {l : List UInt8} {w w' : World} {e : Ending} (hq : Q) (h : KPost F p M P l w e w') : KPost F p M (P ∧ Q) l w e w' :=
  ⟨h.1, h.2.1.iff ⟨fun x => x.1, fun x => ⟨x, hq⟩⟩ fun _ => rfl, h.2.2⟩
theorem k_uint (F : Nat → Prop) (p : Nat) (n M : Int) (P : Prop) (l : List UInt8) (w : World) (h : WrK F w p M P l) (hF : Ok F w p) (hM0 : 0 ≤ M) (hM1 : M ≤ 2147483647) (hr : P → isW n → (l.length : Int) + 4 ≤ M) :
    Calls Tryz.prog 116 #[.pointer (some ⟨p, 0, none⟩), .int .i64 n] w (KPost F p M (P ∧ isW n) (l ++ nbL 4 n.toNat) w) := by
  obtain ⟨v, S, E, h1, h2, h3, h4, h5⟩ := h
  by_cases hn : isW n
  · refine (puint_ok p v n M E S w h1 hM0 (by omega) (by omega) (by rw [isW_dec]; exact decide_eq_true hn)).mono fun e w' hp => ?_
    have e4 := byL_nbL 4 n hn.1 (by have := hn.2; simp; omega)
    exact (kpost_laid (t := nbL 4 n.toNat) hF h5 h2 h3 h4 (by rw [e4]) (by rw [nbL_len]; exact fun q => hr q hn) hp).more hn
  · refine (puint_bad p v n M E S w h1 (by rw [isW_dec]; exact decide_eq_false hn)).mono fun e w' hp => ?_
    exact kpost_fail hF h5 h2 (by decide) hn hp
theorem k_bool (F : Nat → Prop) (p : Nat) (x : Bool) (M : Int) (P : Prop) (l : List UInt8) (w : World) (h : WrK F w p M P l) (hF : Ok F w p) (hM0 : 0 ≤ M) (hM1 : M ≤ 2147483647) (hr : P → (l.length : Int) + 4 ≤ M) :
    Calls Tryz.prog 118 #[.pointer (some ⟨p, 0, none⟩), .bool x] w (KPost F p M (P ∧ True) (l ++ nbL 4 (if x then 1 else 0)) w) := by
  obtain ⟨v, S, E, h1, h2, h3, h4, h5⟩ := h
  cases x
  · refine (pbool_false p v M E S w h1 hM0 (by omega) (by omega)).mono fun e w' hp => ?_
    have e4 := byL_nbL 4 0 (by decide) (by decide)
    exact (kpost_laid (t := nbL 4 0) hF h5 h2 h3 h4 (by rw [e4]; rfl) (by rw [nbL_len]; exact hr) hp).more trivial
  · refine (pbool_true p v M E S w h1 hM0 (by omega) (by omega)).mono fun e w' hp => ?_
    have e4 := byL_nbL 4 1 (by decide) (by decide)
    exact (kpost_laid (t := nbL 4 1) hF h5 h2 h3 h4 (by rw [e4]; rfl) (by rw [nbL_len]; exact hr) hp).more trivial
theorem k_opaque (F : Nat → Prop) (p : Nat) (m M : Int) (s : List UInt8) (P : Prop) (l : List UInt8) (w : World) (h : WrK F w p M P l) (hF : Ok F w p) (hM0 : 0 ≤ M) (hM1 : M ≤ 2147483647) (hm0 : 0 ≤ m) (hm1 : m ≤ 4294967295) (hr : P → (s.length : Int) ≤ m → (l.length : Int) + (4 + (s.length + pads s.length : Nat)) ≤ M) (hs : m ≤ 1000) :
    Calls Tryz.prog 122 #[.pointer (some ⟨p, 0, none⟩), .int .i64 m, .string ⟨s.toArray⟩] w (KPost F p M (P ∧ (s.length : Int) ≤ m) (l ++ (nbL 4 s.length ++ (s ++ padB s.length))) w) := by
  obtain ⟨v, S, E, h1, h2, h3, h4, h5⟩ := h
  have hmw : (decide (0 ≤ m) && decide (m ≤ 4294967295)) = true := by rw [decide_eq_true hm0, decide_eq_true hm1]; rfl
  by_cases hn : (s.length : Int) ≤ m
  · refine (popaque_ok p v m M E S ⟨s.toArray⟩ w h1 hM0 (by omega) (by have := ba_size s; omega) hmw (by have := ba_size s; omega)).mono fun e w' hp => ?_
    have e4 : byL 4 (s.length : Int) = nbL 4 s.length := by
      have := byL_nbL 4 (s.length : Int) (by omega) (by simp; omega)
      rwa [Int.toNat_natCast] at this
    refine (kpost_laid (P := P) (t := nbL 4 s.length ++ (s ++ padB s.length)) hF h5 h2 h3 h4 ?_ ?_ hp).more hn
    · rw [ba_size, e4, padL_padB, bapp, bapp, List.append_assoc]
    · intro q
      have := hr q hn
      rw [List.length_append, List.length_append, nbL_len, padB_len]
      omega
  · refine (popaque_long p v m M E S ⟨s.toArray⟩ w h1 hmw (by have := ba_size s; omega)).mono fun e w' hp => ?_
    exact kpost_fail hF h5 h2 (by decide) hn hp
theorem k_count (F : Nat → Prop) (p : Nat) (m M n : Int) (P : Prop) (l : List UInt8) (w : World) (h : WrK F w p M P l) (hF : Ok F w p) (hM0 : 0 ≤ M) (hM1 : M ≤ 2147483647) (hm0 : 0 ≤ m) (hm1 : m ≤ 4294967295) (hr : P → (0 ≤ n ∧ n ≤ m) → (l.length : Int) + 4 ≤ M) :
    Calls Tryz.prog 120 #[.pointer (some ⟨p, 0, none⟩), .int .i64 m, .int .i64 n] w (KPost F p M (P ∧ (0 ≤ n ∧ n ≤ m)) (l ++ nbL 4 n.toNat) w) := by
  obtain ⟨v, S, E, h1, h2, h3, h4, h5⟩ := h
  have hmw : (decide (0 ≤ m) && decide (m ≤ 4294967295)) = true := by rw [decide_eq_true hm0, decide_eq_true hm1]; rfl
  by_cases h0 : 0 ≤ n
  · by_cases hn : n ≤ m
    · refine (pcount_ok p v m n M E S w h1 hM0 (by omega) (by omega) hmw h0 hn).mono fun e w' hp => ?_
      have e4 := byL_nbL 4 n h0 (by simp; omega)
      exact (kpost_laid (t := nbL 4 n.toNat) hF h5 h2 h3 h4 (by rw [e4]) (by rw [nbL_len]; exact fun q => hr q ⟨h0, hn⟩) hp).more ⟨h0, hn⟩
    · refine (pcount_long p v m n M E S w h1 hmw h0 (by omega)).mono fun e w' hp => ?_
      exact kpost_fail hF h5 h2 (by decide) (fun q => hn q.2) hp
  · refine (pcount_neg p v m n M E S w h1 hmw (by omega)).mono fun e w' hp => ?_
    exact kpost_fail hF h5 h2 (by decide) (fun q => h0 q.1) hp
theorem k_raw (F : Nat → Prop) (p : Nat) (M : Int) (s : List UInt8) (P : Prop) (l : List UInt8) (w : World) (h : WrK F w p M P l) (hF : Ok F w p) (hM0 : 0 ≤ M) (hM1 : M ≤ 2147483647) (hs : s.length ≤ 140737488355328) (hr : P → s.length % 4 = 0 → (l.length : Int) + s.length ≤ M) :
    Calls Tryz.prog 124 #[.pointer (some ⟨p, 0, none⟩), .string ⟨s.toArray⟩] w (KPost F p M (P ∧ s.length % 4 = 0) (l ++ s) w) := by
  obtain ⟨v, S, E, h1, h2, h3, h4, h5⟩ := h
  by_cases hn : s.length % 4 = 0
  · refine (praw_ok p v M E S ⟨s.toArray⟩ w h1 hM0 hM1 h2 (by have := ba_size s; omega) (by rw [ba_size, bne_eq_false_iff_eq]; omega)).mono fun e w' hp => ?_
    exact (kpost_laid (t := s) hF h5 h2 h3 h4 rfl (fun q => hr q hn) hp).more hn
  · refine (praw_bad p v M E S ⟨s.toArray⟩ w h1 (by rw [ba_size, bne_iff_ne]; omega)).mono fun e w' hp => ?_
    exact kpost_fail hF h5 h2 (by decide) hn hp
theorem k_fail (F : Nat → Prop) (p : Nat) (M N : Int) (P : Prop) (l : List UInt8) (w : World) (h : WrK F w p M P l) (hF : Ok F w p) (hN : N ≠ 0) :
    Calls Tryz.prog 115 #[.pointer (some ⟨p, 0, none⟩), .int .i64 N] w (KPost F p M (P ∧ False) l w) := by
  obtain ⟨v, S, E, h1, h2, h3, h4, h5⟩ := h
  exact (pfail_any p v M E N S w h1).mono fun e w' hp => kpost_fail hF h5 h2 hN id hp
end Go.Proofs.YtfcbjcebkahehaaGreatDoor
namespace Go.Proofs.YtfcbjcebkahehaaGreatDoor
open Go.RowKit
/-- a function as a value -/
def fv (k : Nat) : Value := .func (.func k) #[] #[]
/-- a block more at the end -/
theorem boxed (w wa : World) (cs : List Value) (t : TypeId) (h : w.alloc (.cells cs.toArray t) = wa) : Bk wa w.heap.size cs t ∧ Below w.heap.size w wa ∧ wa.heap.size = w.heap.size + 1 := by
  subst h
  exact ⟨Bk.new _ _ _, below_new _ _, by simp⟩
set_option maxRecDepth 4000 in
set_option maxHeartbeats 1000000 in
theorem word_lay {Q : Ending → World → Prop} (b i p : Nat) (n : Int) (w : World) (hb : b < w.heap.size) (hc : w.cell? ⟨b, i, none⟩ = some (.int .i64 n))
    (HQ : Hid (∀ w1, Below w.heap.size w w1 → Calls Tryz.prog 116 #[.pointer (some ⟨p, 0, none⟩), .int .i64 n] w1 fun e w' => e = .returned (.tuple #[]) ∧ Q e w')) :
    Calls Tryz.prog 224 #[.agg #[.pointer (some ⟨b, i, none⟩), fv 116, fv 117], .pointer (some ⟨p, 0, none⟩)] w Q := by
  unfold fv
  obtain ⟨wa, hwa⟩ : ∃ x, w.alloc (.cells #[.pointer (some ⟨b, i, none⟩), .func (.func 116) #[] #[], .func (.func 117) #[] #[]] 191) = x := ⟨_, rfl⟩
  obtain ⟨hk, hB, hz⟩ := boxed w wa _ _ hwa
  have HB := hid hB
  have a0 := hk.cell 0 rfl
  have a1 := hk.cell 1 rfl
  have ac : wa.cell? ⟨b, i, none⟩ = some (.int .i64 n) := (cells_of_block (hB.block b hb) i).1.trans hc
  clear hk hB hz hb hc
  go_enter Tryz.func224, Tryz.ntmps224
  go_wp2_with fail
  go_region_with (first | (refine (HQ.out _ (below_drew HB.out 1)).mono ?_; rintro e w' ⟨rfl, h⟩))
  all_goals (
    go_wp2
    first | go_end0 | refine bodyPost_ret (results_none rfl _ _ _) rfl ?_
    exact h)
set_option maxRecDepth 4000 in
set_option maxHeartbeats 1000000 in
theorem flag_lay {Q : Ending → World → Prop} (b i p : Nat) (n : Bool) (w : World) (hb : b < w.heap.size) (hc : w.cell? ⟨b, i, none⟩ = some (.bool n))
    (HQ : Hid (∀ w1, Below w.heap.size w w1 → Calls Tryz.prog 118 #[.pointer (some ⟨p, 0, none⟩), .bool n] w1 fun e w' => e = .returned (.tuple #[]) ∧ Q e w')) :
    Calls Tryz.prog 231 #[.agg #[.pointer (some ⟨b, i, none⟩), fv 118, fv 119], .pointer (some ⟨p, 0, none⟩)] w Q := by
  unfold fv
  obtain ⟨wa, hwa⟩ : ∃ x, w.alloc (.cells #[.pointer (some ⟨b, i, none⟩), .func (.func 118) #[] #[], .func (.func 119) #[] #[]] 199) = x := ⟨_, rfl⟩
  obtain ⟨hk, hB, hz⟩ := boxed w wa _ _ hwa
  have HB := hid hB
  have a0 := hk.cell 0 rfl
  have a1 := hk.cell 1 rfl
  have ac : wa.cell? ⟨b, i, none⟩ = some (.bool n) := (cells_of_block (hB.block b hb) i).1.trans hc
  clear hk hB hz hb hc
  go_enter Tryz.func231, Tryz.ntmps231
  go_wp2_with fail
  go_region_with (first | (refine (HQ.out _ (below_drew HB.out 1)).mono ?_; rintro e w' ⟨rfl, h⟩))
  all_goals (
    go_wp2
    first | go_end0 | refine bodyPost_ret (results_none rfl _ _ _) rfl ?_
    exact h)
end Go.Proofs.YtfcbjcebkahehaaGreatDoor
