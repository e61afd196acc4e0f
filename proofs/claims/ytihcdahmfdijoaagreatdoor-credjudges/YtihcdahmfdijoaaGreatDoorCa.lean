/- The program's Writer, plainly: all is well so far (P), and what was laid down then. -/
import Derived.Test.YtihcdahmfdijoaaGreatDoorHr4
import Derived.Test.YtihcdahmfdijoaaGreatDoorHk1
namespace Go.Proofs.YtihcdahmfdijoaaGreatDoor
open Go.RowKit
theorem hid {T : Prop} (h : T) : Hid T := h
/-- a Writer: nothing was wrong just if P, and then l was laid down -/
def WrP (w : World) (p : Nat) (M : Int) (P : Prop) (l : List UInt8) : Prop :=
  ∃ v S E, PW w p v M (Lib.strCells S) E ∧ (S.size : Int) ≤ M ∧ (E = 0 ↔ P) ∧ (P → S = ⟨l.toArray⟩)
def WPost (p : Nat) (M : Int) (P : Prop) (l : List UInt8) (w : World) (e : Ending) (w' : World) : Prop :=
  e = .returned (.tuple #[]) ∧ WrP w' p M P l ∧ Below p w w'
theorem Kept.below_p {w w' : World} {p : Nat} {v v' : Value} {M E : Int} {xs : List Value} (h : PW w p v M xs E) (k : Kept p v v' w w') : Below p w w' :=
  ⟨k.os, k.tape, k.output, k.size, fun b hb => k.block b (by have := h.lt; omega) (by omega) (fun e => by have := (h.own.lt b e.symm).1; omega)⟩
theorem WrP.lt {w : World} {p : Nat} {M : Int} {P : Prop} {l : List UInt8} (h : WrP w p M P l) : p < w.heap.size := by
  obtain ⟨v, S, E, h1, _⟩ := h
  exact h1.lt
theorem WrP.iff {w : World} {p : Nat} {M : Int} {P Q : Prop} {l m : List UInt8} (h : WrP w p M P l) (hq : Q ↔ P) (hl : P → l = m) : WrP w p M Q m := by
  obtain ⟨v, S, E, h1, h2, h3, h4⟩ := h
  exact ⟨v, S, E, h1, h2, h3.trans hq.symm, fun q => by rw [← hl (hq.1 q)]; exact h4 (hq.1 q)⟩
theorem WrP.below {w w' : World} {p : Nat} {M : Int} {P : Prop} {l : List UInt8} (h : WrP w p M P l) (hB : Below w.heap.size w w') : WrP w' p M P l := by
  obtain ⟨v, S, E, h1, h2⟩ := h
  exact ⟨v, S, E, h1.below hB, h2⟩
theorem WrP.new (m : Int) (w : World) (hm : 0 ≤ m) : WrP (w.alloc (.cells #[.int .i64 m, .slice none 0 0, .nilIface] 94)) w.heap.size m True [] := by
  have h := PW.new m w
  rw [show max m 0 = m by omega] at h
  exact ⟨_, _, _, h, hm, by simp, fun _ => rfl⟩
theorem ba_size (l : List UInt8) : (⟨l.toArray⟩ : ByteArray).size = l.length := by simp [ByteArray.size]
theorem wpost_laid {p : Nat} {M : Int} {P : Prop} {l t : List UInt8} {v : Value} {S s : ByteArray} {E : Int} {w w' : World} {e : Ending} (h : PW w p v M (Lib.strCells S) E) (hz : (S.size : Int) ≤ M) (hP : E = 0 ↔ P) (hS : P → S = ⟨l.toArray⟩)
    (hs : s = ⟨t.toArray⟩) (hr : P → (l.length : Int) + t.length ≤ M) (hw : PWrote p v M (rlay M S E s) w e w') : WPost p M P (l ++ t) w e w' := by
  obtain ⟨h1, v', h2, h3⟩ := hw
  refine ⟨h1, ?_, h3.below_p h⟩
  subst hs
  by_cases hp : P
  · have e0 := hP.2 hp
    have eS := hS hp
    subst eS e0
    have hfit := hr hp
    have er : rlay M ⟨l.toArray⟩ 0 ⟨t.toArray⟩ = (⟨(l ++ t).toArray⟩, 0) := by
      unfold rlay
      rw [if_neg (by simp), if_neg (by rw [ba_size, ba_size]; omega), bapp]
    rw [er] at h2
    exact ⟨v', _, _, h2, by show (((⟨(l ++ t).toArray⟩ : ByteArray).size : Nat) : Int) ≤ M; rw [ba_size, List.length_append]; omega, by simp [hp], fun _ => rfl⟩
  · have e0 : E ≠ 0 := fun x => hp (hP.1 x)
    have er : rlay M S E ⟨t.toArray⟩ = (S, E) := by unfold rlay; rw [if_pos e0]
    rw [er] at h2
    exact ⟨v', _, _, h2, hz, hP, fun q => absurd q hp⟩
theorem wpost_fail {p : Nat} {M : Int} {P Q : Prop} {l : List UInt8} {v : Value} {S : ByteArray} {E F : Int} {w w' : World} {e : Ending} (h : PW w p v M (Lib.strCells S) E) (hz : (S.size : Int) ≤ M) (hF : F ≠ 0) (hQ : ¬ Q)
    (hw : PWrote p v M (S, firstE E F) w e w') : WPost p M (P ∧ Q) l w e w' := by
  obtain ⟨h1, v', h2, h3⟩ := hw
  refine ⟨h1, ⟨v', _, _, h2, hz, ?_, fun q => absurd q.2 hQ⟩, h3.below_p h⟩
  constructor
  · intro x
    have x' : firstE E F = 0 := x
    unfold firstE at x'
    split at x'
    · exact absurd x' hF
    · rename_i h0; exact absurd x' h0
  · exact fun q => absurd q.2 hQ
theorem WPost.more {p : Nat} {M : Int} {P Q : Prop} {l : List UInt8} {w w' : World} {e : Ending} (hq : Q) (h : WPost p M P l w e w') : WPost p M (P ∧ Q) l w e w' :=
  ⟨h.1, h.2.1.iff ⟨fun x => x.1, fun x => ⟨x, hq⟩⟩ fun _ => rfl, h.2.2⟩
theorem byL_nbL (k : Nat) (n : Int) (h0 : 0 ≤ n) (h1 : n < ((256 ^ k : Nat) : Int)) : byL k n = nbL k n.toNat := by
  unfold byL
  rw [Int.emod_eq_of_lt h0 h1]; rfl
theorem padL_padB (n : Nat) : padL n = padB n := by
  unfold padL padB
  rw [show padN n = pads n by unfold padN pads; omega]
theorem isW_dec (n : Int) : (decide (0 ≤ n) && decide (n ≤ 4294967295)) = decide (isW n) := by
  unfold isW
  by_cases h0 : 0 ≤ n <;> by_cases h1 : n ≤ 4294967295 <;> simp [h0, h1]
theorem w_uint (p : Nat) (n M : Int) (P : Prop) (l : List UInt8) (w : World) (h : WrP w p M P l) (hM0 : 0 ≤ M) (hM1 : M ≤ 2147483647) (hr : P → (l.length : Int) + 4 ≤ M) :
    Calls Tryz.prog 55 #[.pointer (some ⟨p, 0, none⟩), .int .i64 n] w (WPost p M (P ∧ isW n) (l ++ nbL 4 n.toNat) w) := by
  obtain ⟨v, S, E, h1, h2, h3, h4⟩ := h
  by_cases hn : isW n
  · refine (puint_ok p v n M E S w h1 hM0 (by omega) (by omega) (by rw [isW_dec]; exact decide_eq_true hn)).mono fun e w' hp => ?_
    have e4 := byL_nbL 4 n hn.1 (by have := hn.2; simp; omega)
    exact (wpost_laid (t := nbL 4 n.toNat) h1 h2 h3 h4 (by rw [e4]) (by rw [nbL_len]; exact hr) hp).more hn
  · refine (puint_bad p v n M E S w h1 (by rw [isW_dec]; exact decide_eq_false hn)).mono fun e w' hp => ?_
    exact wpost_fail h1 h2 (by decide) hn hp
theorem w_hyper (p : Nat) (n M : Int) (P : Prop) (l : List UInt8) (w : World) (h : WrP w p M P l) (hM0 : 0 ≤ M) (hM1 : M ≤ 2147483647) (hr : P → (l.length : Int) + 8 ≤ M) :
    Calls Tryz.prog 60 #[.pointer (some ⟨p, 0, none⟩), .int .i64 n] w (WPost p M P (l ++ byL 8 n) w) := by
  obtain ⟨v, S, E, h1, h2, h3, h4⟩ := h
  refine (phyper p v n M E S w h1 hM0 (by omega) (by omega)).mono fun e w' hp => ?_
  exact wpost_laid (t := byL 8 n) h1 h2 h3 h4 rfl (by rw [byL_len]; exact hr) hp
theorem w_opaque (p : Nat) (m M : Int) (s : List UInt8) (P : Prop) (l : List UInt8) (w : World) (h : WrP w p M P l) (hM0 : 0 ≤ M) (hM1 : M ≤ 2147483647) (hm0 : 0 ≤ m) (hm1 : m ≤ 4294967295) (hr : P → (s.length : Int) ≤ m → (l.length : Int) + (4 + (s.length + pads s.length : Nat)) ≤ M) :
    Calls Tryz.prog 56 #[.pointer (some ⟨p, 0, none⟩), .int .i64 m, .string ⟨s.toArray⟩] w (WPost p M (P ∧ (s.length : Int) ≤ m) (l ++ (nbL 4 s.length ++ (s ++ padB s.length))) w) := by
  obtain ⟨v, S, E, h1, h2, h3, h4⟩ := h
  have hmw : (decide (0 ≤ m) && decide (m ≤ 4294967295)) = true := by rw [decide_eq_true hm0, decide_eq_true hm1]; rfl
  by_cases hn : (s.length : Int) ≤ m
  · refine (popaque_ok p v m M E S ⟨s.toArray⟩ w h1 hM0 (by omega) (by have := ba_size s; omega) hmw (by have := ba_size s; omega)).mono fun e w' hp => ?_
    have e4 : byL 4 (s.length : Int) = nbL 4 s.length := by
      have := byL_nbL 4 (s.length : Int) (by omega) (by simp; omega)
      rwa [Int.toNat_natCast] at this
    refine (wpost_laid (P := P) (t := nbL 4 s.length ++ (s ++ padB s.length)) h1 h2 h3 h4 ?_ ?_ hp).more hn
    · rw [ba_size, e4, padL_padB, bapp, bapp, List.append_assoc]
    · intro q
      have := hr q hn
      rw [List.length_append, List.length_append, nbL_len, padB_len]
      omega
  · refine (popaque_long p v m M E S ⟨s.toArray⟩ w h1 hmw (by have := ba_size s; omega)).mono fun e w' hp => ?_
    exact wpost_fail h1 h2 (by decide) hn hp
theorem w_count (p : Nat) (m M : Int) (n : Nat) (P : Prop) (l : List UInt8) (w : World) (h : WrP w p M P l) (hM0 : 0 ≤ M) (hM1 : M ≤ 2147483647) (hm0 : 0 ≤ m) (hm1 : m ≤ 4294967295) (hr : P → (l.length : Int) + 4 ≤ M) :
    Calls Tryz.prog 57 #[.pointer (some ⟨p, 0, none⟩), .int .i64 m, .int .i64 n] w (WPost p M (P ∧ (n : Int) ≤ m) (l ++ nbL 4 n) w) := by
  obtain ⟨v, S, E, h1, h2, h3, h4⟩ := h
  have hmw : (decide (0 ≤ m) && decide (m ≤ 4294967295)) = true := by rw [decide_eq_true hm0, decide_eq_true hm1]; rfl
  by_cases hn : (n : Int) ≤ m
  · refine (pcount_ok p v m n M E S w h1 hM0 (by omega) (by omega) hmw (by omega) hn).mono fun e w' hp => ?_
    have e4 : byL 4 (n : Int) = nbL 4 n := by
      have := byL_nbL 4 (n : Int) (by omega) (by simp; omega)
      rwa [Int.toNat_natCast] at this
    exact (wpost_laid (t := nbL 4 n) h1 h2 h3 h4 (by rw [e4]) (by rw [nbL_len]; exact hr) hp).more hn
  · refine (pcount_long p v m n M E S w h1 hmw (by omega) (by omega)).mono fun e w' hp => ?_
    exact wpost_fail h1 h2 (by decide) hn hp
theorem w_fail (p : Nat) (M F : Int) (P : Prop) (l : List UInt8) (w : World) (h : WrP w p M P l) (hF : F ≠ 0) :
    Calls Tryz.prog 59 #[.pointer (some ⟨p, 0, none⟩), .int .i64 F] w (WPost p M (P ∧ False) l w) := by
  obtain ⟨v, S, E, h1, h2, h3, h4⟩ := h
  exact (pfail_any p v M E F S w h1).mono fun e w' hp => wpost_fail h1 h2 hF id hp
theorem w_done_ok (p : Nat) (M : Int) (P : Prop) (l : List UInt8) (w : World) (h : WrP w p M P l) (hT : ErrT w) (hP : P) :
    Calls Tryz.prog 58 #[.pointer (some ⟨p, 0, none⟩)] w fun e w' => e = .returned (.tuple #[.string ⟨l.toArray⟩, .int .i64 0]) ∧ Below w.heap.size w w' := by
  obtain ⟨v, S, E, h1, h2, h3, h4⟩ := h
  obtain rfl := h3.2 hP
  obtain rfl := h4 hP
  exact pdone_any p v M 0 _ w h1 hT
theorem w_done_bad (p : Nat) (M : Int) (P : Prop) (l : List UInt8) (w : World) (h : WrP w p M P l) (hT : ErrT w) (hP : ¬ P) :
    Calls Tryz.prog 58 #[.pointer (some ⟨p, 0, none⟩)] w fun e w' => (∃ E, E ≠ 0 ∧ e = .returned (.tuple #[.string ⟨#[]⟩, .int .i64 E])) ∧ Below w.heap.size w w' := by
  obtain ⟨v, S, E, h1, h2, h3, h4⟩ := h
  have hE : E ≠ 0 := fun x => hP (h3.1 x)
  refine (pdone_any p v M E _ w h1 hT).mono fun e w' hp => ⟨⟨E, hE, ?_⟩, hp.2⟩
  rw [hp.1, if_neg hE]
theorem w_new (m : Int) (w : World) (hm : 0 ≤ m) : Calls Tryz.prog 34 #[.int .i64 m] w fun e w' => e = .returned (.pointer (some ⟨w.heap.size, 0, none⟩)) ∧ w' = w.alloc (.cells #[.int .i64 m, .slice none 0 0, .nilIface] 94) := by
  have h := pnew m w
  rwa [show max m 0 = m by omega] at h
end Go.Proofs.YtihcdahmfdijoaaGreatDoor
