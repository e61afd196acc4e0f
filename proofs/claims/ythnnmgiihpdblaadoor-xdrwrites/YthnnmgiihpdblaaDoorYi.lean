/- One call of both Writers, of any kind; two pairs of Writers behind some calls. -/
import Derived.Test.YthnnmgiihpdblaaDoorYc
import Derived.Test.YthnnmgiihpdblaaDoorYd
import Derived.Test.YthnnmgiihpdblaaDoorYe
namespace Go.Proofs.YthnnmgiihpdblaaDoor
open Go.RowKit

theorem size_any (K N MM : Int) (o : Bool) (s : ByteArray) (a b : Nat) (w : World) : Calls Tryd.prog 77 #[opcV K N MM o s a b] w fun e w' => e = .returned (.int .i64 (if N = -7 then (s.size : Int) else N)) ∧ Below w.heap.size w w' := by
  by_cases h : N = -7
  · subst h; rw [if_pos rfl]; exact size_own K MM o s a b w
  · rw [if_neg h]; exact size_said K N MM o s a b w (beq_false_of_ne h)

theorem call_fixed (p q : Nat) (v : Value) (M E N MM : Int) (o : Bool) (S s : ByteArray) (a b : Nat) (w : World) (h : WW w p q v M S E) (hM0 : 0 ≤ M) (hM1 : M ≤ 9223372036854775807) (hb : S.size + (16 + s.size) ≤ 140737488355328) :
    Calls Tryd.prog 40 #[.pointer (some ⟨p, 0, none⟩), .pointer (some ⟨q, 0, none⟩), opcV 7 N MM o s a b] w (WPost p q v M S (16 + s.size) w) := by
  have h1 := padL_len s.size
  have hln : (9223372036854775807 < s.size + (padL s.size).length) = False := eq_false (by omega)
  obtain ⟨m, hm⟩ : ∃ m : Int, (if N = -7 then (s.size : Int) else N) = m := ⟨_, rfl⟩
  have hsz : ∀ w1, Calls Tryd.prog 77 #[opcV 7 N MM o s a b] w1 fun e w' => e = .returned (.int .i64 m) ∧ Below w1.heap.size w1 w' := fun w1 => hm ▸ size_any 7 N MM o s a b w1
  clear hm
  cases hw : (decide (0 ≤ m) && decide (m ≤ 4294967295))
  · refine writes_fixed m p q _ v M E N MM o S s a b w (S, firstE E 22) h hsz (fun w1 h1 => pfixed_range p v m M E S s w1 h1 hw) (fun w1 h1 => ?_) (Nat.le_add_right _ _)
    have r := rfixed_range q m s S M E w1 h1 (by omega) hw hln
    rw [rlay_failed _ _ _ _ _ (by decide)] at r; exact r
  · cases hl : ((s.size : Int) != m)
    · have e : m = (s.size : Int) := by simpa using (bne_eq_false_iff_eq.1 hl).symm
      exact writes_fixed m p q _ v M E N MM o S s a b w _ h hsz (fun w1 h1 => pfixed_ok p v m M E S s w1 h1 hM0 hM1 (by omega) hw e) (fun w1 h1 => rfixed_ok q m s S M E w1 h1 (by omega) hw hln hl)
        (rlay_of _ _ _ _ _ (Nat.le_trans (fixed_size s) (by omega)))
    · refine writes_fixed m p q _ v M E N MM o S s a b w (S, firstE E 23) h hsz (fun w1 h1 => pfixed_long p v m M E S s w1 h1 hw hl) (fun w1 h1 => ?_) (Nat.le_add_right _ _)
      have r := rfixed_long q m s S M E w1 h1 (by omega) hw hln hl
      rw [rlay_failed _ _ _ _ _ (by decide)] at r; exact r

theorem call_none (p q : Nat) (v : Value) (M E K N MM : Int) (o : Bool) (S s : ByteArray) (a b : Nat) (w : World) (h : WW w p q v M S E) (hK : ∀ j : Int, 1 ≤ j → j ≤ 11 → K ≠ j) :
    Calls Tryd.prog 40 #[.pointer (some ⟨p, 0, none⟩), .pointer (some ⟨q, 0, none⟩), opcV K N MM o s a b] w (WPost p q v M S (16 + s.size) w) := by
  have f : ∀ j : Int, 1 ≤ j → j ≤ 11 → (K == j) = false := fun j h1 h2 => beq_false_of_ne (hK j h1 h2)
  refine (writes_none p q K N MM o s a b w (f 1 (by omega) (by omega)) (f 2 (by omega) (by omega)) (f 3 (by omega) (by omega)) (f 4 (by omega) (by omega)) (f 5 (by omega) (by omega)) (f 6 (by omega) (by omega)) (f 7 (by omega) (by omega)) (f 8 (by omega) (by omega)) (f 9 (by omega) (by omega)) (f 10 (by omega) (by omega)) (f 11 (by omega) (by omega))).mono ?_
  rintro e w' ⟨he, hB⟩
  exact ⟨he, v, S, E, h.below hB, ⟨hB.os, hB.tape, hB.output, hB.size, fun b hb _ _ _ => hB.block b hb, .inl rfl⟩, Nat.le_add_right _ _⟩

theorem call_any (p q : Nat) (v : Value) (M E K N MM : Int) (o : Bool) (S s : ByteArray) (a b : Nat) (w : World) (h : WW w p q v M S E) (hM0 : 0 ≤ M) (hM1 : M ≤ 9223372036854775807) (hb : S.size + (16 + s.size) ≤ 140737488355328)
    (hN0 : -9223372036854775808 ≤ N) (hN1 : N ≤ 9223372036854775807) (hMM0 : -9223372036854775808 ≤ MM) (hMM1 : MM ≤ 9223372036854775807) (ha : a < 4294967296) (hbb : b < 18446744073709551616) :
    Calls Tryd.prog 40 #[.pointer (some ⟨p, 0, none⟩), .pointer (some ⟨q, 0, none⟩), opcV K N MM o s a b] w (WPost p q v M S (16 + s.size) w) := by
  by_cases h1 : K = 1
  · subst h1; exact call_int p q v M E N MM o S s a b w h hM0 hM1 hb hN0 hN1
  by_cases h2 : K = 2
  · subst h2; exact call_uint p q v M E N MM o S s a b w h hM0 hM1 hb hN0 hN1
  by_cases h3 : K = 3
  · subst h3; exact call_hyper p q v M E N MM o S s a b w h hM0 hM1 hb hN0 hN1
  by_cases h4 : K = 4
  · subst h4; exact call_bool p q v M E N MM o S s a b w h hM0 hM1 hb
  by_cases h5 : K = 5
  · subst h5; exact call_float p q v M E N MM o S s a b w h hM0 hM1 hb ha
  by_cases h6 : K = 6
  · subst h6; exact call_double p q v M E N MM o S s a b w h hM0 hM1 hb hbb
  by_cases h7 : K = 7
  · subst h7; exact call_fixed p q v M E N MM o S s a b w h hM0 hM1 hb
  by_cases h8 : K = 8
  · subst h8; exact call_opaque p q v M E N MM o S s a b w h hM0 hM1 hb
  by_cases h9 : K = 9
  · subst h9; exact call_count p q v M E N MM o S s a b w h hM0 hM1 hb hMM0 hMM1
  by_cases h10 : K = 10
  · subst h10; exact call_raw p q v M E N MM o S s a b w h hM0 hM1 hb
  by_cases h11 : K = 11
  · subst h11; exact call_fail p q v M E N MM o S s a b w h
  exact call_none p q v M E K N MM o S s a b w h (fun j hj0 hj1 => by omega)

/-- Two pairs of Writers, behind calls that lay down at most c bytes. -/
def Inv (n0 : Nat) (w : World) (p q p2 q2 : Nat) (M M2 : Int) (c : Nat) (wr : World) : Prop :=
  ∃ v S E v2 S2 E2, Two n0 wr p q v M S E p2 q2 v2 M2 S2 E2 ∧ S.size ≤ c ∧ S2.size ≤ c ∧ Below n0 w wr

theorem Inv.size {n0 : Nat} {w : World} {p q p2 q2 : Nat} {M M2 : Int} {c : Nat} {wr : World} (h : Inv n0 w p q p2 q2 M M2 c wr) : w.heap.size ≤ wr.heap.size := by
  obtain ⟨v, S, E, v2, S2, E2, hT, h1, h2, hB⟩ := h
  exact hB.size
theorem Inv.frame {n0 : Nat} {w : World} {p q p2 q2 : Nat} {M M2 : Int} {c : Nat} {wr : World} (h : Inv n0 w p q p2 q2 M M2 c wr) : Below n0 w wr := by
  obtain ⟨v, S, E, v2, S2, E2, hT, h1, h2, hB⟩ := h
  exact hB
theorem Inv.swap {n0 : Nat} {w : World} {p q p2 q2 : Nat} {M M2 : Int} {c : Nat} {wr : World} (h : Inv n0 w p q p2 q2 M M2 c wr) : Inv n0 w p2 q2 p q M2 M c wr := by
  obtain ⟨v, S, E, v2, S2, E2, hT, h1, h2, hB⟩ := h
  exact ⟨v2, S2, E2, v, S, E, hT.swap, h2, h1, hB⟩

theorem Inv.step {n0 : Nat} {w : World} {p q p2 q2 : Nat} {M M2 : Int} {c : Nat} {wr : World} (h : Inv n0 w p q p2 q2 M M2 c wr) (hn : n0 ≤ w.heap.size) (K N MM : Int) (o : Bool) (s : ByteArray) (a b : Nat) (hM0 : 0 ≤ M) (hM1 : M ≤ 9223372036854775807) (hb : c + (16 + s.size) ≤ 140737488355328)
    (hN0 : -9223372036854775808 ≤ N) (hN1 : N ≤ 9223372036854775807) (hMM0 : -9223372036854775808 ≤ MM) (hMM1 : MM ≤ 9223372036854775807) (ha : a < 4294967296) (hbb : b < 18446744073709551616) :
    Calls Tryd.prog 40 #[.pointer (some ⟨p, 0, none⟩), .pointer (some ⟨q, 0, none⟩), opcV K N MM o s a b] wr fun e w' => e = .returned (.tuple #[]) ∧ Inv n0 w p q p2 q2 M M2 (c + (16 + s.size)) w' := by
  obtain ⟨v, S, E, v2, S2, E2, hT, h1, h2, hB⟩ := h
  refine (call_any p q v M E K N MM o S s a b wr hT.a hM0 hM1 (by omega) hN0 hN1 hMM0 hMM1 ha hbb).mono ?_
  rintro e w' ⟨he, v', S', E', hw, hk, hs⟩
  exact ⟨he, v', S', E', v2, S2, E2, hT.step hw hk, by omega, by omega, hT.old hk (Nat.le_trans hn hB.size) hB⟩

theorem Inv.written {n0 : Nat} {w : World} {p q p2 q2 : Nat} {M M2 : Int} {c : Nat} {wr : World} (h : Inv n0 w p q p2 q2 M M2 c wr) (hn : n0 ≤ w.heap.size) (hE : ErrT w) (h1n : 1 < n0) :
    Calls Tryd.prog 41 #[.pointer (some ⟨p, 0, none⟩), .pointer (some ⟨q, 0, none⟩)] wr fun e w' => e = .returned (.bool true) ∧ Inv n0 w p q p2 q2 M M2 c w' := by
  obtain ⟨v, S, E, v2, S2, E2, hT, h1, h2, hB⟩ := h
  have hE2 : ErrT wr := (cells_of_block (hB.block 1 h1n) 0).1.trans hE
  refine (written_any p q v M E S wr hT.a.pw hT.a.rw hE2).mono ?_
  rintro e w' ⟨he, hb⟩
  exact ⟨he, v, S, E, v2, S2, E2, hT.below hb, h1, h2, hB.trans (hb.mono (Nat.le_trans hn hB.size))⟩

theorem Inv.more {n0 : Nat} {w : World} {p q p2 q2 : Nat} {M M2 : Int} {c d : Nat} {wr : World} (h : Inv n0 w p q p2 q2 M M2 c wr) (hd : c = d) : Inv n0 w p q p2 q2 M M2 d wr := hd ▸ h

/-- Four new Writers. -/
theorem Inv.start (n0 : Nat) (w w1 : World) (hB : Below n0 w w1) (hn : n0 ≤ w1.heap.size) (m m2 : Int) :
    Inv n0 w w1.heap.size (w1.heap.size + 2) (w1.heap.size + 1) (w1.heap.size + 3) (max m 0) (max m2 0) 0
      ((((w1.alloc (.cells #[.int .i64 (max m 0), .slice none 0 0, .nilIface] 93)).alloc (.cells #[.int .i64 (max m2 0), .slice none 0 0, .nilIface] 93)).alloc (.cells #[.string ⟨#[]⟩, .int .i64 (max m 0), .int .i64 0] 95)).alloc (.cells #[.string ⟨#[]⟩, .int .i64 (max m2 0), .int .i64 0] 95)) := by
  obtain ⟨a1, ha1⟩ : ∃ a1, a1 = w1.alloc (.cells #[.int .i64 (max m 0), .slice none 0 0, .nilIface] 93) := ⟨_, rfl⟩
  obtain ⟨a2, ha2⟩ : ∃ a2, a2 = a1.alloc (.cells #[.int .i64 (max m2 0), .slice none 0 0, .nilIface] 93) := ⟨_, rfl⟩
  obtain ⟨a3, ha3⟩ : ∃ a3, a3 = a2.alloc (.cells #[.string ⟨#[]⟩, .int .i64 (max m 0), .int .i64 0] 95) := ⟨_, rfl⟩
  obtain ⟨a4, ha4⟩ : ∃ a4, a4 = a3.alloc (.cells #[.string ⟨#[]⟩, .int .i64 (max m2 0), .int .i64 0] 95) := ⟨_, rfl⟩
  have s1 : a1.heap.size = w1.heap.size + 1 := by rw [ha1]; simp
  have s2 : a2.heap.size = w1.heap.size + 2 := by rw [ha2]; simp [s1]
  have s3 : a3.heap.size = w1.heap.size + 3 := by rw [ha3]; simp [s2]
  have p1 : PW a1 w1.heap.size (.slice none 0 0) (max m 0) (Lib.strCells ⟨#[]⟩) 0 := ha1 ▸ PW.new m w1
  have p2 : PW a2 (w1.heap.size + 1) (.slice none 0 0) (max m2 0) (Lib.strCells ⟨#[]⟩) 0 := by rw [← s1, ha2]; exact PW.new m2 a1
  have r1 : RW a3 (w1.heap.size + 2) ⟨#[]⟩ (max m 0) 0 := by rw [← s2, ha3]; exact RW.new m a2
  have r2 : RW a4 (w1.heap.size + 3) ⟨#[]⟩ (max m2 0) 0 := by rw [← s3, ha4]; exact RW.new m2 a3
  have b1 : Below w1.heap.size w1 a1 := ha1 ▸ (Below.refl _ _).alloc (Nat.le_refl _) _
  have b2 : Below a1.heap.size a1 a2 := ha2 ▸ (Below.refl _ _).alloc (Nat.le_refl _) _
  have b3 : Below a2.heap.size a2 a3 := ha3 ▸ (Below.refl _ _).alloc (Nat.le_refl _) _
  have b4 : Below a3.heap.size a3 a4 := ha4 ▸ (Below.refl _ _).alloc (Nat.le_refl _) _
  rw [← ha1, ← ha2, ← ha3, ← ha4]
  refine ⟨.slice none 0 0, ⟨#[]⟩, 0, .slice none 0 0, ⟨#[]⟩, 0, ⟨?_, ?_, ?_, ?_, ?_, ?_, ?_⟩, Nat.le_refl _, Nat.le_refl _, ?_⟩
  · exact ⟨((p1.below b2).below b3).below b4, r1.below b4, by omega, by simp [Value.ownBlock]⟩
  · exact ⟨(p2.below b3).below b4, r2, by omega, by simp [Value.ownBlock]⟩
  · exact hn
  · omega
  · omega
  · omega
  · rintro x (e | e | e) (f | f | f) <;> first | omega | (simp [Value.ownBlock] at e) | (simp [Value.ownBlock] at f)
  · have hl := hB.size
    exact (((hB.trans (b1.mono hn)).trans (b2.mono (by omega))).trans (b3.mono (by omega))).trans (b4.mono (by omega))

end Go.Proofs.YthnnmgiihpdblaaDoor
