/- The program's Reader: more of its calls. The program's Reader: Int, Hyper. The program's Reader: Bool, numbers with a point. The program's Reader: Fixed. The program's Reader: Opaque. The program's Reader: Rest, Left, Wrong, Done. -/
import Derived.Test.YtfcbjcebkahehaaGreatDoorZaf
import Derived.Test.YtfcbjcebkahehaaGreatDoorZad
namespace Go.Proofs.YtfcbjcebkahehaaGreatDoor
open Go.RowKit
theorem rdCount_size (most : Int) (l : List UInt8) : (rdCount most l).size = 4 ∧ ((rdCount most l).wrong = 0 → 4 ≤ l.length) ∧ (rdCount most l).val < 4294967296 := by
  have hs : (rdCount most l).size = 4 := by
    unfold rdCount; split
    · rfl
    · split
      · rfl
      · split <;> rfl
  refine ⟨hs, fun h => ?_, ?_⟩
  · have := (one_count most l h).1
    rwa [hs] at this
  · by_cases h : (rdCount most l).wrong = 0
    · have := (one_count most l h).2.2; omega
    · unfold rdCount at h ⊢
      split
      · decide
      · rename_i h1
        rw [if_neg h1] at h
        split
        · decide
        · rename_i h2
          rw [if_neg h2] at h
          split
          · decide
          · rename_i h3; rw [if_neg h3] at h; exact absurd rfl h

set_option maxRecDepth 4000 in
theorem rcount_any (p : Nat) (most : Int) (l : List UInt8) (E : Int) (w : World) (h : RR w p l E) : Calls Tryz.prog 121 #[.pointer (some ⟨p, 0, none⟩), .int .i64 most] w (RPost p l E 0 (rdCount most) (fun n => .int .i64 (n : Int)) w) := by
  unfold RPost
  rw [go_case]
  obtain ⟨hs, hle, hlt⟩ := rdCount_size most l
  obtain ⟨b, hb⟩ : ∃ b, decide (E = 0 ∧ (rdCount most l).wrong = 0) = b := ⟨_, rfl⟩
  have H1 : Hid (Calls Tryz.prog 160 #[.string ⟨l.toArray⟩, .int .i64 most] w fun e w' => e = .returned (.tuple #[.int .i64 (rdCount most l).val, trW (rdCount most l).wrong]) ∧ Below w.heap.size w w') := frontCount_any most l w
  have H2 : Hid (∀ w1, Below w.heap.size w w1 → Calls Tryz.prog 159 #[.pointer (some ⟨p, 0, none⟩), .int .i64 4, trW (rdCount most l).wrong] w1 fun e w' => e = .returned (.bool b) ∧ RR w' p (if b then l.drop 4 else l) (if E = 0 then (rdCount most l).wrong else E) ∧ Sole p w w') := fun w1 hB =>
    (take_any p 4 E _ l w1 b (h.below hB) hb (fun e => by
      subst e
      have := hle (of_decide_eq_true hb).2
      omega)).mono fun e w' hp => ⟨hp.1, hp.2.1, (Sole.of_below hB).trans hp.2.2⟩
  rw [hb, hs]
  have h0 : w.cell? ⟨p, 0, none⟩ = some (.string ⟨l.toArray⟩) := h.l
  obtain ⟨V, hV⟩ : ∃ V, trW (rdCount most l).wrong = V := ⟨_, rfl⟩
  rw [hV] at H1 H2
  generalize (if E = 0 then (rdCount most l).wrong else E) = E2 at *
  generalize (rdCount most l).val = n at *
  have hn0 : 0 ≤ (n : Int) := by omega
  have hn1 : (n : Int) < 4294967296 := by omega
  clear h hs hle hlt hb hV
  cases b
  · obtain ⟨L, hL⟩ : ∃ L, l = L := ⟨_, rfl⟩
    have H3 : Hid (∀ w1, Below w.heap.size w w1 → Calls Tryz.prog 159 #[.pointer (some ⟨p, 0, none⟩), .int .i64 4, V] w1 fun e w' => e = .returned (.bool false) ∧ RR w' p L E2 ∧ Sole p w w') := by rw [← hL]; exact H2.out
    show Calls Tryz.prog 121 _ w fun e w' => e = .returned (.int .i64 0) ∧ RR w' p l E2 ∧ Sole p w w'
    have HL : Hid (l = L) := hL
    suffices hh : Calls Tryz.prog 121 #[.pointer (some ⟨p, 0, none⟩), .int .i64 most] w fun e w' => e = .returned (.int .i64 0) ∧ RR w' p L E2 ∧ Sole p w w' by rw [← HL.out] at hh; exact hh
    clear H2 hL HL
    go_enter Tryz.func121, Tryz.ntmps121
    go_wp2_with fail
    refine H1.out.mono ?_
    rintro e w1 ⟨rfl, hB⟩
    have HB : Hid (Below w.heap.size w w1) := hB
    clear hB
    go_wp2_with fail
    refine (H3.out _ HB.out).mono ?_
    rintro e w2 ⟨rfl, hR, hS⟩
    have HR : Hid (RR w2 p L E2 ∧ Sole p w w2) := ⟨hR, hS⟩
    clear hR hS
    go_wp2
    go_ret
    exact ⟨rfl, HR.out.1, HR.out.2⟩
  · obtain ⟨L, hL⟩ : ∃ L, l.drop 4 = L := ⟨_, rfl⟩
    have H3 : Hid (∀ w1, Below w.heap.size w w1 → Calls Tryz.prog 159 #[.pointer (some ⟨p, 0, none⟩), .int .i64 4, V] w1 fun e w' => e = .returned (.bool true) ∧ RR w' p L E2 ∧ Sole p w w') := by rw [← hL]; exact H2.out
    show Calls Tryz.prog 121 _ w fun e w' => e = .returned (.int .i64 (n : Int)) ∧ RR w' p (l.drop 4) E2 ∧ Sole p w w'
    rw [hL]
    clear H2 hL
    go_enter Tryz.func121, Tryz.ntmps121
    go_wp2_with fail
    refine H1.out.mono ?_
    rintro e w1 ⟨rfl, hB⟩
    have HB : Hid (Below w.heap.size w w1) := hB
    clear hB
    go_wp2_with fail
    refine (H3.out _ HB.out).mono ?_
    rintro e w2 ⟨rfl, hR, hS⟩
    have HR : Hid (RR w2 p L E2 ∧ Sole p w w2) := ⟨hR, hS⟩
    clear hR hS
    go_wp2
    go_ret
    exact ⟨rfl, HR.out.1, HR.out.2⟩

end Go.Proofs.YtfcbjcebkahehaaGreatDoor
namespace Go.Proofs.YtfcbjcebkahehaaGreatDoor
open Go.RowKit
def sgn64r (n : Nat) : Int := if n < 9223372036854775808 then n else (n : Int) - 18446744073709551616

theorem rdHyper_size (l : List UInt8) : (rdHyper l).size = 8 ∧ ((rdHyper l).wrong = 0 → 8 ≤ l.length) ∧ (rdHyper l).val < 18446744073709551616 := by
  refine ⟨by unfold rdHyper; split <;> rfl, fun h => ?_, ?_⟩
  · have := (one_hyper l h).1
    rwa [show (rdHyper l).size = 8 by unfold rdHyper; split <;> rfl] at this
  · by_cases h : (rdHyper l).wrong = 0
    · exact (one_hyper l h).2.2
    · unfold rdHyper at h ⊢
      split at h
      · rename_i h2; rw [if_pos h2]; decide
      · exact absurd rfl h

set_option maxRecDepth 4000 in
theorem rhyper_any (p : Nat) (l : List UInt8) (E : Int) (w : World) (h : RR w p l E) : Calls Tryz.prog 188 #[.pointer (some ⟨p, 0, none⟩)] w (RPost p l E 0 rdHyper (fun n => .int .i64 (sgn64r n)) w) := by
  unfold RPost
  rw [go_case]
  obtain ⟨hs, hle, hlt⟩ := rdHyper_size l
  obtain ⟨b, hb⟩ : ∃ b, decide (E = 0 ∧ (rdHyper l).wrong = 0) = b := ⟨_, rfl⟩
  have H1 : Hid (Calls Tryz.prog 197 #[.string ⟨l.toArray⟩] w fun e w' => e = .returned (.tuple #[.int .u64 (rdHyper l).val, trW (rdHyper l).wrong]) ∧ Below w.heap.size w w') := frontHyper_any l w
  have H2 : Hid (∀ w1, Below w.heap.size w w1 → Calls Tryz.prog 159 #[.pointer (some ⟨p, 0, none⟩), .int .i64 8, trW (rdHyper l).wrong] w1 fun e w' => e = .returned (.bool b) ∧ RR w' p (if b then l.drop 8 else l) (if E = 0 then (rdHyper l).wrong else E) ∧ Sole p w w') := fun w1 hB =>
    (take_any p 8 E _ l w1 b (h.below hB) hb (fun e => by
      subst e
      have := hle (of_decide_eq_true hb).2
      omega)).mono fun e w' hp => ⟨hp.1, hp.2.1, (Sole.of_below hB).trans hp.2.2⟩
  rw [hb, hs]
  have h0 : w.cell? ⟨p, 0, none⟩ = some (.string ⟨l.toArray⟩) := h.l
  obtain ⟨V, hV⟩ : ∃ V, trW (rdHyper l).wrong = V := ⟨_, rfl⟩
  rw [hV] at H1 H2
  generalize (if E = 0 then (rdHyper l).wrong else E) = E2 at *
  generalize (rdHyper l).val = n at *
  have hn0 : 0 ≤ (n : Int) := by omega
  have hn1 : (n : Int) < 18446744073709551616 := by omega
  clear h hs hle hlt hb hV
  cases b
  · obtain ⟨L, hL⟩ : ∃ L, l = L := ⟨_, rfl⟩
    have H3 : Hid (∀ w1, Below w.heap.size w w1 → Calls Tryz.prog 159 #[.pointer (some ⟨p, 0, none⟩), .int .i64 8, V] w1 fun e w' => e = .returned (.bool false) ∧ RR w' p L E2 ∧ Sole p w w') := by rw [← hL]; exact H2.out
    show Calls Tryz.prog 188 _ w fun e w' => e = .returned (.int .i64 0) ∧ RR w' p l E2 ∧ Sole p w w'
    have HL : Hid (l = L) := hL
    suffices hh : Calls Tryz.prog 188 #[.pointer (some ⟨p, 0, none⟩)] w fun e w' => e = .returned (.int .i64 0) ∧ RR w' p L E2 ∧ Sole p w w' by rw [← HL.out] at hh; exact hh
    clear H2 hL HL
    go_enter Tryz.func188, Tryz.ntmps188
    go_wp2_with fail
    refine H1.out.mono ?_
    rintro e w1 ⟨rfl, hB⟩
    have HB : Hid (Below w.heap.size w w1) := hB
    clear hB
    go_wp2_with fail
    refine (H3.out _ HB.out).mono ?_
    rintro e w2 ⟨rfl, hR, hS⟩
    have HR : Hid (RR w2 p L E2 ∧ Sole p w w2) := ⟨hR, hS⟩
    clear hR hS
    go_wp2
    go_ret
    exact ⟨rfl, HR.out.1, HR.out.2⟩
  · obtain ⟨L, hL⟩ : ∃ L, l.drop 8 = L := ⟨_, rfl⟩
    have H3 : Hid (∀ w1, Below w.heap.size w w1 → Calls Tryz.prog 159 #[.pointer (some ⟨p, 0, none⟩), .int .i64 8, V] w1 fun e w' => e = .returned (.bool true) ∧ RR w' p L E2 ∧ Sole p w w') := by rw [← hL]; exact H2.out
    show Calls Tryz.prog 188 _ w fun e w' => e = .returned (.int .i64 (sgn64r n)) ∧ RR w' p (l.drop 8) E2 ∧ Sole p w w'
    rw [hL]
    clear H2 hL
    go_enter Tryz.func188, Tryz.ntmps188
    go_wp2_with fail
    refine H1.out.mono ?_
    rintro e w1 ⟨rfl, hB⟩
    have HB : Hid (Below w.heap.size w w1) := hB
    clear hB
    go_wp2_with fail
    refine (H3.out _ HB.out).mono ?_
    rintro e w2 ⟨rfl, hR, hS⟩
    have HR : Hid (RR w2 p L E2 ∧ Sole p w w2) := ⟨hR, hS⟩
    clear hR hS
    have HN : Hid (n < 18446744073709551616) := by show n < _; omega
    go_wp2
    go_ret
    refine ⟨?_, HR.out.1, HR.out.2⟩
    have hn := HN.out
    have e : wrap64 (n : Int) = sgn64r n := by unfold wrap64 sgn64r; split <;> omega
    rw [← e]; rfl

end Go.Proofs.YtfcbjcebkahehaaGreatDoor
namespace Go.Proofs.YtfcbjcebkahehaaGreatDoor
open Go.RowKit
/-- the end of a reading that goes wrong -/
theorem tk_bad (p : Nat) (E F : Int) (l : List UInt8) (w : World) (h : RR w p l E) (hF : F ≠ 0) : ∀ (n : Int) (w1 : World), Below w.heap.size w w1 →
    Calls Tryz.prog 159 #[.pointer (some ⟨p, 0, none⟩), .int .i64 n, trW F] w1 fun e w' => e = .returned (.bool false) ∧ RR w' p l (if E = 0 then F else E) ∧ Sole p w w' := fun n w1 hB =>
  (take_any p n E F l w1 false (h.below hB) (decide_eq_false fun c => hF c.2) (fun c => by cases c)).mono fun e w' hp => ⟨hp.1, hp.2.1, (Sole.of_below hB).trans hp.2.2⟩

/-- the end of a reading that may be -/
theorem tk_good (p n : Nat) (E : Int) (l : List UInt8) (b : Bool) (w : World) (h : RR w p l E) (hb : decide (E = 0) = b) (hn : n ≤ l.length) : ∀ (w1 : World), Below w.heap.size w w1 →
    Calls Tryz.prog 159 #[.pointer (some ⟨p, 0, none⟩), .int .i64 n, .nilIface] w1 fun e w' => e = .returned (.bool b) ∧ RR w' p (if b then l.drop n else l) E ∧ Sole p w w' := fun w1 hB => by
  have h1 := take_any p n E 0 l w1 b (h.below hB) (by rw [← hb]; simp) (fun _ => by omega)
  rw [Int.toNat_natCast, show (if E = 0 then (0 : Int) else E) = E by split <;> omega] at h1
  exact h1.mono fun e w' hp => ⟨hp.1, hp.2.1, (Sole.of_below hB).trans hp.2.2⟩

theorem RPost.bad {α : Type} {p : Nat} {l : List UInt8} {E F : Int} {d : α} {f : List UInt8 → Rd α} {v : α → Value} {w : World} {e : Ending} {w' : World} (hF : (f l).wrong = F) (hF0 : F ≠ 0)
    (h : e = .returned (v d) ∧ RR w' p l (if E = 0 then F else E) ∧ Sole p w w') : RPost p l E d f v w e w' := by
  unfold RPost
  rw [go_case, hF, if_neg (by rw [decide_eq_true_eq]; exact fun c => hF0 c.2)]
  exact h
theorem RPost.good {α : Type} {p k : Nat} {l : List UInt8} {E : Int} {d x : α} {f : List UInt8 → Rd α} {v : α → Value} {w : World} {e : Ending} {w' : World} (b : Bool) (hb : decide (E = 0) = b) (hf : f l = ⟨0, k, x⟩)
    (h : e = .returned (v (if b then x else d)) ∧ RR w' p (if b then l.drop k else l) E ∧ Sole p w w') : RPost p l E d f v w e w' := by
  unfold RPost
  rw [go_case, hf]
  subst hb
  by_cases hE : E = 0
  · subst hE; simpa using h
  · simpa [hE] using h

end Go.Proofs.YtfcbjcebkahehaaGreatDoor
namespace Go.Proofs.YtfcbjcebkahehaaGreatDoor
open Go.RowKit
theorem Sole.below_after {p : Nat} {a b c : World} (h : Sole p a b) (k : Below b.heap.size b c) : Sole p a c := h.trans (Sole.of_below k)

theorem RR.sole_below {p : Nat} {l : List UInt8} {E : Int} {w : World} : ∀ a c : World, (RR a p l E ∧ Sole p w a) → Below a.heap.size a c → (RR c p l E ∧ Sole p w c) :=
  fun _ _ h k => ⟨h.1.below k, h.2.below_after k⟩

theorem Bs_size (l : List UInt8) : (⟨l.toArray⟩ : ByteArray).size = l.length := by simp [ByteArray.size]

theorem rdText_size (n : Nat) (l : List UInt8) : (rdText n l).size = n + pads n := by
  unfold rdText; split
  · rfl
  · split <;> rfl

theorem clone_rd (l : List UInt8) (hl : l.length ≤ 281474976710656) (w : World) : Calls Tryz.prog 45 #[.string ⟨l.toArray⟩] w fun e w' => e = .returned (.string ⟨l.toArray⟩) ∧ Below w.heap.size w w' := clone_any _ w (by rw [Bs_size]; exact hl)

end Go.Proofs.YtfcbjcebkahehaaGreatDoor
namespace Go.Proofs.YtfcbjcebkahehaaGreatDoor
open Go.RowKit
set_option maxRecDepth 4000 in
theorem ropaque_A {Q : World → Prop} (p : Nat) (m n : Int) (x : Value) (s P : ByteArray) (w : World) (h0 : w.cell? ⟨p, 0, none⟩ = some (.string s))
    (H1 : Hid (Calls Tryz.prog 160 #[.string s, .int .i64 m] w fun e w' => e = .returned (.tuple #[.int .i64 n, .iface 244 x]) ∧ Below w.heap.size w w'))
    (H2 : Hid (∀ w, Calls Tryz.prog 161 #[.int .i64 n] w fun e w' => e = .returned (.string P) ∧ w' = w))
    (H3 : Hid (∀ z w1, Below w.heap.size w w1 → Calls Tryz.prog 159 #[.pointer (some ⟨p, 0, none⟩), .int .i64 z, .iface 244 x] w1 fun e w' => e = .returned (.bool false) ∧ Q w')) :
    Calls Tryz.prog 123 #[.pointer (some ⟨p, 0, none⟩), .int .i64 m] w fun e w' => e = .returned (.string ⟨#[]⟩) ∧ Q w' := by
  have q := eql_iface_rd x
  go_enter Tryz.func123, Tryz.ntmps123
  go_wp2_with fail
  refine H1.out.mono ?_
  rintro e w1 ⟨rfl, hB⟩
  have HB : Hid (Below w.heap.size w w1) := hB
  clear hB
  go_wp2_with fail
  refine (H2.out _).mono ?_
  rintro e w2 ⟨rfl, hw⟩
  have hw1 := hw.symm
  clear hw
  subst hw1
  go_wp2_with fail
  refine (H3.out _ _ HB.out).mono ?_
  rintro e w2 ⟨rfl, hQ⟩
  have HQ : Hid (Q w2) := hQ
  clear hQ
  go_wp2
  go_ret
  exact ⟨rfl, HQ.out⟩

set_option maxRecDepth 4000 in
theorem ropaque_B {Q : World → Prop} (p : Nat) (m n : Int) (V : Value) (s t r P : ByteArray) (w : World) (h0 : w.cell? ⟨p, 0, none⟩ = some (.string s))
    (hs : (4 : Int) ≤ (s.size : Int)) (hr : s.extract 4 s.size = r)
    (H1 : Hid (Calls Tryz.prog 160 #[.string s, .int .i64 m] w fun e w' => e = .returned (.tuple #[.int .i64 n, .nilIface]) ∧ Below w.heap.size w w'))
    (H5 : Hid (∀ w, Calls Tryz.prog 162 #[.string r, .int .i64 n] w fun e w' => e = .returned (.tuple #[.string t, V]) ∧ Below w.heap.size w w'))
    (HC : Hid (∀ w1, Below w.heap.size w w1 → w1.cell? ⟨p, 0, none⟩ = some (.string s)))
    (H2 : Hid (∀ w, Calls Tryz.prog 161 #[.int .i64 n] w fun e w' => e = .returned (.string P) ∧ w' = w))
    (H3 : Hid (∀ z w1, Below w.heap.size w w1 → Calls Tryz.prog 159 #[.pointer (some ⟨p, 0, none⟩), .int .i64 z, V] w1 fun e w' => e = .returned (.bool false) ∧ Q w')) :
    Calls Tryz.prog 123 #[.pointer (some ⟨p, 0, none⟩), .int .i64 m] w fun e w' => e = .returned (.string ⟨#[]⟩) ∧ Q w' := by
  go_enter Tryz.func123, Tryz.ntmps123
  go_wp2_with fail
  refine H1.out.mono ?_
  rintro e w1 ⟨rfl, hB⟩
  have hc1 := HC.out _ hB
  have HB : Hid (Below w.heap.size w w1) := hB
  clear hB
  go_wp2_with fail
  refine (H5.out _).mono ?_
  rintro e w2 ⟨rfl, hB⟩
  have HB2 : Hid (Below w.heap.size w w2) := HB.out.trans (hB.mono HB.out.size)
  clear hB
  go_wp2_with fail
  refine (H2.out _).mono ?_
  rintro e w3 ⟨rfl, hw⟩
  have hw1 := hw.symm
  clear hw
  subst hw1
  go_wp2_with fail
  refine (H3.out _ _ HB2.out).mono ?_
  rintro e w4 ⟨rfl, hQ⟩
  have HQ : Hid (Q w4) := hQ
  clear hQ
  go_wp2
  go_ret
  exact ⟨rfl, HQ.out⟩

set_option maxRecDepth 4000 in
theorem ropaque_C {Q : World → Prop} (p : Nat) (m n z : Int) (b : Bool) (s t r P : ByteArray) (w : World) (h0 : w.cell? ⟨p, 0, none⟩ = some (.string s))
    (hs : (4 : Int) ≤ (s.size : Int)) (hr : s.extract 4 s.size = r)
    (hn0 : 0 ≤ n) (hn1 : n ≤ 4294967295) (hP : (P.size : Int) ≤ 3) (hz : 4 + n + (P.size : Int) = z)
    (H1 : Hid (Calls Tryz.prog 160 #[.string s, .int .i64 m] w fun e w' => e = .returned (.tuple #[.int .i64 n, .nilIface]) ∧ Below w.heap.size w w'))
    (H5 : Hid (∀ w, Calls Tryz.prog 162 #[.string r, .int .i64 n] w fun e w' => e = .returned (.tuple #[.string t, .nilIface]) ∧ Below w.heap.size w w'))
    (HC : Hid (∀ w1, Below w.heap.size w w1 → w1.cell? ⟨p, 0, none⟩ = some (.string s)))
    (H2 : Hid (∀ w, Calls Tryz.prog 161 #[.int .i64 n] w fun e w' => e = .returned (.string P) ∧ w' = w))
    (H3 : Hid (∀ w1, Below w.heap.size w w1 → Calls Tryz.prog 159 #[.pointer (some ⟨p, 0, none⟩), .int .i64 z, .nilIface] w1 fun e w' => e = .returned (.bool b) ∧ Q w'))
    (H4 : Hid (∀ w, Calls Tryz.prog 45 #[.string t] w fun e w' => e = .returned (.string t) ∧ Below w.heap.size w w'))
    (HQB : Hid (∀ a c, Q a → Below a.heap.size a c → Q c)) :
    Calls Tryz.prog 123 #[.pointer (some ⟨p, 0, none⟩), .int .i64 m] w fun e w' => e = .returned (.string (if b then t else ⟨#[]⟩)) ∧ Q w' := by
  cases b
  · go_enter Tryz.func123, Tryz.ntmps123
    go_wp2_with fail
    refine H1.out.mono ?_
    rintro e w1 ⟨rfl, hB⟩
    have hc1 := HC.out _ hB
    have HB : Hid (Below w.heap.size w w1) := hB
    clear hB
    go_wp2_with fail
    refine (H5.out _).mono ?_
    rintro e w2 ⟨rfl, hB⟩
    have HB2 : Hid (Below w.heap.size w w2) := HB.out.trans (hB.mono HB.out.size)
    clear hB
    go_wp2_with fail
    refine (H2.out _).mono ?_
    rintro e w3 ⟨rfl, hw⟩
    have hw1 := hw.symm
    clear hw
    subst hw1
    go_wp2_with fail
    refine (H3.out _ HB2.out).mono ?_
    rintro e w4 ⟨rfl, hQ⟩
    have HQ : Hid (Q w4) := hQ
    clear hQ
    go_wp2
    go_ret
    exact ⟨rfl, HQ.out⟩
  · go_enter Tryz.func123, Tryz.ntmps123
    go_wp2_with fail
    refine H1.out.mono ?_
    rintro e w1 ⟨rfl, hB⟩
    have hc1 := HC.out _ hB
    have HB : Hid (Below w.heap.size w w1) := hB
    clear hB
    go_wp2_with fail
    refine (H5.out _).mono ?_
    rintro e w2 ⟨rfl, hB⟩
    have HB2 : Hid (Below w.heap.size w w2) := HB.out.trans (hB.mono HB.out.size)
    clear hB
    go_wp2_with fail
    refine (H2.out _).mono ?_
    rintro e w3 ⟨rfl, hw⟩
    have hw1 := hw.symm
    clear hw
    subst hw1
    go_wp2_with fail
    refine (H3.out _ HB2.out).mono ?_
    rintro e w4 ⟨rfl, hQ⟩
    have HQ : Hid (Q w4) := hQ
    clear hQ
    go_wp2_with fail
    refine (H4.out _).mono ?_
    rintro e w5 ⟨rfl, hB3⟩
    have HQ3 : Hid (Q w5) := HQB.out _ _ HQ.out hB3
    clear hB3
    go_wp2
    go_ret
    exact ⟨rfl, HQ3.out⟩

theorem ropaque_any (p : Nat) (m : Int) (l : List UInt8) (E : Int) (w : World) (h : RR w p l E) (hl : l.length ≤ 281474976710656) :
    Calls Tryz.prog 123 #[.pointer (some ⟨p, 0, none⟩), .int .i64 m] w (RPost p l E [] (rdOpaque m) (fun s => Bs s) w) := by
  have hf := frontCount_any m l w
  obtain ⟨_, hc4, hclt⟩ := rdCount_size m l
  by_cases hw : (rdCount m l).wrong = 0
  · rw [hw] at hf
    have h4 := hc4 hw
    generalize hk : (rdCount m l).val = k at *
    have hr : (⟨l.toArray⟩ : ByteArray).extract 4 (⟨l.toArray⟩ : ByteArray).size = ⟨(l.drop 4).toArray⟩ := by rw [Bs_size, Bs_from]
    have e1 : rdFixed (k : Int) (l.drop 4) = rdText k (l.drop 4) := by
      unfold rdFixed; rw [if_neg (by omega), Int.toNat_natCast]
    have ht : ∀ w, Calls Tryz.prog 162 #[Bs (l.drop 4), .int .i64 k] w fun e w' => e = .returned (.tuple #[Bs (rdText k (l.drop 4)).val, trW (rdText k (l.drop 4)).wrong]) ∧ Below w.heap.size w w' := fun w => by
      have := frontText_any k (l.drop 4) w
      rwa [e1] at this
    have hop : rdOpaque m l = ⟨(rdText k (l.drop 4)).wrong, 4 + (k + pads k), (rdText k (l.drop 4)).val⟩ := by
      unfold rdOpaque; rw [if_neg (by simp [hw]), hk, rdText_size]
    have hC : ∀ w1, Below w.heap.size w w1 → w1.cell? ⟨p, 0, none⟩ = some (.string ⟨l.toArray⟩) := fun w1 hB => (h.below hB).l
    by_cases hw2 : (rdText k (l.drop 4)).wrong = 0
    · have ho := one_text k (l.drop 4) hw2
      have hle := ho.1
      rw [rdText_size, List.length_drop] at hle
      have hvl : (rdText k (l.drop 4)).val.length ≤ 281474976710656 := by have := ho.2.2; omega
      rw [hw2] at ht hop
      obtain ⟨b, hb⟩ : ∃ b, decide (E = 0) = b := ⟨_, rfl⟩
      have hp := padB_len k
      have hp3 : pads k ≤ 3 := by unfold pads; omega
      refine (ropaque_C (Q := fun w' => RR w' p (if b then l.drop (4 + (k + pads k)) else l) E ∧ Sole p w w') p m k ((4 + (k + pads k) : Nat) : Int) b _ _ _ ⟨(padB k).toArray⟩ w h.l (by rw [Bs_size]; omega) hr (by omega) (by omega) (by rw [Bs_size]; omega) (by rw [Bs_size]; omega) hf
        ht hC (fun w => padding_rd k w (by omega)) (fun w1 hB => tk_good p (4 + (k + pads k)) E l b w h hb (by omega) w1 hB) (clone_rd _ hvl) RR.sole_below).mono ?_
      intro e w' hp
      refine RPost.good (k := 4 + (k + pads k)) (x := (rdText k (l.drop 4)).val) b hb hop ?_
      refine ⟨?_, hp.2⟩
      rw [hp.1]
      cases b <;> rfl
    · refine (ropaque_B (Q := fun w' => RR w' p l (if E = 0 then (rdText k (l.drop 4)).wrong else E) ∧ Sole p w w') p m k _ _ _ _ _ w h.l (by rw [Bs_size]; omega) hr hf ht hC (fun w => padding_rd k w (by omega)) (tk_bad p E _ l w h hw2)).mono ?_
      exact fun e w' hp => RPost.bad (by rw [hop]) hw2 hp
  · have hop : (rdOpaque m l).wrong = (rdCount m l).wrong := by unfold rdOpaque; rw [if_pos hw]
    rw [trW_ne hw] at hf
    have ht := tk_bad p E _ l w h hw
    rw [trW_ne hw] at ht
    refine (ropaque_A (Q := fun w' => RR w' p l (if E = 0 then (rdCount m l).wrong else E) ∧ Sole p w w') p m _ _ _ _ w h.l hf (fun w => padding_rd _ w (by omega)) ht).mono ?_
    exact fun e w' hp => RPost.bad hop hw hp

end Go.Proofs.YtfcbjcebkahehaaGreatDoor
namespace Go.Proofs.YtfcbjcebkahehaaGreatDoor
open Go.RowKit
def rdDone (l : List UInt8) (E : Int) : Int := if E = 0 ∧ l ≠ [] then 21 else E

theorem rdone_bad (p : Nat) (E : Int) (w : World) (H0 : Hid (Calls Tryz.prog 134 #[.pointer (some ⟨p, 1, none⟩)] w fun r w' => r = .returned (.bool true) ∧ w' = w))
    (H1 : Hid (Calls Tryz.prog 135 #[.pointer (some ⟨p, 1, none⟩)] w fun r w' => r = .returned (.int .i64 E) ∧ Below w.heap.size w w')) :
    Calls Tryz.prog 90 #[.pointer (some ⟨p, 0, none⟩)] w fun e w' => e = .returned (.int .i64 E) ∧ Below w.heap.size w w' := by
  go_enter Tryz.func90, Tryz.ntmps90
  go_wp2_with fail
  refine H0.out.mono ?_
  rintro e w1 ⟨rfl, hw⟩
  have hw1 := hw.symm
  clear hw
  subst hw1
  go_wp2_with fail
  refine H1.out.mono ?_
  rintro e w1 ⟨rfl, hB⟩
  have HB : Hid (Below w.heap.size w w1) := hB
  clear hB
  go_wp2
  go_ret
  exact ⟨rfl, HB.out⟩
theorem rdone_end (p : Nat) (E : Int) (w : World) (h0 : w.cell? ⟨p, 0, none⟩ = some (.string ⟨#[]⟩)) (H0 : Hid (Calls Tryz.prog 134 #[.pointer (some ⟨p, 1, none⟩)] w fun r w' => r = .returned (.bool false) ∧ w' = w))
    (H1 : Hid (Calls Tryz.prog 135 #[.pointer (some ⟨p, 1, none⟩)] w fun r w' => r = .returned (.int .i64 E) ∧ Below w.heap.size w w')) :
    Calls Tryz.prog 90 #[.pointer (some ⟨p, 0, none⟩)] w fun e w' => e = .returned (.int .i64 E) ∧ Below w.heap.size w w' := by
  go_enter Tryz.func90, Tryz.ntmps90
  go_wp2_with fail
  refine H0.out.mono ?_
  rintro e w1 ⟨rfl, hw⟩
  have hw1 := hw.symm
  clear hw
  subst hw1
  go_wp2_with fail
  refine H1.out.mono ?_
  rintro e w1 ⟨rfl, hB⟩
  have HB : Hid (Below w.heap.size w w1) := hB
  clear hB
  go_wp2
  go_ret
  exact ⟨rfl, HB.out⟩
theorem rdone_more (p : Nat) (s : ByteArray) (w : World) (h0 : w.cell? ⟨p, 0, none⟩ = some (.string s)) (hs : (s.toList == []) = false) (H0 : Hid (Calls Tryz.prog 134 #[.pointer (some ⟨p, 1, none⟩)] w fun r w' => r = .returned (.bool false) ∧ w' = w)) :
    Calls Tryz.prog 90 #[.pointer (some ⟨p, 0, none⟩)] w fun e w' => e = .returned (.int .i64 21) ∧ Below w.heap.size w w' := by
  go_enter Tryz.func90, Tryz.ntmps90
  go_wp2_with fail
  refine H0.out.mono ?_
  rintro e w1 ⟨rfl, hw⟩
  have hw1 := hw.symm
  clear hw
  subst hw1
  go_wp2
  go_ret
  exact ⟨rfl, Below.refl _ _⟩
theorem rdone_rd (p : Nat) (l : List UInt8) (E : Int) (w : World) (h : RR w p l E) (hE : ErrT w) : Calls Tryz.prog 90 #[.pointer (some ⟨p, 0, none⟩)] w fun e w' => e = .returned (.int .i64 (rdDone l E)) ∧ Below w.heap.size w w' := by
  have H0 := any_any_rd ⟨p, 1, none⟩ E w h.e
  have H1 := number_any ⟨p, 1, none⟩ E w hE h.e
  unfold rdDone
  by_cases he : E = 0
  · subst he
    by_cases hl : l = []
    · subst hl
      rw [if_neg (by simp)]
      exact rdone_end p 0 w h.l H0 H1
    · rw [if_pos ⟨rfl, hl⟩]
      refine rdone_more p _ w h.l ?_ H0
      rw [ByteArray.toList_eq]
      exact beq_eq_false_iff_ne.2 (by simpa using hl)
  · rw [if_neg (fun c => he c.1)]
    rw [show (E != 0) = true from bne_iff_ne.2 he] at H0
    exact rdone_bad p E w H0 H1

theorem rnew_rd (l : List UInt8) (w : World) : Calls Tryz.prog 88 #[.string ⟨l.toArray⟩] w fun e w' => e = .returned (.pointer (some ⟨w.heap.size, 0, none⟩)) ∧ w' = w.alloc (.cells #[.string ⟨l.toArray⟩, .nilIface] 225) := by
  go_enter Tryz.func88, Tryz.ntmps88
  go_wp2
  go_ret
  exact ⟨rfl, rfl⟩
theorem RR.new (l : List UInt8) (w : World) : RR (w.alloc (.cells #[.string ⟨l.toArray⟩, .nilIface] 225)) w.heap.size l 0 := by
  refine ⟨?_, ?_, ?_, ?_⟩ <;> simp [Bs, trW]

end Go.Proofs.YtfcbjcebkahehaaGreatDoor
