/- The document's own Reader: Fixed, Count, Opaque, Rest. -/
import Derived.Test.YtihcdahmfdijoaaGreatDoorDe
namespace Go.Proofs.YtihcdahmfdijoaaGreatDoor
open Go.RowKit
theorem Padding_rd (n : Nat) (w : World) : Calls Tryz.prog 86 #[.int .i64 n] w fun e w' => e = .returned (.string ⟨(padB n).toArray⟩) ∧ Below w.heap.size w w' := Padding_any n w
theorem opaque_short (p a n : Nat) (l : List UInt8) (w : World) (h : DR w p l 0) (ha : a ≤ 4) (hn : n ≤ 4294967295) (hs : l.length < a + n + pads n) :
    Calls Tryz.prog 69 #[.pointer (some ⟨p, 0, none⟩), .int .i64 a, .int .i64 n] w fun e w' => e = .returned (.string ⟨#[]⟩) ∧ (DR w' p l 20 ∧ Sole p w w') := by
  have hp3 : pads n ≤ 3 := by unfold pads; omega
  refine op_A p a n ((a + n + pads n : Nat) : Int) _ w (by omega) (by omega) (by omega) (by omega) (by rw [Bs_size, padB_len]; omega) (by rw [Bs_size, padB_len]; omega) (Padding_rd n) (fun w1 hB => ?_)
  exact (there_no p _ l 0 20 w1 (h.below hB) (by rw [if_pos rfl, if_pos (by omega)]) (by decide)).mono fun e w' hp => ⟨hp.1, hp.2.1, (Sole.of_below hB).trans hp.2.2⟩
theorem opaque_pad (p a n : Nat) (l : List UInt8) (w : World) (h : DR w p l 0) (ha : a ≤ 4) (hn : n ≤ 4294967295) (hs : a + n + pads n ≤ l.length) (hne : ((l.drop a).drop n).take (pads n) ≠ padB n) :
    Calls Tryz.prog 69 #[.pointer (some ⟨p, 0, none⟩), .int .i64 a, .int .i64 n] w fun e w' => e = .returned (.string ⟨#[]⟩) ∧ (DR w' p l 24 ∧ Sole p w w') := by
  have hp3 : pads n ≤ 3 := by unfold pads; omega
  have hX : (⟨l.toArray⟩ : ByteArray).extract ((a : Int) + (n : Int)).toNat (((a + n + pads n : Nat) : Int)).toNat = ⟨(((l.drop a).drop n).take (pads n)).toArray⟩ := by
    rw [Bs_extract, List.drop_drop, show ((a : Int) + (n : Int)).toNat = a + n by omega, Int.toNat_natCast, show a + n + pads n - (a + n) = pads n by omega]
  refine (op_B p a n ((a + n + pads n : Nat) : Int) _ _ _ w (by omega) (by omega) (by omega) (by omega) (by rw [Bs_size, padB_len]; omega) (by rw [Bs_size, padB_len]; omega) (by rw [Bs_size]; omega) hX (by rw [ByteArray.toList_eq, ByteArray.toList_eq]; exact beq_eq_false_iff_ne.2 (by simpa using hne)) (Padding_rd n)
    (fun w1 hB => ⟨(h.below hB).l, (h.below hB).e, (h.below hB).f1⟩) (fun w1 hB => there_yes p _ l w1 (h.below hB) (by omega))).mono ?_
  rintro e w' ⟨rfl, w1, hB, rfl⟩
  exact ⟨rfl, (h.below hB).setE 24, (Sole.of_below hB).trans (Sole.setCell w1 1 _)⟩
theorem opaque_good (p a n : Nat) (l : List UInt8) (w : World) (h : DR w p l 0) (ha : a ≤ 4) (hn : n ≤ 4294967295) (hs : a + n + pads n ≤ l.length) (hpe : ((l.drop a).drop n).take (pads n) = padB n) :
    Calls Tryz.prog 69 #[.pointer (some ⟨p, 0, none⟩), .int .i64 a, .int .i64 n] w fun e w' => e = .returned (.string ⟨((l.drop a).take n).toArray⟩) ∧ (DR w' p (l.drop (a + (n + pads n))) 0 ∧ Sole p w w') := by
  have hp3 : pads n ≤ 3 := by unfold pads; omega
  have hX : (⟨l.toArray⟩ : ByteArray).extract ((a : Int) + (n : Int)).toNat (((a + n + pads n : Nat) : Int)).toNat = ⟨(padB n).toArray⟩ := by
    rw [Bs_extract, show ((a : Int) + (n : Int)).toNat = a + n by omega, Int.toNat_natCast, show a + n + pads n - (a + n) = pads n by omega, ← hpe, List.drop_drop]
  have hu : (⟨(l.take (a + n + pads n)).toArray⟩ : ByteArray).extract (a : Int).toNat ((a : Int) + (n : Int)).toNat = ⟨((l.drop a).take n).toArray⟩ := by
    rw [Bs_extract, show ((a : Int) + (n : Int)).toNat = a + n by omega, Int.toNat_natCast, show a + n - a = n by omega, List.drop_take, List.take_take, Nat.min_eq_left (by omega)]
  refine (op_C (Q := fun w' => DR w' p (l.drop (a + n + pads n)) 0 ∧ Sole p w w') p a n ((a + n + pads n : Nat) : Int) _ _ _ _ w (by omega) (by omega) (by omega) (by omega) (by rw [Bs_size, padB_len]; omega) (by rw [Bs_size, padB_len]; omega) (by rw [Bs_size]; omega) hX (by rw [Bs_size, List.length_take]; omega) hu (Padding_rd n)
    (fun w1 hB => ⟨(h.below hB).l, (h.below hB).e, (h.below hB).f1⟩) (fun w1 hB => there_yes p _ l w1 (h.below hB) (by omega)) (fun w1 hB => (takes_any p _ l 0 w1 (h.below hB) hs).mono fun e w' hp => ⟨hp.1, hp.2.1, (Sole.of_below hB).trans hp.2.2⟩)).mono ?_
  rw [Nat.add_assoc]
  exact fun e w' hp => hp

theorem opaque_bad (p a n : Nat) (l : List UInt8) (w : World) (h : DR w p l 0) (ha : a ≤ 4) (hal : a ≤ l.length) (hn : n ≤ 4294967295) (hw : (rdText n (l.drop a)).wrong ≠ 0) :
    Calls Tryz.prog 69 #[.pointer (some ⟨p, 0, none⟩), .int .i64 a, .int .i64 n] w fun e w' => e = .returned (.string ⟨#[]⟩) ∧ (DR w' p l (rdText n (l.drop a)).wrong ∧ Sole p w w') := by
  unfold rdText at hw ⊢
  by_cases h1 : (l.drop a).length < n + pads n
  · rw [if_pos h1]
    rw [List.length_drop] at h1
    exact opaque_short p a n l w h ha hn (by omega)
  · rw [if_neg h1] at hw ⊢
    rw [List.length_drop] at h1
    by_cases h2 : ((l.drop a).drop n).take (pads n) ≠ padB n
    · rw [if_pos h2]
      exact opaque_pad p a n l w h ha hn (by omega) h2
    · rw [if_neg h2] at hw; exact absurd rfl hw
theorem opaque_ok (p a n : Nat) (l : List UInt8) (w : World) (h : DR w p l 0) (ha : a ≤ 4) (hal : a ≤ l.length) (hn : n ≤ 4294967295) (hw : (rdText n (l.drop a)).wrong = 0) :
    Calls Tryz.prog 69 #[.pointer (some ⟨p, 0, none⟩), .int .i64 a, .int .i64 n] w fun e w' => e = .returned (.string ⟨(rdText n (l.drop a)).val.toArray⟩) ∧ (DR w' p (l.drop (a + (n + pads n))) 0 ∧ Sole p w w') := by
  unfold rdText at hw ⊢
  by_cases h1 : (l.drop a).length < n + pads n
  · rw [if_pos h1] at hw; cases hw
  · rw [if_neg h1] at hw ⊢
    rw [List.length_drop] at h1
    by_cases h2 : ((l.drop a).drop n).take (pads n) ≠ padB n
    · rw [if_pos h2] at hw; cases hw
    · rw [if_neg h2]
      exact opaque_good p a n l w h ha hn (by omega) (Decidable.not_not.1 h2)

end Go.Proofs.YtihcdahmfdijoaaGreatDoor
