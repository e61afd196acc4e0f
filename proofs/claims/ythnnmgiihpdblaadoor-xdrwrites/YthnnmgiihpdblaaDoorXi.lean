/- The document's own Writer: counts, texts of a fixed size, texts of any size. -/
import Derived.Test.YthnnmgiihpdblaaDoorXh
namespace Go.Proofs.YthnnmgiihpdblaaDoor
open Go.RowKit

theorem step_below {p : Nat} {S : ByteArray} {M E : Int} {w w1 w2 : World} (h : RW w1 p S M E ∧ Only p w w1) (hB : Below w1.heap.size w1 w2) : RW w2 p S M E ∧ Only p w w2 :=
  ⟨h.1.below hB, h.2.trans (Only.of_below hB)⟩
theorem padL_len (n : Nat) : (padL n).length ≤ 3 := by unfold padL padN; rw [List.length_replicate]; omega

set_option maxHeartbeats 600000 in
theorem rcount_most (p : Nat) (m n : Int) (S : ByteArray) (M E : Int) (w : World) (h : RW w p S M E) (hs : (S.size : Int) + 4 ≤ 9223372036854775807) (hw : (decide (0 ≤ m) && decide (m ≤ 4294967295)) = false) (hn0 : -9223372036854775808 ≤ n) (hn1 : n ≤ 9223372036854775807) :
    Calls Tryd.prog 81 #[.pointer (some ⟨p, 0, none⟩), .int .i64 m, .int .i64 n] w fun e w' => Wrote p M (rlay M S (firstE E 22) ⟨(byL 4 n).toArray⟩) w e w' := by
  have HW0 : Hid (∀ w, Calls Tryd.prog 109 #[.int .i64 m] w fun e w' => e = .returned (.bool false) ∧ w' = w) := fun w => by
    have := word_any m w; rw [hw] at this; exact this
  have H0 : Hid (Calls Tryd.prog 85 #[.pointer (some ⟨p, 0, none⟩), .int .i64 22] w fun e w' => e = .returned (.tuple #[]) ∧ RW w' p S M (firstE E 22) ∧ Only p w w') := rfail_any p S M E 22 w h
  have H1 : Hid (∀ w, Calls Tryd.prog 108 #[.int .i64 n, .int .i64 4] w fun e w' => e = .returned (.string ⟨(byL 4 n).toArray⟩) ∧ Below w.heap.size w w') := fun w => By4 n w hn0 hn1
  have H2 : Hid (∀ w1, RW w1 p S M (firstE E 22) ∧ Only p w w1 → Calls Tryd.prog 107 #[.pointer (some ⟨p, 0, none⟩), .string ⟨(byL 4 n).toArray⟩] w1 fun e w' => Wrote p M (rlay M S (firstE E 22) ⟨(byL 4 n).toArray⟩) w e w') := fun w1 hR => lays_wrote p _ S M _ w w1 hR.1 hR.2 (by rw [bL_size (byL 4 n), byL_len]; exact hs)
  have HI : Hid (RW w p S M E ∧ Only p w w) := ⟨h, Only.refl _ _⟩
  clear h hs hw
  go_enter Tryd.func81, Tryd.ntmps81
  go_wp2_with fail
  refine (HW0.out _).mono ?_
  rintro e w9 ⟨rfl, hw9⟩
  rw [hw9]
  clear hw9
  go_wp2_with fail
  refine H0.out.mono ?_
  rintro e w1 ⟨rfl, hR, hO⟩
  have HR : Hid (RW w1 p S M (firstE E 22) ∧ Only p w w1) := ⟨hR, hO⟩
  clear hR hO
  go_wp2_with fail
  refine (H1.out _).mono ?_
  rintro e wb0 ⟨rfl, hB⟩
  have HB0 : Hid (RW wb0 p S M (firstE E 22) ∧ Only p w wb0) := step_below HR.out hB
  clear hB
  go_wp2_with fail
  refine (H2.out _ HB0.out).mono ?_
  rintro e w8 ⟨rfl, h3, h5⟩
  have HW : Hid (RW w8 p (rlay M S (firstE E 22) ⟨(byL 4 n).toArray⟩).1 M (rlay M S (firstE E 22) ⟨(byL 4 n).toArray⟩).2 ∧ Only p w w8) := ⟨h3, h5⟩
  clear h3 h5
  go_wp2
  first | go_end0 | refine bodyPost_ret (results_none rfl _ _ _) rfl ?_
  exact ⟨rfl, HW.out.1, HW.out.2⟩

set_option maxHeartbeats 600000 in
theorem rcount_neg (p : Nat) (m n : Int) (S : ByteArray) (M E : Int) (w : World) (h : RW w p S M E) (hs : (S.size : Int) + 4 ≤ 9223372036854775807) (hw : (decide (0 ≤ m) && decide (m ≤ 4294967295)) = true) (hn0 : -9223372036854775808 ≤ n) (hn1 : n ≤ 9223372036854775807) (hb : n < 0) :
    Calls Tryd.prog 81 #[.pointer (some ⟨p, 0, none⟩), .int .i64 m, .int .i64 n] w fun e w' => Wrote p M (rlay M S (firstE E 22) ⟨(byL 4 n).toArray⟩) w e w' := by
  have HW0 : Hid (∀ w, Calls Tryd.prog 109 #[.int .i64 m] w fun e w' => e = .returned (.bool true) ∧ w' = w) := fun w => by
    have := word_any m w; rw [hw] at this; exact this
  have H0 : Hid (Calls Tryd.prog 85 #[.pointer (some ⟨p, 0, none⟩), .int .i64 22] w fun e w' => e = .returned (.tuple #[]) ∧ RW w' p S M (firstE E 22) ∧ Only p w w') := rfail_any p S M E 22 w h
  have H1 : Hid (∀ w, Calls Tryd.prog 108 #[.int .i64 n, .int .i64 4] w fun e w' => e = .returned (.string ⟨(byL 4 n).toArray⟩) ∧ Below w.heap.size w w') := fun w => By4 n w hn0 hn1
  have H2 : Hid (∀ w1, RW w1 p S M (firstE E 22) ∧ Only p w w1 → Calls Tryd.prog 107 #[.pointer (some ⟨p, 0, none⟩), .string ⟨(byL 4 n).toArray⟩] w1 fun e w' => Wrote p M (rlay M S (firstE E 22) ⟨(byL 4 n).toArray⟩) w e w') := fun w1 hR => lays_wrote p _ S M _ w w1 hR.1 hR.2 (by rw [bL_size (byL 4 n), byL_len]; exact hs)
  have HI : Hid (RW w p S M E ∧ Only p w w) := ⟨h, Only.refl _ _⟩
  clear h hs hw
  go_enter Tryd.func81, Tryd.ntmps81
  go_wp2_with fail
  refine (HW0.out _).mono ?_
  rintro e w9 ⟨rfl, hw9⟩
  rw [hw9]
  clear hw9
  go_wp2_with fail
  refine H0.out.mono ?_
  rintro e w1 ⟨rfl, hR, hO⟩
  have HR : Hid (RW w1 p S M (firstE E 22) ∧ Only p w w1) := ⟨hR, hO⟩
  clear hR hO
  go_wp2_with fail
  refine (H1.out _).mono ?_
  rintro e wb0 ⟨rfl, hB⟩
  have HB0 : Hid (RW wb0 p S M (firstE E 22) ∧ Only p w wb0) := step_below HR.out hB
  clear hB
  go_wp2_with fail
  refine (H2.out _ HB0.out).mono ?_
  rintro e w8 ⟨rfl, h3, h5⟩
  have HW : Hid (RW w8 p (rlay M S (firstE E 22) ⟨(byL 4 n).toArray⟩).1 M (rlay M S (firstE E 22) ⟨(byL 4 n).toArray⟩).2 ∧ Only p w w8) := ⟨h3, h5⟩
  clear h3 h5
  go_wp2
  first | go_end0 | refine bodyPost_ret (results_none rfl _ _ _) rfl ?_
  exact ⟨rfl, HW.out.1, HW.out.2⟩

set_option maxHeartbeats 600000 in
theorem rcount_long (p : Nat) (m n : Int) (S : ByteArray) (M E : Int) (w : World) (h : RW w p S M E) (hs : (S.size : Int) + 4 ≤ 9223372036854775807) (hw : (decide (0 ≤ m) && decide (m ≤ 4294967295)) = true) (hn0 : -9223372036854775808 ≤ n) (hn1 : n ≤ 9223372036854775807) (hb : 0 ≤ n) (hl : m < n) :
    Calls Tryd.prog 81 #[.pointer (some ⟨p, 0, none⟩), .int .i64 m, .int .i64 n] w fun e w' => Wrote p M (rlay M S (firstE E 23) ⟨(byL 4 n).toArray⟩) w e w' := by
  have HW0 : Hid (∀ w, Calls Tryd.prog 109 #[.int .i64 m] w fun e w' => e = .returned (.bool true) ∧ w' = w) := fun w => by
    have := word_any m w; rw [hw] at this; exact this
  have H0 : Hid (Calls Tryd.prog 85 #[.pointer (some ⟨p, 0, none⟩), .int .i64 23] w fun e w' => e = .returned (.tuple #[]) ∧ RW w' p S M (firstE E 23) ∧ Only p w w') := rfail_any p S M E 23 w h
  have H1 : Hid (∀ w, Calls Tryd.prog 108 #[.int .i64 n, .int .i64 4] w fun e w' => e = .returned (.string ⟨(byL 4 n).toArray⟩) ∧ Below w.heap.size w w') := fun w => By4 n w hn0 hn1
  have H2 : Hid (∀ w1, RW w1 p S M (firstE E 23) ∧ Only p w w1 → Calls Tryd.prog 107 #[.pointer (some ⟨p, 0, none⟩), .string ⟨(byL 4 n).toArray⟩] w1 fun e w' => Wrote p M (rlay M S (firstE E 23) ⟨(byL 4 n).toArray⟩) w e w') := fun w1 hR => lays_wrote p _ S M _ w w1 hR.1 hR.2 (by rw [bL_size (byL 4 n), byL_len]; exact hs)
  have HI : Hid (RW w p S M E ∧ Only p w w) := ⟨h, Only.refl _ _⟩
  clear h hs hw
  go_enter Tryd.func81, Tryd.ntmps81
  go_wp2_with fail
  refine (HW0.out _).mono ?_
  rintro e w9 ⟨rfl, hw9⟩
  rw [hw9]
  clear hw9
  go_wp2_with fail
  refine H0.out.mono ?_
  rintro e w1 ⟨rfl, hR, hO⟩
  have HR : Hid (RW w1 p S M (firstE E 23) ∧ Only p w w1) := ⟨hR, hO⟩
  clear hR hO
  go_wp2_with fail
  refine (H1.out _).mono ?_
  rintro e wb0 ⟨rfl, hB⟩
  have HB0 : Hid (RW wb0 p S M (firstE E 23) ∧ Only p w wb0) := step_below HR.out hB
  clear hB
  go_wp2_with fail
  refine (H2.out _ HB0.out).mono ?_
  rintro e w8 ⟨rfl, h3, h5⟩
  have HW : Hid (RW w8 p (rlay M S (firstE E 23) ⟨(byL 4 n).toArray⟩).1 M (rlay M S (firstE E 23) ⟨(byL 4 n).toArray⟩).2 ∧ Only p w w8) := ⟨h3, h5⟩
  clear h3 h5
  go_wp2
  first | go_end0 | refine bodyPost_ret (results_none rfl _ _ _) rfl ?_
  exact ⟨rfl, HW.out.1, HW.out.2⟩

set_option maxHeartbeats 600000 in
theorem rcount_ok (p : Nat) (m n : Int) (S : ByteArray) (M E : Int) (w : World) (h : RW w p S M E) (hs : (S.size : Int) + 4 ≤ 9223372036854775807) (hw : (decide (0 ≤ m) && decide (m ≤ 4294967295)) = true) (hn0 : -9223372036854775808 ≤ n) (hn1 : n ≤ 9223372036854775807) (hb : 0 ≤ n) (hl : n ≤ m) :
    Calls Tryd.prog 81 #[.pointer (some ⟨p, 0, none⟩), .int .i64 m, .int .i64 n] w fun e w' => Wrote p M (rlay M S E ⟨(byL 4 n).toArray⟩) w e w' := by
  have HW0 : Hid (∀ w, Calls Tryd.prog 109 #[.int .i64 m] w fun e w' => e = .returned (.bool true) ∧ w' = w) := fun w => by
    have := word_any m w; rw [hw] at this; exact this
  have H1 : Hid (∀ w, Calls Tryd.prog 108 #[.int .i64 n, .int .i64 4] w fun e w' => e = .returned (.string ⟨(byL 4 n).toArray⟩) ∧ Below w.heap.size w w') := fun w => By4 n w hn0 hn1
  have H2 : Hid (∀ w1, RW w1 p S M E ∧ Only p w w1 → Calls Tryd.prog 107 #[.pointer (some ⟨p, 0, none⟩), .string ⟨(byL 4 n).toArray⟩] w1 fun e w' => Wrote p M (rlay M S E ⟨(byL 4 n).toArray⟩) w e w') := fun w1 hR => lays_wrote p _ S M _ w w1 hR.1 hR.2 (by rw [bL_size (byL 4 n), byL_len]; exact hs)
  have HI : Hid (RW w p S M E ∧ Only p w w) := ⟨h, Only.refl _ _⟩
  clear h hs hw
  go_enter Tryd.func81, Tryd.ntmps81
  go_wp2_with fail
  refine (HW0.out _).mono ?_
  rintro e w9 ⟨rfl, hw9⟩
  rw [hw9]
  clear hw9
  go_wp2_with fail
  refine (H1.out _).mono ?_
  rintro e wb0 ⟨rfl, hB⟩
  have HB0 : Hid (RW wb0 p S M E ∧ Only p w wb0) := step_below HI.out hB
  clear hB
  go_wp2_with fail
  refine (H2.out _ HB0.out).mono ?_
  rintro e w8 ⟨rfl, h3, h5⟩
  have HW : Hid (RW w8 p (rlay M S E ⟨(byL 4 n).toArray⟩).1 M (rlay M S E ⟨(byL 4 n).toArray⟩).2 ∧ Only p w w8) := ⟨h3, h5⟩
  clear h3 h5
  go_wp2
  first | go_end0 | refine bodyPost_ret (results_none rfl _ _ _) rfl ?_
  exact ⟨rfl, HW.out.1, HW.out.2⟩

set_option maxHeartbeats 600000 in
theorem rfixed_range (p : Nat) (m : Int) (s : ByteArray) (S : ByteArray) (M E : Int) (w : World) (h : RW w p S M E) (hs : (S.size : Int) + ((s.size : Int) + 3) ≤ 9223372036854775807) (hw : (decide (0 ≤ m) && decide (m ≤ 4294967295)) = false) (hln : (9223372036854775807 < s.size + (padL s.size).length) = False) :
    Calls Tryd.prog 78 #[.pointer (some ⟨p, 0, none⟩), .int .i64 m, .string s] w fun e w' => Wrote p M (rlay M S (firstE E 22) (s ++ ⟨(padL s.size).toArray⟩)) w e w' := by
  have HW0 : Hid (∀ w, Calls Tryd.prog 109 #[.int .i64 m] w fun e w' => e = .returned (.bool false) ∧ w' = w) := fun w => by
    have := word_any m w; rw [hw] at this; exact this
  have H0 : Hid (Calls Tryd.prog 85 #[.pointer (some ⟨p, 0, none⟩), .int .i64 22] w fun e w' => e = .returned (.tuple #[]) ∧ RW w' p S M (firstE E 22) ∧ Only p w w') := rfail_any p S M E 22 w h
  have H1 : Hid (∀ w, Calls Tryd.prog 111 #[.int .i64 (s.size : Int)] w fun e w' => e = .returned (.string ⟨(padL s.size).toArray⟩) ∧ Below w.heap.size w w') := fun w => Padding_any s.size w
  have H2 : Hid (∀ w1, RW w1 p S M (firstE E 22) ∧ Only p w w1 → Calls Tryd.prog 107 #[.pointer (some ⟨p, 0, none⟩), .string (s ++ ⟨(padL s.size).toArray⟩)] w1 fun e w' => Wrote p M (rlay M S (firstE E 22) (s ++ ⟨(padL s.size).toArray⟩)) w e w') := fun w1 hR => lays_wrote p _ S M _ w w1 hR.1 hR.2 (by rw [ByteArray.size_append, size_bytes (padL s.size)]; have := padL_len s.size; omega)
  have HI : Hid (RW w p S M E ∧ Only p w w) := ⟨h, Only.refl _ _⟩
  clear h hs hw
  go_enter Tryd.func78, Tryd.ntmps78
  go_wp2_with fail
  refine (HW0.out _).mono ?_
  rintro e w9 ⟨rfl, hw9⟩
  rw [hw9]
  clear hw9
  go_wp2_with fail
  refine H0.out.mono ?_
  rintro e w1 ⟨rfl, hR, hO⟩
  have HR : Hid (RW w1 p S M (firstE E 22) ∧ Only p w w1) := ⟨hR, hO⟩
  clear hR hO
  go_wp2_with fail
  refine (H1.out _).mono ?_
  rintro e wb0 ⟨rfl, hB⟩
  have HB0 : Hid (RW wb0 p S M (firstE E 22) ∧ Only p w wb0) := step_below HR.out hB
  clear hB
  go_wp2_with fail
  refine (H2.out _ HB0.out).mono ?_
  rintro e w8 ⟨rfl, h3, h5⟩
  have HW : Hid (RW w8 p (rlay M S (firstE E 22) (s ++ ⟨(padL s.size).toArray⟩)).1 M (rlay M S (firstE E 22) (s ++ ⟨(padL s.size).toArray⟩)).2 ∧ Only p w w8) := ⟨h3, h5⟩
  clear h3 h5
  go_wp2
  first | go_end0 | refine bodyPost_ret (results_none rfl _ _ _) rfl ?_
  exact ⟨rfl, HW.out.1, HW.out.2⟩

set_option maxHeartbeats 600000 in
theorem rfixed_long (p : Nat) (m : Int) (s : ByteArray) (S : ByteArray) (M E : Int) (w : World) (h : RW w p S M E) (hs : (S.size : Int) + ((s.size : Int) + 3) ≤ 9223372036854775807) (hw : (decide (0 ≤ m) && decide (m ≤ 4294967295)) = true) (hln : (9223372036854775807 < s.size + (padL s.size).length) = False) (hb : ((s.size : Int) != m) = true) :
    Calls Tryd.prog 78 #[.pointer (some ⟨p, 0, none⟩), .int .i64 m, .string s] w fun e w' => Wrote p M (rlay M S (firstE E 23) (s ++ ⟨(padL s.size).toArray⟩)) w e w' := by
  have HW0 : Hid (∀ w, Calls Tryd.prog 109 #[.int .i64 m] w fun e w' => e = .returned (.bool true) ∧ w' = w) := fun w => by
    have := word_any m w; rw [hw] at this; exact this
  have H0 : Hid (Calls Tryd.prog 85 #[.pointer (some ⟨p, 0, none⟩), .int .i64 23] w fun e w' => e = .returned (.tuple #[]) ∧ RW w' p S M (firstE E 23) ∧ Only p w w') := rfail_any p S M E 23 w h
  have H1 : Hid (∀ w, Calls Tryd.prog 111 #[.int .i64 (s.size : Int)] w fun e w' => e = .returned (.string ⟨(padL s.size).toArray⟩) ∧ Below w.heap.size w w') := fun w => Padding_any s.size w
  have H2 : Hid (∀ w1, RW w1 p S M (firstE E 23) ∧ Only p w w1 → Calls Tryd.prog 107 #[.pointer (some ⟨p, 0, none⟩), .string (s ++ ⟨(padL s.size).toArray⟩)] w1 fun e w' => Wrote p M (rlay M S (firstE E 23) (s ++ ⟨(padL s.size).toArray⟩)) w e w') := fun w1 hR => lays_wrote p _ S M _ w w1 hR.1 hR.2 (by rw [ByteArray.size_append, size_bytes (padL s.size)]; have := padL_len s.size; omega)
  have HI : Hid (RW w p S M E ∧ Only p w w) := ⟨h, Only.refl _ _⟩
  clear h hs hw
  go_enter Tryd.func78, Tryd.ntmps78
  go_wp2_with fail
  refine (HW0.out _).mono ?_
  rintro e w9 ⟨rfl, hw9⟩
  rw [hw9]
  clear hw9
  go_wp2_with fail
  refine H0.out.mono ?_
  rintro e w1 ⟨rfl, hR, hO⟩
  have HR : Hid (RW w1 p S M (firstE E 23) ∧ Only p w w1) := ⟨hR, hO⟩
  clear hR hO
  go_wp2_with fail
  refine (H1.out _).mono ?_
  rintro e wb0 ⟨rfl, hB⟩
  have HB0 : Hid (RW wb0 p S M (firstE E 23) ∧ Only p w wb0) := step_below HR.out hB
  clear hB
  go_wp2_with fail
  refine (H2.out _ HB0.out).mono ?_
  rintro e w8 ⟨rfl, h3, h5⟩
  have HW : Hid (RW w8 p (rlay M S (firstE E 23) (s ++ ⟨(padL s.size).toArray⟩)).1 M (rlay M S (firstE E 23) (s ++ ⟨(padL s.size).toArray⟩)).2 ∧ Only p w w8) := ⟨h3, h5⟩
  clear h3 h5
  go_wp2
  first | go_end0 | refine bodyPost_ret (results_none rfl _ _ _) rfl ?_
  exact ⟨rfl, HW.out.1, HW.out.2⟩

set_option maxHeartbeats 600000 in
theorem rfixed_ok (p : Nat) (m : Int) (s : ByteArray) (S : ByteArray) (M E : Int) (w : World) (h : RW w p S M E) (hs : (S.size : Int) + ((s.size : Int) + 3) ≤ 9223372036854775807) (hw : (decide (0 ≤ m) && decide (m ≤ 4294967295)) = true) (hln : (9223372036854775807 < s.size + (padL s.size).length) = False) (hb : ((s.size : Int) != m) = false) :
    Calls Tryd.prog 78 #[.pointer (some ⟨p, 0, none⟩), .int .i64 m, .string s] w fun e w' => Wrote p M (rlay M S E (s ++ ⟨(padL s.size).toArray⟩)) w e w' := by
  have HW0 : Hid (∀ w, Calls Tryd.prog 109 #[.int .i64 m] w fun e w' => e = .returned (.bool true) ∧ w' = w) := fun w => by
    have := word_any m w; rw [hw] at this; exact this
  have H1 : Hid (∀ w, Calls Tryd.prog 111 #[.int .i64 (s.size : Int)] w fun e w' => e = .returned (.string ⟨(padL s.size).toArray⟩) ∧ Below w.heap.size w w') := fun w => Padding_any s.size w
  have H2 : Hid (∀ w1, RW w1 p S M E ∧ Only p w w1 → Calls Tryd.prog 107 #[.pointer (some ⟨p, 0, none⟩), .string (s ++ ⟨(padL s.size).toArray⟩)] w1 fun e w' => Wrote p M (rlay M S E (s ++ ⟨(padL s.size).toArray⟩)) w e w') := fun w1 hR => lays_wrote p _ S M _ w w1 hR.1 hR.2 (by rw [ByteArray.size_append, size_bytes (padL s.size)]; have := padL_len s.size; omega)
  have HI : Hid (RW w p S M E ∧ Only p w w) := ⟨h, Only.refl _ _⟩
  clear h hs hw
  go_enter Tryd.func78, Tryd.ntmps78
  go_wp2_with fail
  refine (HW0.out _).mono ?_
  rintro e w9 ⟨rfl, hw9⟩
  rw [hw9]
  clear hw9
  go_wp2_with fail
  refine (H1.out _).mono ?_
  rintro e wb0 ⟨rfl, hB⟩
  have HB0 : Hid (RW wb0 p S M E ∧ Only p w wb0) := step_below HI.out hB
  clear hB
  go_wp2_with fail
  refine (H2.out _ HB0.out).mono ?_
  rintro e w8 ⟨rfl, h3, h5⟩
  have HW : Hid (RW w8 p (rlay M S E (s ++ ⟨(padL s.size).toArray⟩)).1 M (rlay M S E (s ++ ⟨(padL s.size).toArray⟩)).2 ∧ Only p w w8) := ⟨h3, h5⟩
  clear h3 h5
  go_wp2
  first | go_end0 | refine bodyPost_ret (results_none rfl _ _ _) rfl ?_
  exact ⟨rfl, HW.out.1, HW.out.2⟩

end Go.Proofs.YthnnmgiihpdblaaDoor
