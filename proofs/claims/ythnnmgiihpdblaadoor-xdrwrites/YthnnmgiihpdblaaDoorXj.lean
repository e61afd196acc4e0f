/- The document's own Writer: texts of any size. -/
import Derived.Test.YthnnmgiihpdblaaDoorXi
namespace Go.Proofs.YthnnmgiihpdblaaDoor
open Go.RowKit

set_option maxHeartbeats 600000 in
theorem ropaque_range (p : Nat) (m : Int) (s : ByteArray) (S : ByteArray) (M E : Int) (w : World) (h : RW w p S M E) (hs : (S.size : Int) + ((s.size : Int) + 7) ≤ 9223372036854775807) (hw : (decide (0 ≤ m) && decide (m ≤ 4294967295)) = false) (hln1 : (9223372036854775807 < (byL 4 (s.size : Int)).length + s.size) = False) (hln : (9223372036854775807 < (byL 4 (s.size : Int)).length + s.size + (padL s.size).length) = False) (hsz : (s.size : Int) ≤ 9223372036854775807) :
    Calls Tryd.prog 79 #[.pointer (some ⟨p, 0, none⟩), .int .i64 m, .string s] w fun e w' => Wrote p M (rlay M S (firstE E 22) (⟨(byL 4 (s.size : Int)).toArray⟩ ++ s ++ ⟨(padL s.size).toArray⟩)) w e w' := by
  have HW0 : Hid (∀ w, Calls Tryd.prog 109 #[.int .i64 m] w fun e w' => e = .returned (.bool false) ∧ w' = w) := fun w => by
    have := word_any m w; rw [hw] at this; exact this
  have H0 : Hid (Calls Tryd.prog 85 #[.pointer (some ⟨p, 0, none⟩), .int .i64 22] w fun e w' => e = .returned (.tuple #[]) ∧ RW w' p S M (firstE E 22) ∧ Only p w w') := rfail_any p S M E 22 w h
  have H3 : Hid (∀ w, Calls Tryd.prog 108 #[.int .i64 (s.size : Int), .int .i64 4] w fun e w' => e = .returned (.string ⟨(byL 4 (s.size : Int)).toArray⟩) ∧ Below w.heap.size w w') := fun w => By4 (s.size : Int) w (by omega) hsz
  have H1 : Hid (∀ w, Calls Tryd.prog 111 #[.int .i64 (s.size : Int)] w fun e w' => e = .returned (.string ⟨(padL s.size).toArray⟩) ∧ Below w.heap.size w w') := fun w => Padding_any s.size w
  have H2 : Hid (∀ w1, RW w1 p S M (firstE E 22) ∧ Only p w w1 → Calls Tryd.prog 107 #[.pointer (some ⟨p, 0, none⟩), .string (⟨(byL 4 (s.size : Int)).toArray⟩ ++ s ++ ⟨(padL s.size).toArray⟩)] w1 fun e w' => Wrote p M (rlay M S (firstE E 22) (⟨(byL 4 (s.size : Int)).toArray⟩ ++ s ++ ⟨(padL s.size).toArray⟩)) w e w') := fun w1 hR => lays_wrote p _ S M _ w w1 hR.1 hR.2 (by rw [ByteArray.size_append, ByteArray.size_append, size_bytes (padL s.size), size_bytes (byL 4 (s.size : Int)), byL_len]; have := padL_len s.size; omega)
  have HI : Hid (RW w p S M E ∧ Only p w w) := ⟨h, Only.refl _ _⟩
  clear h hs hw hsz
  go_enter Tryd.func79, Tryd.ntmps79
  go_wp2_with fail
  refine (HW0.out _).mono ?_
  rintro e w9 ⟨rfl, hw9⟩
  rw [hw9]
  clear hw9
  go_wp2_with fail
  refine H0.out.mono ?_
  rintro e w1 ⟨rfl, hR, hO⟩
  have HR : Hid (RW w1 p S M (firstE E 22) ∧ Only p w w1) := ⟨hR, hO⟩
  clear hR hO
  go_wp2_with fail
  refine (H3.out _).mono ?_
  rintro e wa ⟨rfl, hB⟩
  have HA : Hid (RW wa p S M (firstE E 22) ∧ Only p w wa) := step_below HR.out hB
  clear hB
  go_wp2_with fail
  refine (H1.out _).mono ?_
  rintro e wb0 ⟨rfl, hB⟩
  have HB0 : Hid (RW wb0 p S M (firstE E 22) ∧ Only p w wb0) := step_below HA.out hB
  clear hB
  go_wp2_with fail
  refine (H2.out _ HB0.out).mono ?_
  rintro e w8 ⟨rfl, h3, h5⟩
  have HW : Hid (RW w8 p (rlay M S (firstE E 22) (⟨(byL 4 (s.size : Int)).toArray⟩ ++ s ++ ⟨(padL s.size).toArray⟩)).1 M (rlay M S (firstE E 22) (⟨(byL 4 (s.size : Int)).toArray⟩ ++ s ++ ⟨(padL s.size).toArray⟩)).2 ∧ Only p w w8) := ⟨h3, h5⟩
  clear h3 h5
  go_wp2
  first | go_end0 | refine bodyPost_ret (results_none rfl _ _ _) rfl ?_
  exact ⟨rfl, HW.out.1, HW.out.2⟩

set_option maxHeartbeats 600000 in
theorem ropaque_long (p : Nat) (m : Int) (s : ByteArray) (S : ByteArray) (M E : Int) (w : World) (h : RW w p S M E) (hs : (S.size : Int) + ((s.size : Int) + 7) ≤ 9223372036854775807) (hw : (decide (0 ≤ m) && decide (m ≤ 4294967295)) = true) (hln1 : (9223372036854775807 < (byL 4 (s.size : Int)).length + s.size) = False) (hln : (9223372036854775807 < (byL 4 (s.size : Int)).length + s.size + (padL s.size).length) = False) (hsz : (s.size : Int) ≤ 9223372036854775807) (hb : m < (s.size : Int)) :
    Calls Tryd.prog 79 #[.pointer (some ⟨p, 0, none⟩), .int .i64 m, .string s] w fun e w' => Wrote p M (rlay M S (firstE E 23) (⟨(byL 4 (s.size : Int)).toArray⟩ ++ s ++ ⟨(padL s.size).toArray⟩)) w e w' := by
  have HW0 : Hid (∀ w, Calls Tryd.prog 109 #[.int .i64 m] w fun e w' => e = .returned (.bool true) ∧ w' = w) := fun w => by
    have := word_any m w; rw [hw] at this; exact this
  have H0 : Hid (Calls Tryd.prog 85 #[.pointer (some ⟨p, 0, none⟩), .int .i64 23] w fun e w' => e = .returned (.tuple #[]) ∧ RW w' p S M (firstE E 23) ∧ Only p w w') := rfail_any p S M E 23 w h
  have H3 : Hid (∀ w, Calls Tryd.prog 108 #[.int .i64 (s.size : Int), .int .i64 4] w fun e w' => e = .returned (.string ⟨(byL 4 (s.size : Int)).toArray⟩) ∧ Below w.heap.size w w') := fun w => By4 (s.size : Int) w (by omega) hsz
  have H1 : Hid (∀ w, Calls Tryd.prog 111 #[.int .i64 (s.size : Int)] w fun e w' => e = .returned (.string ⟨(padL s.size).toArray⟩) ∧ Below w.heap.size w w') := fun w => Padding_any s.size w
  have H2 : Hid (∀ w1, RW w1 p S M (firstE E 23) ∧ Only p w w1 → Calls Tryd.prog 107 #[.pointer (some ⟨p, 0, none⟩), .string (⟨(byL 4 (s.size : Int)).toArray⟩ ++ s ++ ⟨(padL s.size).toArray⟩)] w1 fun e w' => Wrote p M (rlay M S (firstE E 23) (⟨(byL 4 (s.size : Int)).toArray⟩ ++ s ++ ⟨(padL s.size).toArray⟩)) w e w') := fun w1 hR => lays_wrote p _ S M _ w w1 hR.1 hR.2 (by rw [ByteArray.size_append, ByteArray.size_append, size_bytes (padL s.size), size_bytes (byL 4 (s.size : Int)), byL_len]; have := padL_len s.size; omega)
  have HI : Hid (RW w p S M E ∧ Only p w w) := ⟨h, Only.refl _ _⟩
  clear h hs hw hsz
  go_enter Tryd.func79, Tryd.ntmps79
  go_wp2_with fail
  refine (HW0.out _).mono ?_
  rintro e w9 ⟨rfl, hw9⟩
  rw [hw9]
  clear hw9
  go_wp2_with fail
  refine H0.out.mono ?_
  rintro e w1 ⟨rfl, hR, hO⟩
  have HR : Hid (RW w1 p S M (firstE E 23) ∧ Only p w w1) := ⟨hR, hO⟩
  clear hR hO
  go_wp2_with fail
  refine (H3.out _).mono ?_
  rintro e wa ⟨rfl, hB⟩
  have HA : Hid (RW wa p S M (firstE E 23) ∧ Only p w wa) := step_below HR.out hB
  clear hB
  go_wp2_with fail
  refine (H1.out _).mono ?_
  rintro e wb0 ⟨rfl, hB⟩
  have HB0 : Hid (RW wb0 p S M (firstE E 23) ∧ Only p w wb0) := step_below HA.out hB
  clear hB
  go_wp2_with fail
  refine (H2.out _ HB0.out).mono ?_
  rintro e w8 ⟨rfl, h3, h5⟩
  have HW : Hid (RW w8 p (rlay M S (firstE E 23) (⟨(byL 4 (s.size : Int)).toArray⟩ ++ s ++ ⟨(padL s.size).toArray⟩)).1 M (rlay M S (firstE E 23) (⟨(byL 4 (s.size : Int)).toArray⟩ ++ s ++ ⟨(padL s.size).toArray⟩)).2 ∧ Only p w w8) := ⟨h3, h5⟩
  clear h3 h5
  go_wp2
  first | go_end0 | refine bodyPost_ret (results_none rfl _ _ _) rfl ?_
  exact ⟨rfl, HW.out.1, HW.out.2⟩

set_option maxHeartbeats 600000 in
theorem ropaque_ok (p : Nat) (m : Int) (s : ByteArray) (S : ByteArray) (M E : Int) (w : World) (h : RW w p S M E) (hs : (S.size : Int) + ((s.size : Int) + 7) ≤ 9223372036854775807) (hw : (decide (0 ≤ m) && decide (m ≤ 4294967295)) = true) (hln1 : (9223372036854775807 < (byL 4 (s.size : Int)).length + s.size) = False) (hln : (9223372036854775807 < (byL 4 (s.size : Int)).length + s.size + (padL s.size).length) = False) (hsz : (s.size : Int) ≤ 9223372036854775807) (hb : (s.size : Int) ≤ m) :
    Calls Tryd.prog 79 #[.pointer (some ⟨p, 0, none⟩), .int .i64 m, .string s] w fun e w' => Wrote p M (rlay M S E (⟨(byL 4 (s.size : Int)).toArray⟩ ++ s ++ ⟨(padL s.size).toArray⟩)) w e w' := by
  have HW0 : Hid (∀ w, Calls Tryd.prog 109 #[.int .i64 m] w fun e w' => e = .returned (.bool true) ∧ w' = w) := fun w => by
    have := word_any m w; rw [hw] at this; exact this
  have H3 : Hid (∀ w, Calls Tryd.prog 108 #[.int .i64 (s.size : Int), .int .i64 4] w fun e w' => e = .returned (.string ⟨(byL 4 (s.size : Int)).toArray⟩) ∧ Below w.heap.size w w') := fun w => By4 (s.size : Int) w (by omega) hsz
  have H1 : Hid (∀ w, Calls Tryd.prog 111 #[.int .i64 (s.size : Int)] w fun e w' => e = .returned (.string ⟨(padL s.size).toArray⟩) ∧ Below w.heap.size w w') := fun w => Padding_any s.size w
  have H2 : Hid (∀ w1, RW w1 p S M E ∧ Only p w w1 → Calls Tryd.prog 107 #[.pointer (some ⟨p, 0, none⟩), .string (⟨(byL 4 (s.size : Int)).toArray⟩ ++ s ++ ⟨(padL s.size).toArray⟩)] w1 fun e w' => Wrote p M (rlay M S E (⟨(byL 4 (s.size : Int)).toArray⟩ ++ s ++ ⟨(padL s.size).toArray⟩)) w e w') := fun w1 hR => lays_wrote p _ S M _ w w1 hR.1 hR.2 (by rw [ByteArray.size_append, ByteArray.size_append, size_bytes (padL s.size), size_bytes (byL 4 (s.size : Int)), byL_len]; have := padL_len s.size; omega)
  have HI : Hid (RW w p S M E ∧ Only p w w) := ⟨h, Only.refl _ _⟩
  clear h hs hw hsz
  go_enter Tryd.func79, Tryd.ntmps79
  go_wp2_with fail
  refine (HW0.out _).mono ?_
  rintro e w9 ⟨rfl, hw9⟩
  rw [hw9]
  clear hw9
  go_wp2_with fail
  refine (H3.out _).mono ?_
  rintro e wa ⟨rfl, hB⟩
  have HA : Hid (RW wa p S M E ∧ Only p w wa) := step_below HI.out hB
  clear hB
  go_wp2_with fail
  refine (H1.out _).mono ?_
  rintro e wb0 ⟨rfl, hB⟩
  have HB0 : Hid (RW wb0 p S M E ∧ Only p w wb0) := step_below HA.out hB
  clear hB
  go_wp2_with fail
  refine (H2.out _ HB0.out).mono ?_
  rintro e w8 ⟨rfl, h3, h5⟩
  have HW : Hid (RW w8 p (rlay M S E (⟨(byL 4 (s.size : Int)).toArray⟩ ++ s ++ ⟨(padL s.size).toArray⟩)).1 M (rlay M S E (⟨(byL 4 (s.size : Int)).toArray⟩ ++ s ++ ⟨(padL s.size).toArray⟩)).2 ∧ Only p w w8) := ⟨h3, h5⟩
  clear h3 h5
  go_wp2
  first | go_end0 | refine bodyPost_ret (results_none rfl _ _ _) rfl ?_
  exact ⟨rfl, HW.out.1, HW.out.2⟩

end Go.Proofs.YthnnmgiihpdblaaDoor
