/- The document's own Writer, call by call. -/
import Derived.Test.YthnnmgiihpdblaaDoorXf
namespace Go.Proofs.YthnnmgiihpdblaaDoor
open Go.RowKit

theorem RW.of_block {w w' : World} {p : Nat} {S : ByteArray} {M E : Int} (h : RW w p S M E) (hb : w'.heap[p]? = w.heap[p]?) : RW w' p S M E := by
  obtain ⟨h1, h2, h3, h4, h5, h6⟩ := h
  refine ⟨?_, ?_, ?_, ?_, ?_, ?_⟩ <;> unfold World.cell? World.frozen? at * <;> simp only [hb] <;> assumption
theorem RW.below {w w' : World} {p : Nat} {S : ByteArray} {M E : Int} (h : RW w p S M E) (hb : Below w.heap.size w w') : RW w' p S M E := h.of_block (hb.block p h.lt)

/-- What a call of the Writer leaves. -/
def Wrote (p : Nat) (M : Int) (r : ByteArray × Int) (w : World) (e : Ending) (w' : World) : Prop := e = .returned (.tuple #[]) ∧ RW w' p r.1 M r.2 ∧ Only p w w'

theorem bL_size (l : List UInt8) : ((⟨l.toArray⟩ : ByteArray).size : Int) = l.length := by rw [size_bytes]
theorem byL_len (k : Nat) (n : Int) : (byL k n).length = k := by unfold byL; exact beL_len _ _

/-- By, then laid down. -/
theorem by_lays (p : Nat) (l : List UInt8) (S : ByteArray) (M E : Int) (w w1 : World) (h : RW w p S M E) (hs : (S.size : Int) + (l.length : Int) ≤ 9223372036854775807) (hB : Below w.heap.size w w1) :
    Calls Tryd.prog 107 #[.pointer (some ⟨p, 0, none⟩), .string ⟨l.toArray⟩] w1 fun e w' => Wrote p M (rlay M S E ⟨l.toArray⟩) w e w' := by
  refine (lays_any p ⟨l.toArray⟩ S M E w1 (h.below hB) (by rw [bL_size]; exact hs)).mono ?_
  rintro e w' ⟨h1, h2, h3⟩
  exact ⟨h1, h2, (Only.of_below hB).trans h3⟩

set_option maxHeartbeats 400000 in
theorem rint_ok (p : Nat) (n : Int) (S : ByteArray) (M E : Int) (w : World) (h : RW w p S M E) (hs : (S.size : Int) + 4 ≤ 9223372036854775807) (h0 : -2147483648 ≤ n) (h1 : n < 2147483648) :
    Calls Tryd.prog 65 #[.pointer (some ⟨p, 0, none⟩), .int .i64 n] w fun e w' => Wrote p M (rlay M S E ⟨(byL 4 n).toArray⟩) w e w' := by
  have H1 : Hid (∀ w, Calls Tryd.prog 108 #[.int .i64 n, .int .i64 4] w fun e w' => e = .returned (B (byL 4 n)) ∧ Below w.heap.size w w') := fun w => By4 n w (by omega) (by omega)
  have H2 : Hid (∀ w1, Below w.heap.size w w1 → Calls Tryd.prog 107 #[.pointer (some ⟨p, 0, none⟩), .string ⟨(byL 4 n).toArray⟩] w1 fun e w' => Wrote p M (rlay M S E ⟨(byL 4 n).toArray⟩) w e w') := fun w1 hB => by_lays p _ S M E w w1 h (by rw [byL_len]; exact hs) hB
  clear h hs
  unfold B at H1
  go_enter Tryd.func65, Tryd.ntmps65
  go_wp2_with fail
  refine (H1.out _).mono ?_
  rintro e w1 ⟨rfl, hB⟩
  have HB : Hid (Below w.heap.size w w1) := hB
  clear hB
  go_wp2_with fail
  refine (H2.out _ HB.out).mono ?_
  rintro e w2 ⟨rfl, h3, h4⟩
  have HW : Hid (RW w2 p (rlay M S E ⟨(byL 4 n).toArray⟩).1 M (rlay M S E ⟨(byL 4 n).toArray⟩).2 ∧ Only p w w2) := ⟨h3, h4⟩
  clear h3 h4
  go_wp2
  first | go_end0 | refine bodyPost_ret (results_none rfl _ _ _) rfl ?_
  exact ⟨rfl, HW.out.1, HW.out.2⟩

/-- What is wrong, then By, then laid down. -/
theorem by_lays2 (p : Nat) (l : List UInt8) (S : ByteArray) (M E : Int) (w0 w w1 : World) (h : RW w p S M E) (hO : Only p w0 w) (hs : (S.size : Int) + (l.length : Int) ≤ 9223372036854775807) (hB : Below w.heap.size w w1) :
    Calls Tryd.prog 107 #[.pointer (some ⟨p, 0, none⟩), .string ⟨l.toArray⟩] w1 fun e w' => Wrote p M (rlay M S E ⟨l.toArray⟩) w0 e w' := by
  refine (by_lays p l S M E w w1 h hs hB).mono ?_
  rintro e w' ⟨h1, h2, h3⟩
  exact ⟨h1, h2, hO.trans h3⟩

set_option maxHeartbeats 400000 in
theorem word_any (n : Int) (w : World) : Calls Tryd.prog 109 #[.int .i64 n] w fun e w' => e = .returned (.bool (decide (0 ≤ n) && decide (n ≤ 4294967295))) ∧ w' = w := by
  by_cases h0 : 0 ≤ n
  · by_cases h1 : n ≤ 4294967295
    · rw [decide_eq_true h0, decide_eq_true h1]
      go_enter Tryd.func109, Tryd.ntmps109
      go_wp2
      go_ret
      exact ⟨rfl, rfl⟩
    · rw [decide_eq_true h0, decide_eq_false h1]
      have h2 : decide (n ≤ 4294967295) = false := decide_eq_false h1
      go_enter Tryd.func109, Tryd.ntmps109
      go_wp2
      go_ret
      exact ⟨rfl, rfl⟩
  · rw [decide_eq_false h0]
    have h2 : decide (0 ≤ n) = false := decide_eq_false h0
    go_enter Tryd.func109, Tryd.ntmps109
    go_wp2
    go_ret
    exact ⟨rfl, rfl⟩

set_option maxHeartbeats 400000 in
theorem rint_low (p : Nat) (n : Int) (S : ByteArray) (M E : Int) (w : World) (h : RW w p S M E) (hs : (S.size : Int) + 4 ≤ 9223372036854775807) (hn0 : -9223372036854775808 ≤ n) (hn1 : n ≤ 9223372036854775807) (hb : n < -2147483648) :
    Calls Tryd.prog 65 #[.pointer (some ⟨p, 0, none⟩), .int .i64 n] w fun e w' => Wrote p M (rlay M S (firstE E 22) ⟨(byL 4 n).toArray⟩) w e w' := by
  have H0 : Hid (Calls Tryd.prog 85 #[.pointer (some ⟨p, 0, none⟩), .int .i64 22] w fun e w' => e = .returned (.tuple #[]) ∧ RW w' p S M (firstE E 22) ∧ Only p w w') := rfail_any p S M E 22 w h
  have H1 : Hid (∀ w, Calls Tryd.prog 108 #[.int .i64 n, .int .i64 4] w fun e w' => e = .returned (B (byL 4 n)) ∧ Below w.heap.size w w') := fun w => By4 n w hn0 hn1
  have H2 : Hid (∀ w2 w1, RW w2 p S M (firstE E 22) → Only p w w2 → Below w2.heap.size w2 w1 → Calls Tryd.prog 107 #[.pointer (some ⟨p, 0, none⟩), .string ⟨(byL 4 n).toArray⟩] w1 fun e w' => Wrote p M (rlay M S (firstE E 22) ⟨(byL 4 n).toArray⟩) w e w') := fun w2 w1 hR hO hB => by_lays2 p _ S M _ w w2 w1 hR hO (by rw [byL_len]; exact hs) hB
  clear h hs hn0 hn1
  unfold B at H1
  go_enter Tryd.func65, Tryd.ntmps65
  go_wp2_with fail
  refine H0.out.mono ?_
  rintro e w1 ⟨rfl, hR, hO⟩
  have HR : Hid (RW w1 p S M (firstE E 22) ∧ Only p w w1) := ⟨hR, hO⟩
  clear hR hO
  go_wp2_with fail
  refine (H1.out _).mono ?_
  rintro e w2 ⟨rfl, hB⟩
  have HB : Hid (Below w1.heap.size w1 w2) := hB
  clear hB
  go_wp2_with fail
  refine (H2.out w1 w2 HR.out.1 HR.out.2 HB.out).mono ?_
  rintro e w3 ⟨rfl, h3, h4⟩
  have HW : Hid (RW w3 p (rlay M S (firstE E 22) ⟨(byL 4 n).toArray⟩).1 M (rlay M S (firstE E 22) ⟨(byL 4 n).toArray⟩).2 ∧ Only p w w3) := ⟨h3, h4⟩
  clear h3 h4
  go_wp2
  first | go_end0 | refine bodyPost_ret (results_none rfl _ _ _) rfl ?_
  exact ⟨rfl, HW.out.1, HW.out.2⟩

set_option maxHeartbeats 400000 in
theorem rint_high (p : Nat) (n : Int) (S : ByteArray) (M E : Int) (w : World) (h : RW w p S M E) (hs : (S.size : Int) + 4 ≤ 9223372036854775807) (hn0 : -9223372036854775808 ≤ n) (hn1 : n ≤ 9223372036854775807) (hb : 2147483648 ≤ n) :
    Calls Tryd.prog 65 #[.pointer (some ⟨p, 0, none⟩), .int .i64 n] w fun e w' => Wrote p M (rlay M S (firstE E 22) ⟨(byL 4 n).toArray⟩) w e w' := by
  have H0 : Hid (Calls Tryd.prog 85 #[.pointer (some ⟨p, 0, none⟩), .int .i64 22] w fun e w' => e = .returned (.tuple #[]) ∧ RW w' p S M (firstE E 22) ∧ Only p w w') := rfail_any p S M E 22 w h
  have H1 : Hid (∀ w, Calls Tryd.prog 108 #[.int .i64 n, .int .i64 4] w fun e w' => e = .returned (B (byL 4 n)) ∧ Below w.heap.size w w') := fun w => By4 n w hn0 hn1
  have H2 : Hid (∀ w2 w1, RW w2 p S M (firstE E 22) → Only p w w2 → Below w2.heap.size w2 w1 → Calls Tryd.prog 107 #[.pointer (some ⟨p, 0, none⟩), .string ⟨(byL 4 n).toArray⟩] w1 fun e w' => Wrote p M (rlay M S (firstE E 22) ⟨(byL 4 n).toArray⟩) w e w') := fun w2 w1 hR hO hB => by_lays2 p _ S M _ w w2 w1 hR hO (by rw [byL_len]; exact hs) hB
  clear h hs hn0 hn1
  unfold B at H1
  go_enter Tryd.func65, Tryd.ntmps65
  go_wp2_with fail
  refine H0.out.mono ?_
  rintro e w1 ⟨rfl, hR, hO⟩
  have HR : Hid (RW w1 p S M (firstE E 22) ∧ Only p w w1) := ⟨hR, hO⟩
  clear hR hO
  go_wp2_with fail
  refine (H1.out _).mono ?_
  rintro e w2 ⟨rfl, hB⟩
  have HB : Hid (Below w1.heap.size w1 w2) := hB
  clear hB
  go_wp2_with fail
  refine (H2.out w1 w2 HR.out.1 HR.out.2 HB.out).mono ?_
  rintro e w3 ⟨rfl, h3, h4⟩
  have HW : Hid (RW w3 p (rlay M S (firstE E 22) ⟨(byL 4 n).toArray⟩).1 M (rlay M S (firstE E 22) ⟨(byL 4 n).toArray⟩).2 ∧ Only p w w3) := ⟨h3, h4⟩
  clear h3 h4
  go_wp2
  first | go_end0 | refine bodyPost_ret (results_none rfl _ _ _) rfl ?_
  exact ⟨rfl, HW.out.1, HW.out.2⟩

set_option maxHeartbeats 400000 in
theorem ruint_bad (p : Nat) (n : Int) (S : ByteArray) (M E : Int) (w : World) (h : RW w p S M E) (hs : (S.size : Int) + 4 ≤ 9223372036854775807) (hn0 : -9223372036854775808 ≤ n) (hn1 : n ≤ 9223372036854775807) (hb : (decide (0 ≤ n) && decide (n ≤ 4294967295)) = false) :
    Calls Tryd.prog 67 #[.pointer (some ⟨p, 0, none⟩), .int .i64 n] w fun e w' => Wrote p M (rlay M S (firstE E 22) ⟨(byL 4 n).toArray⟩) w e w' := by
  have H0 : Hid (Calls Tryd.prog 85 #[.pointer (some ⟨p, 0, none⟩), .int .i64 22] w fun e w' => e = .returned (.tuple #[]) ∧ RW w' p S M (firstE E 22) ∧ Only p w w') := rfail_any p S M E 22 w h
  have H1 : Hid (∀ w, Calls Tryd.prog 108 #[.int .i64 n, .int .i64 4] w fun e w' => e = .returned (B (byL 4 n)) ∧ Below w.heap.size w w') := fun w => By4 n w hn0 hn1
  have H2 : Hid (∀ w2 w1, RW w2 p S M (firstE E 22) → Only p w w2 → Below w2.heap.size w2 w1 → Calls Tryd.prog 107 #[.pointer (some ⟨p, 0, none⟩), .string ⟨(byL 4 n).toArray⟩] w1 fun e w' => Wrote p M (rlay M S (firstE E 22) ⟨(byL 4 n).toArray⟩) w e w') := fun w2 w1 hR hO hB => by_lays2 p _ S M _ w w2 w1 hR hO (by rw [byL_len]; exact hs) hB
  have HW0 : Hid (∀ w, Calls Tryd.prog 109 #[.int .i64 n] w fun e w' => e = .returned (.bool false) ∧ w' = w) := fun w => by
    have := word_any n w; rw [hb] at this; exact this
  clear h hs hn0 hn1
  unfold B at H1
  go_enter Tryd.func67, Tryd.ntmps67
  go_wp2_with fail
  refine (HW0.out _).mono ?_
  rintro e w9 ⟨rfl, hw⟩
  rw [hw]
  clear hw
  go_wp2_with fail
  refine H0.out.mono ?_
  rintro e w1 ⟨rfl, hR, hO⟩
  have HR : Hid (RW w1 p S M (firstE E 22) ∧ Only p w w1) := ⟨hR, hO⟩
  clear hR hO
  go_wp2_with fail
  refine (H1.out _).mono ?_
  rintro e w2 ⟨rfl, hB⟩
  have HB : Hid (Below w1.heap.size w1 w2) := hB
  clear hB
  go_wp2_with fail
  refine (H2.out w1 w2 HR.out.1 HR.out.2 HB.out).mono ?_
  rintro e w3 ⟨rfl, h3, h4⟩
  have HW : Hid (RW w3 p (rlay M S (firstE E 22) ⟨(byL 4 n).toArray⟩).1 M (rlay M S (firstE E 22) ⟨(byL 4 n).toArray⟩).2 ∧ Only p w w3) := ⟨h3, h4⟩
  clear h3 h4
  go_wp2
  first | go_end0 | refine bodyPost_ret (results_none rfl _ _ _) rfl ?_
  exact ⟨rfl, HW.out.1, HW.out.2⟩

set_option maxHeartbeats 400000 in
theorem ruint_ok (p : Nat) (n : Int) (S : ByteArray) (M E : Int) (w : World) (h : RW w p S M E) (hs : (S.size : Int) + 4 ≤ 9223372036854775807) (h0 : 0 ≤ n) (h1 : n ≤ 4294967295) :
    Calls Tryd.prog 67 #[.pointer (some ⟨p, 0, none⟩), .int .i64 n] w fun e w' => Wrote p M (rlay M S E ⟨(byL 4 n).toArray⟩) w e w' := by
  have H1 : Hid (∀ w, Calls Tryd.prog 108 #[.int .i64 n, .int .i64 4] w fun e w' => e = .returned (B (byL 4 n)) ∧ Below w.heap.size w w') := fun w => By4 n w (by omega) (by omega)
  have HW0 : Hid (∀ w, Calls Tryd.prog 109 #[.int .i64 n] w fun e w' => e = .returned (.bool true) ∧ w' = w) := fun w => by
    have := word_any n w; rw [decide_eq_true h0, decide_eq_true h1] at this; exact this
  have H2 : Hid (∀ w1, Below w.heap.size w w1 → Calls Tryd.prog 107 #[.pointer (some ⟨p, 0, none⟩), .string ⟨(byL 4 n).toArray⟩] w1 fun e w' => Wrote p M (rlay M S E ⟨(byL 4 n).toArray⟩) w e w') := fun w1 hB => by_lays p _ S M E w w1 h (by rw [byL_len]; exact hs) hB
  clear h hs
  unfold B at H1
  go_enter Tryd.func67, Tryd.ntmps67
  go_wp2_with fail
  refine (HW0.out _).mono ?_
  rintro e w9 ⟨rfl, hw⟩
  rw [hw]
  clear hw
  go_wp2_with fail
  refine (H1.out _).mono ?_
  rintro e w1 ⟨rfl, hB⟩
  have HB : Hid (Below w.heap.size w w1) := hB
  clear hB
  go_wp2_with fail
  refine (H2.out _ HB.out).mono ?_
  rintro e w2 ⟨rfl, h3, h4⟩
  have HW : Hid (RW w2 p (rlay M S E ⟨(byL 4 n).toArray⟩).1 M (rlay M S E ⟨(byL 4 n).toArray⟩).2 ∧ Only p w w2) := ⟨h3, h4⟩
  clear h3 h4
  go_wp2
  first | go_end0 | refine bodyPost_ret (results_none rfl _ _ _) rfl ?_
  exact ⟨rfl, HW.out.1, HW.out.2⟩

set_option maxHeartbeats 400000 in
theorem rhyper (p : Nat) (n : Int) (S : ByteArray) (M E : Int) (w : World) (h : RW w p S M E) (hs : (S.size : Int) + 8 ≤ 9223372036854775807) (hn0 : -9223372036854775808 ≤ n) (hn1 : n ≤ 9223372036854775807) :
    Calls Tryd.prog 69 #[.pointer (some ⟨p, 0, none⟩), .int .i64 n] w fun e w' => Wrote p M (rlay M S E ⟨(byL 8 n).toArray⟩) w e w' := by
  have H1 : Hid (∀ w, Calls Tryd.prog 108 #[.int .i64 n, .int .i64 8] w fun e w' => e = .returned (B (byL 8 n)) ∧ Below w.heap.size w w') := fun w => By8 n w hn0 hn1
  have H2 : Hid (∀ w1, Below w.heap.size w w1 → Calls Tryd.prog 107 #[.pointer (some ⟨p, 0, none⟩), .string ⟨(byL 8 n).toArray⟩] w1 fun e w' => Wrote p M (rlay M S E ⟨(byL 8 n).toArray⟩) w e w') := fun w1 hB => by_lays p _ S M E w w1 h (by rw [byL_len]; exact hs) hB
  clear h hs
  unfold B at H1
  go_enter Tryd.func69, Tryd.ntmps69
  go_wp2_with fail
  refine (H1.out _).mono ?_
  rintro e w1 ⟨rfl, hB⟩
  have HB : Hid (Below w.heap.size w w1) := hB
  clear hB
  go_wp2_with fail
  refine (H2.out _ HB.out).mono ?_
  rintro e w2 ⟨rfl, h3, h4⟩
  have HW : Hid (RW w2 p (rlay M S E ⟨(byL 8 n).toArray⟩).1 M (rlay M S E ⟨(byL 8 n).toArray⟩).2 ∧ Only p w w2) := ⟨h3, h4⟩
  clear h3 h4
  go_wp2
  first | go_end0 | refine bodyPost_ret (results_none rfl _ _ _) rfl ?_
  exact ⟨rfl, HW.out.1, HW.out.2⟩

set_option maxHeartbeats 400000 in
theorem rbool_true (p : Nat)  (S : ByteArray) (M E : Int) (w : World) (h : RW w p S M E) (hs : (S.size : Int) + 4 ≤ 9223372036854775807)  :
    Calls Tryd.prog 71 #[.pointer (some ⟨p, 0, none⟩), .bool true] w fun e w' => Wrote p M (rlay M S E ⟨(byL 4 1).toArray⟩) w e w' := by
  have H1 : Hid (∀ w, Calls Tryd.prog 108 #[.int .i64 1, .int .i64 4] w fun e w' => e = .returned (B (byL 4 1)) ∧ Below w.heap.size w w') := fun w => By4 1 w (by omega) (by omega)
  have H2 : Hid (∀ w1, Below w.heap.size w w1 → Calls Tryd.prog 107 #[.pointer (some ⟨p, 0, none⟩), .string ⟨(byL 4 1).toArray⟩] w1 fun e w' => Wrote p M (rlay M S E ⟨(byL 4 1).toArray⟩) w e w') := fun w1 hB => by_lays p _ S M E w w1 h (by rw [byL_len]; exact hs) hB
  clear h hs
  unfold B at H1
  go_enter Tryd.func71, Tryd.ntmps71
  go_wp2_with fail
  refine (H1.out _).mono ?_
  rintro e w1 ⟨rfl, hB⟩
  have HB : Hid (Below w.heap.size w w1) := hB
  clear hB
  go_wp2_with fail
  refine (H2.out _ HB.out).mono ?_
  rintro e w2 ⟨rfl, h3, h4⟩
  have HW : Hid (RW w2 p (rlay M S E ⟨(byL 4 1).toArray⟩).1 M (rlay M S E ⟨(byL 4 1).toArray⟩).2 ∧ Only p w w2) := ⟨h3, h4⟩
  clear h3 h4
  go_wp2
  first | go_end0 | refine bodyPost_ret (results_none rfl _ _ _) rfl ?_
  exact ⟨rfl, HW.out.1, HW.out.2⟩

set_option maxHeartbeats 400000 in
theorem rbool_false (p : Nat)  (S : ByteArray) (M E : Int) (w : World) (h : RW w p S M E) (hs : (S.size : Int) + 4 ≤ 9223372036854775807)  :
    Calls Tryd.prog 71 #[.pointer (some ⟨p, 0, none⟩), .bool false] w fun e w' => Wrote p M (rlay M S E ⟨(byL 4 0).toArray⟩) w e w' := by
  have H1 : Hid (∀ w, Calls Tryd.prog 108 #[.int .i64 0, .int .i64 4] w fun e w' => e = .returned (B (byL 4 0)) ∧ Below w.heap.size w w') := fun w => By4 0 w (by omega) (by omega)
  have H2 : Hid (∀ w1, Below w.heap.size w w1 → Calls Tryd.prog 107 #[.pointer (some ⟨p, 0, none⟩), .string ⟨(byL 4 0).toArray⟩] w1 fun e w' => Wrote p M (rlay M S E ⟨(byL 4 0).toArray⟩) w e w') := fun w1 hB => by_lays p _ S M E w w1 h (by rw [byL_len]; exact hs) hB
  clear h hs
  unfold B at H1
  go_enter Tryd.func71, Tryd.ntmps71
  go_wp2_with fail
  refine (H1.out _).mono ?_
  rintro e w1 ⟨rfl, hB⟩
  have HB : Hid (Below w.heap.size w w1) := hB
  clear hB
  go_wp2_with fail
  refine (H2.out _ HB.out).mono ?_
  rintro e w2 ⟨rfl, h3, h4⟩
  have HW : Hid (RW w2 p (rlay M S E ⟨(byL 4 0).toArray⟩).1 M (rlay M S E ⟨(byL 4 0).toArray⟩).2 ∧ Only p w w2) := ⟨h3, h4⟩
  clear h3 h4
  go_wp2
  first | go_end0 | refine bodyPost_ret (results_none rfl _ _ _) rfl ?_
  exact ⟨rfl, HW.out.1, HW.out.2⟩

end Go.Proofs.YthnnmgiihpdblaaDoor
