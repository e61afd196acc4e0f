/- The document's own Writer: numbers with a point, raw texts, counts. -/
import Derived.Test.YthnnmgiihpdblaaDoorXg
namespace Go.Proofs.YthnnmgiihpdblaaDoor
open Go.RowKit

theorem lays_wrote (p : Nat) (s S : ByteArray) (M E : Int) (w0 w : World) (h : RW w p S M E) (hO : Only p w0 w) (hs : (S.size : Int) + (s.size : Int) ≤ 9223372036854775807) :
    Calls Tryd.prog 107 #[.pointer (some ⟨p, 0, none⟩), .string s] w fun e w' => Wrote p M (rlay M S E s) w0 e w' := by
  refine (lays_any p s S M E w h hs).mono ?_
  rintro e w' ⟨h1, h2, h3⟩
  exact ⟨h1, h2, hO.trans h3⟩

set_option maxHeartbeats 400000 in
theorem rraw_ok (p : Nat) (s S : ByteArray) (M E : Int) (w : World) (h : RW w p S M E) (hs : (S.size : Int) + (s.size : Int) ≤ 9223372036854775807) (h4 : ((s.size : Int) % 4 == 0) = true) :
    Calls Tryd.prog 83 #[.pointer (some ⟨p, 0, none⟩), .string s] w fun e w' => Wrote p M (rlay M S E s) w e w' := by
  have H2 : Hid (Calls Tryd.prog 107 #[.pointer (some ⟨p, 0, none⟩), .string s] w fun e w' => Wrote p M (rlay M S E s) w e w') := lays_wrote p s S M E w w h (Only.refl _ _) hs
  have hb : ((s.size : Int) % 4 != 0) = false := by rw [bne, h4]; rfl
  clear h hs
  go_enter Tryd.func83, Tryd.ntmps83
  go_wp2_with fail
  refine H2.out.mono ?_
  rintro e w2 ⟨rfl, h3, h5⟩
  have HW : Hid (RW w2 p (rlay M S E s).1 M (rlay M S E s).2 ∧ Only p w w2) := ⟨h3, h5⟩
  clear h3 h5
  go_wp2
  first | go_end0 | refine bodyPost_ret (results_none rfl _ _ _) rfl ?_
  exact ⟨rfl, HW.out.1, HW.out.2⟩

set_option maxHeartbeats 400000 in
theorem rraw_bad (p : Nat) (s S : ByteArray) (M E : Int) (w : World) (h : RW w p S M E) (hs : (S.size : Int) + (s.size : Int) ≤ 9223372036854775807) (h4 : ((s.size : Int) % 4 == 0) = false) :
    Calls Tryd.prog 83 #[.pointer (some ⟨p, 0, none⟩), .string s] w fun e w' => Wrote p M (rlay M S (firstE E 1) s) w e w' := by
  have H0 : Hid (Calls Tryd.prog 85 #[.pointer (some ⟨p, 0, none⟩), .int .i64 1] w fun e w' => e = .returned (.tuple #[]) ∧ RW w' p S M (firstE E 1) ∧ Only p w w') := rfail_any p S M E 1 w h
  have H2 : Hid (∀ w1, RW w1 p S M (firstE E 1) → Only p w w1 → Calls Tryd.prog 107 #[.pointer (some ⟨p, 0, none⟩), .string s] w1 fun e w' => Wrote p M (rlay M S (firstE E 1) s) w e w') := fun w1 hR hO => lays_wrote p s S M _ w w1 hR hO hs
  have hb : ((s.size : Int) % 4 != 0) = true := by rw [bne, h4]; rfl
  clear h hs
  go_enter Tryd.func83, Tryd.ntmps83
  go_wp2_with fail
  refine H0.out.mono ?_
  rintro e w1 ⟨rfl, hR, hO⟩
  have HR : Hid (RW w1 p S M (firstE E 1) ∧ Only p w w1) := ⟨hR, hO⟩
  clear hR hO
  go_wp2_with fail
  refine (H2.out w1 HR.out.1 HR.out.2).mono ?_
  rintro e w2 ⟨rfl, h3, h5⟩
  have HW : Hid (RW w2 p (rlay M S (firstE E 1) s).1 M (rlay M S (firstE E 1) s).2 ∧ Only p w w2) := ⟨h3, h5⟩
  clear h3 h5
  go_wp2
  first | go_end0 | refine bodyPost_ret (results_none rfl _ _ _) rfl ?_
  exact ⟨rfl, HW.out.1, HW.out.2⟩

set_option maxHeartbeats 400000 in
theorem rdouble (p : Nat) (x : Nat) (n : Int) (S : ByteArray) (M E : Int) (w : World) (h : RW w p S M E) (hs : (S.size : Int) + 8 ≤ 9223372036854775807) (hx : x < 18446744073709551616) (hn : IntKind.i64.wrap (c64 x : Int) = n) (hn0 : -9223372036854775808 ≤ n) (hn1 : n ≤ 9223372036854775807) :
    Calls Tryd.prog 76 #[.pointer (some ⟨p, 0, none⟩), .float .f64 x] w fun e w' => Wrote p M (rlay M S E ⟨(byL 8 n).toArray⟩) w e w' := by
  have H0 : Hid (∀ w, Calls Tryd.prog 16 #[.float .f64 x] w fun e w' => e = .returned (.int .u64 (c64 x)) ∧ w' = w) := fun w => bits64_any x w hx
  have H1 : Hid (∀ w, Calls Tryd.prog 108 #[.int .i64 n, .int .i64 8] w fun e w' => e = .returned (B (byL 8 n)) ∧ Below w.heap.size w w') := fun w => By8 n w hn0 hn1
  have H2 : Hid (∀ w1, Below w.heap.size w w1 → Calls Tryd.prog 107 #[.pointer (some ⟨p, 0, none⟩), .string ⟨(byL 8 n).toArray⟩] w1 fun e w' => Wrote p M (rlay M S E ⟨(byL 8 n).toArray⟩) w e w') := fun w1 hB => by_lays p _ S M E w w1 h (by rw [byL_len]; exact hs) hB
  clear h hs hx hn0 hn1
  unfold B at H1
  go_enter Tryd.func76, Tryd.ntmps76
  go_wp2_with fail
  refine (H0.out _).mono ?_
  rintro e w9 ⟨rfl, hw⟩
  rw [hw]
  clear hw
  go_wp2_with fail
  refine (H1.out _).mono ?_
  rintro e w1 ⟨rfl, hB⟩
  have HB : Hid (Below w.heap.size w w1) := hB
  clear hB
  go_wp2_with fail
  refine (H2.out _ HB.out).mono ?_
  rintro e w2 ⟨rfl, h3, h4⟩
  have HW : Hid (RW w2 p (rlay M S E ⟨(byL 8 n).toArray⟩).1 M (rlay M S E ⟨(byL 8 n).toArray⟩).2 ∧ Only p w w2) := ⟨h3, h4⟩
  clear h3 h4
  go_wp2
  first | go_end0 | refine bodyPost_ret (results_none rfl _ _ _) rfl ?_
  exact ⟨rfl, HW.out.1, HW.out.2⟩

set_option maxHeartbeats 400000 in
theorem rfloat (p : Nat) (x : Nat) (S : ByteArray) (M E : Int) (w : World) (h : RW w p S M E) (hs : (S.size : Int) + 4 ≤ 9223372036854775807) (hx : x < 4294967296) :
    Calls Tryd.prog 73 #[.pointer (some ⟨p, 0, none⟩), .float .f32 x] w fun e w' => Wrote p M (rlay M S E ⟨(byL 4 (c32 x)).toArray⟩) w e w' := by
  have hc : c32 x < 4294967296 := by unfold c32; split <;> omega
  obtain ⟨n, hn⟩ : ∃ n : Int, (c32 x : Int) = n := ⟨_, rfl⟩
  have hn0 : 0 ≤ n := by omega
  have hn1 : n < 4294967296 := by omega
  have H0 : Hid (∀ w, Calls Tryd.prog 17 #[.float .f32 x] w fun e w' => e = .returned (.int .u32 n) ∧ ∃ k, w' = w.drewN k) := fun w => by
    have := bits32_any x w hx; rw [hn] at this; exact this
  have H1 : Hid (∀ w, Calls Tryd.prog 108 #[.int .i64 n, .int .i64 4] w fun e w' => e = .returned (B (byL 4 n)) ∧ Below w.heap.size w w') := fun w => By4 n w (by omega) (by omega)
  have H2 : Hid (∀ w1, Below w.heap.size w w1 → Calls Tryd.prog 107 #[.pointer (some ⟨p, 0, none⟩), .string ⟨(byL 4 n).toArray⟩] w1 fun e w' => Wrote p M (rlay M S E ⟨(byL 4 n).toArray⟩) w e w') := fun w1 hB => by_lays p _ S M E w w1 h (by rw [byL_len]; exact hs) hB
  rw [hn]
  clear h hs hx hn hc
  unfold B at H1
  go_enter Tryd.func73, Tryd.ntmps73
  go_wp2_with fail
  refine (H0.out _).mono ?_
  rintro e w9 ⟨rfl, k, hw⟩
  have HK : Hid (Below w.heap.size w w9) := by show Below w.heap.size w w9; rw [hw]; exact below_drewN (Below.refl _ _) k
  clear hw
  go_wp2_with fail
  refine (H1.out _).mono ?_
  rintro e w1 ⟨rfl, hB⟩
  have HB : Hid (Below w.heap.size w w1) := HK.out.trans (hB.mono HK.out.size)
  clear hB
  go_wp2_with fail
  refine (H2.out _ HB.out).mono ?_
  rintro e w2 ⟨rfl, h3, h4⟩
  have HW : Hid (RW w2 p (rlay M S E ⟨(byL 4 n).toArray⟩).1 M (rlay M S E ⟨(byL 4 n).toArray⟩).2 ∧ Only p w w2) := ⟨h3, h4⟩
  clear h3 h4
  go_wp2
  first | go_end0 | refine bodyPost_ret (results_none rfl _ _ _) rfl ?_
  exact ⟨rfl, HW.out.1, HW.out.2⟩

end Go.Proofs.YthnnmgiihpdblaaDoor
