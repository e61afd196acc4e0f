/- The statement's helpers wide and slim: the number of some bits; of bits that no number has one that is none. -/
import Derived.Test.YthnnmgiihpdblaaDoorW10
namespace Go.Proofs.YthnnmgiihpdblaaDoor
open Go.RowKit

set_option maxHeartbeats 400000 in
theorem wide_ok (a : Int) (n : Nat) (w : World) (ha : IntKind.u64.wrap a = (n : Int)) (h : n < 18446744073709551616) (hn : nan64 n = false) :
    Calls Tryd.prog 10 #[.int .i64 a] w fun e w' => e = .returned (.float .f64 n) ∧ w' = w := by
  have HC : Hid (∀ w, Calls Tryd.prog 13 #[.int .u64 n] w fun e w' => e = .returned (.tuple #[.float .f64 n, .int .i64 0]) ∧ w' = w) := fun w => from64_ok n w h hn
  clear h hn
  go_enter Tryd.func10, Tryd.ntmps10
  go_wp2_with fail
  refine (HC.out _).mono ?_
  rintro e w' ⟨rfl, rfl⟩
  go_wp2
  go_ret
  exact ⟨rfl, rfl⟩

set_option maxHeartbeats 400000 in
theorem wide_nan (a : Int) (w : World) (ha : IntKind.u64.wrap a = 9221120237041090560) :
    Calls Tryd.prog 10 #[.int .i64 a] w fun e w' => ∃ x k, nan64 x = true ∧ x < 18446744073709551616 ∧ e = .returned (.float .f64 x) ∧ w' = w.drewN k := by
  go_enter Tryd.func10, Tryd.ntmps10
  go_wp2_with fail
  refine (from64_nan _).mono ?_
  rintro e w' ⟨⟨y, hy1, hy2, rfl⟩, rfl⟩
  have HY : Hid (nan64 y = true ∧ y < 18446744073709551616) := ⟨hy1, hy2⟩
  clear hy1 hy2
  go_wp2
  go_ret
  exact ⟨y, 1, HY.out.1, HY.out.2, rfl, rfl⟩

set_option maxHeartbeats 400000 in
theorem wide_bad (a : Int) (n : Nat) (w : World) (ha : IntKind.u64.wrap a = (n : Int)) (h : n < 18446744073709551616) (hn : nan64 n = true) (hb : n ≠ 9221120237041090560) :
    Calls Tryd.prog 10 #[.int .i64 a] w fun e w' => ∃ x k, nan64 x = true ∧ x < 18446744073709551616 ∧ e = .returned (.float .f64 x) ∧ w' = w.drewN k := by
  have HC : Hid (∀ w, Calls Tryd.prog 13 #[.int .u64 n] w fun e w' => e = .returned (.tuple #[.float .f64 0, .int .i64 10]) ∧ w' = w) := fun w => from64_bad n w h hn hb
  clear h hn hb
  go_enter Tryd.func10, Tryd.ntmps10
  go_wp2_with fail
  refine (HC.out _).mono ?_
  rintro e w' ⟨rfl, rfl⟩
  go_wp2_with fail
  refine (from64_nan _).mono ?_
  rintro e w' ⟨⟨y, hy1, hy2, rfl⟩, rfl⟩
  have HY : Hid (nan64 y = true ∧ y < 18446744073709551616) := ⟨hy1, hy2⟩
  clear hy1 hy2
  go_wp2
  go_ret
  exact ⟨y, 1, HY.out.1, HY.out.2, rfl, rfl⟩

/-- wide: the number of the bits, or one that is none. -/
theorem wide_any (a : Int) (n : Nat) (w : World) (ha : IntKind.u64.wrap a = (n : Int)) (h : n < 18446744073709551616) :
    Calls Tryd.prog 10 #[.int .i64 a] w fun e w' => ∃ x k, x < 18446744073709551616 ∧ (nan64 n = false → x = n) ∧ nan64 x = nan64 n ∧ e = .returned (.float .f64 x) ∧ w' = w.drewN k := by
  cases hn : nan64 n with
  | false => exact (wide_ok a n w ha h hn).mono fun e w' ⟨h1, h2⟩ => ⟨n, 0, h, fun _ => rfl, hn, h1, h2⟩
  | true =>
    by_cases hb : n = 9221120237041090560
    · subst hb
      exact (wide_nan a w ha).mono fun e w' ⟨x, k, h1, h2, h3, h4⟩ => ⟨x, k, h2, fun hh => absurd hh (by decide), h1, h3, h4⟩
    · exact (wide_bad a n w ha h hn hb).mono fun e w' ⟨x, k, h1, h2, h3, h4⟩ => ⟨x, k, h2, fun hh => absurd hh (by decide), h1, h3, h4⟩

set_option maxHeartbeats 400000 in
theorem slim_ok (a : Int) (n : Nat) (w : World) (ha : IntKind.u32.wrap a = (n : Int)) (h : n < 4294967296) (hn : nan32 n = false) :
    Calls Tryd.prog 11 #[.int .i64 a] w fun e w' => e = .returned (.float .f32 n) ∧ w' = w := by
  have HC : Hid (∀ w, Calls Tryd.prog 15 #[.int .u32 n] w fun e w' => e = .returned (.tuple #[.float .f32 n, .int .i64 0]) ∧ w' = w) := fun w => from32_ok n w h hn
  clear h hn
  rw [IntKind.wrap_u32'] at ha
  go_enter Tryd.func11, Tryd.ntmps11
  go_wp2_with fail
  refine (HC.out _).mono ?_
  rintro e w' ⟨rfl, rfl⟩
  go_wp2
  go_ret
  exact ⟨rfl, rfl⟩

set_option maxHeartbeats 400000 in
theorem slim_nan (a : Int) (w : World) (ha : IntKind.u32.wrap a = 2143289344) :
    Calls Tryd.prog 11 #[.int .i64 a] w fun e w' => ∃ x k, nan32 x = true ∧ x < 4294967296 ∧ e = .returned (.float .f32 x) ∧ w' = w.drewN k := by
  rw [IntKind.wrap_u32'] at ha
  go_enter Tryd.func11, Tryd.ntmps11
  go_wp2_with fail
  refine (from32_nan _).mono ?_
  rintro e w' ⟨y, hy1, hy2, rfl, k, rfl⟩
  have HY : Hid (nan32 y = true ∧ y < 4294967296) := ⟨hy1, hy2⟩
  clear hy1 hy2
  go_wp2
  go_ret
  exact ⟨y, k, HY.out.1, HY.out.2, rfl, rfl⟩

set_option maxHeartbeats 400000 in
theorem slim_bad (a : Int) (n : Nat) (w : World) (ha : IntKind.u32.wrap a = (n : Int)) (h : n < 4294967296) (hn : nan32 n = true) (hb : n ≠ 2143289344) :
    Calls Tryd.prog 11 #[.int .i64 a] w fun e w' => ∃ x k, nan32 x = true ∧ x < 4294967296 ∧ e = .returned (.float .f32 x) ∧ w' = w.drewN k := by
  have HC : Hid (∀ w, Calls Tryd.prog 15 #[.int .u32 n] w fun e w' => e = .returned (.tuple #[.float .f32 0, .int .i64 10]) ∧ w' = w) := fun w => from32_bad n w h hn hb
  clear h hn hb
  rw [IntKind.wrap_u32'] at ha
  go_enter Tryd.func11, Tryd.ntmps11
  go_wp2_with fail
  refine (HC.out _).mono ?_
  rintro e w' ⟨rfl, rfl⟩
  go_wp2_with fail
  refine (from32_nan _).mono ?_
  rintro e w' ⟨y, hy1, hy2, rfl, k, rfl⟩
  have HY : Hid (nan32 y = true ∧ y < 4294967296) := ⟨hy1, hy2⟩
  clear hy1 hy2
  go_wp2
  go_ret
  exact ⟨y, k, HY.out.1, HY.out.2, rfl, rfl⟩

/-- slim: the narrow number of the bits, or one that is none. -/
theorem slim_any (a : Int) (n : Nat) (w : World) (ha : IntKind.u32.wrap a = (n : Int)) (h : n < 4294967296) :
    Calls Tryd.prog 11 #[.int .i64 a] w fun e w' => ∃ x k, x < 4294967296 ∧ (nan32 n = false → x = n) ∧ nan32 x = nan32 n ∧ e = .returned (.float .f32 x) ∧ w' = w.drewN k := by
  cases hn : nan32 n with
  | false => exact (slim_ok a n w ha h hn).mono fun e w' ⟨h1, h2⟩ => ⟨n, 0, h, fun _ => rfl, hn, h1, h2⟩
  | true =>
    by_cases hb : n = 2143289344
    · subst hb
      exact (slim_nan a w ha).mono fun e w' ⟨x, k, h1, h2, h3, h4⟩ => ⟨x, k, h2, fun hh => absurd hh (by decide), h1, h3, h4⟩
    · exact (slim_bad a n w ha h hn hb).mono fun e w' ⟨x, k, h1, h2, h3, h4⟩ => ⟨x, k, h2, fun hh => absurd hh (by decide), h1, h3, h4⟩

end Go.Proofs.YthnnmgiihpdblaaDoor
