/- The package's own calls on bits, and the statement's helpers. -/
import Derived.Test.YthnnmgiihpdblaaDoorW9
namespace Go.Proofs.YthnnmgiihpdblaaDoor
open Go.RowKit
attribute [local go_sem] unary_negf

theorem x35 (n : Int) (w : World) : (callFunc 42 #[.int .u64 n]).run Tryd.prog w = .ok (.value (.float .f64 n.toNat)) w := by kernel_rfl
theorem x36 (n : Int) (w : World) : (callFunc 43 #[.int .u32 n]).run Tryd.prog w = .ok (.value (.float .f32 n.toNat)) w := by kernel_rfl
theorem x40 (x : Nat) (w : World) : (callFunc 47 #[.float .f64 x]).run Tryd.prog w = .ok (.value (.int .u64 x)) w := by kernel_rfl
theorem x41 (x : Nat) (w : World) : (callFunc 48 #[.float .f32 x]).run Tryd.prog w = .ok (.value (.int .u32 x)) w := by kernel_rfl
attribute [local go_sem] x35 x36 x40 x41

theorem nan32_order (x : Nat) (h : x < 4294967296) : (FloatKind.f32.format.order x x != some .eq) = nan32 x := by
  obtain ⟨neg, r, hr, rfl, hx⟩ := split32 x h
  show (Ieee.single.order _ _ != some .eq) = _
  rw [Fl.order_self Ieee.single neg r (by rw [Fl.sw32]; exact hr) Fl.bi_le32, Fl.inf32, hx]

set_option maxHeartbeats 400000 in
theorem rbits64_nan (x : Nat) (w : World) (h : (FloatKind.f64.format.order x x != some .eq) = true) :
    Calls Tryd.prog 18 #[.float .f64 x] w fun e w' => e = .returned (.int .u64 9221120237041090560) ∧ w' = w := by
  go_enter Tryd.func18, Tryd.ntmps18
  go_wp2
  go_ret
  exact ⟨rfl, rfl⟩
set_option maxHeartbeats 400000 in
theorem rbits64_num (x : Nat) (w : World) (h : (FloatKind.f64.format.order x x != some .eq) = false) :
    Calls Tryd.prog 18 #[.float .f64 x] w fun e w' => e = .returned (.int .u64 x) ∧ w' = w := by
  go_enter Tryd.func18, Tryd.ntmps18
  go_wp2
  go_ret
  exact ⟨rfl, rfl⟩
theorem rbits64 (x : Nat) (w : World) (h : x < 18446744073709551616) :
    Calls Tryd.prog 18 #[.float .f64 x] w fun e w' => e = .returned (.int .u64 (c64 x)) ∧ w' = w := by
  have hn := nan64_order x h
  cases hx : nan64 x with
  | true => rw [hx] at hn; rw [c64_nan x hx]; exact rbits64_nan x w hn
  | false => rw [hx] at hn; rw [c64_num x hx]; exact rbits64_num x w hn

set_option maxHeartbeats 400000 in
theorem rbits32_nan (x : Nat) (w : World) (h : (FloatKind.f32.format.order x x != some .eq) = true) :
    Calls Tryd.prog 19 #[.float .f32 x] w fun e w' => e = .returned (.int .u32 2143289344) ∧ w' = w := by
  go_enter Tryd.func19, Tryd.ntmps19
  go_wp2
  go_ret
  exact ⟨rfl, rfl⟩
set_option maxHeartbeats 400000 in
theorem rbits32_num (x : Nat) (w : World) (h : (FloatKind.f32.format.order x x != some .eq) = false) :
    Calls Tryd.prog 19 #[.float .f32 x] w fun e w' => e = .returned (.int .u32 x) ∧ w' = w := by
  go_enter Tryd.func19, Tryd.ntmps19
  go_wp2
  go_ret
  exact ⟨rfl, rfl⟩
theorem c32_nan (x : Nat) (h : nan32 x = true) : c32 x = 2143289344 := by unfold c32; rw [h]; rfl
theorem c32_num (x : Nat) (h : nan32 x = false) : c32 x = x := by unfold c32; rw [h]; rfl
theorem rbits32 (x : Nat) (w : World) (h : x < 4294967296) :
    Calls Tryd.prog 19 #[.float .f32 x] w fun e w' => e = .returned (.int .u32 (c32 x)) ∧ w' = w := by
  have hn := nan32_order x h
  cases hx : nan32 x with
  | true => rw [hx] at hn; rw [c32_nan x hx]; exact rbits32_nan x w hn
  | false => rw [hx] at hn; rw [c32_num x hx]; exact rbits32_num x w hn

theorem andNot64 (n : Nat) (h : n < 18446744073709551616) : bits .andNot .u64 (n : Int) 9223372036854775808 = ((n % 9223372036854775808 : Nat) : Int) := by
  have e := u64_andNot_nat n 9223372036854775808 h (by omega)
  have e2 : n &&& (18446744073709551615 - 9223372036854775808) = n % 9223372036854775808 := Nat.and_two_pow_sub_one_eq_mod n 63
  rw [e2] at e
  exact e
theorem andNot32 (n : Nat) (h : n < 4294967296) : bits .andNot .u32 (n : Int) 2147483648 = ((n % 2147483648 : Nat) : Int) := by
  have e := u32_andNot_nat n 2147483648 h (by omega)
  have e2 : n &&& (4294967295 - 2147483648) = n % 2147483648 := Nat.and_two_pow_sub_one_eq_mod n 31
  rw [e2] at e
  exact e

set_option maxHeartbeats 400000 in
theorem rfrom64_core (b c : Int) (w : World) (hc : bits .andNot .u64 b 9223372036854775808 = c) (h : c ≤ 9218868437227405312 ∨ (b != 9221120237041090560) = false) :
    Calls Tryd.prog 12 #[.int .u64 b] w fun e w' => e = .returned (.tuple #[.float .f64 b.toNat, .int .i64 0]) ∧ w' = w := by
  rcases h with h | h
  · go_enter Tryd.func12, Tryd.ntmps12
    go_wp2
    go_ret2
    exact ⟨rfl, rfl⟩
  · by_cases h2 : 9218868437227405312 < c
    · go_enter Tryd.func12, Tryd.ntmps12
      go_wp2
      go_ret2
      exact ⟨rfl, rfl⟩
    · have h3 : c ≤ 9218868437227405312 := by omega
      go_enter Tryd.func12, Tryd.ntmps12
      go_wp2
      go_ret2
      exact ⟨rfl, rfl⟩
set_option maxHeartbeats 400000 in
theorem rfrom64_bad_core (b c : Int) (w : World) (hc : bits .andNot .u64 b 9223372036854775808 = c) (h : 9218868437227405312 < c) (h2 : (b != 9221120237041090560) = true) :
    Calls Tryd.prog 12 #[.int .u64 b] w fun e w' => e = .returned (.tuple #[.float .f64 0, .int .i64 10]) ∧ w' = w := by
  go_enter Tryd.func12, Tryd.ntmps12
  go_wp2
  go_ret2
  exact ⟨rfl, rfl⟩
set_option maxHeartbeats 400000 in
theorem rfrom32_core (b c : Int) (w : World) (hc : bits .andNot .u32 b 2147483648 = c) (h : c ≤ 2139095040 ∨ (b != 2143289344) = false) :
    Calls Tryd.prog 14 #[.int .u32 b] w fun e w' => e = .returned (.tuple #[.float .f32 b.toNat, .int .i64 0]) ∧ w' = w := by
  rcases h with h | h
  · go_enter Tryd.func14, Tryd.ntmps14
    go_wp2
    go_ret2
    exact ⟨rfl, rfl⟩
  · by_cases h2 : 2139095040 < c
    · go_enter Tryd.func14, Tryd.ntmps14
      go_wp2
      go_ret2
      exact ⟨rfl, rfl⟩
    · have h3 : c ≤ 2139095040 := by omega
      go_enter Tryd.func14, Tryd.ntmps14
      go_wp2
      go_ret2
      exact ⟨rfl, rfl⟩
set_option maxHeartbeats 400000 in
theorem rfrom32_bad_core (b c : Int) (w : World) (hc : bits .andNot .u32 b 2147483648 = c) (h : 2139095040 < c) (h2 : (b != 2143289344) = true) :
    Calls Tryd.prog 14 #[.int .u32 b] w fun e w' => e = .returned (.tuple #[.float .f32 0, .int .i64 10]) ∧ w' = w := by
  go_enter Tryd.func14, Tryd.ntmps14
  go_wp2
  go_ret2
  exact ⟨rfl, rfl⟩

/-- From64: the number of these bits. -/
theorem rfrom64_ok (n : Nat) (w : World) (h : n < 18446744073709551616) (hn : nan64 n = false ∨ n = 9221120237041090560) :
    Calls Tryd.prog 12 #[.int .u64 n] w fun e w' => e = .returned (.tuple #[.float .f64 n, .int .i64 0]) ∧ w' = w := by
  refine rfrom64_core n _ w (andNot64 n h) ?_
  rcases hn with hn | hn
  · left
    unfold nan64 at hn
    rw [decide_eq_false_iff_not] at hn
    omega
  · right; subst hn; decide
theorem rfrom64_bad (n : Nat) (w : World) (h : n < 18446744073709551616) (hn : nan64 n = true) (hb : n ≠ 9221120237041090560) :
    Calls Tryd.prog 12 #[.int .u64 n] w fun e w' => e = .returned (.tuple #[.float .f64 0, .int .i64 10]) ∧ w' = w := by
  refine rfrom64_bad_core n _ w (andNot64 n h) ?_ ?_
  · unfold nan64 at hn
    rw [decide_eq_true_eq] at hn
    omega
  · rw [bne_iff_ne]; intro e; exact hb (Int.natCast_inj.1 e)
theorem rfrom32_ok (n : Nat) (w : World) (h : n < 4294967296) (hn : nan32 n = false ∨ n = 2143289344) :
    Calls Tryd.prog 14 #[.int .u32 n] w fun e w' => e = .returned (.tuple #[.float .f32 n, .int .i64 0]) ∧ w' = w := by
  refine rfrom32_core n _ w (andNot32 n h) ?_
  rcases hn with hn | hn
  · left
    unfold nan32 at hn
    rw [decide_eq_false_iff_not] at hn
    omega
  · right; subst hn; decide
theorem rfrom32_bad (n : Nat) (w : World) (h : n < 4294967296) (hn : nan32 n = true) (hb : n ≠ 2143289344) :
    Calls Tryd.prog 14 #[.int .u32 n] w fun e w' => e = .returned (.tuple #[.float .f32 0, .int .i64 10]) ∧ w' = w := by
  refine rfrom32_bad_core n _ w (andNot32 n h) ?_ ?_
  · unfold nan32 at hn
    rw [decide_eq_true_eq] at hn
    omega
  · rw [bne_iff_ne]; intro e; exact hb (Int.natCast_inj.1 e)

set_option maxHeartbeats 400000 in
theorem rsame64 (x y : Nat) (w : World) (hx : x < 18446744073709551616) (hy : y < 18446744073709551616) :
    Calls Tryd.prog 20 #[.float .f64 x, .float .f64 y] w fun e w' => e = .returned (.bool ((c64 x : Int) == (c64 y : Int))) ∧ w' = w := by
  have HX : Hid (x < 18446744073709551616) := hx
  have HY : Hid (y < 18446744073709551616) := hy
  clear hx hy
  go_enter Tryd.func20, Tryd.ntmps20
  go_wp2_with fail
  refine (rbits64 x _ HX.out).mono ?_
  rintro e w' ⟨rfl, rfl⟩
  go_wp2_with fail
  refine (rbits64 y _ HY.out).mono ?_
  rintro e w' ⟨rfl, rfl⟩
  go_wp2
  go_ret
  exact ⟨rfl, rfl⟩
set_option maxHeartbeats 400000 in
theorem rsame32 (x y : Nat) (w : World) (hx : x < 4294967296) (hy : y < 4294967296) :
    Calls Tryd.prog 22 #[.float .f32 x, .float .f32 y] w fun e w' => e = .returned (.bool ((c32 x : Int) == (c32 y : Int))) ∧ w' = w := by
  have HX : Hid (x < 4294967296) := hx
  have HY : Hid (y < 4294967296) := hy
  clear hx hy
  go_enter Tryd.func22, Tryd.ntmps22
  go_wp2_with fail
  refine (rbits32 x _ HX.out).mono ?_
  rintro e w' ⟨rfl, rfl⟩
  go_wp2_with fail
  refine (rbits32 y _ HY.out).mono ?_
  rintro e w' ⟨rfl, rfl⟩
  go_wp2
  go_ret
  exact ⟨rfl, rfl⟩
set_option maxHeartbeats 400000 in
theorem dsame64 (x y : Nat) (w : World) (hx : x < 18446744073709551616) (hy : y < 18446744073709551616) :
    Calls Tryd.prog 21 #[.float .f64 x, .float .f64 y] w fun e w' => e = .returned (.bool ((c64 x : Int) == (c64 y : Int))) ∧ w' = w := by
  have HX : Hid (x < 18446744073709551616) := hx
  have HY : Hid (y < 18446744073709551616) := hy
  clear hx hy
  go_enter Tryd.func21, Tryd.ntmps21
  go_wp2_with fail
  refine (bits64_any x _ HX.out).mono ?_
  rintro e w' ⟨rfl, rfl⟩
  go_wp2_with fail
  refine (bits64_any y _ HY.out).mono ?_
  rintro e w' ⟨rfl, rfl⟩
  go_wp2
  go_ret
  exact ⟨rfl, rfl⟩
set_option maxHeartbeats 400000 in
theorem dsame32 (x y : Nat) (w : World) (hx : x < 4294967296) (hy : y < 4294967296) :
    Calls Tryd.prog 23 #[.float .f32 x, .float .f32 y] w fun e w' => e = .returned (.bool ((c32 x : Int) == (c32 y : Int))) ∧ ∃ k, w' = w.drewN k := by
  have HX : Hid (x < 4294967296) := hx
  have HY : Hid (y < 4294967296) := hy
  clear hx hy
  go_enter Tryd.func23, Tryd.ntmps23
  go_wp2_with fail
  refine (bits32_any x _ HX.out).mono ?_
  rintro e w' ⟨rfl, k, rfl⟩
  go_wp2_with fail
  refine (bits32_any y _ HY.out).mono ?_
  rintro e w' ⟨rfl, k2, rfl⟩
  go_wp2
  go_ret
  exact ⟨rfl, k + k2, rfl⟩

end Go.Proofs.YthnnmgiihpdblaaDoor
