/- The statement's own parts: numbers of bits, sizes, sums. -/
import Derived.Test.YthnnmgiihpdblaaDoorXv
namespace Go.Proofs.YthnnmgiihpdblaaDoor
open Go.RowKit

theorem nanOf32 (x y : Nat) (w : World) : nan32 (nanOf .f32 x y w) = true ∧ nanOf .f32 x y w < 4294967296 := by
  unfold nanOf Question.cut nan32
  generalize w.tape w.drawn (.nanBits .f32 x y) = t
  have h1 : t % 2 < 2 := Nat.mod_lt _ (by omega)
  have e1 : (2 : Nat) ^ 23 - 1 = 8388607 := by decide
  have e2 : (2 : Nat) ^ 31 = 2147483648 := by decide
  simp only [e1, e2]
  have h2 : t / 2 % 8388607 < 8388607 := Nat.mod_lt _ (by omega)
  have e3 : (0x7f800000 : Nat) = 2139095040 := rfl
  rw [e3, decide_eq_true_eq]
  generalize t / 2 % 8388607 = u at *
  generalize t % 2 = v at *
  refine ⟨?_, by omega⟩
  rcases (by omega : v = 0 ∨ v = 1) with rfl | rfl
  · rw [Nat.zero_mul, Nat.zero_add, Nat.mod_eq_of_lt (by omega)]; omega
  · rw [Nat.one_mul, Nat.add_assoc, Nat.add_assoc, Nat.add_mod_left, Nat.mod_eq_of_lt (by omega)]; omega

theorem inv_zero32 : floatBits .quo .f32 0 0 = none := by kernel_rfl

/-- A number of such bits, or any NaN where they say one. -/
def AsBits64 (n : Nat) (w : World) (e : Ending) (w' : World) : Prop := ∃ x, e = .returned (.float .f64 x) ∧ x < 18446744073709551616 ∧ c64 x = c64 n ∧ ∃ k, w' = w.drewN k
def AsBits32 (n : Nat) (w : World) (e : Ending) (w' : World) : Prop := ∃ x, e = .returned (.float .f32 x) ∧ x < 4294967296 ∧ c32 x = c32 n ∧ ∃ k, w' = w.drewN k

set_option maxHeartbeats 1000000 in
theorem double_num (n : Nat) (w : World) (h : n < 18446744073709551616) (hg : nan64 n = false ∨ n = 9221120237041090560) : Calls Tryd.prog 75 #[.int .u64 n] w (AsBits64 n w) := by
  have H1 : Hid (∀ w, Calls Tryd.prog 12 #[.int .u64 n] w fun r w' => r = .returned (.tuple #[.float .f64 n, .int .i64 0]) ∧ w' = w) := fun w => rfrom64_ok n w h hg
  have HA : Hid (AsBits64 n w (.returned (.float .f64 n)) w) := ⟨n, rfl, h, rfl, 0, rfl⟩
  clear h hg
  go_enter Tryd.func75, Tryd.ntmps75
  go_wp2_with fail
  refine (H1.out _).mono ?_
  rintro e w0 ⟨rfl, hw0⟩
  have hw1 := hw0.symm
  clear hw0
  subst hw1
  go_wp2
  go_ret
  exact HA.out

set_option maxHeartbeats 1000000 in
theorem double_nan (n : Nat) (w : World) (h : n < 18446744073709551616) (hn : nan64 n = true) (hb : n ≠ 9221120237041090560) : Calls Tryd.prog 75 #[.int .u64 n] w (AsBits64 n w) := by
  have H1 : Hid (∀ w, Calls Tryd.prog 12 #[.int .u64 n] w fun r w' => r = .returned (.tuple #[.float .f64 0, .int .i64 10]) ∧ w' = w) := fun w => rfrom64_bad n w h hn hb
  have HA : Hid (∀ w1 : World, (∃ k, w1 = w.drewN k) → AsBits64 n w (.returned (.float .f64 (nanOf .f64 0 0 w1))) w1.drew) := fun w1 hk => by
    obtain ⟨k, rfl⟩ := hk
    exact ⟨_, rfl, (nanOf64 0 0 _).2, by unfold c64; rw [if_pos (nanOf64 0 0 _).1, if_pos hn], k + 1, rfl⟩
  have hd := fun w => run_float_invalid Tryd.prog w .quo (.inr (.inr (.inr rfl))) 23 .f64 0 0 inv_zero
  clear h hn hb
  go_enter Tryd.func75, Tryd.ntmps75
  go_wp2_with fail
  refine (H1.out _).mono ?_
  rintro e w0 ⟨rfl, hw0⟩
  have hw1 := hw0.symm
  clear hw0
  subst hw1
  go_wp2
  go_ret
  first | exact HA.out _ ⟨0, rfl⟩ | exact HA.out _ ⟨1, rfl⟩

set_option maxHeartbeats 1000000 in
theorem single_num (n : Nat) (w : World) (h : n < 4294967296) (hg : nan32 n = false ∨ n = 2143289344) : Calls Tryd.prog 72 #[.int .u32 n] w (AsBits32 n w) := by
  have H1 : Hid (∀ w, Calls Tryd.prog 14 #[.int .u32 n] w fun r w' => r = .returned (.tuple #[.float .f32 n, .int .i64 0]) ∧ w' = w) := fun w => rfrom32_ok n w h hg
  have HA : Hid (AsBits32 n w (.returned (.float .f32 n)) w) := ⟨n, rfl, h, rfl, 0, rfl⟩
  clear h hg
  go_enter Tryd.func72, Tryd.ntmps72
  go_wp2_with fail
  refine (H1.out _).mono ?_
  rintro e w0 ⟨rfl, hw0⟩
  have hw1 := hw0.symm
  clear hw0
  subst hw1
  go_wp2
  go_ret
  exact HA.out

set_option maxHeartbeats 1000000 in
theorem single_nan (n : Nat) (w : World) (h : n < 4294967296) (hn : nan32 n = true) (hb : n ≠ 2143289344) : Calls Tryd.prog 72 #[.int .u32 n] w (AsBits32 n w) := by
  have H1 : Hid (∀ w, Calls Tryd.prog 14 #[.int .u32 n] w fun r w' => r = .returned (.tuple #[.float .f32 0, .int .i64 10]) ∧ w' = w) := fun w => rfrom32_bad n w h hn hb
  have HA : Hid (∀ w1 : World, (∃ k, w1 = w.drewN k) → AsBits32 n w (.returned (.float .f32 (nanOf .f32 0 0 w1))) w1.drew) := fun w1 hk => by
    obtain ⟨k, rfl⟩ := hk
    exact ⟨_, rfl, (nanOf32 0 0 _).2, by unfold c32; rw [if_pos (nanOf32 0 0 _).1, if_pos hn], k + 1, rfl⟩
  have hd := fun w => run_float_invalid Tryd.prog w .quo (.inr (.inr (.inr rfl))) 25 .f32 0 0 inv_zero32
  clear h hn hb
  go_enter Tryd.func72, Tryd.ntmps72
  go_wp2_with fail
  refine (H1.out _).mono ?_
  rintro e w0 ⟨rfl, hw0⟩
  have hw1 := hw0.symm
  clear hw0
  subst hw1
  go_wp2
  go_ret
  first | exact HA.out _ ⟨0, rfl⟩ | exact HA.out _ ⟨1, rfl⟩

theorem double_any (n : Nat) (w : World) (h : n < 18446744073709551616) : Calls Tryd.prog 75 #[.int .u64 n] w (AsBits64 n w) := by
  cases hn : nan64 n with
  | false => exact double_num n w h (.inl hn)
  | true =>
    by_cases hb : n = 9221120237041090560
    · exact double_num n w h (.inr hb)
    · exact double_nan n w h hn hb
theorem single_any (n : Nat) (w : World) (h : n < 4294967296) : Calls Tryd.prog 72 #[.int .u32 n] w (AsBits32 n w) := by
  cases hn : nan32 n with
  | false => exact single_num n w h (.inl hn)
  | true =>
    by_cases hb : n = 2143289344
    · exact single_num n w h (.inr hb)
    · exact single_nan n w h hn hb

set_option maxHeartbeats 400000 in
theorem addsUp_fits (a b : Int) (w : World) (ha0 : 0 ≤ a) (hb0 : 0 ≤ b) (ha : a ≤ 2147483647) (hb : b ≤ 2147483647) : Calls Tryd.prog 54 #[.int .i64 a, .int .i64 b] w fun e w' => e = .returned (.int .i64 (a + b)) ∧ w' = w := by
  go_enter Tryd.func54, Tryd.ntmps54
  go_wp2
  go_ret
  exact ⟨rfl, rfl⟩
set_option maxHeartbeats 400000 in
theorem addsUp_over (a b : Int) (w : World) (h : 2147483647 < a ∨ 2147483647 < b) : Calls Tryd.prog 54 #[.int .i64 a, .int .i64 b] w fun e w' => e = .returned (.int .i64 2147483648) ∧ w' = w := by
  by_cases ha : 2147483647 < a
  · clear h
    go_enter Tryd.func54, Tryd.ntmps54
    go_wp2
    go_ret
    exact ⟨rfl, rfl⟩
  · have hb : 2147483647 < b := by omega
    clear h
    go_enter Tryd.func54, Tryd.ntmps54
    go_wp2
    go_ret
    exact ⟨rfl, rfl⟩

end Go.Proofs.YthnnmgiihpdblaaDoor
