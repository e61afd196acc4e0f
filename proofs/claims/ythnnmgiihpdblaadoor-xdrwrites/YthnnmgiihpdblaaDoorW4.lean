/- What the document's own answer for numbers of 64 bits computes, at the least numbers, at 0, at the infinite ones and at NaN; and so at every number. -/
import Derived.Test.YthnnmgiihpdblaaDoorW3
namespace Go.Proofs.YthnnmgiihpdblaaDoor
open Go.RowKit

/-- One of the least numbers, doubled j times. -/
def S (r j : Nat) : Nat := Ieee.double.nearest false r (-1074 + (j : Int))

theorem log51 (r : Nat) (h : r < 4503599627370496) : r.log2 ≤ 51 := by
  by_cases h0 : r = 0
  · subst h0; decide
  · have := (Nat.log2_lt h0).2 (Nat.lt_of_lt_of_eq h (by decide : 4503599627370496 = 2 ^ 52)); omega
theorem lt53 (r : Nat) (h : r < 4503599627370496) : r < 2 ^ (Ieee.double.fractionBits + 1) := by
  rw [Fl.fb64]; exact Nat.lt_of_lt_of_le h (by decide)

theorem S_rung (r j : Nat) (h0 : r ≠ 0) (h : r < 4503599627370496) (hj : j ≤ 1022) : S r j = Fl.rungOf Ieee.double r (-1074 + (j : Int)) ∧ S r j < 4607182418800017408 ∧ 0 < S r j := by
  have hl := log51 r h
  have h1 := lt53 r h
  have hp : Ieee.double.leastPlace ≤ -1074 + (j : Int) := by rw [Fl.lp64]; omega
  have h2 := Fl.rungOf_lt Ieee.double r (-1074 + (j : Int)) h0 h1 hp 1022 (by rw [Fl.fb64, Fl.lp64]; omega) (by omega)
  rw [Fl.bi64] at h2
  have e : S r j = Fl.rungOf Ieee.double r (-1074 + (j : Int)) := by
    unfold S
    rw [Fl.nearest_exact Ieee.double false r _ h0 h1 hp, Fl.word_false, Fl.inf64, Nat.min_eq_left (by omega)]
  refine ⟨e, by rw [e]; omega, ?_⟩
  rw [e]
  have e1 := (Fl.parts_rungOf Ieee.double r (-1074 + (j : Int)) h0 h1 hp).1
  rcases Nat.eq_zero_or_pos (Fl.rungOf Ieee.double r (-1074 + (j : Int))) with hz | hz
  · exfalso
    rw [(Fl.magOf_zero _ _).2 hz] at e1
    exact absurd e1.symm (Nat.mul_ne_zero h0 (by have := Nat.two_pow_pos ((-1074 + (j : Int)) - Fl.lastOf Ieee.double r (-1074 + (j : Int))).toNat; omega))
  · exact hz

theorem S_zero (r : Nat) (h : r < 4503599627370496) : S r 0 = r := by
  have e := Fl.nearest_parts Ieee.double false r (by rw [Fl.inf64]; omega)
  have e1 : Fl.magOf Ieee.double r = r := by unfold Fl.magOf; rw [if_pos (by rw [Fl.bi64]; exact h)]
  have e2 : Fl.placeOf Ieee.double r = -1074 := by unfold Fl.placeOf; rw [if_pos (by rw [Fl.bi64]; exact h), Fl.lp64]
  rw [e1, e2, Fl.word_false] at e
  exact e

theorem S_two (r j : Nat) (h0 : r ≠ 0) (h : r < 4503599627370496) (hj : j ≤ 1022) : FloatKind.f64.format.order (S r j) 4611686018427387904 = some .lt :=
  ordlt _ _ (by omega) (by have := (S_rung r j h0 h hj).2.1; omega)
theorem S_one (r j : Nat) (h0 : r ≠ 0) (h : r < 4503599627370496) (hj : j ≤ 1022) : FloatKind.f64.format.order (S r j) 4607182418800017408 = some .lt :=
  ordlt _ _ (by omega) (S_rung r j h0 h hj).2.1
theorem S_pos (r j : Nat) (h0 : r ≠ 0) (h : r < 4503599627370496) (hj : j ≤ 1022) : FloatKind.f64.format.order (S r j) 0 = some .gt :=
  ordgt _ _ (by have := (S_rung r j h0 h hj).2.1; omega) (S_rung r j h0 h hj).2.2
theorem S_dbl (r j : Nat) (h0 : r ≠ 0) (h : r < 4503599627370496) (hj : j ≤ 1022) : floatBits .mul .f64 (S r j) 4611686018427387904 = some (S r (j + 1)) := by
  have hr := (S_rung r j h0 h hj)
  have e := Fl.dbl Ieee.double 4611686018427387904 Fl.two64 false r (-1074 + (j : Int)) h0 (lt53 r h) (by rw [Fl.lp64]; omega) (by rw [← hr.1, Fl.inf64]; have := hr.2.1; omega)
  have e2 : -1074 + (j : Int) + 1 = -1074 + ((j + 1 : Nat) : Int) := by omega
  rw [e2] at e
  exact e
theorem S_top (r : Nat) (h0 : r ≠ 0) (h : r < 4503599627370496) : ∃ y, floatBits .mul .f64 (S r 1022) 4841369599423283200 = some y ∧ floatToIntVal .f64 y .u64 = some (r : Int) := by
  refine ⟨Ieee.double.nearest false r 0, ?_, Fl.toInt_nearest r (Nat.lt_of_lt_of_le h (by decide))⟩
  have hr := (S_rung r 1022 h0 h (by omega))
  have hp : Ieee.double.leastPlace ≤ -1074 + ((1022 : Nat) : Int) := by rw [Fl.lp64]; omega
  have hl := Fl.lastOf_le Ieee.double r (-1074 + ((1022 : Nat) : Int)) (lt53 r h) hp
  have e := Fl.read_nearest Ieee.double false r (-1074 + ((1022 : Nat) : Int)) h0 (lt53 r h) hp (by rw [← hr.1, Fl.inf64]; have := hr.2.1; omega)
  have e1 := Fl.mul_top _ _ _ _ e
  rw [Fl.nearest_shift Ieee.double false r _ _ h0] at e1
  have e2 : Fl.lastOf Ieee.double r (-1074 + ((1022 : Nat) : Int)) + 52 + (((-1074 + ((1022 : Nat) : Int) - Fl.lastOf Ieee.double r (-1074 + ((1022 : Nat) : Int))).toNat : Nat) : Int) = 0 := by omega
  rw [e2] at e1
  exact e1

theorem sub_join (neg : Bool) (r : Nat) (h : r < 4503599627370496) : bits .or .u64 (if neg then 9223372036854775808 else 0) (r : Int) = (Ieee.double.word neg r : Nat) := by
  cases neg
  · have e2 := or64 0 r 52 (by omega) (by decide) (by rw [show (2 : Nat) ^ 52 = 4503599627370496 from by decide]; omega) (by omega)
    simp only [Bool.false_eq_true, if_false]
    rw [Fl.word_false]
    rw [Nat.zero_add] at e2
    exact e2
  · have e2 := or64 9223372036854775808 r 52 (by omega) (by decide) (by rw [show (2 : Nat) ^ 52 = 4503599627370496 from by decide]; omega) (by omega)
    simp only [if_true]
    rw [Fl.word_true, Fl.sw64]
    exact e2

set_option maxHeartbeats 1000000 in
theorem bits64_sub (neg : Bool) (r : Nat) (w : World) (h0 : r ≠ 0) (h : r < 4503599627370496) :
    Calls Tryd.prog 16 #[.float .f64 (Ieee.double.word neg r)] w fun e w' => e = .returned (.int .u64 (Ieee.double.word neg r)) ∧ w' = w := by
  have hnan := nan_test neg r (by omega)
  have hlt : r < 9218868437227405312 := by omega
  have hle : r ≤ 9218868437227405312 := by omega
  go_enter Tryd.func16, Tryd.ntmps16
  go_wp2_with (first | (go_at_call 44; refine (half_any neg r _ hle).mono ?_; rintro e w' ⟨rfl, rfl⟩) | (go_at_call 45; refine (infinite_no r _ hlt).mono ?_; rintro e w' ⟨rfl, rfl⟩))
  all_goals
    go_loop [4, 6] (fun m e => m = .float .f64 (S r 0) ∧ e = .int .i64 0) (fun _ _ => 0)
    case atStart => exact ⟨fl_eq (S_zero r h).symm, rfl⟩
    case round =>
      obtain ⟨rfl, rfl⟩ := hrel
      have ho := S_two r 0 h0 h (by omega)
      go_wp2
      go_loop [4, 6] (fun m e => ∃ j : Nat, m = .float .f64 (S r j) ∧ e = .int .i64 (-(j : Int)) ∧ j ≤ 1022) (fun m e => (intOf e + 1023).toNat)
      case atStart => exact ⟨0, rfl, rfl, by omega⟩
      case round =>
        obtain ⟨j, rfl, rfl, hj⟩ := hrel
        clear ho
        have hp := S_pos r j h0 h hj
        have ho := S_one r j h0 h hj
        by_cases hc : j < 1022
        · have hd := ari .mul 23 .f64 _ _ _ (S_dbl r j h0 h hj)
          have hi2 : -1022 < -(j : Int) := by omega
          go_wp2
          go_round
          case rel => exact ⟨j + 1, rfl, by go_num, by omega⟩
          case measure => simp [intOf]; omega
        · obtain rfl : j = 1022 := by omega
          obtain ⟨y, hy1, hy2⟩ := S_top r h0 h
          have hw1 := ari .mul 23 .f64 _ _ _ hy1
          have hw2 := fun w => run_convert_float_int (P := Tryd.prog) w 23 30 .f64 .u64 y _ (by kernel_rfl) Tryd.underlying30 hy2
          clear hy1 hy2
          obtain ⟨N, HN⟩ : ∃ N : Int, Hid (N = (r : Int)) := ⟨_, rfl⟩
          have hN1 : N < 4503599627370496 := by have := HN.out; omega
          have hN2 : 0 ≤ N := by have := HN.out; omega
          rw [← HN.out] at hw2
          have hj := fun neg => sub_join neg r h
          rw [← HN.out] at hj
          have HJ : Hid (∀ neg : Bool, bits .or .u64 (if neg then 9223372036854775808 else 0) N = (Ieee.double.word neg r : Nat)) := hj
          clear hj h hlt hle hc h0
          go_wp2
          go_ret
          first | exact ⟨ret_int (HJ.out true), rfl⟩ | exact ⟨ret_int (HJ.out false), rfl⟩

theorem ord_lt0 : FloatKind.f64.format.order 0 4611686018427387904 = some .lt := ordlt _ _ (by omega) (by omega)
theorem mul_zero64 : floatBits .mul .f64 0 4841369599423283200 = some 0 := by decide
theorem int_zero64 : floatToIntVal .f64 0 .u64 = some 0 := by decide

set_option maxHeartbeats 1000000 in
theorem bits64_zero (neg : Bool) (w : World) :
    Calls Tryd.prog 16 #[.float .f64 (Ieee.double.word neg 0)] w fun e w' => e = .returned (.int .u64 (Ieee.double.word neg 0)) ∧ w' = w := by
  have hnan := nan_test neg 0 (by omega)
  have ho : FloatKind.f64.format.order 0 4611686018427387904 = some .lt := ord_lt0
  have ho2 : FloatKind.f64.format.order 0 0 = some .eq := Fl.ordZero Ieee.double false
  have hw1 := ari .mul 23 .f64 _ _ _ mul_zero64
  have hw2 := fun w => run_convert_float_int (P := Tryd.prog) w 23 30 .f64 .u64 0 _ (by kernel_rfl) Tryd.underlying30 int_zero64
  go_enter Tryd.func16, Tryd.ntmps16
  go_wp2_with (first | (go_at_call 44; refine (half_any neg 0 _ (by omega)).mono ?_; rintro e w' ⟨rfl, rfl⟩) | (go_at_call 45; refine (infinite_no 0 _ (by omega)).mono ?_; rintro e w' ⟨rfl, rfl⟩))
  all_goals
    go_loop [4, 6] (fun m e => m = .float .f64 0 ∧ e = .int .i64 0) (fun _ _ => 0)
    case atStart => exact ⟨rfl, rfl⟩
    case round =>
      obtain ⟨rfl, rfl⟩ := hrel
      go_wp2
      go_loop [4, 6] (fun m e => m = .float .f64 0 ∧ e = .int .i64 0) (fun _ _ => 0)
      case atStart => exact ⟨rfl, rfl⟩
      case round =>
        obtain ⟨rfl, rfl⟩ := hrel
        go_wp2
        go_ret
        first | exact ⟨ret_int (sub_join true 0 (by omega)), rfl⟩ | exact ⟨ret_int (sub_join false 0 (by omega)), rfl⟩

theorem join_inf (neg : Bool) : bits .or .u64 (if neg then 9223372036854775808 else 0) 9218868437227405312 = (Ieee.double.word neg 9218868437227405312 : Nat) := by
  cases neg <;> decide

set_option maxHeartbeats 1000000 in
theorem bits64_inf (neg : Bool) (w : World) :
    Calls Tryd.prog 16 #[.float .f64 (Ieee.double.word neg 9218868437227405312)] w fun e w' => e = .returned (.int .u64 (Ieee.double.word neg 9218868437227405312)) ∧ w' = w := by
  have hnan := nan_test neg 9218868437227405312 (by omega)
  cases neg
  · go_enter Tryd.func16, Tryd.ntmps16
    go_wp2_with (first | (go_at_call 44; refine (half_any false 9218868437227405312 _ (by omega)).mono ?_; rintro e w' ⟨rfl, rfl⟩) | (go_at_call 45; refine (infinite_yes _).mono ?_; rintro e w' ⟨rfl, rfl⟩))
    go_ret
    exact ⟨ret_int (join_inf false), rfl⟩
  · go_enter Tryd.func16, Tryd.ntmps16
    go_wp2_with (first | (go_at_call 44; refine (half_any true 9218868437227405312 _ (by omega)).mono ?_; rintro e w' ⟨rfl, rfl⟩) | (go_at_call 45; refine (infinite_yes _).mono ?_; rintro e w' ⟨rfl, rfl⟩))
    go_ret
    exact ⟨ret_int (join_inf true), rfl⟩

/-- Is a number of these bits none? -/
def nan64 (x : Nat) : Bool := decide (9218868437227405312 < x % 9223372036854775808)
/-- The bits that are told. -/
def c64 (x : Nat) : Nat := if nan64 x then 9221120237041090560 else x

theorem nan64_order (x : Nat) (h : x < 18446744073709551616) : (FloatKind.f64.format.order x x != some .eq) = nan64 x := by
  obtain ⟨neg, r, hr, rfl⟩ := Fl.word_of Ieee.double x (Nat.lt_of_lt_of_eq h (by decide))
  show (Ieee.double.order _ _ != some .eq) = _
  rw [Fl.order_self Ieee.double neg r hr Fl.bi_le64, Fl.inf64]
  rw [Fl.sw64] at hr
  unfold nan64
  cases neg
  · rw [Fl.word_false, Nat.mod_eq_of_lt hr]
  · rw [Fl.word_true, Fl.sw64, Nat.add_mod_left, Nat.mod_eq_of_lt hr]

set_option maxHeartbeats 400000 in
theorem bits64_nan (x : Nat) (w : World) (h : (FloatKind.f64.format.order x x != some .eq) = true) :
    Calls Tryd.prog 16 #[.float .f64 x] w fun e w' => e = .returned (.int .u64 9221120237041090560) ∧ w' = w := by
  go_enter Tryd.func16, Tryd.ntmps16
  go_wp2
  go_ret
  exact ⟨rfl, rfl⟩

theorem bits64_any (x : Nat) (w : World) (h : x < 18446744073709551616) :
    Calls Tryd.prog 16 #[.float .f64 x] w fun e w' => e = .returned (.int .u64 (c64 x)) ∧ w' = w := by
  have hn := nan64_order x h
  unfold c64
  cases hx : nan64 x with
  | true => rw [hx] at hn; simpa using bits64_nan x w hn
  | false =>
    clear hn
    obtain ⟨neg, r, hr, rfl⟩ := Fl.word_of Ieee.double x (Nat.lt_of_lt_of_eq h (by decide))
    have hle : r ≤ 9218868437227405312 := by
      rw [Fl.sw64] at hr
      unfold nan64 at hx
      cases neg
      · rw [Fl.word_false, Nat.mod_eq_of_lt hr] at hx; simpa using hx
      · rw [Fl.word_true, Fl.sw64, Nat.add_mod_left, Nat.mod_eq_of_lt hr] at hx; simpa using hx
    simp only [Bool.false_eq_true, if_false]
    by_cases h1 : r = 9218868437227405312
    · subst h1; exact bits64_inf neg w
    · by_cases h2 : r = 0
      · subst h2; exact bits64_zero neg w
      · by_cases h3 : r < 4503599627370496
        · exact bits64_sub neg r w h2 h3
        · have e : r = R (r / 4503599627370496) (r % 4503599627370496) := by unfold R; omega
          rw [e]
          exact bits64_normal neg _ _ w (by omega) (by omega) (by omega)

end Go.Proofs.YthnnmgiihpdblaaDoor
