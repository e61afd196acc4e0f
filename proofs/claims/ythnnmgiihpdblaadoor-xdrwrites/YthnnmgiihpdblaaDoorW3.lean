/- What the document's own answer for numbers of 64 bits computes: the bits of a number, told by halving and doubling it. -/
import Derived.Test.YthnnmgiihpdblaaDoorW2
import Derived.Laws.BitsAllLaws
namespace Go.Proofs.YthnnmgiihpdblaaDoor
open Go.RowKit

theorem fl_eq {k : FloatKind} {a b : Nat} (h : a = b) : Value.float k a = .float k b := by rw [h]

/-- The rung of an exponent and a fraction. -/
def R (E F : Nat) : Nat := E * 4503599627370496 + F
theorem R_lt (E F : Nat) (hE : E ≤ 2046) (hF : F < 4503599627370496) : R E F < 9218868437227405312 := by unfold R; omega
theorem R_div (E F : Nat) (hF : F < 4503599627370496) : R E F / 4503599627370496 = E := by unfold R; omega
theorem R_mod (E F : Nat) (hF : F < 4503599627370496) : R E F % 4503599627370496 = F := by unfold R; omega
theorem R_ge (E F : Nat) (hE : 1 ≤ E) : 4503599627370496 ≤ R E F := by
  unfold R
  have h := Nat.mul_le_mul_right 4503599627370496 hE
  rw [Nat.one_mul] at h
  exact Nat.le_trans h (Nat.le_add_right _ _)
theorem R_succ (E F : Nat) : R (E + 1) F = R E F + 4503599627370496 := by unfold R; rw [Nat.succ_mul]; omega

theorem ordR (r s : Nat) (h : r < 9218868437227405312) (h' : s < 9218868437227405312) : FloatKind.f64.format.order r s = some (compare r s) :=
  Fl.ordPos Ieee.double r s (by rw [Fl.inf64]; omega) (by rw [Fl.inf64]; omega) Fl.bi_le64
theorem ordge (r s : Nat) (h : r < 9218868437227405312) (h' : s < 9218868437227405312) (hge : s ≤ r) : FloatKind.f64.format.order r s = some .gt ∨ FloatKind.f64.format.order r s = some .eq := by
  rw [ordR r s h h']
  by_cases hh : s < r
  · rw [Nat.compare_eq_gt.2 hh]; exact .inl rfl
  · have : r = s := by omega
    subst this; right; simp
theorem ordlt (r s : Nat) (h' : s < 9218868437227405312) (hlt : r < s) : FloatKind.f64.format.order r s = some .lt := by
  rw [ordR r s (by omega) h', Nat.compare_eq_lt.2 hlt]
theorem ordgt (r s : Nat) (h : r < 9218868437227405312) (hlt : s < r) : FloatKind.f64.format.order r s = some .gt := by
  rw [ordR r s h (by omega), Nat.compare_eq_gt.2 hlt]

theorem R_two_ge (E F : Nat) (hE : E ≤ 2046) (hF : F < 4503599627370496) (h : 1024 ≤ E) : FloatKind.f64.format.order (R E F) 4611686018427387904 = some .gt ∨ FloatKind.f64.format.order (R E F) 4611686018427387904 = some .eq :=
  ordge _ _ (R_lt E F hE hF) (by omega) (by unfold R; omega)
theorem R_two_lt (E F : Nat) (hF : F < 4503599627370496) (h : E < 1024) : FloatKind.f64.format.order (R E F) 4611686018427387904 = some .lt :=
  ordlt _ _ (by omega) (by unfold R; omega)
theorem R_one_ge (E F : Nat) (hE : E ≤ 2046) (hF : F < 4503599627370496) (h : 1023 ≤ E) : FloatKind.f64.format.order (R E F) 4607182418800017408 = some .gt ∨ FloatKind.f64.format.order (R E F) 4607182418800017408 = some .eq :=
  ordge _ _ (R_lt E F hE hF) (by omega) (by unfold R; omega)
theorem R_one_lt (E F : Nat) (hF : F < 4503599627370496) (h : E < 1023) : FloatKind.f64.format.order (R E F) 4607182418800017408 = some .lt :=
  ordlt _ _ (by omega) (by unfold R; omega)
theorem R_pos (E F : Nat) (hE : E ≤ 2046) (hF : F < 4503599627370496) (h : 1 ≤ E) : FloatKind.f64.format.order (R E F) 0 = some .gt :=
  ordgt _ _ (R_lt E F hE hF) (by have := R_ge E F h; omega)

theorem R_hlv (E F : Nat) (hE : E + 1 ≤ 2046) (hF : F < 4503599627370496) (h : 1 ≤ E) : floatBits .quo .f64 (R (E + 1) F) 4611686018427387904 = some (R E F) := by
  have h1 := R_lt (E + 1) F hE hF
  have h2 := R_ge E F h
  have h3 := R_succ E F
  have h := Fl.hlvR Ieee.double 4611686018427387904 Fl.two64 false (R (E + 1) F) (by rw [Fl.bi64]; omega) (by rw [Fl.inf64]; omega)
  rw [Fl.word_false, Fl.word_false, Fl.bi64, h3, Nat.add_sub_cancel] at h
  rw [h3]
  exact h
theorem R_dbl (E F : Nat) (hE : E + 1 ≤ 2046) (hF : F < 4503599627370496) (h : 1 ≤ E) : floatBits .mul .f64 (R E F) 4611686018427387904 = some (R (E + 1) F) := by
  have h1 := R_lt (E + 1) F hE hF
  have h2 := R_ge E F h
  have h3 := R_succ E F
  have h := Fl.dblR Ieee.double 4611686018427387904 Fl.two64 false (R E F) (by rw [Fl.bi64]; omega) (by rw [Fl.inf64, Fl.bi64]; omega)
  rw [Fl.word_false, Fl.word_false, Fl.bi64] at h
  rw [h3]
  exact h

/-- The last step: a number from 1 on and below 2, times 2 to the power of 52, as a whole number. -/
theorem whole64 (F : Nat) (hF : F < 4503599627370496) : floatBits .mul .f64 (R 1023 F) 4841369599423283200 = some (R 1075 F) ∧ floatToIntVal .f64 (R 1075 F) .u64 = some ((4503599627370496 + F : Nat) : Int) := by
  have e3 : (-1074 : Int) + ((1023 - 1 : Nat) : Int) + 52 = 0 := by omega
  have e4 : ((0 : Int) - -1074).toNat = 1074 := by decide
  have e5 : 1074 * 4503599627370496 + (4503599627370496 + F) = R 1075 F := by unfold R; omega
  have e6 : 4503599627370496 + F < 2 ^ 53 := Nat.lt_of_lt_of_eq (m := 9007199254740992) (by omega) (by decide)
  have hr := Fl.read_number Ieee.double false (R 1023 F) (by rw [Fl.inf64]; exact R_lt 1023 F (by omega) hF)
  have hge := R_ge 1023 F (by omega)
  rw [Fl.magOf_full _ _ (by rw [Fl.bi64]; exact hge), Fl.placeOf_full _ _ (by rw [Fl.bi64]; exact hge), Fl.bi64, Fl.lp64, R_div _ _ hF, R_mod _ _ hF, Fl.word_false] at hr
  have hm := Fl.mul_top _ _ _ _ hr
  have hle : R 1075 F ≤ 9218868437227405312 := Nat.le_of_lt (R_lt 1075 F (by omega) hF)
  have hn := Fl.nearest_full Ieee.double false F 0 (by rw [Fl.bi64]; exact hF) (by rw [Fl.lp64]; omega) (by rw [Fl.lp64, Fl.bi64, Fl.inf64, e4, e5]; exact hle)
  rw [Fl.word_false, Fl.lp64, Fl.bi64, e4, e5] at hn
  rw [e3, hn] at hm
  refine ⟨hm, ?_⟩
  have ht := Fl.toInt_nearest (4503599627370496 + F) e6
  rw [hn] at ht
  exact ht

theorem ret_int {k : IntKind} {a b : Int} (h : a = b) : Ending.returned (.int k a) = .returned (.int k b) := by rw [h]

theorem or64 (x y i : Nat) (hx : x < 18446744073709551616) (hm : x % 2 ^ i = 0) (hy : y < 2 ^ i) (hy' : y < 18446744073709551616) : bits .or .u64 (x : Int) (y : Int) = ((x + y : Nat) : Int) := by
  rw [u64_or_nat x y hx hy', nat_join i x y hm hy]

theorem join_neg (E F : Nat) (hE : E ≤ 2047) (hF : F < 4503599627370496) : bits .or .u64 (bits .or .u64 9223372036854775808 ((E : Int) * 4503599627370496)) (F : Int) = (Ieee.double.word true (R E F) : Nat) := by
  have e1 := or64 9223372036854775808 (E * 4503599627370496) 63 (by omega) (by decide) (Nat.lt_of_lt_of_eq (m := 9223372036854775808) (by omega) (by decide)) (by omega)
  have e2 := or64 (9223372036854775808 + E * 4503599627370496) F 52 (by omega) (by rw [show (2 : Nat) ^ 52 = 4503599627370496 from by decide]; omega) (by rw [show (2 : Nat) ^ 52 = 4503599627370496 from by decide]; omega) (by omega)
  rw [Int.natCast_mul] at e1
  have e3 : ((9223372036854775808 : Nat) : Int) = 9223372036854775808 := rfl
  have e4 : ((4503599627370496 : Nat) : Int) = 4503599627370496 := rfl
  rw [e3, e4] at e1
  rw [e1, e2, Fl.word_true, Fl.sw64, Nat.add_assoc]
  rfl

theorem join_pos (E F : Nat) (hE : E ≤ 2047) (hF : F < 4503599627370496) : bits .or .u64 (bits .or .u64 0 ((E : Int) * 4503599627370496)) (F : Int) = (Ieee.double.word false (R E F) : Nat) := by
  have e1 := or64 0 (E * 4503599627370496) 63 (by omega) (by decide) (Nat.lt_of_lt_of_eq (m := 9223372036854775808) (by omega) (by decide)) (by omega)
  have e2 := or64 (0 + E * 4503599627370496) F 52 (by omega) (by rw [show (2 : Nat) ^ 52 = 4503599627370496 from by decide]; omega) (by rw [show (2 : Nat) ^ 52 = 4503599627370496 from by decide]; omega) (by omega)
  rw [Int.natCast_mul] at e1
  have e4 : ((4503599627370496 : Nat) : Int) = 4503599627370496 := rfl
  rw [e4] at e1
  have e5 : ((0 : Nat) : Int) = 0 := rfl
  rw [e5] at e1
  rw [e1, e2, Fl.word_false, Nat.zero_add]
  rfl

theorem nan_test (neg : Bool) (r : Nat) (h : r ≤ 9218868437227405312) : (FloatKind.f64.format.order (Ieee.double.word neg r) (Ieee.double.word neg r) != some .eq) = false := by
  show (Ieee.double.order _ _ != some .eq) = false
  rw [Fl.order_self Ieee.double neg r (by rw [Fl.sw64]; omega) Fl.bi_le64, Fl.inf64]
  simp; omega

set_option maxHeartbeats 1000000 in
theorem bits64_normal (neg : Bool) (E F : Nat) (w : World) (h1 : 1 ≤ E) (hE : E ≤ 2046) (hF : F < 4503599627370496) :
    Calls Tryd.prog 16 #[.float .f64 (Ieee.double.word neg (R E F))] w fun e w' => e = .returned (.int .u64 (Ieee.double.word neg (R E F))) ∧ w' = w := by
  have hlt := R_lt E F hE hF
  have hnan := nan_test neg (R E F) (by omega)
  have hle : R E F ≤ 9218868437227405312 := by omega
  go_enter Tryd.func16, Tryd.ntmps16
  go_wp2_with (first | (go_at_call 44; refine (half_any neg (R E F) _ hle).mono ?_; rintro e w' ⟨rfl, rfl⟩) | (go_at_call 45; refine (infinite_no (R E F) _ hlt).mono ?_; rintro e w' ⟨rfl, rfl⟩))
  all_goals
    go_loop [4, 6] (fun m e => ∃ k j : Nat, m = .float .f64 (R j F) ∧ e = .int .i64 k ∧ k + j = E ∧ (k = 0 ∨ 1023 ≤ j)) (fun _ e => 3000 - (intOf e).toNat)
    case atStart => exact ⟨0, E, rfl, rfl, by omega, .inl rfl⟩
    case round =>
      obtain ⟨k, j, rfl, rfl, hkj, hk2⟩ := hrel
      have HK : Hid (k + j = E) := hkj
      have hkE : k ≤ 2046 := by omega
      have hjE : j ≤ 2046 := by omega
      clear hkj
      by_cases hge : 1024 ≤ j
      · obtain ⟨j', rfl⟩ : ∃ j', j = j' + 1 := ⟨j - 1, by omega⟩
        have hd := ari .quo 23 .f64 _ _ _ (R_hlv j' F (by omega) hF (by omega))
        rcases R_two_ge (j' + 1) F (by omega) hF hge with ho | ho
        · go_wp2
          go_round
          case rel => exact ⟨k + 1, j', rfl, by go_num, by have := HK.out; omega, .inr (by omega)⟩
          case measure => simp [intOf]; omega
        · go_wp2
          go_round
          case rel => exact ⟨k + 1, j', rfl, by go_num, by have := HK.out; omega, .inr (by omega)⟩
          case measure => simp [intOf]; omega
      · have ho := R_two_lt j F hF (by omega)
        go_wp2
        go_loop [4, 6] (fun m e => ∃ (i : Int) (l : Nat), m = .float .f64 (R l F) ∧ e = .int .i64 i ∧ i + l = E ∧ i ≤ k ∧ 1 ≤ l ∧ l ≤ 1023) (fun m e => (intOf e + 1023).toNat)
        case atStart => exact ⟨k, j, rfl, rfl, by have := HK.out; omega, by omega, by have := HK.out; omega, by omega⟩
        case round =>
          obtain ⟨i, l, rfl, rfl, hil, hik, hl1, hl2⟩ := hrel
          have HL : Hid (i + l = E) := hil
          have hi1 : -1022 ≤ i := by omega
          clear hil ho
          have hp := R_pos l F (by omega) hF hl1
          by_cases hc : l < 1023
          · have ho := R_one_lt l F hF hc
            have hd := ari .mul 23 .f64 _ _ _ (R_dbl l F (by omega) hF hl1)
            have hi2 : -1022 < i := by have := HL.out; omega
            go_wp2
            go_round
            case rel => exact ⟨i - 1, l + 1, rfl, rfl, by have := HL.out; omega, by omega, by omega, by omega⟩
            case measure => simp [intOf]; omega
          · obtain rfl : l = 1023 := by omega
            have hw1 := ari .mul 23 .f64 _ _ _ (whole64 F hF).1
            have hw2 := fun w => run_convert_float_int (P := Tryd.prog) w 23 30 .f64 .u64 (R 1075 F) _ (by kernel_rfl) Tryd.underlying30 (whole64 F hF).2
            obtain ⟨N, HN⟩ : ∃ N : Int, Hid (N = ((4503599627370496 + F : Nat) : Int)) := ⟨_, rfl⟩
            have hN1 : 4503599627370496 ≤ N := by have := HN.out; omega
            have hN2 : N < 9007199254740992 := by have := HN.out; omega
            rw [← HN.out] at hw2
            have hiE : i + 1023 = (E : Int) := by have := HL.out; omega
            have hNF : N - 4503599627370496 = (F : Int) := by have := HN.out; omega
            have HI : Hid (i + 1023 = (E : Int)) := hiE
            have HF : Hid (N - 4503599627370496 = (F : Int)) := hNF
            clear hiE hNF
            rcases R_one_ge 1023 F (by omega) hF (by omega) with ho | ho
            · go_wp2
              go_ret
              exact ⟨ret_int (by rw [HI.out, HF.out]; first | exact join_neg E F (by omega) hF | exact join_pos E F (by omega) hF), rfl⟩
            · go_wp2
              go_ret
              exact ⟨ret_int (by rw [HI.out, HF.out]; first | exact join_neg E F (by omega) hF | exact join_pos E F (by omega) hF), rfl⟩

end Go.Proofs.YthnnmgiihpdblaaDoor
