/- The document's own way from bits of 32 to a number. -/
import Derived.Test.YthnnmgiihpdblaaDoorW7
namespace Go.Proofs.YthnnmgiihpdblaaDoor
open Go.RowKit
attribute [local go_sem] unary_negf

def s64 (neg : Bool) : Int := if neg then 9223372036854775808 else 0
theorem sgn_s64 (neg : Bool) : sgn neg * 9223372036854775808 = s64 neg := by cases neg <;> decide

set_option maxHeartbeats 400000 in
theorem from32_bad_core (neg : Bool) (b F : Int) (w : World) (hbE : bits .and .u32 (b / 8388608) 255 = 255) (hbF : bits .and .u32 b 8388607 = F) (hsg : b / 2147483648 = sgn neg) (hF0 : 0 ≤ F) (hF1 : F < 8388608) (hF : (F != 0) = true) (hb : (b == 2143289344) = false) :
    Calls Tryd.prog 15 #[.int .u32 b] w fun e w' => e = .returned (.tuple #[.float .f32 0, .int .i64 10]) ∧ w' = w := by
  have hs0 : 0 ≤ sgn neg := by cases neg <;> decide
  have hs1 : sgn neg ≤ 1 := by cases neg <;> decide
  go_enter Tryd.func15, Tryd.ntmps15
  go_wp2
  go_ret2
  exact ⟨rfl, rfl⟩

theorem read_nan64 (x : Nat) (h : x < 18446744073709551616) (hn : nan64 x = true) : ∃ neg fr, FloatKind.f64.decode x = .nan neg fr := by
  obtain ⟨neg, r, hr, rfl⟩ := Fl.word_of Ieee.double x (Nat.lt_of_lt_of_eq h (by decide))
  have hr2 := hr
  rw [Fl.sw64] at hr
  have hx : 9218868437227405312 < r := by
    unfold nan64 at hn
    rw [decide_eq_true_eq] at hn
    cases neg
    · rw [Fl.word_false, Nat.mod_eq_of_lt hr] at hn; exact hn
    · rw [Fl.word_true, Fl.sw64, Nat.add_mod_left, Nat.mod_eq_of_lt hr] at hn; exact hn
  exact ⟨neg, _, Fl.read_nan Ieee.double neg r hr2 Fl.bi_le64 (by rw [Fl.inf64]; exact hx)⟩

set_option maxHeartbeats 400000 in
theorem from32_nan_core (b F : Int) (w : World) (hbE : bits .and .u32 (b / 8388608) 255 = 255) (hbF : bits .and .u32 b 8388607 = F) (hsg : b / 2147483648 = 0) (hF0 : 0 ≤ F) (hF1 : F < 8388608) (hb : (b == 2143289344) = true) :
    Calls Tryd.prog 15 #[.int .u32 b] w fun e w' => ∃ z, nan32 z = true ∧ z < 4294967296 ∧ e = .returned (.tuple #[.float .f32 z, .int .i64 0]) ∧ ∃ k, w' = w.drewN k := by
  go_enter Tryd.func15, Tryd.ntmps15
  go_wp2_with fail
  refine (from64_nan _).mono ?_
  rintro e w' ⟨⟨y, hy1, hy2, rfl⟩, rfl⟩
  obtain ⟨neg, fr, hd⟩ := read_nan64 y hy2 hy1
  have hc := fun w => run_conv_nan Tryd.prog w 23 25 .f64 .f32 y (by kernel_rfl) Tryd.underlying25 (by decide) neg fr hd
  have HV : Hid (∀ w, nan32 (nanConvOf .f32 y w) = true ∧ nanConvOf .f32 y w < 4294967296) := fun w => nanConv32 y w
  clear hd hy1 hy2
  go_wp2
  go_ret2
  exact ⟨_, (HV.out _).1, (HV.out _).2, rfl, 2, rfl⟩

theorem narrow_conv_inf (neg : Bool) : floatToFloatBits .f64 (Ieee.double.word neg 9218868437227405312) .f32 = some (Ieee.single.word neg 2139095040) := by
  cases neg <;> decide

theorem or_inf (neg : Bool) : bits .or .u64 (s64 neg) 9218868437227405312 = ((Ieee.double.word neg 9218868437227405312 : Nat) : Int) := by
  cases neg <;> decide

set_option maxHeartbeats 400000 in
theorem from32_inf_core (neg : Bool) (b : Int) (w : World) (hbE : bits .and .u32 (b / 8388608) 255 = 255) (hbF : bits .and .u32 b 8388607 = 0) (hsg : b / 2147483648 = sgn neg) (hb : (b == 2143289344) = false) :
    Calls Tryd.prog 15 #[.int .u32 b] w fun e w' => e = .returned (.tuple #[.float .f32 (Ieee.single.word neg 2139095040), .int .i64 0]) ∧ w' = w := by
  have hs0 : 0 ≤ sgn neg := by cases neg <;> decide
  have hs1 : sgn neg ≤ 1 := by cases neg <;> decide
  have hw := word64_lt neg 9218868437227405312 (by omega)
  have HF : Hid (∀ w, Calls Tryd.prog 13 #[.int .u64 (Ieee.double.word neg 9218868437227405312 : Nat)] w fun e w' => e = .returned (.tuple #[.float .f64 (Ieee.double.word neg 9218868437227405312), .int .i64 0]) ∧ w' = w) := fun w => from64_ok _ w hw.1 hw.2
  have hc := fun w => run_convert_float_float (P := Tryd.prog) w 23 25 .f64 .f32 _ _ (by kernel_rfl) Tryd.underlying25 (narrow_conv_inf neg)
  have ho : Hid (bits .or .u64 (s64 neg) 9218868437227405312 = ((Ieee.double.word neg 9218868437227405312 : Nat) : Int)) := or_inf neg
  clear hw
  go_enter Tryd.func15, Tryd.ntmps15
  go_wp2_with fail
  rw [sgn_s64, ho.out]
  refine (HF.out _).mono ?_
  rintro e w' ⟨rfl, rfl⟩
  go_wp2
  go_ret2
  exact ⟨rfl, rfl⟩

theorem lim32 (E F : Nat) (hE : E ≤ 254) (hF : F < 8388608) : E * 8388608 + F < 2139095040 := by omega

/-- A narrow full number, told by the wide one's bits. -/
theorem narrow_conv (neg : Bool) (E F : Nat) (h1 : 1 ≤ E) (hE : E ≤ 254) (hF : F < 8388608) : floatToFloatBits .f64 (Ieee.double.word neg (R (E + 896) (F * 536870912))) .f32 = some (Ieee.single.word neg (E * 8388608 + F)) := by
  have hF2 : F * 536870912 < 4503599627370496 := by omega
  have e4 : (E - 1) * 8388608 + (8388608 + F) = E * 8388608 + F := by
    obtain ⟨E', rfl⟩ : ∃ E', E = E' + 1 := ⟨E - 1, by omega⟩
    rw [Nat.add_sub_cancel, Nat.succ_mul, Nat.add_assoc]
  have hlim2 := lim32 E F hE hF
  have hlim : (E - 1) * 8388608 + (8388608 + F) ≤ 2139095040 := by rw [e4]; exact Nat.le_of_lt hlim2
  have hd : FloatKind.f64.decode (Ieee.double.word neg (R (E + 896) (F * 536870912))) = .number neg (4503599627370496 + F * 536870912) (-1074 + ((E + 896 - 1 : Nat) : Int)) := by
    have hr := Fl.read_number Ieee.double neg (R (E + 896) (F * 536870912)) (by rw [Fl.inf64]; exact R_lt _ _ (by omega) hF2)
    have hge := R_ge (E + 896) (F * 536870912) (by omega)
    rw [Fl.magOf_full _ _ (by rw [Fl.bi64]; exact hge), Fl.placeOf_full _ _ (by rw [Fl.bi64]; exact hge), Fl.bi64, Fl.lp64, R_div _ _ hF2, R_mod _ _ hF2] at hr
    exact hr
  have hn : Ieee.single.nearest neg (4503599627370496 + F * 536870912) (-1074 + ((E + 896 - 1 : Nat) : Int)) = Ieee.single.word neg (E * 8388608 + F) := by
    have e1 : 4503599627370496 + F * 536870912 = (8388608 + F) * 2 ^ 29 := by
      rw [show (2 : Nat) ^ 29 = 536870912 from by decide]; omega
    rw [e1, Fl.nearest_shift Ieee.single neg (8388608 + F) 29 _ (by omega)]
    have e2 : -1074 + ((E + 896 - 1 : Nat) : Int) + ((29 : Nat) : Int) = (E : Int) - 150 := by omega
    rw [e2]
    have e3 : ((E : Int) - 150 - -149).toNat = E - 1 := by omega
    have hf := Fl.nearest_full Ieee.single neg F ((E : Int) - 150) (by rw [Fl.bi32]; exact hF) (by rw [Fl.lp32]; omega) (by rw [Fl.lp32, Fl.bi32, Fl.inf32, e3]; exact hlim)
    rw [Fl.lp32, Fl.bi32, e3] at hf
    rw [hf]
    rw [e4]
  have hinf : (Ieee.single.read (Ieee.single.word neg (E * 8388608 + F))).isInfinity = false := by
    rw [Fl.read_number Ieee.single neg _ (by rw [Fl.inf32]; exact hlim2)]; rfl
  unfold floatToFloatBits
  rw [if_neg (by decide), hd]
  show (if (Ieee.single.read (Ieee.single.nearest neg (4503599627370496 + F * 536870912) (-1074 + ((E + 896 - 1 : Nat) : Int)))).isInfinity = true then none else some (Ieee.single.nearest neg (4503599627370496 + F * 536870912) (-1074 + ((E + 896 - 1 : Nat) : Int)))) = _
  rw [hn, hinf]
  rfl

theorem or_full (neg : Bool) (E F : Nat) (hE : E ≤ 2046) (hF : F < 4503599627370496) : bits .or .u64 (bits .or .u64 (s64 neg) ((E : Int) * 4503599627370496)) (F : Int) = ((Ieee.double.word neg (R E F) : Nat) : Int) := by
  cases neg
  · exact join_pos E F (by omega) hF
  · exact join_neg E F (by omega) hF

set_option maxHeartbeats 400000 in
theorem from32_full_core (neg : Bool) (b : Int) (E F : Nat) (w : World) (h1 : 1 ≤ E) (hE : E ≤ 254) (hF : F < 8388608) (hbE : bits .and .u32 (b / 8388608) 255 = (E : Int)) (hbF : bits .and .u32 b 8388607 = (F : Int)) (hsg : b / 2147483648 = sgn neg) :
    Calls Tryd.prog 15 #[.int .u32 b] w fun e w' => e = .returned (.tuple #[.float .f32 (Ieee.single.word neg (E * 8388608 + F)), .int .i64 0]) ∧ w' = w := by
  have hs0 : 0 ≤ sgn neg := by cases neg <;> decide
  have hs1 : sgn neg ≤ 1 := by cases neg <;> decide
  have hF2 : F * 536870912 < 4503599627370496 := by omega
  have hw := word64_lt neg (R (E + 896) (F * 536870912)) (Nat.le_of_lt (R_lt _ _ (by omega) hF2))
  have HF : Hid (∀ w, Calls Tryd.prog 13 #[.int .u64 (Ieee.double.word neg (R (E + 896) (F * 536870912)) : Nat)] w fun e w' => e = .returned (.tuple #[.float .f64 (Ieee.double.word neg (R (E + 896) (F * 536870912))), .int .i64 0]) ∧ w' = w) := fun w => from64_ok _ w hw.1 hw.2
  have hc := fun w => run_convert_float_float (P := Tryd.prog) w 23 25 .f64 .f32 _ _ (by kernel_rfl) Tryd.underlying25 (narrow_conv neg E F h1 hE hF)
  have ho1 := or_full neg (E + 896) (F * 536870912) (by omega) hF2
  have e1 : (((E + 896 : Nat) : Int)) = (E : Int) + 896 := by omega
  have e2 : (((F * 536870912 : Nat) : Int)) = (F : Int) * 536870912 := by omega
  rw [e1, e2] at ho1
  have ho : Hid (bits .or .u64 (bits .or .u64 (s64 neg) (((E : Int) + 896) * 4503599627370496)) ((F : Int) * 536870912) = ((Ieee.double.word neg (R (E + 896) (F * 536870912)) : Nat) : Int)) := ho1
  have hE7 : ((E : Int) == 255) = false := beq_eq_false_iff_ne.2 (by omega)
  obtain ⟨Fi, HFi⟩ : ∃ Fi : Int, Hid (Fi = (F : Int)) := ⟨_, rfl⟩
  have hFi0 : 0 ≤ Fi := by have := HFi.out; omega
  have hFi1 : Fi < 8388608 := by have := HFi.out; omega
  rw [← HFi.out] at hbF
  obtain ⟨Ei, HEi⟩ : ∃ Ei : Int, Hid (Ei = (E : Int)) := ⟨_, rfl⟩
  have hEi0 : 0 < Ei := by have := HEi.out; omega
  have hEi1 : Ei ≤ 254 := by have := HEi.out; omega
  rw [← HEi.out] at hbE hE7
  clear hw ho1 e1 e2 hF2 hF hE h1
  go_enter Tryd.func15, Tryd.ntmps15
  go_wp2_with fail
  rw [sgn_s64, HFi.out, HEi.out, ho.out]
  refine (HF.out _).mono ?_
  rintro e w' ⟨rfl, rfl⟩
  go_wp2
  go_ret2
  exact ⟨rfl, rfl⟩

end Go.Proofs.YthnnmgiihpdblaaDoor
