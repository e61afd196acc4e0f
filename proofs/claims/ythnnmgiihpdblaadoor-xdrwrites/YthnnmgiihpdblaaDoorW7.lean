/- The document's own answer for numbers of 32 bits: their bits. -/
import Derived.Test.YthnnmgiihpdblaaDoorW6
namespace Go.Proofs.YthnnmgiihpdblaaDoor
open Go.RowKit

/-- The NaN that a conversion makes: some bits. -/
def nanConvOf (k : FloatKind) (x : Nat) (w : World) : Nat := (Question.nanConv k x).cut (w.tape w.drawn (.nanConv k x))

theorem nanConv64 (x : Nat) (w : World) : nan64 (nanConvOf .f64 x w) = true ∧ nanConvOf .f64 x w < 18446744073709551616 := by
  unfold nanConvOf Question.cut nan64
  generalize w.tape w.drawn (.nanConv .f64 x) = t
  have h1 : t % 2 < 2 := Nat.mod_lt _ (by omega)
  have e1 : (2 : Nat) ^ 52 - 1 = 4503599627370495 := by decide
  have e2 : (2 : Nat) ^ 63 = 9223372036854775808 := by decide
  simp only [e1, e2]
  have h2 : t / 2 % 4503599627370495 < 4503599627370495 := Nat.mod_lt _ (by omega)
  have e3 : (0x7ff0000000000000 : Nat) = 9218868437227405312 := rfl
  rw [e3, decide_eq_true_eq]
  generalize t / 2 % 4503599627370495 = u at *
  generalize t % 2 = v at *
  refine ⟨?_, by omega⟩
  rcases (by omega : v = 0 ∨ v = 1) with rfl | rfl
  · rw [Nat.zero_mul, Nat.zero_add, Nat.mod_eq_of_lt (by omega)]; omega
  · rw [Nat.one_mul, Nat.add_assoc, Nat.add_assoc, Nat.add_mod_left, Nat.mod_eq_of_lt (by omega)]; omega

/-- Is a number of these bits of 32 none? -/
def nan32 (x : Nat) : Bool := decide (2139095040 < x % 2147483648)
def c32 (x : Nat) : Nat := if nan32 x then 2143289344 else x

theorem nanConv32 (x : Nat) (w : World) : nan32 (nanConvOf .f32 x w) = true ∧ nanConvOf .f32 x w < 4294967296 := by
  unfold nanConvOf Question.cut nan32
  generalize w.tape w.drawn (.nanConv .f32 x) = t
  have h1 : t % 2 < 2 := Nat.mod_lt _ (by omega)
  have e1 : (2 : Nat) ^ 23 - 1 = 8388607 := by decide
  have e2 : (2 : Nat) ^ 31 = 2147483648 := by decide
  simp only [e1, e2]
  have h2 : t / 2 % 8388607 < 8388607 := Nat.mod_lt _ (by omega)
  have e3 : (0x7f800000 : Nat) = 2139095040 := rfl
  rw [e3, decide_eq_true_eq]
  generalize t / 2 % 8388607 = u at *
  generalize t % 2 = v at *
  refine ⟨?_, by omega⟩
  rcases (by omega : v = 0 ∨ v = 1) with rfl | rfl
  · rw [Nat.zero_mul, Nat.zero_add, Nat.mod_eq_of_lt (by omega)]; omega
  · rw [Nat.one_mul, Nat.add_assoc, Nat.add_assoc, Nat.add_mod_left, Nat.mod_eq_of_lt (by omega)]; omega

theorem nanBits32 (x y : Nat) (w : World) : nan32 (nanOf .f32 x y w) = true ∧ nanOf .f32 x y w < 4294967296 := by
  unfold nanOf Question.cut nan32
  generalize w.tape w.drawn (.nanBits .f32 x y) = t
  have h1 : t % 2 < 2 := Nat.mod_lt _ (by omega)
  have e1 : (2 : Nat) ^ 23 - 1 = 8388607 := by decide
  have e2 : (2 : Nat) ^ 31 = 2147483648 := by decide
  simp only [e1, e2]
  have h2 : t / 2 % 8388607 < 8388607 := Nat.mod_lt _ (by omega)
  have e3 : (0x7f800000 : Nat) = 2139095040 := rfl
  rw [e3, decide_eq_true_eq]
  generalize t / 2 % 8388607 = u at *
  generalize t % 2 = v at *
  refine ⟨?_, by omega⟩
  rcases (by omega : v = 0 ∨ v = 1) with rfl | rfl
  · rw [Nat.zero_mul, Nat.zero_add, Nat.mod_eq_of_lt (by omega)]; omega
  · rw [Nat.one_mul, Nat.add_assoc, Nat.add_assoc, Nat.add_mod_left, Nat.mod_eq_of_lt (by omega)]; omega

theorem run_conv_nan (P : Program) (w : World) (src dst : TypeId) (s k : FloatKind) (b : Nat) (hs : (P.underlying src).isSome = true) (hd : P.underlying dst = some (.float k)) (hsk : s ≠ k) (neg : Bool) (fr : Nat) (h : s.decode b = .nan neg fr) :
    (convert src dst (.float s b)).run P w = .ok (.float k (nanConvOf k b w)) w.drew := by
  obtain ⟨u, hs'⟩ := Option.isSome_iff_exists.1 hs
  have e : (Conv.floatToFloat s b k).run P w = .ok (.float k (nanConvOf k b w)) w.drew := by
    unfold Conv.floatToFloat
    rw [if_neg hsk, h]
    rfl
  cases u <;> simp [convert, run_underlying hs', run_underlying hd, e]

theorem read_nan32 (x : Nat) (h : x < 4294967296) (hn : nan32 x = true) : ∃ neg fr, FloatKind.f32.decode x = .nan neg fr := by
  obtain ⟨neg, r, hr, rfl⟩ := Fl.word_of Ieee.single x (Nat.lt_of_lt_of_eq h (by decide))
  have hr2 := hr
  rw [Fl.sw32] at hr
  have hx : 2139095040 < r := by
    unfold nan32 at hn
    rw [decide_eq_true_eq] at hn
    cases neg
    · rw [Fl.word_false, Nat.mod_eq_of_lt hr] at hn; exact hn
    · rw [Fl.word_true, Fl.sw32, Nat.add_mod_left, Nat.mod_eq_of_lt hr] at hn; exact hn
  exact ⟨neg, _, Fl.read_nan Ieee.single neg r hr2 Fl.bi_le32 (by rw [Fl.inf32]; exact hx)⟩

/-- The wide number of a narrow one. -/
theorem widen_form (neg : Bool) (m : Nat) (p : Int) (hm0 : m ≠ 0) (hm : m < 16777216) (hp1 : -149 ≤ p) (hp2 : p ≤ 104) :
    ∃ E F, Ieee.double.nearest neg m p = Ieee.double.word neg (R E F) ∧ 1 ≤ E ∧ E ≤ 2046 ∧ F < 4503599627370496 ∧ F + 4503599627370496 = m * 2 ^ (52 - m.log2) ∧ (E : Int) - 1075 = p + m.log2 - 52 := by
  have hl : m.log2 ≤ 23 := by
    have := (Nat.log2_lt hm0).2 (Nat.lt_of_lt_of_eq hm (by decide : 16777216 = 2 ^ 24)); omega
  have hlast : Fl.lastOf Ieee.double m p = p + m.log2 - 52 := by
    unfold Fl.lastOf; rw [Fl.fb64, Fl.lp64]; omega
  have hm53 : m < 2 ^ (Ieee.double.fractionBits + 1) := Nat.lt_of_lt_of_le hm (by decide)
  have hK := Fl.log2_mul_pow m (52 - m.log2) hm0
  have hKe : m.log2 + (52 - m.log2) = 52 := by omega
  rw [hKe] at hK
  have hK0 : m * 2 ^ (52 - m.log2) ≠ 0 := Nat.mul_ne_zero hm0 (by have := Nat.two_pow_pos (52 - m.log2); omega)
  have hlo := Nat.log2_self_le hK0
  have hhi := @Nat.lt_log2_self (m * 2 ^ (52 - m.log2))
  rw [hK] at hlo hhi
  have e52 : (2 : Nat) ^ 52 = 4503599627370496 := by decide
  have e53 : (2 : Nat) ^ (52 + 1) = 9007199254740992 := by decide
  rw [e52] at hlo
  rw [e53] at hhi
  have hexp : (p - Fl.lastOf Ieee.double m p).toNat = 52 - m.log2 := by rw [hlast]; omega
  have hr : Fl.rungOf Ieee.double m p = R (p + m.log2 - 52 + 1075).toNat (m * 2 ^ (52 - m.log2) - 4503599627370496) := by
    unfold Fl.rungOf R
    rw [hexp, hlast, Fl.lp64, Fl.bi64]
    generalize m * 2 ^ (52 - m.log2) = K at *
    have e3 : (p + (m.log2 : Int) - 52 + 1075).toNat = (p + (m.log2 : Int) - 52 - -1074).toNat + 1 := by omega
    rw [e3, Nat.succ_mul]
    omega
  generalize m * 2 ^ (52 - m.log2) = K at *
  have hF : K - 4503599627370496 < 4503599627370496 := by omega
  have hE : (p + (m.log2 : Int) - 52 + 1075).toNat ≤ 2046 := by omega
  refine ⟨(p + m.log2 - 52 + 1075).toNat, K - 4503599627370496, ?_, by omega, hE, hF, by omega, by omega⟩
  have hlt := R_lt _ _ hE hF
  rw [Fl.nearest_exact Ieee.double neg m p hm0 hm53 (by rw [Fl.lp64]; omega), hr, Fl.inf64, Nat.min_eq_left (Nat.le_of_lt hlt)]

theorem place32 (r : Nat) (h : r < 2139095040) : -149 ≤ Fl.placeOf Ieee.single r ∧ Fl.placeOf Ieee.single r ≤ 104 := by
  unfold Fl.placeOf
  rw [Fl.lp32, Fl.bi32]
  split <;> omega

theorem widen_ok (neg : Bool) (r : Nat) (h : r < 2139095040) : floatToFloatBits .f32 (Ieee.single.word neg r) .f64 = some (Ieee.double.nearest neg (Fl.magOf Ieee.single r) (Fl.placeOf Ieee.single r)) := by
  have hd : FloatKind.f32.decode (Ieee.single.word neg r) = .number neg (Fl.magOf Ieee.single r) (Fl.placeOf Ieee.single r) := Fl.read_number Ieee.single neg r (by rw [Fl.inf32]; exact h)
  have hm := Fl.magOf_lt Ieee.single r
  have hm' : Fl.magOf Ieee.single r < 16777216 := Nat.lt_of_lt_of_eq hm (by decide)
  have hp := place32 r h
  have hf : (Ieee.double.read (Ieee.double.nearest neg (Fl.magOf Ieee.single r) (Fl.placeOf Ieee.single r))).isInfinity = false := by
    by_cases h0 : Fl.magOf Ieee.single r = 0
    · rw [h0, Fl.nearest_zero, Fl.read_zero]; rfl
    · obtain ⟨E, F, e, _, h2, h3, _, _⟩ := widen_form neg _ _ h0 hm' hp.1 hp.2
      rw [e, Fl.read_number Ieee.double neg _ (by rw [Fl.inf64]; exact R_lt E F h2 h3)]
      rfl
  unfold floatToFloatBits
  rw [if_neg (by decide), hd]
  show (if (Ieee.double.read (Ieee.double.nearest neg (Fl.magOf Ieee.single r) (Fl.placeOf Ieee.single r))).isInfinity = true then none else some _) = _
  rw [hf]
  rfl

theorem widen_inf (neg : Bool) : floatToFloatBits .f32 (Ieee.single.word neg 2139095040) .f64 = some (Ieee.double.word neg 9218868437227405312) := by
  cases neg <;> decide

set_option maxHeartbeats 400000 in
theorem bits32_core (x y : Nat) (z : Int) (bb : Bool) (w : World) (hc : ∀ w, (convert 25 23 (.float .f32 x)).run Tryd.prog w = .ok (.float .f64 y) w) (hy : y < 18446744073709551616)
    (hn : ∀ w, Calls Tryd.prog 46 #[.int .u64 (c64 y : Nat)] w fun e w' => e = .returned (.tuple #[.int .u32 z, .bool bb]) ∧ w' = w) :
    Calls Tryd.prog 17 #[.float .f32 x] w fun e w' => e = .returned (.int .u32 z) ∧ w' = w := by
  have HN : Hid (∀ w, Calls Tryd.prog 46 #[.int .u64 (c64 y : Nat)] w fun e w' => e = .returned (.tuple #[.int .u32 z, .bool bb]) ∧ w' = w) := hn
  have HY : Hid (y < 18446744073709551616) := hy
  clear hn hy
  go_enter Tryd.func17, Tryd.ntmps17
  go_wp2_with (first | (go_at_call 16; refine (bits64_any y _ HY.out).mono ?_; rintro e w' ⟨rfl, rfl⟩) | (go_at_call 46; refine (HN.out _).mono ?_; rintro e w' ⟨rfl, rfl⟩))
  go_ret
  exact ⟨rfl, rfl⟩

theorem c64_num (x : Nat) (h : nan64 x = false) : c64 x = x := by unfold c64; rw [h]; rfl
theorem c64_nan (x : Nat) (h : nan64 x = true) : c64 x = 9221120237041090560 := by unfold c64; rw [h]; rfl

theorem bits64_isnan (x : Nat) (w : World) (h : x < 18446744073709551616) (hn : nan64 x = true) :
    Calls Tryd.prog 16 #[.float .f64 x] w fun e w' => e = .returned (.int .u64 9221120237041090560) ∧ w' = w := by
  have := bits64_any x w h
  rw [c64_nan x hn] at this
  exact this

set_option maxHeartbeats 400000 in
theorem bits32_nan (x : Nat) (w : World) (h : x < 4294967296) (hn : nan32 x = true) :
    Calls Tryd.prog 17 #[.float .f32 x] w fun e w' => e = .returned (.int .u32 2143289344) ∧ w' = w.drew := by
  obtain ⟨neg, fr, hd⟩ := read_nan32 x h hn
  have hc := fun w => run_conv_nan Tryd.prog w 25 23 .f32 .f64 x (by kernel_rfl) Tryd.underlying23 (by decide) neg fr hd
  clear hd hn h
  have hv := fun w => nanConv64 x w
  have HV : Hid (∀ w, nan64 (nanConvOf .f64 x w) = true ∧ nanConvOf .f64 x w < 18446744073709551616) := hv
  clear hv
  go_enter Tryd.func17, Tryd.ntmps17
  go_wp2_with (first | (go_at_call 16; refine (bits64_isnan _ _ (HV.out w).2 (HV.out w).1).mono ?_; rintro e w' ⟨rfl, rfl⟩) | (go_at_call 46; refine (narrow_nan _ _ (by decide)).mono ?_; rintro e w' ⟨rfl, rfl⟩))
  go_ret
  exact ⟨rfl, rfl⟩

theorem word64_lt (neg : Bool) (r : Nat) (h : r ≤ 9218868437227405312) : Ieee.double.word neg r < 18446744073709551616 ∧ nan64 (Ieee.double.word neg r) = false := by
  unfold nan64
  cases neg
  · rw [Fl.word_false]; simp; omega
  · rw [Fl.word_true, Fl.sw64, Nat.add_mod_left]; simp; omega

/-- The bits of a narrow number that is none of the NaNs. -/
theorem bits32_num (neg : Bool) (r : Nat) (w : World) (h : r ≤ 2139095040) :
    Calls Tryd.prog 17 #[.float .f32 (Ieee.single.word neg r)] w fun e w' => e = .returned (.int .u32 (Ieee.single.word neg r : Nat)) ∧ w' = w := by
  have hus : (Tryd.prog.underlying 25).isSome = true := by kernel_rfl
  by_cases hi : r = 2139095040
  · subst hi
    have hw := word64_lt neg 9218868437227405312 (by omega)
    refine bits32_core _ (Ieee.double.word neg 9218868437227405312) _ true w (fun w => run_convert_float_float w 25 23 .f32 .f64 _ _ hus Tryd.underlying23 (widen_inf neg)) hw.1 ?_
    intro w
    rw [c64_num _ hw.2]
    have r := narrow_inf (Ieee.double.word neg 9218868437227405312 : Nat) (sgn neg) (sgn32 neg) w (head_sg neg _ (by omega)) (head_s32 neg) (head_nan neg _ (by omega)) (by rw [head_dbl neg _ (by omega)]; rfl)
    have e := or32 neg 2139095040 (by omega)
    have e2 : ((2139095040 : Nat) : Int) = 2139095040 := rfl
    rw [e2] at e
    rw [e] at r
    exact r
  · have hlt : r < 2139095040 := by omega
    have hp := place32 r hlt
    have hm : Fl.magOf Ieee.single r < 16777216 := Nat.lt_of_lt_of_eq (Fl.magOf_lt Ieee.single r) (by decide)
    by_cases h0 : r = 0
    · subst h0
      have hw := word64_lt neg 0 (by omega)
      have hz : Ieee.double.nearest neg (Fl.magOf Ieee.single 0) (Fl.placeOf Ieee.single 0) = Ieee.double.word neg 0 := by
        rw [(Fl.magOf_zero Ieee.single 0).2 rfl, Fl.nearest_zero]
      have hwd := widen_ok neg 0 (by omega)
      rw [hz] at hwd
      refine bits32_core _ (Ieee.double.word neg 0) _ true w (fun w => run_convert_float_float w 25 23 .f32 .f64 _ _ hus Tryd.underlying23 hwd) hw.1 ?_
      intro w
      rw [c64_num _ hw.2]
      obtain ⟨f1, f2, _⟩ := fields64 neg 0 0 (by omega) (by omega)
      have e : R 0 0 = 0 := rfl
      rw [e] at f1 f2
      have r := narrow_zero (Ieee.double.word neg 0 : Nat) (sgn neg) (sgn32 neg) (-1074) w (fun w => parts_zero _ 0 w f1 f2) (head_sg neg _ (by omega)) (head_s32 neg) (head_nan neg _ (by omega)) (head_inf neg _ (by omega))
      have e3 : sgn32 neg = (Ieee.single.word neg 0 : Nat) := by cases neg <;> rfl
      rw [e3] at r
      exact r
    · have hm0 : Fl.magOf Ieee.single r ≠ 0 := fun e => h0 ((Fl.magOf_zero Ieee.single r).1 e)
      obtain ⟨E, F, e, h1, hE, hF, hK, hX⟩ := widen_form neg _ _ hm0 hm hp.1 hp.2
      have hw := word64_lt neg (R E F) (Nat.le_of_lt (R_lt E F hE hF))
      have hwd := widen_ok neg r hlt
      rw [e] at hwd
      refine bits32_core _ (Ieee.double.word neg (R E F)) _ true w (fun w => run_convert_float_float w 25 23 .f32 .f64 _ _ hus Tryd.underlying23 hwd) hw.1 ?_
      intro w
      rw [c64_num _ hw.2]
      by_cases hb : r < 8388608
      · have em : Fl.magOf Ieee.single r = r := by unfold Fl.magOf; rw [if_pos (by rw [Fl.bi32]; exact hb)]
        have ep : Fl.placeOf Ieee.single r = -149 := by unfold Fl.placeOf; rw [if_pos (by rw [Fl.bi32]; exact hb), Fl.lp32]
        rw [em] at hK hX
        rw [ep] at hX
        exact narrow_exact_low neg r h0 hb w E F hE h1 hF hK hX
      · have em : Fl.magOf Ieee.single r = 8388608 + r % 8388608 := by rw [Fl.magOf_full _ _ (by rw [Fl.bi32]; omega), Fl.bi32]
        have ep : Fl.placeOf Ieee.single r = -149 + ((r / 8388608 - 1 : Nat) : Int) := by rw [Fl.placeOf_full _ _ (by rw [Fl.bi32]; omega), Fl.bi32, Fl.lp32]
        have hlog : (8388608 + r % 8388608).log2 = 23 := by
          rw [Nat.log2_eq_iff (by omega)]
          rw [show (2 : Nat) ^ 23 = 8388608 from by decide, show (2 : Nat) ^ (23 + 1) = 16777216 from by decide]
          omega
        rw [em, hlog] at hK hX
        rw [ep] at hX
        have hK' : F + 4503599627370496 = (8388608 + r % 8388608) * 536870912 := hK
        have r2 := narrow_exact_high neg (8388608 + r % 8388608) (by omega) (by omega) (-149 + ((r / 8388608 - 1 : Nat) : Int)) (by omega) (by omega) w E F hE h1 hF hK' (by omega)
        have e5 : (-149 + ((r / 8388608 - 1 : Nat) : Int) + 150).toNat * 8388608 + (8388608 + r % 8388608 - 8388608) = r := by
          have : (-149 + ((r / 8388608 - 1 : Nat) : Int) + 150).toNat = r / 8388608 := by omega
          rw [this]; omega
        rw [e5] at r2
        exact r2

theorem split32 (x : Nat) (h : x < 4294967296) : ∃ neg r, r < 2147483648 ∧ x = Ieee.single.word neg r ∧ nan32 x = decide (2139095040 < r) := by
  obtain ⟨neg, r, hr, rfl⟩ := Fl.word_of Ieee.single x (Nat.lt_of_lt_of_eq h (by decide))
  rw [Fl.sw32] at hr
  refine ⟨neg, r, hr, rfl, ?_⟩
  unfold nan32
  cases neg
  · rw [Fl.word_false, Nat.mod_eq_of_lt hr]
  · rw [Fl.word_true, Fl.sw32, Nat.add_mod_left, Nat.mod_eq_of_lt hr]

/-- The bits of a narrow number, as the document tells them. -/
theorem bits32_any (x : Nat) (w : World) (h : x < 4294967296) :
    Calls Tryd.prog 17 #[.float .f32 x] w fun e w' => e = .returned (.int .u32 (c32 x)) ∧ ∃ k, w' = w.drewN k := by
  cases hx : nan32 x with
  | true =>
    have e : c32 x = 2143289344 := by unfold c32; rw [hx]; rfl
    rw [e]
    exact (bits32_nan x w h hx).mono fun e w' ⟨h1, h2⟩ => ⟨h1, 1, h2⟩
  | false =>
    have e : c32 x = x := by unfold c32; rw [hx]; rfl
    rw [e]
    obtain ⟨neg, r, hr, rfl, h2⟩ := split32 x h
    rw [hx] at h2
    have hle : r ≤ 2139095040 := by simpa using h2.symm
    exact (bits32_num neg r w hle).mono fun e w' ⟨h1, h2⟩ => ⟨h1, 0, h2⟩

end Go.Proofs.YthnnmgiihpdblaaDoor
