/- The document's own nearest narrow number is the program's. -/
import Derived.Test.YtbbikogpfpghbaaDoorNr
import Derived.Test.YtbbikogpfpghbaaDoorNg
namespace Go.Proofs.YtbbikogpfpghbaaDoor
open Go.RowKit

theorem nan64_word (neg : Bool) (r : Nat) (h : r ≤ 9218868437227405312) : nan64 (Ieee.double.word neg r) = false ∧ Ieee.double.word neg r < 18446744073709551616 := by
  unfold nan64
  cases neg
  · rw [Fl.word_false, Nat.mod_eq_of_lt (by omega)]; exact ⟨decide_eq_false (by omega), by omega⟩
  · rw [Fl.word_true, Fl.sw64, Nat.add_mod_left, Nat.mod_eq_of_lt (by omega)]; exact ⟨decide_eq_false (by omega), by omega⟩

theorem top_word (neg : Bool) (r : Nat) (h : r ≤ 9218868437227405312) : (if 9223372036854775808 ≤ Ieee.double.word neg r then 4286578688 else 2139095040) = Ieee.single.word neg 2139095040 := by
  cases neg
  · rw [Fl.word_false, if_neg (by omega)]; rfl
  · rw [Fl.word_true, Fl.sw64, if_pos (by omega)]; rfl

theorem narF_word (neg : Bool) (r : Nat) (hr : r < 9218868437227405312) : narF (Ieee.double.word neg r) = Ieee.single.word neg (min (rgN r) 2139095040) := by
  unfold narF
  rw [(nan64_word neg r (by omega)).1, conv_fin neg r hr, top_word neg r (by omega)]
  have he := rgN_end r hr
  by_cases hl : r < 5183643170835005440
  · rw [if_pos hl, Nat.min_eq_left (Nat.le_of_lt (he.2 hl))]; rfl
  · have hge : 2139095040 ≤ rgN r := Nat.le_of_not_lt fun h => hl (he.1 h)
    rw [if_neg hl, Nat.min_eq_right hge]; rfl

theorem wid_word (neg : Bool) (g : Nat) (h : g < 2139095040) : wid (Ieee.single.word neg g) = Ieee.double.nearest neg (Fl.magOf Ieee.single g) (Fl.placeOf Ieee.single g) := by
  have hw := nan32_word neg g (by omega)
  have h1 := (wid_conv _ hw.2 hw.1).1
  rw [widen_ok neg g h] at h1
  exact (Option.some.inj h1).symm
theorem wid_inf (neg : Bool) : wid (Ieee.single.word neg 2139095040) = Ieee.double.word neg 9218868437227405312 := by cases neg <;> decide

theorem same_bool (neg : Bool) (r : Nat) (h0 : r ≠ 0) (hr : r < 9218868437227405312) :
    ((c64 (wid (narF (Ieee.double.word neg r))) : Int) == ((Ieee.double.word neg r : Nat) : Int)) = (decide (Fl.magOf Ieee.double r % 2 ^ Fl.dropOf (Fl.magOf Ieee.double r) (Fl.placeOf Ieee.double r) = 0) && decide (Fl.rung32 (Fl.magOf Ieee.double r) (Fl.placeOf Ieee.double r) < 2139095040)) := by
  have hrg : rgN r = Fl.rung32 (Fl.magOf Ieee.double r) (Fl.placeOf Ieee.double r) := by unfold rgN; rw [if_neg h0]
  rw [narF_word neg r hr, hrg]
  by_cases hi : Fl.rung32 (Fl.magOf Ieee.double r) (Fl.placeOf Ieee.double r) < 2139095040
  · have hw := nan32_word neg _ (Nat.le_of_lt hi)
    rw [Nat.min_eq_left (Nat.le_of_lt hi), decide_eq_true hi, Bool.and_true, c64_num _ (wid_conv _ hw.2 hw.1).2.2, wid_word neg _ hi, Bool.eq_iff_iff, beq_iff_eq, decide_eq_true_iff, ← Fl.same_iff neg r h0 hr]
    exact Int.natCast_inj
  · rw [Nat.min_eq_right (by omega), decide_eq_false hi, Bool.and_false, wid_inf, c64_num _ (nan64_word neg _ (by omega)).1, beq_eq_false_iff_ne]
    intro e
    have := Fl.word_inj _ _ _ _ (Int.natCast_inj.1 e)
    omega

theorem mant_eq (r : Nat) : mant (r / 4503599627370496) (r % 4503599627370496) = Fl.magOf Ieee.double r := by
  unfold mant Fl.magOf
  rw [Fl.bi64]
  by_cases h : r < 4503599627370496
  · rw [if_pos (by omega), if_pos h]; omega
  · rw [if_neg (by omega), if_neg h]; omega
theorem expo_eq (r : Nat) : expo (r / 4503599627370496) = Fl.placeOf Ieee.double r := by
  unfold expo Fl.placeOf
  rw [Fl.bi64, Fl.lp64]
  by_cases h : r < 4503599627370496
  · rw [if_pos (by omega), if_pos h]
  · rw [if_neg (by omega), if_neg h]; omega

theorem parts_word (neg : Bool) (r : Nat) (hr : r < 9218868437227405312) (w : World) :
    Calls Tryd.prog 88 #[.int .u64 (Ieee.double.word neg r : Nat)] w fun e w' => e = .returned (.tuple #[.int .u64 (Fl.magOf Ieee.double r : Nat), .int .i64 (Fl.placeOf Ieee.double r)]) ∧ w' = w := by
  have hE : r / 4503599627370496 ≤ 2046 := by omega
  have hF : r % 4503599627370496 < 4503599627370496 := by omega
  obtain ⟨f1, f2, _⟩ := fields64 neg (r / 4503599627370496) (r % 4503599627370496) (by omega) hF
  rw [← R_split] at f1 f2
  have := parts_any (Ieee.double.word neg r : Nat) _ _ w hE hF f1 f2
  rw [mant_eq, expo_eq] at this
  exact this

theorem ref_fin (neg : Bool) (r : Nat) (h0 : r ≠ 0) (hr : r < 9218868437227405312) (w : World) :
    Calls Tryd.prog 46 #[.int .u64 (Ieee.double.word neg r : Nat)] w fun e w' => e = .returned (.tuple #[.int .u32 (Ieee.single.word neg (min (Fl.rung32 (Fl.magOf Ieee.double r) (Fl.placeOf Ieee.double r)) 2139095040) : Nat), .bool (decide (Fl.magOf Ieee.double r % 2 ^ Fl.dropOf (Fl.magOf Ieee.double r) (Fl.placeOf Ieee.double r) = 0) && decide (Fl.rung32 (Fl.magOf Ieee.double r) (Fl.placeOf Ieee.double r) < 2139095040))]) ∧ w' = w := by
  have hm0 : Fl.magOf Ieee.double r ≠ 0 := fun e => h0 ((Fl.magOf_zero Ieee.double r).1 e)
  have hp := fun w => parts_word neg r hr w
  have hmlt : Fl.magOf Ieee.double r < 9007199254740992 := Nat.lt_of_lt_of_eq (Fl.magOf_lt Ieee.double r) (by decide)
  have hlog : (Fl.magOf Ieee.double r).log2 ≤ 52 := by
    have := (Nat.log2_lt hm0).2 (Nat.lt_of_lt_of_eq hmlt (by decide : 9007199254740992 = 2 ^ 53)); omega
  have hpl := (Fl.drop_le r h0 hr).1
  have hd29 := (Fl.drop_le r h0 hr).2
  have hdp := Fl.drop_parts r h0 hr
  have hpge : -1074 ≤ Fl.placeOf Ieee.double r := by have := Fl.placeOf_ge Ieee.double r; rw [Fl.lp64] at this; exact this
  have hlast := Fl.last32 (Fl.magOf Ieee.double r) (Fl.placeOf Ieee.double r)
  have hdl : (Fl.dropOf (Fl.magOf Ieee.double r) (Fl.placeOf Ieee.double r) : Int) = Fl.lastOf Ieee.single (Fl.magOf Ieee.double r) (Fl.placeOf Ieee.double r) - Fl.placeOf Ieee.double r := by
    unfold Fl.dropOf; omega
  have h1 := head_sg neg r (by omega)
  have h2 := head_s32 neg
  have h3 := head_nan neg r (by omega)
  have h4 := head_inf neg r hr
  have hrung : Fl.rung32 (Fl.magOf Ieee.double r) (Fl.placeOf Ieee.double r) = (Fl.lastOf Ieee.single (Fl.magOf Ieee.double r) (Fl.placeOf Ieee.double r) + 149).toNat * 8388608 + Fl.half (Fl.magOf Ieee.double r) (Fl.dropOf (Fl.magOf Ieee.double r) (Fl.placeOf Ieee.double r)) := rfl
  generalize Fl.magOf Ieee.double r = m at *
  generalize Fl.placeOf Ieee.double r = p at *
  generalize Fl.dropOf m p = d at *
  generalize Fl.lastOf Ieee.single m p = u at *
  rw [hrung]
  clear hrung
  by_cases hbig : 60 < d
  · have hq : p + (m.log2 : Int) < -126 := by omega
    have hu : u = -149 := by omega
    have hpow : 2 ^ 61 ≤ 2 ^ d := Nat.pow_le_pow_right (by omega) (by omega)
    rw [show (2 : Nat) ^ 61 = 2305843009213693952 from by decide] at hpow
    have e1 : Fl.half m d = 0 := by
      unfold Fl.half
      generalize 2 ^ d = z at *
      rw [Nat.div_eq_of_lt (by omega), Nat.mod_eq_of_lt (by omega), if_neg (by omega)]
    have e2 : m % 2 ^ d ≠ 0 := by
      generalize 2 ^ d = z at *
      rw [Nat.mod_eq_of_lt (by omega)]; exact hm0
    have e3 : sgn32 neg = ((Ieee.single.word neg 0 : Nat) : Int) := by cases neg <;> decide
    rw [e1, hu, decide_eq_false e2, Bool.false_and]
    have r1 := nar_tiny _ (sgn neg) (sgn32 neg) p m m.log2 w hp hm0 rfl hlog hpge hq (by omega) h1 h2 h3 h4
    rw [e3] at r1
    exact r1
  · have hlog52 : m.log2 = 52 ∧ (d : Int) = max 29 (-149 - p) ∧ p ≤ 971 := by omega
    have hmge : 4503599627370496 ≤ m := by
      have := Nat.log2_self_le hm0
      rw [hlog52.1] at this
      exact Nat.le_trans (by decide) this
    have hup := up_half m d (by omega)
    have hdm := Nat.div_add_mod m (2 ^ d)
    have hml := Nat.mod_lt m (Nat.two_pow_pos d)
    have hz : (((m % 2 ^ d : Nat) : Int) == 0) = decide (m % 2 ^ d = 0) := by
      rw [Bool.eq_iff_iff, beq_iff_eq, decide_eq_true_iff]; omega
    have hpow1 : 2 ^ 29 ≤ 2 ^ d := Nat.pow_le_pow_right (by omega) hd29
    rw [show (2 : Nat) ^ 29 = 536870912 from by decide] at hpow1
    have hhalf : Fl.half m d ≤ 16777216 := Fl.half_lt m d _ (by generalize 2 ^ d = z at *; omega)
    have hP : 2 ^ d = 2 * 2 ^ (d - 1) := by rw [← Nat.pow_succ']; congr 1; omega
    have hsum : ((m : Nat) : Int) - ((m / 2 ^ d * 2 ^ d : Nat) : Int) = ((m % 2 ^ d : Nat) : Int) := by
      rw [Nat.mul_comm (m / 2 ^ d)]; generalize 2 ^ d * (m / 2 ^ d) = z at *; omega
    by_cases hlow : p + 52 < -126
    · have hu : u = -149 := by omega
      have hd : (d : Int) = -149 - p := by omega
      have hpw : 2 ^ d ≤ 2 ^ 60 := Nat.pow_le_pow_right (by omega) (by omega)
      rw [show (2 : Nat) ^ 60 = 1152921504606846976 from by decide] at hpw
      have hpow2 : 2 ^ 30 ≤ 2 ^ d := Nat.pow_le_pow_right (by omega) (by omega)
      rw [show (2 : Nat) ^ 30 = 1073741824 from by decide] at hpow2
      have hM : m / 2 ^ d < 8388608 := Nat.div_lt_of_lt_mul (by generalize 2 ^ d = z at *; omega)
      have ed : (-149 - p).toNat = d := by omega
      have hle : m / 2 ^ d * 2 ^ d ≤ m := Nat.div_mul_le_self m (2 ^ d)
      have hpos := Nat.two_pow_pos (d - 1)
      have r1 := nar_low _ (sgn neg) (sgn32 neg) p ((2 ^ (d - 1) : Nat) : Int) ((m / 2 ^ d : Nat) : Int) ((m / 2 ^ d * 2 ^ d : Nat) : Int) ((m % 2 ^ d : Nat) : Int) m 52 w hp hm0 hlog52.1 (by omega) hpge (by omega) (by omega) (Int.natCast_nonneg _) (Int.ofNat_lt.2 hM)
        (by
          rw [shift_shr .u64 .i64 _ _ (by omega) (by rw [← hd]; simp [IntKind.bits]; omega), ed, Int.natCast_ediv, Int.natCast_pow]; rfl)
        (by
          rw [shift_shl .u64 .i64 _ _ (by omega) (by rw [← hd]; simp [IntKind.bits]; omega), ed, IntKind.wrap_u64]
          have e : ((m / 2 ^ d : Nat) : Int) * 2 ^ d = ((m / 2 ^ d * 2 ^ d : Nat) : Int) := by rw [Int.natCast_mul, Int.natCast_pow]; rfl
          rw [e, Int.emod_eq_of_lt (by omega) (by generalize m / 2 ^ d * 2 ^ d = z at *; omega)])
        (by
          rw [shift_shl .u64 .i64 _ _ (by omega) (by rw [← hd]; simp [IntKind.bits]; omega), ed, IntKind.wrap_u64]
          have e : (1 : Int) * 2 ^ d = ((2 ^ d : Nat) : Int) := by rw [Int.natCast_pow, Int.one_mul]; rfl
          have e3 : ((2 ^ d : Nat) : Int) = 2 * ((2 ^ (d - 1) : Nat) : Int) := by omega
          rw [e, Int.emod_eq_of_lt (by omega) (by generalize 2 ^ d = z at *; omega), e3])
        (by omega) (by omega) hsum (Int.natCast_nonneg _) (by generalize 2 ^ d = z at *; omega) h1 h2 h3 h4
      refine r1.mono fun e w' ⟨a, b⟩ => ⟨?_, b⟩
      unfold NarPost at a
      rw [hup, hz, out_word neg (-149) _ _ (by omega) hhalf (fun _ => rfl)] at a
      rw [a, hu]
    · have hd : d = 29 := by omega
      subst hd
      have hu : u = p + 52 - 23 := by omega
      rw [show (2 : Nat) ^ 29 = 536870912 from by decide] at *
      have h28 : ((2 ^ (29 - 1) : Nat) : Int) = 268435456 := by decide
      rw [h28] at hup
      have hge8 : 8388608 ≤ Fl.half m 29 := Fl.half_ge m 29 _ (by rw [show (2 : Nat) ^ 29 = 536870912 from by decide]; omega)
      have r1 := nar_high _ (sgn neg) (sgn32 neg) p ((m / 536870912 : Nat) : Int) ((m / 536870912 * 536870912 : Nat) : Int) ((m % 536870912 : Nat) : Int) m w hp hm0 hlog52.1 (by omega) (by omega) (by omega) (by omega) (by omega) (by omega) hsum (by omega) (by omega) h1 h2 h3 h4
      refine r1.mono fun e w' ⟨a, b⟩ => ⟨?_, b⟩
      unfold NarPost at a
      rw [hup, hz, out_word neg _ _ _ (by omega) hhalf (fun hh => by omega)] at a
      rw [a, hu]

/-- narrow, at every number's bits. -/
theorem narrow_ref (x : Nat) (w : World) (h : x < 18446744073709551616) (hx : c64 x = x) :
    Calls Tryd.prog 46 #[.int .u64 x] w fun e w' => e = .returned (.tuple #[.int .u32 (narF x : Nat), .bool ((c64 (wid (narF x)) : Int) == (x : Int))]) ∧ w' = w := by
  cases hn : nan64 x with
  | true =>
    rw [c64_nan x hn] at hx
    subst hx
    exact narrow_nan _ w (by decide)
  | false =>
    obtain ⟨neg, r, hr, rfl, hd, _, _⟩ := splitW x h
    rw [hn] at hd
    have hle : r ≤ 9218868437227405312 := by simpa using hd.symm
    by_cases hi : r = 9218868437227405312
    · subst hi
      have r1 := narrow_inf _ (sgn neg) (sgn32 neg) w (head_sg neg _ (by omega)) (head_s32 neg) (head_nan neg _ (by omega)) (by rw [head_dbl neg _ (by omega)]; decide)
      have e1 : narF (Ieee.double.word neg 9218868437227405312) = Ieee.single.word neg 2139095040 := by
        unfold narF; rw [(nan64_word neg _ (by omega)).1, narrow_conv_inf neg]; rfl
      have e2 : bits .or .u32 (sgn32 neg) 2139095040 = ((Ieee.single.word neg 2139095040 : Nat) : Int) := or32 neg 2139095040 (by omega)
      rw [e1, wid_inf, c64_num _ (nan64_word neg _ (by omega)).1, beq_self_eq_true]
      rw [e2] at r1
      exact r1
    · by_cases h0 : r = 0
      · subst h0
        have r1 := narrow_zero _ (sgn neg) (sgn32 neg) _ w (fun w => parts_word neg 0 (by omega) w) (head_sg neg _ (by omega)) (head_s32 neg) (head_nan neg _ (by omega)) (head_inf neg _ (by omega))
        have e3 : sgn32 neg = ((Ieee.single.word neg 0 : Nat) : Int) := by cases neg <;> decide
        have e4 : ((c64 (wid (Ieee.single.word neg 0)) : Int) == ((Ieee.double.word neg 0 : Nat) : Int)) = true := by cases neg <;> decide
        rw [narF_word neg 0 (by omega)]
        show Calls Tryd.prog 46 _ w fun e w' => e = .returned (.tuple #[.int .u32 (Ieee.single.word neg 0 : Nat), .bool ((c64 (wid (Ieee.single.word neg 0)) : Int) == ((Ieee.double.word neg 0 : Nat) : Int))]) ∧ w' = w
        rw [e4, ← e3]
        exact r1
      · have r1 := ref_fin neg r h0 (by omega) w
        rw [same_bool neg r h0 (by omega), narF_word neg r (by omega)]
        have hrg : rgN r = Fl.rung32 (Fl.magOf Ieee.double r) (Fl.placeOf Ieee.double r) := by unfold rgN; rw [if_neg h0]
        rw [hrg]
        exact r1

end Go.Proofs.YtbbikogpfpghbaaDoor
