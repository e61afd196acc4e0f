/- The program's own way to the nearest narrow number, at every wide one. -/
import Derived.Test.YtbbikogpfpghbaaDoorW13
import Derived.Test.YtbbikogpfpghbaaDoorNar
namespace Go.Proofs.YtbbikogpfpghbaaDoor
open Go.RowKit
attribute [local go_sem] x35 x36 x40 x41

/-- The nearest narrow number's bits. -/
def narF (f : Nat) : Nat := if nan64 f then 2143289344 else (floatToFloatBits .f64 f .f32).getD (if 9223372036854775808 ≤ f then 4286578688 else 2139095040)
/-- The rung of the nearest narrow number of a finite wide one's. -/
def rgN (r : Nat) : Nat := if r = 0 then 0 else Fl.rung32 (Fl.magOf Ieee.double r) (Fl.placeOf Ieee.double r)

theorem rgN_end (r : Nat) (hr : r < 9218868437227405312) : rgN r < 2139095040 ↔ r < 5183643170835005440 := by
  unfold rgN
  by_cases h0 : r = 0
  · subst h0; simp
  · rw [if_neg h0]; exact Fl.rung_end r h0 hr

theorem near_rgN (neg : Bool) (r : Nat) (hr : r < 9218868437227405312) : Ieee.single.nearest neg (Fl.magOf Ieee.double r) (Fl.placeOf Ieee.double r) = Ieee.single.word neg (min (rgN r) 2139095040) := by
  unfold rgN
  by_cases h0 : r = 0
  · rw [if_pos h0, (Fl.magOf_zero Ieee.double r).2 h0, Fl.nearest_zero]; rfl
  · rw [if_neg h0]
    exact Fl.nearest32 neg _ _ (fun e => h0 ((Fl.magOf_zero Ieee.double r).1 e)) (Fl.drop_le r h0 hr).1

/-- What the conversion makes of a finite number. -/
theorem conv_fin (neg : Bool) (r : Nat) (hr : r < 9218868437227405312) : floatToFloatBits .f64 (Ieee.double.word neg r) .f32 = if r < 5183643170835005440 then some (Ieee.single.word neg (rgN r)) else none := by
  have hd : FloatKind.f64.decode (Ieee.double.word neg r) = .number neg (Fl.magOf Ieee.double r) (Fl.placeOf Ieee.double r) := Fl.read_number Ieee.double neg r (by rw [Fl.inf64]; exact hr)
  have he := rgN_end r hr
  unfold floatToFloatBits
  rw [if_neg (by decide), hd]
  show (if (Ieee.single.read (Ieee.single.nearest neg (Fl.magOf Ieee.double r) (Fl.placeOf Ieee.double r))).isInfinity = true then none else some (Ieee.single.nearest neg (Fl.magOf Ieee.double r) (Fl.placeOf Ieee.double r))) = _
  rw [near_rgN neg r hr]
  by_cases hl : r < 5183643170835005440
  · rw [if_pos hl, Nat.min_eq_left (Nat.le_of_lt (he.2 hl)), Fl.read_number Ieee.single neg _ (by rw [Fl.inf32]; exact he.2 hl)]
    rfl
  · have hge : 2139095040 ≤ rgN r := Nat.le_of_not_lt fun h => hl (he.1 h)
    rw [if_neg hl, Nat.min_eq_right hge]
    have := Fl.read_inf Ieee.single neg Fl.bi_le32
    rw [Fl.inf32] at this
    rw [this]
    rfl

/-- The program's test of size, and its sign. -/
theorem hi32 (x : Nat) (h : x < 18446744073709551616) : bits .or .u32 2139095040 (bits .and .u32 ((x : Int) / 4294967296 % 4294967296) 2147483648) = ((if 9223372036854775808 ≤ x then 4286578688 else 2139095040 : Nat) : Int) := by
  have hd : (x : Int) / 4294967296 % 4294967296 = ((x / 4294967296 : Nat) : Int) := by omega
  have e := u32_and_nat (x / 4294967296) 2147483648 (by omega) (by omega)
  have e2 : x / 4294967296 &&& 2147483648 = x / 4294967296 / 2 ^ 31 % 2 * 2 ^ 31 := nat_bit 31 _
  rw [e2, show (2 : Nat) ^ 31 = 2147483648 from by decide] at e
  rw [hd]
  have e3 : bits .and .u32 ((x / 4294967296 : Nat) : Int) 2147483648 = ((x / 4294967296 / 2147483648 % 2 * 2147483648 : Nat) : Int) := e
  rw [e3]
  by_cases hb : 9223372036854775808 ≤ x
  · rw [if_pos hb, show x / 4294967296 / 2147483648 % 2 * 2147483648 = 2147483648 from by omega]; decide
  · rw [if_neg hb, show x / 4294967296 / 2147483648 % 2 * 2147483648 = 0 from by omega]; decide

set_option maxHeartbeats 400000 in
theorem narrow_small (f g : Nat) (z : Int) (w : World) (h : f < 18446744073709551616) (hn : nan64 f = false) (hb : ((f : Int) == 9221120237041090560) = false) (hz : bits .andNot .u64 (f : Int) 9223372036854775808 = z) (hz1 : z < 5183643170835005440)
    (hc : floatToFloatBits .f64 f .f32 = some g) (hg : g < 4294967296) (hgn : nan32 g = false) :
    Calls Tryd.prog 25 #[.float .f64 f] w fun e w' => e = .returned (.tuple #[.float .f32 g, .bool ((c64 (wid g) : Int) == (c64 f : Int))]) ∧ w' = w := by
  have HB : Hid (∀ w, Calls Tryd.prog 18 #[.float .f64 f] w fun e w' => e = .returned (.int .u64 f) ∧ w' = w) := fun w => by
    have := rbits64 f w h; rw [c64_num f hn] at this; exact this
  have h1 := fun w => run_convert_float_float (P := Tryd.prog) w 23 25 .f64 .f32 _ _ (by kernel_rfl) Tryd.underlying25 hc
  have h2 := fun w => run_convert_float_float (P := Tryd.prog) w 25 23 .f32 .f64 _ _ (by kernel_rfl) Tryd.underlying23 (wid_conv g hg hgn).1
  have HC : Hid (∀ w, Calls Tryd.prog 20 #[.float .f64 (wid g), .float .f64 f] w fun e w' => e = .returned (.bool ((c64 (wid g) : Int) == (c64 f : Int))) ∧ w' = w) := fun w => rsame64 (wid g) f w (wid_conv g hg hgn).2.1 h
  clear hc hn h hg hgn
  go_enter Tryd.func25, Tryd.ntmps25
  go_wp2_with first | (go_at_call 20; refine (HC.out _).mono ?_; rintro e w' ⟨rfl, rfl⟩) | (go_at_call 18; refine (HB.out _).mono ?_; rintro e w' ⟨rfl, rfl⟩)
  go_ret2
  exact ⟨rfl, rfl⟩

set_option maxHeartbeats 400000 in
theorem narrow_big (f : Nat) (z g : Int) (w : World) (h : f < 18446744073709551616) (hn : nan64 f = false) (hb : ((f : Int) == 9221120237041090560) = false) (hz : bits .andNot .u64 (f : Int) 9223372036854775808 = z) (hz1 : 5183643170835005440 ≤ z)
    (hg : bits .or .u32 2139095040 (bits .and .u32 ((f : Int) / 4294967296 % 4294967296) 2147483648) = g) :
    Calls Tryd.prog 25 #[.float .f64 f] w fun e w' => e = .returned (.tuple #[.float .f32 g.toNat, .bool (z == 9218868437227405312)]) ∧ w' = w := by
  have HB : Hid (∀ w, Calls Tryd.prog 18 #[.float .f64 f] w fun e w' => e = .returned (.int .u64 f) ∧ w' = w) := fun w => by
    have := rbits64 f w h; rw [c64_num f hn] at this; exact this
  clear hn h
  go_enter Tryd.func25, Tryd.ntmps25
  go_wp2_with (go_at_call 18; refine (HB.out _).mono ?_; rintro e w' ⟨rfl, rfl⟩)
  go_ret2
  exact ⟨rfl, rfl⟩

set_option maxHeartbeats 400000 in
theorem narrow_isnan (f : Nat) (w : World) (h : f < 18446744073709551616) (hn : nan64 f = true) :
    Calls Tryd.prog 25 #[.float .f64 f] w fun e w' => e = .returned (.tuple #[.float .f32 2143289344, .bool true]) ∧ w' = w := by
  have HB : Hid (∀ w, Calls Tryd.prog 18 #[.float .f64 f] w fun e w' => e = .returned (.int .u64 9221120237041090560) ∧ w' = w) := fun w => by
    have := rbits64 f w h; rw [c64_nan f hn] at this; exact this
  clear hn h
  go_enter Tryd.func25, Tryd.ntmps25
  go_wp2_with (go_at_call 18; refine (HB.out _).mono ?_; rintro e w' ⟨rfl, rfl⟩)
  go_ret2
  exact ⟨rfl, rfl⟩

theorem splitW (x : Nat) (h : x < 18446744073709551616) : ∃ neg r, r < 9223372036854775808 ∧ x = Ieee.double.word neg r ∧ nan64 x = decide (9218868437227405312 < r) ∧ x % 9223372036854775808 = r ∧ decide (9223372036854775808 ≤ x) = neg := by
  obtain ⟨neg, r, hr, rfl⟩ := Fl.word_of Ieee.double x (Nat.lt_of_lt_of_eq h (by decide))
  rw [Fl.sw64] at hr
  refine ⟨neg, r, hr, rfl, ?_, ?_, ?_⟩
  · unfold nan64
    cases neg
    · rw [Fl.word_false, Nat.mod_eq_of_lt hr]
    · rw [Fl.word_true, Fl.sw64, Nat.add_mod_left, Nat.mod_eq_of_lt hr]
  · cases neg
    · rw [Fl.word_false, Nat.mod_eq_of_lt hr]
    · rw [Fl.word_true, Fl.sw64, Nat.add_mod_left, Nat.mod_eq_of_lt hr]
  · cases neg
    · rw [Fl.word_false]; exact decide_eq_false (by omega)
    · rw [Fl.word_true, Fl.sw64]; exact decide_eq_true (by omega)

theorem nan32_word (neg : Bool) (r : Nat) (h : r ≤ 2139095040) : nan32 (Ieee.single.word neg r) = false ∧ Ieee.single.word neg r < 4294967296 := by
  unfold nan32
  cases neg
  · rw [Fl.word_false, Nat.mod_eq_of_lt (by omega)]; exact ⟨decide_eq_false (by omega), by omega⟩
  · rw [Fl.word_true, Fl.sw32, Nat.add_mod_left, Nat.mod_eq_of_lt (by omega)]; exact ⟨decide_eq_false (by omega), by omega⟩

theorem narF_lt (f : Nat) (h : f < 18446744073709551616) : narF f < 4294967296 ∧ (nan64 f = false → nan32 (narF f) = false) := by
  obtain ⟨neg, r, hr, rfl, hx, _, hs⟩ := splitW f h
  unfold narF
  cases hn : nan64 (Ieee.double.word neg r) with
  | true => rw [if_pos rfl]; exact ⟨by decide, fun e => absurd e (by decide)⟩
  | false =>
    simp only [Bool.false_eq_true, if_false, true_implies]
    rw [hn] at hx
    have hle : r ≤ 9218868437227405312 := by simpa using hx.symm
    have hcon : nan32 (if 9223372036854775808 ≤ Ieee.double.word neg r then 4286578688 else 2139095040) = false ∧ (if 9223372036854775808 ≤ Ieee.double.word neg r then 4286578688 else 2139095040) < 4294967296 := by
      split <;> decide
    by_cases hi : r = 9218868437227405312
    · subst hi
      rw [narrow_conv_inf neg]
      have := nan32_word neg 2139095040 (by omega)
      exact ⟨this.2, this.1⟩
    · rw [conv_fin neg r (by omega)]
      by_cases hl : r < 5183643170835005440
      · rw [if_pos hl]
        have := nan32_word neg (rgN r) (Nat.le_of_lt ((rgN_end r (by omega)).2 hl))
        exact ⟨this.2, this.1⟩
      · rw [if_neg hl]
        exact ⟨hcon.2, hcon.1⟩

/-- Narrow, at every number: the nearest narrow one, and whether it says the same. -/
theorem narrow_real (f : Nat) (w : World) (h : f < 18446744073709551616) :
    Calls Tryd.prog 25 #[.float .f64 f] w fun e w' => e = .returned (.tuple #[.float .f32 (narF f), .bool ((c64 (wid (narF f)) : Int) == (c64 f : Int))]) ∧ w' = w := by
  have hlt := narF_lt f h
  cases hn : nan64 f with
  | true =>
    have e : narF f = 2143289344 := by unfold narF; rw [hn]; rfl
    rw [e, c64_nan f hn]
    exact narrow_isnan f w h hn
  | false =>
    have hne : f ≠ 9221120237041090560 := by intro e; subst e; exact absurd hn (by decide)
    have hb : ((f : Int) == 9221120237041090560) = false := by rw [beq_eq_false_iff_ne]; intro e; exact hne (Int.natCast_inj.1 e)
    have hz := andNot64 f h
    obtain ⟨neg, r, hr, hf, hx, hmod, hs⟩ := splitW f h
    rw [hn] at hx
    have hle : r ≤ 9218868437227405312 := by simpa using hx.symm
    rw [hmod] at hz
    by_cases hl : r < 5183643170835005440
    · have hc : floatToFloatBits .f64 f .f32 = some (narF f) := by
        have := conv_fin neg r (by omega)
        rw [if_pos hl, ← hf] at this
        unfold narF
        rw [hn, this]
        rfl
      exact narrow_small f (narF f) (r : Int) w h hn hb hz (by omega) hc hlt.1 (hlt.2 hn)
    · have r1 := narrow_big f (r : Int) _ w h hn hb hz (by omega) (hi32 f h)
      have e : narF f = if 9223372036854775808 ≤ f then 4286578688 else 2139095040 := by
        unfold narF
        rw [hn]
        by_cases hi : r = 9218868437227405312
        · rw [hf, hi, narrow_conv_inf neg]
          cases neg <;> decide
        · have := conv_fin neg r (by omega)
          rw [if_neg hl, ← hf] at this
          rw [this]
          rfl
      have e2 : ((c64 (wid (narF f)) : Int) == (c64 f : Int)) = ((r : Int) == 9218868437227405312) := by
        have hw : narF f = Ieee.single.word neg 2139095040 := by
          rw [e, hf]
          cases neg
          · rw [if_neg (by rw [Fl.word_false]; omega)]; rfl
          · rw [if_pos (by rw [Fl.word_true, Fl.sw64]; omega)]; rfl
        have hwid : c64 (wid (narF f)) = Ieee.double.word neg 9218868437227405312 := by
          rw [hw]; cases neg <;> decide
        rw [hwid, c64_num f hn, hf, Bool.eq_iff_iff, beq_iff_eq, beq_iff_eq]
        constructor
        · intro hh
          have := Fl.word_inj _ _ _ _ (Int.natCast_inj.1 hh)
          omega
        · intro hh
          have : r = 9218868437227405312 := by omega
          rw [this]
      rw [e2, e]
      rw [Int.toNat_natCast] at r1
      exact r1

end Go.Proofs.YtbbikogpfpghbaaDoor
