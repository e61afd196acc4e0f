/- The nearest narrow number, and readings of 32 bits. -/
import Derived.Test.YtbbikogpfpghbaaDoorW20
namespace Go.Proofs.YtbbikogpfpghbaaDoor
open Go.RowKit
attribute [local go_sem] x35 x36 x40 x41

/-- A narrow number, widened and narrowed, is itself. -/
theorem there_back (u : Nat) (h : u < 4294967296) (hn : nan32 u = false) : floatToFloatBits .f64 (wid u) .f32 = some u := by
  obtain ⟨h1, h2, h3⟩ := wid_conv u h hn
  obtain ⟨neg, r, hr, rfl, hx⟩ := split32 u h
  rw [hn] at hx
  have hle : r ≤ 2139095040 := by simpa using hx.symm
  by_cases hi : r = 2139095040
  · subst hi
    have e := widen_inf neg
    rw [h1] at e
    rw [Option.some.inj e]
    exact narrow_conv_inf neg
  · have hlt : r < 2139095040 := by omega
    have e := widen_ok neg r hlt
    rw [h1] at e
    rw [Option.some.inj e]
    have hp := place32 r hlt
    have hm : Fl.magOf Ieee.single r < 16777216 := Nat.lt_of_lt_of_eq (Fl.magOf_lt Ieee.single r) (by decide)
    have hback := Fl.nearest_parts Ieee.single neg r (by rw [Fl.inf32]; exact hlt)
    have hnoinf : (Ieee.single.read (Ieee.single.word neg r)).isInfinity = false := by
      rw [Fl.read_number Ieee.single neg r (by rw [Fl.inf32]; exact hlt)]; rfl
    have hdec : ∃ M P, FloatKind.f64.decode (Ieee.double.nearest neg (Fl.magOf Ieee.single r) (Fl.placeOf Ieee.single r)) = .number neg M P ∧ Ieee.single.nearest neg M P = Ieee.single.word neg r := by
      by_cases h0 : Fl.magOf Ieee.single r = 0
      · rw [h0, Fl.nearest_zero]
        refine ⟨0, _, Fl.read_zero Ieee.double neg, ?_⟩
        rw [h0, Fl.nearest_zero] at hback
        rw [Fl.nearest_zero, hback]
      · have hm53 : Fl.magOf Ieee.single r < 2 ^ (Ieee.double.fractionBits + 1) := Nat.lt_of_lt_of_le hm (by decide)
        have hlp : Ieee.double.leastPlace ≤ Fl.placeOf Ieee.single r := by rw [Fl.lp64]; omega
        have hl23 : (Fl.magOf Ieee.single r).log2 ≤ 23 := by
          have := (Nat.log2_lt h0).2 (Nat.lt_of_lt_of_eq hm (by decide : 16777216 = 2 ^ 24)); omega
        have hrg := Fl.rungOf_lt Ieee.double _ _ h0 hm53 hlp 2000 (by rw [Fl.fb64, Fl.lp64]; omega) (by omega)
        rw [Fl.bi64] at hrg
        have hll := Fl.lastOf_le Ieee.double _ _ hm53 hlp
        refine ⟨_, _, Fl.read_nearest Ieee.double neg _ _ h0 hm53 hlp (by rw [Fl.inf64]; omega), ?_⟩
        rw [Fl.nearest_shift Ieee.single neg _ _ _ h0]
        have e2 : Fl.lastOf Ieee.double (Fl.magOf Ieee.single r) (Fl.placeOf Ieee.single r) + (((Fl.placeOf Ieee.single r - Fl.lastOf Ieee.double (Fl.magOf Ieee.single r) (Fl.placeOf Ieee.single r)).toNat : Nat) : Int) = Fl.placeOf Ieee.single r := by omega
        rw [e2, hback]
    obtain ⟨M, P, hd, hnr⟩ := hdec
    unfold floatToFloatBits
    rw [if_neg (by decide), hd]
    show (if (Ieee.single.read (Ieee.single.nearest neg M P)).isInfinity = true then none else some (Ieee.single.nearest neg M P)) = _
    rw [hnr, hnoinf]
    rfl

/-- The widening of whatever narrow bits. -/
def widW (x : Nat) (w : World) : Nat := if nan32 x then nanConvOf .f64 x w else wid x
def widK (x : Nat) : Nat := if nan32 x then 1 else 0
theorem run_wid (x : Nat) (w : World) (h : x < 4294967296) : (convert 25 23 (.float .f32 x)).run Tryd.prog w = .ok (.float .f64 (widW x w)) (w.drewN (widK x)) := by
  have hus : (Tryd.prog.underlying 25).isSome = true := by kernel_rfl
  unfold widW widK
  cases hx : nan32 x with
  | true =>
    obtain ⟨neg, fr, hd⟩ := read_nan32 x h hx
    exact run_conv_nan Tryd.prog w 25 23 .f32 .f64 x hus Tryd.underlying23 (by decide) neg fr hd
  | false => exact run_convert_float_float w 25 23 .f32 .f64 _ _ hus Tryd.underlying23 (wid_conv x h hx).1
theorem widW_c (x : Nat) (w : World) (h : x < 4294967296) : widW x w < 18446744073709551616 ∧ c64 (widW x w) = c64 (wid x) := by
  unfold widW
  cases hx : nan32 x with
  | true =>
    have hv := nanConv64 x w
    refine ⟨hv.2, ?_⟩
    rw [if_pos rfl, c64_nan _ hv.1]
    unfold wid
    rw [hx, if_pos rfl]
    decide
  | false => exact ⟨(wid_conv x h hx).2.1, rfl⟩

/-- Narrow: some narrow number, and whether it says the same; where a narrow one does, that one. -/
theorem narrow_any (f : Nat) (w : World) (h : f < 18446744073709551616) :
    Calls Tryd.prog 25 #[.float .f64 f] w fun e w' => ∃ g k, g < 4294967296 ∧ (∀ u, u < 4294967296 → nan32 u = false → wid u = f → g = u) ∧ (nan64 f = true → g = 2143289344) ∧ e = .returned (.tuple #[.float .f32 g, .bool ((c64 (wid g) : Int) == (c64 f : Int))]) ∧ w' = w.drewN k := by
  refine (narrow_real f w h).mono fun e w' ⟨h1, h2⟩ => ⟨narF f, 0, (narF_lt f h).1, ?_, ?_, h1, h2⟩
  · intro u hu hun hw
    unfold narF
    rw [← hw, (wid_conv u hu hun).2.2, there_back u hu hun]
    rfl
  · intro hn
    unfold narF
    rw [hn]
    rfl

end Go.Proofs.YtbbikogpfpghbaaDoor
