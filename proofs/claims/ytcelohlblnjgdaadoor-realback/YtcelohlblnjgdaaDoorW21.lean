/- The nearest narrow number, and readings of 32 bits. -/
import Derived.Test.YtcelohlblnjgdaaDoorW20
namespace Go.Proofs.YtcelohlblnjgdaaDoor
open Go.RowKit
attribute [local go_sem] x35 x36 x40 x41

/-- A narrow number, widened and narrowed, is itself. -/
theorem there_back (u : Nat) (h : u < 4294967296) (hn : nan32 u = false) : floatToFloatBits .f64 (wid u) .f32 = some u := by
  obtain ⟨h1, h2, h3⟩ := wid_conv u h hn
  obtain ⟨neg, r, hr, rfl, hx⟩ := split32 u h
  rw [hn] at hx
  have hle : r ≤ 2139095040 := by simpa using hx.symm
  by_cases hi : r = 2139095040
  · subst hi
    have e := widen_inf neg
    rw [h1] at e
    rw [Option.some.inj e]
    exact narrow_conv_inf neg
  · have hlt : r < 2139095040 := by omega
    have e := widen_ok neg r hlt
    rw [h1] at e
    rw [Option.some.inj e]
    have hp := place32 r hlt
    have hm : Fl.magOf Ieee.single r < 16777216 := Nat.lt_of_lt_of_eq (Fl.magOf_lt Ieee.single r) (by decide)
    have hback := Fl.nearest_parts Ieee.single neg r (by rw [Fl.inf32]; exact hlt)
    have hnoinf : (Ieee.single.read (Ieee.single.word neg r)).isInfinity = false := by
      rw [Fl.read_number Ieee.single neg r (by rw [Fl.inf32]; exact hlt)]; rfl
    have hdec : ∃ M P, FloatKind.f64.decode (Ieee.double.nearest neg (Fl.magOf Ieee.single r) (Fl.placeOf Ieee.single r)) = .number neg M P ∧ Ieee.single.nearest neg M P = Ieee.single.word neg r := by
      by_cases h0 : Fl.magOf Ieee.single r = 0
      · rw [h0, Fl.nearest_zero]
        refine ⟨0, _, Fl.read_zero Ieee.double neg, ?_⟩
        rw [h0, Fl.nearest_zero] at hback
        rw [Fl.nearest_zero, hback]
      · have hm53 : Fl.magOf Ieee.single r < 2 ^ (Ieee.double.fractionBits + 1) := Nat.lt_of_lt_of_le hm (by decide)
        have hlp : Ieee.double.leastPlace ≤ Fl.placeOf Ieee.single r := by rw [Fl.lp64]; omega
        have hl23 : (Fl.magOf Ieee.single r).log2 ≤ 23 := by
          have := (Nat.log2_lt h0).2 (Nat.lt_of_lt_of_eq hm (by decide : 16777216 = 2 ^ 24)); omega
        have hrg := Fl.rungOf_lt Ieee.double _ _ h0 hm53 hlp 2000 (by rw [Fl.fb64, Fl.lp64]; omega) (by omega)
        rw [Fl.bi64] at hrg
        have hll := Fl.lastOf_le Ieee.double _ _ hm53 hlp
        refine ⟨_, _, Fl.read_nearest Ieee.double neg _ _ h0 hm53 hlp (by rw [Fl.inf64]; omega), ?_⟩
        rw [Fl.nearest_shift Ieee.single neg _ _ _ h0]
        have e2 : Fl.lastOf Ieee.double (Fl.magOf Ieee.single r) (Fl.placeOf Ieee.single r) + (((Fl.placeOf Ieee.single r - Fl.lastOf Ieee.double (Fl.magOf Ieee.single r) (Fl.placeOf Ieee.single r)).toNat : Nat) : Int) = Fl.placeOf Ieee.single r := by omega
        rw [e2, hback]
    obtain ⟨M, P, hd, hnr⟩ := hdec
    unfold floatToFloatBits
    rw [if_neg (by decide), hd]
    show (if (Ieee.single.read (Ieee.single.nearest neg M P)).isInfinity = true then none else some (Ieee.single.nearest neg M P)) = _
    rw [hnr, hnoinf]
    rfl

/-- What the conversion of a number too great makes: some bits. -/
def overOf (x : Nat) (w : World) : Nat := (Question.floatToFloat x).cut (w.tape w.drawn (.floatToFloat x))
def narV (x : Nat) (w : World) : Nat := (floatToFloatBits .f64 x .f32).getD (overOf x w)
def narK (x : Nat) : Nat := if (floatToFloatBits .f64 x .f32).isSome then 0 else 1

theorem read_num64 (x : Nat) (h : x < 18446744073709551616) (hn : nan64 x = false) : (∃ s, FloatKind.f64.decode x = .infinity s) ∨ ∃ s m e, FloatKind.f64.decode x = .number s m e := by
  obtain ⟨neg, r, hr, rfl⟩ := Fl.word_of Ieee.double x (Nat.lt_of_lt_of_eq h (by decide))
  rw [Fl.sw64] at hr
  have hle : r ≤ 9218868437227405312 := by
    unfold nan64 at hn
    rw [decide_eq_false_iff_not] at hn
    cases neg
    · rw [Fl.word_false, Nat.mod_eq_of_lt hr] at hn; omega
    · rw [Fl.word_true, Fl.sw64, Nat.add_mod_left, Nat.mod_eq_of_lt hr] at hn; omega
  by_cases hi : r = 9218868437227405312
  · subst hi; exact .inl ⟨neg, Fl.read_inf Ieee.double neg Fl.bi_le64⟩
  · exact .inr ⟨neg, _, _, Fl.read_number Ieee.double neg r (by rw [Fl.inf64]; omega)⟩

theorem run_narrow (x : Nat) (w : World) (h : x < 18446744073709551616) (hn : nan64 x = false) :
    (convert 23 25 (.float .f64 x)).run Tryd.prog w = .ok (.float .f32 (narV x w)) (w.drewN (narK x)) := by
  have hus : (Tryd.prog.underlying 23).isSome = true := by kernel_rfl
  unfold narV narK
  cases hf : floatToFloatBits .f64 x .f32 with
  | some r => exact run_convert_float_float w 23 25 .f64 .f32 x r hus Tryd.underlying25 hf
  | none =>
    rcases read_num64 x h hn with ⟨s, hd⟩ | ⟨s, m, e, hd⟩
    · unfold floatToFloatBits at hf
      rw [if_neg (by decide), hd] at hf
      simp at hf
    · have hov : (FloatKind.f32.decode (FloatKind.f32.encode (.number s m e))).isInfinity = true := by
        unfold floatToFloatBits at hf
        rw [if_neg (by decide), hd] at hf
        simp only at hf
        split at hf
        · assumption
        · simp at hf
      have ec : (Conv.floatToFloat .f64 x .f32).run Tryd.prog w = .ok (.float .f32 (overOf x w)) w.drew := by
        unfold Conv.floatToFloat
        rw [if_neg (by decide), hd]
        simp only [hov, if_true]
        rfl
      have hs' := Tryd.underlying23
      show _ = Result.ok (Value.float .f32 (overOf x w)) w.drew
      simp [convert, run_underlying hs', run_underlying Tryd.underlying25, ec]

theorem narV_lt (x : Nat) (w : World) : narV x w < 4294967296 := by
  unfold narV
  cases hf : floatToFloatBits .f64 x .f32 with
  | some r =>
    unfold floatToFloatBits at hf
    rw [if_neg (by decide)] at hf
    have key : ∀ d, (Lit.float .f32 (FloatKind.f32.encode d)).wf = true := fun d => encode_wf .f32 d
    split at hf
    · simp at hf
    · cases hf
      have := key (.infinity ‹_›)
      simp [Lit.wf] at this
      exact Nat.lt_of_lt_of_eq this (by decide)
    · split at hf
      · simp at hf
      · cases hf
        rename_i s m e _ _
        have := key (.number s m e)
        simp [Lit.wf] at this
        exact Nat.lt_of_lt_of_eq this (by decide)
  | none =>
    show overOf x w < 4294967296
    unfold overOf Question.cut
    exact Nat.lt_of_lt_of_eq (Nat.mod_lt _ (by decide)) (by decide)

/-- The widening of whatever narrow bits. -/
def widW (x : Nat) (w : World) : Nat := if nan32 x then nanConvOf .f64 x w else wid x
def widK (x : Nat) : Nat := if nan32 x then 1 else 0
theorem run_wid (x : Nat) (w : World) (h : x < 4294967296) : (convert 25 23 (.float .f32 x)).run Tryd.prog w = .ok (.float .f64 (widW x w)) (w.drewN (widK x)) := by
  have hus : (Tryd.prog.underlying 25).isSome = true := by kernel_rfl
  unfold widW widK
  cases hx : nan32 x with
  | true =>
    obtain ⟨neg, fr, hd⟩ := read_nan32 x h hx
    exact run_conv_nan Tryd.prog w 25 23 .f32 .f64 x hus Tryd.underlying23 (by decide) neg fr hd
  | false => exact run_convert_float_float w 25 23 .f32 .f64 _ _ hus Tryd.underlying23 (wid_conv x h hx).1
theorem widW_c (x : Nat) (w : World) (h : x < 4294967296) : widW x w < 18446744073709551616 ∧ c64 (widW x w) = c64 (wid x) := by
  unfold widW
  cases hx : nan32 x with
  | true =>
    have hv := nanConv64 x w
    refine ⟨hv.2, ?_⟩
    rw [if_pos rfl, c64_nan _ hv.1]
    unfold wid
    rw [hx, if_pos rfl]
    decide
  | false => exact ⟨(wid_conv x h hx).2.1, rfl⟩

set_option maxHeartbeats 400000 in
theorem narrow_num (f : Nat) (w : World) (h : f < 18446744073709551616) (hn : nan64 f = false) :
    Calls Tryd.prog 24 #[.float .f64 f] w fun e w' => e = .returned (.tuple #[.float .f32 (narV f w), .bool ((c64 (wid (narV f w)) : Int) == (c64 f : Int))]) ∧ ∃ k, w' = w.drewN k := by
  have ho := nan64_order f h
  rw [hn] at ho
  have hc := fun w => run_narrow f w h hn
  have hg := narV_lt f w
  have hw := fun W => run_wid (narV f w) W hg
  have HC : Hid (∀ W W', Calls Tryd.prog 19 #[.float .f64 (widW (narV f w) W), .float .f64 f] W' fun e w' => e = .returned (.bool ((c64 (wid (narV f w)) : Int) == (c64 f : Int))) ∧ w' = W') := fun W W' => by
    obtain ⟨h1, h2⟩ := widW_c (narV f w) W hg
    have := rsame64 (widW (narV f w) W) f W' h1 h
    rw [h2] at this
    exact this
  clear h hn hg
  go_enter Tryd.func24, Tryd.ntmps24
  go_wp2_with (go_at_call 19; refine (HC.out _ _).mono ?_; rintro e w' ⟨rfl, rfl⟩)
  go_ret2
  exact ⟨rfl, _, rfl⟩

set_option maxHeartbeats 400000 in
theorem narrow_isnan (f : Nat) (w : World) (ho : (FloatKind.f64.format.order f f != some .eq) = true) :
    Calls Tryd.prog 24 #[.float .f64 f] w fun e w' => e = .returned (.tuple #[.float .f32 2143289344, .bool true]) ∧ w' = w := by
  go_enter Tryd.func24, Tryd.ntmps24
  go_wp2
  go_ret2
  exact ⟨rfl, rfl⟩

/-- Narrow: some narrow number, and whether it says the same; where a narrow one does, that one. -/
theorem narrow_any (f : Nat) (w : World) (h : f < 18446744073709551616) :
    Calls Tryd.prog 24 #[.float .f64 f] w fun e w' => ∃ g k, g < 4294967296 ∧ (∀ u, u < 4294967296 → nan32 u = false → wid u = f → g = u) ∧ (nan64 f = true → g = 2143289344) ∧ e = .returned (.tuple #[.float .f32 g, .bool ((c64 (wid g) : Int) == (c64 f : Int))]) ∧ w' = w.drewN k := by
  cases hn : nan64 f with
  | true =>
    have ho := nan64_order f h
    rw [hn] at ho
    refine (narrow_isnan f w ho).mono fun e w' ⟨h1, h2⟩ => ⟨2143289344, 0, by omega, ?_, fun _ => rfl, ?_, h2⟩
    · intro u hu hun hw
      have := (wid_conv u hu hun).2.2
      rw [hw, hn] at this
      exact absurd this (by decide)
    · rw [h1, c64_nan f hn]
      rfl
  | false =>
    refine (narrow_num f w h hn).mono fun e w' ⟨h1, k, h2⟩ => ⟨narV f w, k, narV_lt f w, ?_, fun hh => absurd hh (by decide), h1, h2⟩
    intro u hu hun hw
    unfold narV
    rw [← hw, there_back u hu hun]
    rfl

end Go.Proofs.YtcelohlblnjgdaaDoor
