/- What the document's own answer for numbers of 64 bits computes: the bits of a number, told by halving and doubling it. -/
import Derived.Test.YthnnmgiihpdblaaDoorRows
import Derived.Test.YthnnmgiihpdblaaDoorFl
import Derived.WalkKit
import Derived.WalkSpells
import Derived.WalkLawsBesides
namespace Go.Proofs.YthnnmgiihpdblaaDoor
open Go.RowKit
set_option maxRecDepth 100000

theorem unary_negf (k : FloatKind) (b : Nat) : Op.unary .neg (.float k b) = pure (.float k (Op.negFloat k b)) := rfl
attribute [local go_sem] unary_negf

theorem ari (op : BinOp) (t : TypeId) (k : FloatKind) (x y r : Nat) (h : floatBits op k x y = some r) : ∀ w, (binOp op t (.float k x) (.float k y)).run Tryd.prog w = .ok (.float k r) w :=
  fun w => run_float_arith w op t k x y r h

theorem neg_true (r : Nat) (h : r < 9223372036854775808) : Op.negFloat .f64 (Ieee.double.word true r) = r := by
  show (2 ^ 63 + r) ^^^ 2 ^ 63 = r
  exact Fl.xor_top' 63 r (by omega)

set_option maxHeartbeats 400000 in
theorem half_pos (r : Nat) (w : World) (h0 : 0 < r) (h : r ≤ 9218868437227405312) :
    Calls Tryd.prog 44 #[.float .f64 r] w fun e w' => e = .returned (.tuple #[.bool false, .float .f64 r]) ∧ w' = w := by
  have ho : FloatKind.f64.format.order r 0 = some .gt := by
    show Ieee.double.order r 0 = _
    rw [Fl.ordPos Ieee.double r 0 h (by rw [Fl.inf64]; omega) Fl.bi_le64, Nat.compare_eq_gt.2 h0]
  go_enter Tryd.func44, Tryd.ntmps44
  go_wp2
  go_ret2
  exact ⟨rfl, rfl⟩

set_option maxHeartbeats 400000 in
theorem half_neg (r : Nat) (w : World) (h0 : 0 < r) (h : r ≤ 9218868437227405312) :
    Calls Tryd.prog 44 #[.float .f64 (Ieee.double.word true r)] w fun e w' => e = .returned (.tuple #[.bool true, .float .f64 r]) ∧ w' = w := by
  have ho : FloatKind.f64.format.order (Ieee.double.word true r) 0 = some .lt := Fl.ordNeg Ieee.double r h h0 Fl.bi_le64
  have hn := neg_true r (by omega)
  go_enter Tryd.func44, Tryd.ntmps44
  go_wp2
  go_ret2
  exact ⟨rfl, rfl⟩

set_option maxHeartbeats 400000 in
theorem half_zero_pos (w : World) :
    Calls Tryd.prog 44 #[.float .f64 0] w fun e w' => e = .returned (.tuple #[.bool false, .float .f64 0]) ∧ w' = w := by
  have ho : FloatKind.f64.format.order 0 0 = some .eq := Fl.ordZero Ieee.double false
  have hq := ari .quo 23 .f64 4607182418800017408 0 9218868437227405312 (Fl.div_zero Ieee.double false 4607182418800017408 4503599627370496 (-52) (by omega) (by decide))
  have hi : FloatKind.f64.format.order 9218868437227405312 0 = some .gt := by decide
  go_enter Tryd.func44, Tryd.ntmps44
  go_wp2
  go_ret2
  exact ⟨rfl, rfl⟩

set_option maxHeartbeats 400000 in
theorem half_zero_neg (w : World) :
    Calls Tryd.prog 44 #[.float .f64 (Ieee.double.word true 0)] w fun e w' => e = .returned (.tuple #[.bool true, .float .f64 0]) ∧ w' = w := by
  have ho : FloatKind.f64.format.order (Ieee.double.word true 0) 0 = some .eq := Fl.ordZero Ieee.double true
  have hq := ari .quo 23 .f64 4607182418800017408 (Ieee.double.word true 0) (Ieee.double.word true 9218868437227405312) (Fl.div_zero Ieee.double true 4607182418800017408 4503599627370496 (-52) (by omega) (by decide))
  have hi : FloatKind.f64.format.order (Ieee.double.word true 9218868437227405312) 0 = some .lt := by decide
  have hn := neg_true 0 (by omega)
  go_enter Tryd.func44, Tryd.ntmps44
  go_wp2
  go_ret2
  exact ⟨rfl, rfl⟩

/-- half: the sign, and the rung alone. -/
theorem half_any (neg : Bool) (r : Nat) (w : World) (h : r ≤ 9218868437227405312) :
    Calls Tryd.prog 44 #[.float .f64 (Ieee.double.word neg r)] w fun e w' => e = .returned (.tuple #[.bool neg, .float .f64 r]) ∧ w' = w := by
  by_cases h0 : r = 0
  · subst h0
    cases neg
    · exact half_zero_pos w
    · exact half_zero_neg w
  · cases neg
    · exact half_pos r w (by omega) h
    · exact half_neg r w (by omega) h

set_option maxHeartbeats 400000 in
theorem infinite_no (r : Nat) (w : World) (h : r < 9218868437227405312) :
    Calls Tryd.prog 45 #[.float .f64 r] w fun e w' => e = .returned (.bool false) ∧ w' = w := by
  by_cases h0 : r = 0
  · subst h0
    have ho : FloatKind.f64.format.order 0 0 = some .eq := Fl.ordZero Ieee.double false
    go_enter Tryd.func45, Tryd.ntmps45
    go_wp2
    go_ret
    exact ⟨rfl, rfl⟩
  · have ho : FloatKind.f64.format.order r 0 = some .gt := by
      show Ieee.double.order r 0 = _
      rw [Fl.ordPos Ieee.double r 0 (by rw [Fl.inf64]; omega) (by rw [Fl.inf64]; omega) Fl.bi_le64, Nat.compare_eq_gt.2 (by omega)]
    obtain ⟨r', hd, hlt⟩ := Fl.hlv_lt Ieee.double 4611686018427387904 Fl.two64 r (by omega) h
    have hq := ari .quo 23 .f64 r 4611686018427387904 r' hd
    have hc : FloatKind.f64.format.order r' r = some .lt := by
      show Ieee.double.order r' r = _
      rw [Fl.ordPos Ieee.double r' r (by rw [Fl.inf64]; omega) (by rw [Fl.inf64]; omega) Fl.bi_le64, Nat.compare_eq_lt.2 hlt]
    clear hd
    go_enter Tryd.func45, Tryd.ntmps45
    go_wp2
    go_ret
    exact ⟨rfl, rfl⟩

set_option maxHeartbeats 400000 in
theorem infinite_yes (w : World) :
    Calls Tryd.prog 45 #[.float .f64 9218868437227405312] w fun e w' => e = .returned (.bool true) ∧ w' = w := by
  have ho : FloatKind.f64.format.order 9218868437227405312 0 = some .gt := by decide
  have hq := ari .quo 23 .f64 9218868437227405312 4611686018427387904 9218868437227405312 (Fl.hlv_inf Ieee.double 4611686018427387904 Fl.two64 Fl.bi_le64)
  have hc : FloatKind.f64.format.order 9218868437227405312 9218868437227405312 = some .eq := by decide
  go_enter Tryd.func45, Tryd.ntmps45
  go_wp2
  go_ret
  exact ⟨rfl, rfl⟩

end Go.Proofs.YthnnmgiihpdblaaDoor
