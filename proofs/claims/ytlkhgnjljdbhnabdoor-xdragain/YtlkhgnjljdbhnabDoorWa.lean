/- What the document's own answer for numbers of 64 bits computes: the bits of a number, told by halving and doubling it. What the document's own answer for numbers of 64 bits computes: the bits of a number, told by halving and doubling it. What the document's own answer for numbers of 64 bits computes, at the least numbers, at 0, at the infinite ones and at NaN; and so at every number. The document's own way from bits of 64 to a number. The document's own answer for numbers of 32 bits: their bits. The package's own calls on bits, and the statement's helpers. The package's texts of numbers: what Print64 and Print32 tell. -/
import Derived.Test.YtlkhgnjljdbhnabDoorRows
import Derived.Test.YtlkhgnjljdbhnabDoorFl
import Derived.WalkKit
import Derived.WalkSpells
import Derived.WalkLawsBesides
import Derived.Laws.BitsAllLaws
import Derived.Lib.ItoaMem
namespace Go.Proofs.YtlkhgnjljdbhnabDoor
open Go.RowKit
set_option maxRecDepth 100000
theorem unary_negf (k : FloatKind) (b : Nat) : Op.unary .neg (.float k b) = pure (.float k (Op.negFloat k b)) := rfl
attribute [local go_sem] unary_negf

end Go.Proofs.YtlkhgnjljdbhnabDoor
namespace Go.Proofs.YtlkhgnjljdbhnabDoor
open Go.RowKit
/-- The rung of an exponent and a fraction. -/
def R (E F : Nat) : Nat := E * 4503599627370496 + F
end Go.Proofs.YtlkhgnjljdbhnabDoor
namespace Go.Proofs.YtlkhgnjljdbhnabDoor
open Go.RowKit
/-- One of the least numbers, doubled j times. -/
def S (r j : Nat) : Nat := Ieee.double.nearest false r (-1074 + (j : Int))

/-- Is a number of these bits none? -/
def nan64 (x : Nat) : Bool := decide (9218868437227405312 < x % 9223372036854775808)
/-- The bits that are told. -/
def c64 (x : Nat) : Nat := if nan64 x then 9221120237041090560 else x

theorem nan64_order (x : Nat) (h : x < 18446744073709551616) : (FloatKind.f64.format.order x x != some .eq) = nan64 x := by
  obtain ⟨neg, r, hr, rfl⟩ := Fl.word_of Ieee.double x (Nat.lt_of_lt_of_eq h (by decide))
  show (Ieee.double.order _ _ != some .eq) = _
  rw [Fl.order_self Ieee.double neg r hr Fl.bi_le64, Fl.inf64]
  rw [Fl.sw64] at hr
  unfold nan64
  cases neg
  · rw [Fl.word_false, Nat.mod_eq_of_lt hr]
  · rw [Fl.word_true, Fl.sw64, Nat.add_mod_left, Nat.mod_eq_of_lt hr]

end Go.Proofs.YtlkhgnjljdbhnabDoor
namespace Go.Proofs.YtlkhgnjljdbhnabDoor
open Go.RowKit
attribute [local go_sem] unary_negf

/-- The NaN that the language makes of an invalid operation: some bits. -/
def nanOf (k : FloatKind) (x y : Nat) (w : World) : Nat := (Question.nanBits k x y).cut (w.tape w.drawn (.nanBits k x y))

theorem run_float_invalid (P : Program) (w : World) (op : BinOp) (ho : op = .add ∨ op = .sub ∨ op = .mul ∨ op = .quo) (t : TypeId) (k : FloatKind) (x y : Nat) (h : floatBits op k x y = none) :
    (binOp op t (.float k x) (.float k y)).run P w = .ok (.float k (nanOf k x y w)) w.drew := by
  unfold floatBits at h
  rcases ho with rfl | rfl | rfl | rfl
  all_goals
    simp only at h
    simp only [binOp, Op.floatArith, h, Go.choose, ne_eq, not_true_eq_false, if_false]
    rfl

theorem nanOf64 (x y : Nat) (w : World) : nan64 (nanOf .f64 x y w) = true ∧ nanOf .f64 x y w < 18446744073709551616 := by
  unfold nanOf Question.cut nan64
  generalize w.tape w.drawn (.nanBits .f64 x y) = t
  have h1 : t % 2 < 2 := Nat.mod_lt _ (by omega)
  have e1 : (2 : Nat) ^ 52 - 1 = 4503599627370495 := by decide
  have e2 : (2 : Nat) ^ 63 = 9223372036854775808 := by decide
  simp only [e1, e2]
  have h2 : t / 2 % 4503599627370495 < 4503599627370495 := Nat.mod_lt _ (by omega)
  have e3 : (0x7ff0000000000000 : Nat) = 9218868437227405312 := rfl
  rw [e3, decide_eq_true_eq]
  generalize t / 2 % 4503599627370495 = u at *
  generalize t % 2 = v at *
  refine ⟨?_, by omega⟩
  rcases (by omega : v = 0 ∨ v = 1) with rfl | rfl
  · rw [Nat.zero_mul, Nat.zero_add, Nat.mod_eq_of_lt (by omega)]; omega
  · rw [Nat.one_mul, Nat.add_assoc, Nat.add_assoc, Nat.add_mod_left, Nat.mod_eq_of_lt (by omega)]; omega

/-- A whole number, halved j times. -/
def T (F : Nat) (j : Int) : Nat := Ieee.double.nearest false F (-j)

theorem inv_zero : floatBits .quo .f64 0 0 = none := by decide

end Go.Proofs.YtlkhgnjljdbhnabDoor
namespace Go.Proofs.YtlkhgnjljdbhnabDoor
open Go.RowKit
/-- Is a number of these bits of 32 none? -/
def nan32 (x : Nat) : Bool := decide (2139095040 < x % 2147483648)
def c32 (x : Nat) : Nat := if nan32 x then 2143289344 else x

theorem c64_num (x : Nat) (h : nan64 x = false) : c64 x = x := by unfold c64; rw [h]; rfl
theorem c64_nan (x : Nat) (h : nan64 x = true) : c64 x = 9221120237041090560 := by unfold c64; rw [h]; rfl

theorem split32 (x : Nat) (h : x < 4294967296) : ∃ neg r, r < 2147483648 ∧ x = Ieee.single.word neg r ∧ nan32 x = decide (2139095040 < r) := by
  obtain ⟨neg, r, hr, rfl⟩ := Fl.word_of Ieee.single x (Nat.lt_of_lt_of_eq h (by decide))
  rw [Fl.sw32] at hr
  refine ⟨neg, r, hr, rfl, ?_⟩
  unfold nan32
  cases neg
  · rw [Fl.word_false, Nat.mod_eq_of_lt hr]
  · rw [Fl.word_true, Fl.sw32, Nat.add_mod_left, Nat.mod_eq_of_lt hr]

end Go.Proofs.YtlkhgnjljdbhnabDoor
namespace Go.Proofs.YtlkhgnjljdbhnabDoor
open Go.RowKit
attribute [local go_sem] unary_negf

theorem x35 (n : Int) (w : World) : (callFunc 69 #[.int .u64 n]).run Tryd.prog w = .ok (.value (.float .f64 n.toNat)) w := by kernel_rfl
theorem x36 (n : Int) (w : World) : (callFunc 67 #[.int .u32 n]).run Tryd.prog w = .ok (.value (.float .f32 n.toNat)) w := by kernel_rfl
theorem x40 (x : Nat) (w : World) : (callFunc 68 #[.float .f64 x]).run Tryd.prog w = .ok (.value (.int .u64 x)) w := by kernel_rfl
theorem x41 (x : Nat) (w : World) : (callFunc 66 #[.float .f32 x]).run Tryd.prog w = .ok (.value (.int .u32 x)) w := by kernel_rfl
attribute [local go_sem] x35 x36 x40 x41

theorem nan32_order (x : Nat) (h : x < 4294967296) : (FloatKind.f32.format.order x x != some .eq) = nan32 x := by
  obtain ⟨neg, r, hr, rfl, hx⟩ := split32 x h
  show (Ieee.single.order _ _ != some .eq) = _
  rw [Fl.order_self Ieee.single neg r (by rw [Fl.sw32]; exact hr) Fl.bi_le32, Fl.inf32, hx]

set_option maxHeartbeats 400000 in
theorem rbits64_nan (x : Nat) (w : World) (h : (FloatKind.f64.format.order x x != some .eq) = true) :
    Calls Tryd.prog 58 #[.float .f64 x] w fun e w' => e = .returned (.int .u64 9221120237041090560) ∧ w' = w := by
  go_enter Tryd.func58, Tryd.ntmps58
  go_wp2
  go_ret
  exact ⟨rfl, rfl⟩
set_option maxHeartbeats 400000 in
theorem rbits64_num (x : Nat) (w : World) (h : (FloatKind.f64.format.order x x != some .eq) = false) :
    Calls Tryd.prog 58 #[.float .f64 x] w fun e w' => e = .returned (.int .u64 x) ∧ w' = w := by
  go_enter Tryd.func58, Tryd.ntmps58
  go_wp2
  go_ret
  exact ⟨rfl, rfl⟩
theorem rbits64 (x : Nat) (w : World) (h : x < 18446744073709551616) :
    Calls Tryd.prog 58 #[.float .f64 x] w fun e w' => e = .returned (.int .u64 (c64 x)) ∧ w' = w := by
  have hn := nan64_order x h
  cases hx : nan64 x with
  | true => rw [hx] at hn; rw [c64_nan x hx]; exact rbits64_nan x w hn
  | false => rw [hx] at hn; rw [c64_num x hx]; exact rbits64_num x w hn

set_option maxHeartbeats 400000 in
theorem rbits32_nan (x : Nat) (w : World) (h : (FloatKind.f32.format.order x x != some .eq) = true) :
    Calls Tryd.prog 54 #[.float .f32 x] w fun e w' => e = .returned (.int .u32 2143289344) ∧ w' = w := by
  go_enter Tryd.func54, Tryd.ntmps54
  go_wp2
  go_ret
  exact ⟨rfl, rfl⟩
set_option maxHeartbeats 400000 in
theorem rbits32_num (x : Nat) (w : World) (h : (FloatKind.f32.format.order x x != some .eq) = false) :
    Calls Tryd.prog 54 #[.float .f32 x] w fun e w' => e = .returned (.int .u32 x) ∧ w' = w := by
  go_enter Tryd.func54, Tryd.ntmps54
  go_wp2
  go_ret
  exact ⟨rfl, rfl⟩
theorem c32_nan (x : Nat) (h : nan32 x = true) : c32 x = 2143289344 := by unfold c32; rw [h]; rfl
theorem c32_num (x : Nat) (h : nan32 x = false) : c32 x = x := by unfold c32; rw [h]; rfl
theorem rbits32 (x : Nat) (w : World) (h : x < 4294967296) :
    Calls Tryd.prog 54 #[.float .f32 x] w fun e w' => e = .returned (.int .u32 (c32 x)) ∧ w' = w := by
  have hn := nan32_order x h
  cases hx : nan32 x with
  | true => rw [hx] at hn; rw [c32_nan x hx]; exact rbits32_nan x w hn
  | false => rw [hx] at hn; rw [c32_num x hx]; exact rbits32_num x w hn

theorem andNot64 (n : Nat) (h : n < 18446744073709551616) : bits .andNot .u64 (n : Int) 9223372036854775808 = ((n % 9223372036854775808 : Nat) : Int) := by
  have e := u64_andNot_nat n 9223372036854775808 h (by omega)
  have e2 : n &&& (18446744073709551615 - 9223372036854775808) = n % 9223372036854775808 := Nat.and_two_pow_sub_one_eq_mod n 63
  rw [e2] at e
  exact e
theorem andNot32 (n : Nat) (h : n < 4294967296) : bits .andNot .u32 (n : Int) 2147483648 = ((n % 2147483648 : Nat) : Int) := by
  have e := u32_andNot_nat n 2147483648 h (by omega)
  have e2 : n &&& (4294967295 - 2147483648) = n % 2147483648 := Nat.and_two_pow_sub_one_eq_mod n 31
  rw [e2] at e
  exact e

set_option maxHeartbeats 400000 in
theorem rfrom64_core (b c : Int) (w : World) (hc : bits .andNot .u64 b 9223372036854775808 = c) (h : c ≤ 9218868437227405312 ∨ (b != 9221120237041090560) = false) :
    Calls Tryd.prog 59 #[.int .u64 b] w fun e w' => e = .returned (.tuple #[.float .f64 b.toNat, .int .i64 0]) ∧ w' = w := by
  rcases h with h | h
  · go_enter Tryd.func59, Tryd.ntmps59
    go_wp2
    go_ret2
    exact ⟨rfl, rfl⟩
  · by_cases h2 : 9218868437227405312 < c
    · go_enter Tryd.func59, Tryd.ntmps59
      go_wp2
      go_ret2
      exact ⟨rfl, rfl⟩
    · have h3 : c ≤ 9218868437227405312 := by omega
      go_enter Tryd.func59, Tryd.ntmps59
      go_wp2
      go_ret2
      exact ⟨rfl, rfl⟩
set_option maxHeartbeats 400000 in
theorem rfrom64_bad_core (b c : Int) (w : World) (hc : bits .andNot .u64 b 9223372036854775808 = c) (h : 9218868437227405312 < c) (h2 : (b != 9221120237041090560) = true) :
    Calls Tryd.prog 59 #[.int .u64 b] w fun e w' => e = .returned (.tuple #[.float .f64 0, .int .i64 10]) ∧ w' = w := by
  go_enter Tryd.func59, Tryd.ntmps59
  go_wp2
  go_ret2
  exact ⟨rfl, rfl⟩
set_option maxHeartbeats 400000 in
theorem rfrom32_core (b c : Int) (w : World) (hc : bits .andNot .u32 b 2147483648 = c) (h : c ≤ 2139095040 ∨ (b != 2143289344) = false) :
    Calls Tryd.prog 57 #[.int .u32 b] w fun e w' => e = .returned (.tuple #[.float .f32 b.toNat, .int .i64 0]) ∧ w' = w := by
  rcases h with h | h
  · go_enter Tryd.func57, Tryd.ntmps57
    go_wp2
    go_ret2
    exact ⟨rfl, rfl⟩
  · by_cases h2 : 2139095040 < c
    · go_enter Tryd.func57, Tryd.ntmps57
      go_wp2
      go_ret2
      exact ⟨rfl, rfl⟩
    · have h3 : c ≤ 2139095040 := by omega
      go_enter Tryd.func57, Tryd.ntmps57
      go_wp2
      go_ret2
      exact ⟨rfl, rfl⟩
set_option maxHeartbeats 400000 in
theorem rfrom32_bad_core (b c : Int) (w : World) (hc : bits .andNot .u32 b 2147483648 = c) (h : 2139095040 < c) (h2 : (b != 2143289344) = true) :
    Calls Tryd.prog 57 #[.int .u32 b] w fun e w' => e = .returned (.tuple #[.float .f32 0, .int .i64 10]) ∧ w' = w := by
  go_enter Tryd.func57, Tryd.ntmps57
  go_wp2
  go_ret2
  exact ⟨rfl, rfl⟩

/-- From64: the number of these bits. -/
theorem rfrom64_ok (n : Nat) (w : World) (h : n < 18446744073709551616) (hn : nan64 n = false ∨ n = 9221120237041090560) :
    Calls Tryd.prog 59 #[.int .u64 n] w fun e w' => e = .returned (.tuple #[.float .f64 n, .int .i64 0]) ∧ w' = w := by
  refine rfrom64_core n _ w (andNot64 n h) ?_
  rcases hn with hn | hn
  · left
    unfold nan64 at hn
    rw [decide_eq_false_iff_not] at hn
    omega
  · right; subst hn; decide
theorem rfrom64_bad (n : Nat) (w : World) (h : n < 18446744073709551616) (hn : nan64 n = true) (hb : n ≠ 9221120237041090560) :
    Calls Tryd.prog 59 #[.int .u64 n] w fun e w' => e = .returned (.tuple #[.float .f64 0, .int .i64 10]) ∧ w' = w := by
  refine rfrom64_bad_core n _ w (andNot64 n h) ?_ ?_
  · unfold nan64 at hn
    rw [decide_eq_true_eq] at hn
    omega
  · rw [bne_iff_ne]; intro e; exact hb (Int.natCast_inj.1 e)
theorem rfrom32_ok (n : Nat) (w : World) (h : n < 4294967296) (hn : nan32 n = false ∨ n = 2143289344) :
    Calls Tryd.prog 57 #[.int .u32 n] w fun e w' => e = .returned (.tuple #[.float .f32 n, .int .i64 0]) ∧ w' = w := by
  refine rfrom32_core n _ w (andNot32 n h) ?_
  rcases hn with hn | hn
  · left
    unfold nan32 at hn
    rw [decide_eq_false_iff_not] at hn
    omega
  · right; subst hn; decide
theorem rfrom32_bad (n : Nat) (w : World) (h : n < 4294967296) (hn : nan32 n = true) (hb : n ≠ 2143289344) :
    Calls Tryd.prog 57 #[.int .u32 n] w fun e w' => e = .returned (.tuple #[.float .f32 0, .int .i64 10]) ∧ w' = w := by
  refine rfrom32_bad_core n _ w (andNot32 n h) ?_ ?_
  · unfold nan32 at hn
    rw [decide_eq_true_eq] at hn
    omega
  · rw [bne_iff_ne]; intro e; exact hb (Int.natCast_inj.1 e)

set_option maxHeartbeats 400000 in
theorem rsame64 (x y : Nat) (w : World) (hx : x < 18446744073709551616) (hy : y < 18446744073709551616) :
    Calls Tryd.prog 41 #[.float .f64 x, .float .f64 y] w fun e w' => e = .returned (.bool ((c64 x : Int) == (c64 y : Int))) ∧ w' = w := by
  have HX : Hid (x < 18446744073709551616) := hx
  have HY : Hid (y < 18446744073709551616) := hy
  clear hx hy
  go_enter Tryd.func41, Tryd.ntmps41
  go_wp2_with fail
  refine (rbits64 x _ HX.out).mono ?_
  rintro e w' ⟨rfl, rfl⟩
  go_wp2_with fail
  refine (rbits64 y _ HY.out).mono ?_
  rintro e w' ⟨rfl, rfl⟩
  go_wp2
  go_ret
  exact ⟨rfl, rfl⟩
set_option maxHeartbeats 400000 in
theorem rsame32 (x y : Nat) (w : World) (hx : x < 4294967296) (hy : y < 4294967296) :
    Calls Tryd.prog 39 #[.float .f32 x, .float .f32 y] w fun e w' => e = .returned (.bool ((c32 x : Int) == (c32 y : Int))) ∧ w' = w := by
  have HX : Hid (x < 4294967296) := hx
  have HY : Hid (y < 4294967296) := hy
  clear hx hy
  go_enter Tryd.func39, Tryd.ntmps39
  go_wp2_with fail
  refine (rbits32 x _ HX.out).mono ?_
  rintro e w' ⟨rfl, rfl⟩
  go_wp2_with fail
  refine (rbits32 y _ HY.out).mono ?_
  rintro e w' ⟨rfl, rfl⟩
  go_wp2
  go_ret
  exact ⟨rfl, rfl⟩
end Go.Proofs.YtlkhgnjljdbhnabDoor
namespace Go.Proofs.YtlkhgnjljdbhnabDoor
open Go.RowKit
/-- The text of some bytes. -/
def B (l : List UInt8) : Value := .string ⟨l.toArray⟩
theorem bapp (a b : List UInt8) : (⟨a.toArray⟩ : ByteArray) ++ ⟨b.toArray⟩ = ⟨(a ++ b).toArray⟩ := by
  apply ByteArray.ext
  simp
theorem ret_str {a b : ByteArray} (h : a = b) : Ending.returned (.string a) = .returned (.string b) := by rw [h]

end Go.Proofs.YtlkhgnjljdbhnabDoor
